import PyProof.Rows.All
import Wide.All
import OpenK.AllK
import Wide.FinOn
import Lean
import PyProof.EqAt
import PyProof.EqKinds
import PyProof.TupleCall
import PyProof.NeKinds
import PyProof.StrOps2
import PyProof.InstStoreFacts
import PyProof.ExcInit
import PyProof.ListRange
import PyProof.ListMulRoad
import PyProof.DictWalks
import PyProof.Rows.SortWalk
import KE.KDictOf
import PyProof.AttrMissSeq
import PyProof.DictItemsLoops
import PyProof.ZipIter
import PyProof.Rows.SetFrom
import PyProof.Rows.ZipGen
import PyProof.EnumIter
import PyProof.TupleIter
import KE.KDictSum
import PyProof.DictIter
import PyProof.TupleOfSeq
import KE.KRevSl
import KE.KSortTup
import PyProof.MinMaxWalk
import KE.KMinKey
import PyProof.Rows.CallKwBuiltin
import PySem.Challenge.RW_latinclose_k35_whole_rings_of_two
set_option Elab.async false
set_option linter.all false
set_option maxRecDepth 100000

/-! THE HAND LAYER, for ints, bools, texts, own classes, LISTS and tuples (index, slices, in, append, pop ..), calls, loops. Paste it whole ahead of your own text; what your proof does not reach may be deleted. -/
namespace L2
open PySem PySem.Spec PyProof.Rows

/-- a key: an int or a str -/
abbrev Key := Sum Int Str
def keyIs : Key → Value → Bool
  | .inl k, v => Value.isInt k v
  | .inr x, v => Value.isStrOf x v
def keyH (w : World) : Key → Int
  | .inl k => hashInt k
  | .inr x => hashStr w x
theorem keyIs_shape : ∀ {k : Key} {v : Value}, keyIs k v = true → (∃ i t, k = Sum.inl i ∧ v = Value.int i t) ∨ (∃ x t, k = Sum.inr x ∧ v = Value.str x t)
  | .inl i, v, h => by
    obtain ⟨t, e⟩ := Value.isInt_shape (k := i) (v := v) h
    exact .inl ⟨i, t, rfl, e⟩
  | .inr x, v, h => by
    obtain ⟨t, e⟩ := Value.isStrOf_shape (x := x) (v := v) h
    exact .inr ⟨x, t, rfl, e⟩
theorem key_ll (a b : Int) : decide ((Sum.inl a : Key) = Sum.inl b) = (a == b) := by
  by_cases e : a = b
  · subst e; simp
  · have h : ¬ (Sum.inl a : Key) = Sum.inl b := fun q => e (Sum.inl.inj q)
    rw [decide_eq_false h]
    exact (beq_eq_false_iff_ne.mpr e).symm
theorem key_rr (a b : Str) : decide ((Sum.inr a : Key) = Sum.inr b) = decide (a = b) := by
  by_cases e : a = b
  · subst e; simp
  · have h : ¬ (Sum.inr a : Key) = Sum.inr b := fun q => e (Sum.inr.inj q)
    rw [decide_eq_false h, decide_eq_false e]
theorem key_lr (a : Int) (b : Str) : decide ((Sum.inl a : Key) = Sum.inr b) = false := decide_eq_false (fun q => nomatch q)
theorem key_rl (a : Str) (b : Int) : decide ((Sum.inr a : Key) = Sum.inl b) = false := decide_eq_false (fun q => nomatch q)

def mixKind (prog : Program) (w : World) : PySem.KeyKind prog w Key where
  is := keyIs
  hash := keyH w
  inj := fun v a b ha hb => by
    rcases keyIs_shape ha with ⟨i, t, rfl, rfl⟩ | ⟨x, t, rfl, rfl⟩
    · rcases keyIs_shape hb with ⟨j, u, rfl, e⟩ | ⟨y, u, rfl, e⟩
      · injection e with e1 _; rw [e1]
      · exact nomatch e
    · rcases keyIs_shape hb with ⟨j, u, rfl, e⟩ | ⟨y, u, rfl, e⟩
      · exact nomatch e
      · injection e with e1 _; rw [e1]
  byValue := fun k v h => by
    rcases keyIs_shape h with ⟨i, t, rfl, rfl⟩ | ⟨x, t, rfl, rfl⟩ <;> rfl
  pyHash := fun hv h => by
    rcases keyIs_shape hv with ⟨i, t, rfl, rfl⟩ | ⟨x, t, rfl, rfl⟩
    · exact wpAny_pyHash_int h
    · exact wpAny_pyHash_str h
  eqBool := fun hu hv h => by
    rcases keyIs_shape hu with ⟨i, t, rfl, rfl⟩ | ⟨x, t, rfl, rfl⟩
    · rcases keyIs_shape hv with ⟨j, u, rfl, rfl⟩ | ⟨y, u, rfl, rfl⟩
      · rw [key_ll] at h; exact wpAny_eqBool_int h
      · rw [key_lr] at h; exact SeqAt.EqAt.int_str i t y u _ _ _ _ h
    · rcases keyIs_shape hv with ⟨j, u, rfl, rfl⟩ | ⟨y, u, rfl, rfl⟩
      · rw [key_rl] at h; exact SeqAt.EqAt.str_int x t j u _ _ _ _ h
      · rw [key_rr] at h; exact wpAny_eqBool_str h
  «strs» := fun k x t v h => by
    rcases keyIs_shape h with ⟨i, u, rfl, e⟩ | ⟨y, u, rfl, e⟩
    · exact nomatch e
    · injection e with e1 _
      subst e1
      cases v <;> rfl

end L2

namespace L2
open PySem PySem.Spec PyProof.Rows

/-- a value, without the heap -/
inductive V where
  | non | bl (b : Bool) | int (i : Int) | str (x : Str) | byt (b : Array UInt8) | flt (b : UInt64) | ref (a : Addr) | ty (n : String)
  deriving DecidableEq

def RelV : V → Value → Prop
  | .non, u => u = Value.none
  | .bl b, u => u = Value.bool b
  | .int i, u => ∃ t, u = Value.int i t
  | .str x, u => ∃ t, u = Value.str x t
  | .byt b, u => ∃ t, u = Value.bytes b t
  | .flt b, u => ∃ t, u = Value.float b t
  | .ref a, u => u = Value.ref a
  | .ty n, u => u = Value.type n

abbrev Vals : List V → List Value → Prop := Paired RelV
theorem Vals.length {xs : List V} {us : List Value} (r : Vals xs us) : xs.length = us.length := Paired.length r
theorem Vals.get : ∀ {xs : List V} {us : List Value} {i : Nat} {x : V}, Vals xs us → xs[i]? = some x → ∃ u, us[i]? = some u ∧ RelV x u
  | _, _, _, _, .nil, e => by simp at e
  | _, _, 0, _, .cons r _, e => by simp at e; subst e; exact ⟨_, rfl, r⟩
  | _, _, i + 1, x, .cons _ t, e => by
    obtain ⟨u, h1, h2⟩ := Vals.get (i := i) (x := x) t (by simpa using e)
    exact ⟨u, by simpa using h1, h2⟩
theorem Vals.set {x : V} {u : Value} (r : RelV x u) : ∀ {xs : List V} {us : List Value} (i : Nat), Vals xs us → Vals (xs.set i x) (us.set i u)
  | _, _, _, .nil => .nil
  | _, _, 0, .cons _ t => .cons r t
  | _, _, i + 1, .cons q t => .cons q (Vals.set r i t)
theorem Vals.append : ∀ {xs ys : List V} {us ws : List Value}, Vals xs us → Vals ys ws → Vals (xs ++ ys) (us ++ ws)
  | _, _, _, _, .nil, s => s
  | _, _, _, _, .cons r t, s => .cons r (Vals.append t s)
theorem Vals.take : ∀ {xs : List V} {us : List Value} (n : Nat), Vals xs us → Vals (xs.take n) (us.take n)
  | _, _, 0, _ => .nil
  | _, _, _ + 1, .nil => .nil
  | _, _, n + 1, .cons r t => .cons r (Vals.take n t)
theorem Vals.drop : ∀ {xs : List V} {us : List Value} (n : Nat), Vals xs us → Vals (xs.drop n) (us.drop n)
  | _, _, 0, r => r
  | _, _, _ + 1, .nil => .nil
  | _, _, n + 1, .cons _ t => Vals.drop n t

def RelO : Option V → Option Value → Prop
  | some v, some u => RelV v u
  | none, none => True
  | _, _ => False
def KV {κ : Type} : List (κ × V) → List (κ × Value) → Prop := Paired fun (p : κ × V) (q : κ × Value) => p.1 = q.1 ∧ RelV p.2 q.2

/-- a key of a dict (00_mix): an int or a text -/
def kV : Key → V
  | .inl i => .int i
  | .inr x => .str x

/-- what stands at a tracked address -/
inductive HO where
  /-- a list -/
  | lst (xs : List V)
  /-- a tuple (never changes) -/
  | tup (xs : List V)
  /-- a dict whose keys are ints and texts; one whose keys are tuples of ints and texts (the empty one is both) -/
  | dK (kvs : List (Key × V)) | dT (kvs : List (List Key × V))
  /-- a set of ints: its members, its size -/
  | set (S : Int → Bool) (n : Nat)
  /-- an instance of the class at C, its dict at dx, its attributes -/
  | ins (C dx : Addr) (fs : List (Str × V))
  /-- the dict of the instance at x -/
  | own (x : Addr)
  /-- the dict of an exception -/
  | xd (fs : List (Str × V))
  /-- a bound method, f of x -/
  | met (f x : Addr)
  /-- a range object lo, lo + 1, .. below hi -/
  | rng (lo hi : Int)
  /-- a thing that is known to the object (the script; a dict while a loop walks it): read, never written while it is so -/
  | frz (o : Obj) (u : HO)
  /-- a code object's table -/
  | tbl (ps : Array Value)
  /-- any other thing, by what is true of its one object (a def of one's own: SetO a S n := HO.ext fun h => ..) -/
  | ext (φ : Heap → Prop)

abbrev Hp := Addr → Option HO
def upd (H : Hp) (a : Addr) (o : HO) : Hp := fun b => if b = a then some o else H b
theorem upd_same {H : Hp} {a : Addr} {o : HO} : upd H a o a = some o := by unfold upd; rw [if_pos rfl]
theorem upd_ne {H : Hp} {a b : Addr} {o : HO} (h : b ≠ a) : upd H a o b = H b := by unfold upd; rw [if_neg h]
/-- two objects of different content stand apart -/
theorem ne_of {H : Hp} {a b : Addr} {o u : HO} (h : H a = some o) (h' : H b = some u) (d : o ≠ u) : a ≠ b := by
  intro e; subst e; rw [h] at h'; exact d (Option.some.inj h')
theorem ne_of_none {H : Hp} {a b : Addr} {o : HO} (h : H a = some o) (h' : H b = none) : a ≠ b := by
  intro e; subst e; rw [h] at h'; cases h'

/-- a tuple without a dict of its own -/
def IsTupN (h : Heap) (a : Addr) (items : Array Value) : Prop := ∃ o, h.get? a = some o ∧ o.cls = .type "tuple" ∧ ∃ n, (o.data, o.dict) = (.seq items n, none)
theorem IsTupN.is {h : Heap} {a : Addr} {items : Array Value} (x : IsTupN h a items) : IsTup h a items := let ⟨o, g, c, n, e⟩ := x; ⟨o, g, c, n, congrArg Prod.fst e⟩
theorem IsTupN.bare {h : Heap} {a : Addr} {items : Array Value} (x : IsTupN h a items) : ∃ o, h.get? a = some o ∧ o.dict = none := let ⟨o, g, _, _, e⟩ := x; ⟨o, g, congrArg Prod.snd e⟩
theorem IsTupN.new (h : Heap) (items : Array Value) : IsTupN (h.push { cls := .type "tuple", data := .seq items }) h.objs.size items := ⟨_, Heap.get?_push_size _ rfl, rfl, _, rfl⟩
section
variable (P : Program) (w : World)
def ObjOk (H : Hp) (h : Heap) (a : Addr) : HO → Prop
  | .lst xs => xs.length ≤ sizeLine ∧ ∃ (its : List Value) (n : Nat), Vals xs its ∧ h.get? a = some { cls := .type "list", data := .seq its.toArray n }
  | .tup xs => xs.length ≤ sizeLine ∧ ∃ its : List Value, Vals xs its ∧ IsTupN h a its.toArray
  | .dK kvs => kvs.length ≤ sizeLine ∧ (a == sysModules) = false ∧ ∃ vs, KV kvs vs ∧ h.DictOf (mixKind P w) a vs
  | .dT kvs => kvs.length ≤ sizeLine ∧ (a == sysModules) = false ∧ ∃ xs : List (List Key × Addr × Value),
      Paired (fun (p : List Key × V) (q : List Key × Addr × Value) => p.1 = q.1 ∧ H q.2.1 = some (.tup (p.1.map kV)) ∧ RelV p.2 q.2.2) kvs xs ∧
      ∃ o es ep, h.get? a = some o ∧ o.ExactDict ∧ o.data = .dict es ep ∧ es.toList = xs.map (entryOfKey (tupleKind (mixKind P w))) ∧ (xs.map (·.1)).Nodup
  | .set S n => h.SetOf (intKind P w) a S n
  | .ins C dx fs => H dx = some (.own a) ∧ fs.length ≤ 1000 ∧ dx ≠ a ∧ h.get? a = some (PySem.W.instObj C dx) ∧
      ∃ mA, h.Ns1 dx mA ∧ (∀ f, RelO (fs.lookup f) (mA f)) ∧ PySem.Within mA (fs.map (·.1))
  | .own _ => ∃ o, h.get? a = some o
  | .xd fs => ∃ mA, h.Ns1 a mA ∧ ∀ f, RelO (fs.lookup f) (mA f)
  | .rng lo hi => ∃ t u v, h.get? a = some { cls := .type "range", data := .fields #[.int lo t, .int hi u, .int 1 v] }
  | .frz o u => h.get? a = some o ∧ ObjOk H h a u
  | .tbl ps => h.get? a = some { cls := .none, data := .fields ps }
  | .met f x => h.get? a = some (PySem.W.methodObj (.ref f) (.ref x))
  | .ext φ => φ h ∧ (∃ o, h.get? a = some o) ∧ ∀ h1 h2 : Heap, φ h1 → (∀ o, h1.get? a = some o → h2.get? a = some o) → φ h2
/-- the abstract heap is held -/
def HOk (H : Hp) (h : Heap) : Prop := ∀ a o, H a = some o → ObjOk P w H h a o
end

section
variable {P : Program} {w : World} {H H' : Hp} {h h' : Heap} {a : Addr} {o : HO}
theorem ObjOk.lt (x : ObjOk P w H h a o) : a < h.objs.size := by
  cases o with
  | lst xs => obtain ⟨_, _, _, _, e⟩ := x; exact Heap.lt_size e
  | tup xs => obtain ⟨_, _, _, p⟩ := x; exact IsTup.lt (IsTupN.is p)
  | dK kvs => obtain ⟨_, _, _, _, o, _, _, e, _⟩ := x; exact Heap.lt_size e
  | dT kvs => obtain ⟨_, _, _, _, o, _, _, e, _⟩ := x; exact Heap.lt_size e
  | set S n => obtain ⟨o, _, _, _, e, _⟩ := x; exact Heap.lt_size e
  | ins C dx fs => obtain ⟨_, _, _, e, _⟩ := x; exact Heap.lt_size e
  | own y => obtain ⟨_, e⟩ := x; exact Heap.lt_size e
  | xd fs => obtain ⟨_, ⟨_, _, _, e, _⟩, _⟩ := x; exact Heap.lt_size e
  | rng lo hi => obtain ⟨_, _, _, e⟩ := x; exact Heap.lt_size e
  | frz ob u => obtain ⟨e, _⟩ := x; exact Heap.lt_size e
  | tbl ps => exact Heap.lt_size (show h.get? a = some _ from x)
  | met f y => exact Heap.lt_size (show h.get? a = some _ from x)
  | ext φ => obtain ⟨_, ⟨_, e⟩, _⟩ := x; exact Heap.lt_size e
theorem Paired.mapP {α β : Type} {F G : α → β → Prop} : ∀ {l₁ : List α} {l₂ : List β}, Paired F l₁ l₂ → (∀ a b, F a b → G a b) → Paired G l₁ l₂
  | _, _, .nil, _ => .nil
  | _, _, .cons r t, f => .cons (f _ _ r) (Paired.mapP t f)
/-- what an object's description leans on: its own object, its own dict, the tuples -/
theorem ObjOk.stay (x : ObjOk P w H h a o) (k : ∀ b u, (b = a ∨ H b = some (.own a)) → h.get? b = some u → h'.get? b = some u)
    (ho : ∀ b, H b = some (.own a) → H' b = some (.own a)) (ht : ∀ b xs, H b = some (.tup xs) → H' b = some (.tup xs)) : ObjOk P w H' h' a o := by
  induction o with
  | lst xs => obtain ⟨z, its, n, r, e⟩ := x; exact ⟨z, its, n, r, k _ _ (.inl rfl) e⟩
  | tup xs => obtain ⟨z, its, r, ob, e, c⟩ := x; exact ⟨z, its, r, ob, k _ _ (.inl rfl) e, c⟩
  | dK kvs => obtain ⟨z, y, vs, r, ob, es, ep, e, c⟩ := x; exact ⟨z, y, vs, r, ob, es, ep, k _ _ (.inl rfl) e, c⟩
  | dT kvs =>
    obtain ⟨z, y, xs, r, ob, es, ep, e, c⟩ := x
    exact ⟨z, y, xs, Paired.mapP r fun p q z => ⟨z.1, ht _ _ z.2.1, z.2.2⟩, ob, es, ep, k _ _ (.inl rfl) e, c⟩
  | set S n => obtain ⟨ob, es, ep, t, e, c⟩ := x; exact ⟨ob, es, ep, t, k _ _ (.inl rfl) e, c⟩
  | ins C dx fs =>
    obtain ⟨d, z, ne, e, mA, ⟨od, es, ep, e2, c⟩, r⟩ := x
    exact ⟨ho _ d, z, ne, k _ _ (.inl rfl) e, mA, ⟨od, es, ep, k _ _ (.inr d) e2, c⟩, r⟩
  | own y => obtain ⟨ob, e⟩ := x; exact ⟨ob, k _ _ (.inl rfl) e⟩
  | xd fs => obtain ⟨mA, ⟨od, es, ep, e, c⟩, r⟩ := x; exact ⟨mA, ⟨od, es, ep, k _ _ (.inl rfl) e, c⟩, r⟩
  | rng lo hi => obtain ⟨t, u, v, e⟩ := x; exact ⟨t, u, v, k _ _ (.inl rfl) e⟩
  | frz ob u ih => obtain ⟨e, q⟩ := x; exact ⟨k _ _ (.inl rfl) e, ih q⟩
  | tbl ps =>
    have e : h.get? a = some { cls := .none, data := .fields ps } := x
    show h'.get? a = some { cls := .none, data := .fields ps }
    exact k a _ (.inl rfl) e
  | met f y =>
    have e : h.get? a = some (PySem.W.methodObj (.ref f) (.ref y)) := x
    show h'.get? a = some (PySem.W.methodObj (.ref f) (.ref y))
    exact k a _ (.inl rfl) e
  | ext φ => obtain ⟨p, ⟨o, e⟩, st⟩ := x; exact ⟨st _ _ p fun o q => k _ _ (.inl rfl) q, ⟨o, k _ _ (.inl rfl) e⟩, st⟩
theorem HOk.lt (x : HOk P w H h) (e : H a = some o) : a < h.objs.size := (x a o e).lt
theorem HOk.fresh (x : HOk P w H h) (e : h.objs.size ≤ a) : H a = none := by
  cases q : H a with
  | none => rfl
  | some u => exact absurd (Nat.lt_of_lt_of_le (x.lt q) e) (Nat.lt_irrefl _)
/-- every object of the heap is kept -/
theorem HOk.kept (x : HOk P w H h) (k : ∀ b u, h.get? b = some u → h'.get? b = some u) : HOk P w H h' := fun a o e =>
  (x a o e).stay (fun b u _ q => k b u q) (fun _ q => q) fun _ _ q => q
/-- a new object is laid and tracked -/
theorem HOk.laid (x : HOk P w H h) (k : ∀ b u, h.get? b = some u → h'.get? b = some u) (hp : h.objs.size ≤ a) (new : ObjOk P w (upd H a o) h' a o) : HOk P w (upd H a o) h' := fun b u e => by
  have hn := x.fresh hp
  by_cases hb : b = a
  · subst hb; rw [upd_same] at e; cases e; exact new
  · rw [upd_ne hb] at e
    exact (x b u e).stay (fun c v _ q => k c v q) (fun c q => by rw [upd_ne (ne_of_none q hn)]; exact q) fun c xs q => by rw [upd_ne (ne_of_none q hn)]; exact q
end

/-- what may be read as u: it is u, or a known u -/
def Rd (H : Hp) (a : Addr) (u : HO) : Prop := H a = some u ∨ ∃ o, H a = some (.frz o u)
theorem Rd.ok {P : Program} {w : World} {H : Hp} {h : Heap} {a : Addr} {u : HO} (r : Rd H a u) (x : HOk P w H h) : ObjOk P w H h a u := by
  rcases r with r | ⟨o, r⟩
  · exact x a u r
  · obtain ⟨_, q⟩ := x a _ r
    exact q
/-- what may be written -/
def Mut : Option HO → Prop
  | some (.lst _) => True
  | some (.dK _) => True
  | some (.dT _) => True
  | some (.set _ _) => True
  | some (.ins _ _ _) => True
  | some (.ext _) => True
  | _ => False
section
variable {P : Program} {w : World} {H : Hp} {h h' : Heap} {x e : Addr} {o' : HO}
/-- the object at e is changed: x itself, or the dict of the instance x -/
theorem HOk.write (ok : HOk P w H h) (mu : Mut (H x)) (he : e = x ∨ H e = some (.own x)) (k : ∀ b u, b ≠ e → h.get? b = some u → h'.get? b = some u) (heo : ∃ u, h'.get? e = some u)
    (new : ObjOk P w (upd H x o') h' x o') : HOk P w (upd H x o') h' := fun b u q => by
  have nown : ∀ c y, H c = some (.own y) → c ≠ x := fun c y r z => by subst z; rw [r] at mu; exact mu
  have ntup : ∀ c xs, H c = some (.tup xs) → c ≠ x := fun c xs r z => by subst z; rw [r] at mu; exact mu
  by_cases hb : b = x
  · subst hb; rw [upd_same] at q; cases q; exact new
  · rw [upd_ne hb] at q
    by_cases hbe : b = e
    · have q' : H b = some (.own x) := by
        rcases he with z | z
        · exact absurd (hbe.trans z) hb
        · rw [hbe]; exact z
      rw [q] at q'; cases q'
      obtain ⟨v, hv⟩ := heo
      exact ⟨v, by rw [hbe]; exact hv⟩
    · refine (ok b u q).stay (fun c v hc r => k c v ?_ r) (fun c r => by rw [upd_ne (nown c b r)]; exact r) fun c xs r => by rw [upd_ne (ntup c xs r)]; exact r
      rcases hc with rfl | hc
      · exact hbe
      · rintro rfl
        rcases he with z | z
        · exact nown c b hc z
        · rw [hc] at z; cases z; exact hb rfl
end

/-! ### kept unless tracked; of the frames at fs (the callers') the slots may change (an exception that passes writes there); of the records at ex (iterators) nothing is said -/
structure Un (fs ex : List Addr) (H H' : Hp) (h h' : Heap) : Prop where
  keep : ∀ b o, h.get? b = some o → H b = none → b ∉ fs → b ∉ ex → h'.get? b = some o
  slot : ∀ b o, h.get? b = some o → H b = none → b ∈ fs → b ∉ ex → ∃ sl, h'.get? b = some { o with slots := sl }
  free : ∀ b o, h.get? b = some o → H b = none → b ∉ ex → H' b = none
  there : ∀ b o, h.get? b = some o → b ∉ ex → ∃ o', h'.get? b = some o'
  tups : ∀ b xs, H b = some (.tup xs) → H' b = some (.tup xs)
  frzs : ∀ b o u, H b = some (.frz o u) → H' b = some (.frz o u)
  tbls : ∀ b ps, H b = some (.tbl ps) → ∃ more, H' b = some (.tbl (ps ++ more))
section
variable {fs fs' ex ex' : List Addr} {H H1 H2 : Hp} {h h1 h2 h' : Heap} {a x e : Addr} {o : HO}
theorem Un.any (u : Un fs ex H H1 h h1) {b : Addr} {ob : Obj} (q : h.get? b = some ob) (n : H b = none) (hx : b ∉ ex) : ∃ sl, h1.get? b = some { ob with slots := sl } := by
  by_cases hb : b ∈ fs
  · exact u.slot b ob q n hb hx
  · exact ⟨ob.slots, u.keep b ob q n hb hx⟩
theorem Un.kept (k : ∀ b u, h.get? b = some u → h'.get? b = some u) : Un fs ex H H h h' :=
  ⟨fun b ob q _ _ _ => k b ob q, fun b ob q _ _ _ => ⟨ob.slots, k b ob q⟩, fun _ _ _ n _ => n, fun b ob q _ => ⟨ob, k b ob q⟩, fun _ _ q => q, fun _ _ _ q => q, fun _ ps q => ⟨#[], by rw [q]; simp⟩⟩
theorem Un.refl : Un fs ex H H h h := Un.kept fun _ _ q => q
theorem Un.laid (k : ∀ b u, h.get? b = some u → h'.get? b = some u) (hp : h.objs.size ≤ a) (hn : H a = none) : Un fs ex H (upd H a o) h h' where
  keep := fun b u q _ _ _ => k b u q
  slot := fun b u q _ _ _ => ⟨u.slots, k b u q⟩
  free := fun b u q n _ => by rw [upd_ne (Nat.ne_of_lt (Nat.lt_of_lt_of_le (Heap.lt_size q) hp))]; exact n
  there := fun b u q _ => ⟨u, k b u q⟩
  tups := fun b xs q => by rw [upd_ne (ne_of_none q hn)]; exact q
  frzs := fun b u xs q => by rw [upd_ne (ne_of_none q hn)]; exact q
  tbls := fun b ps q => ⟨#[], by rw [upd_ne (ne_of_none q hn), q]; simp⟩
theorem Un.write (mu : Mut (H x)) (he : e = x ∨ H e = some (.own x)) (k : ∀ b u, b ≠ e → h.get? b = some u → h'.get? b = some u) (heo : ∃ u, h'.get? e = some u) : Un fs ex H (upd H x o) h h' := by
  have hx : ∀ b, H b = none → b ≠ x := fun b n z => by subst z; rw [n] at mu; exact mu
  have hb : ∀ b, H b = none → b ≠ e := fun b n z => by
    subst z
    rcases he with r | r
    · exact hx b n r
    · rw [n] at r; cases r
  have hm : ∀ b u, H b = some u → ¬ Mut (some u) → b ≠ x := fun b u q nm z => by subst z; rw [q] at mu; exact nm mu
  refine ⟨fun b u q n _ _ => k b u (hb b n) q, fun b u q n _ _ => ⟨u.slots, k b u (hb b n) q⟩, fun b u q n _ => by rw [upd_ne (hx b n)]; exact n, fun b u q _ => ?_,
    fun b xs q => by rw [upd_ne (hm b _ q fun z => z)]; exact q, fun b u xs q => by rw [upd_ne (hm b _ q fun z => z)]; exact q, fun b ps q => ⟨#[], by rw [upd_ne (hm b _ q fun z => z), q]; simp⟩⟩
  by_cases hbe : b = e
  · subst hbe; exact heo
  · exact ⟨u, k b u hbe q⟩
end

/-! ### the heap without what is tracked -/
def trk (h : Heap) (H : Hp) : List Addr := (List.range h.objs.size).filter fun a => (H a).isSome
def hidT (h : Heap) (H : Hp) : Heap := PySem.W.hideAll h (trk h H)
theorem hidT_size (h : Heap) (H : Hp) : (hidT h H).objs.size = h.objs.size := PySem.W.hideAll_size _ _
theorem hidT_get {h : Heap} {H : Hp} {b : Addr} {o : Obj} (e : h.get? b = some o) (n : H b = none) : (hidT h H).get? b = some o :=
  PySem.W.hideAll_get _ e fun hm => by
    have q : (H b).isSome = true := (List.mem_filter.mp hm).2
    rw [n] at q; simp at q
theorem of_hidT {h : Heap} {H : Hp} {b : Addr} {o : Obj} (e : (hidT h H).get? b = some o) : h.get? b = some o ∧ H b = none := by
  have e' : h.get? b = some o := PySem.W.of_hideAll (trk h H) e
  refine ⟨e', ?_⟩
  cases q : H b with
  | none => rfl
  | some x =>
    have hm : b ∈ trk h H := List.mem_filter.mpr ⟨List.mem_range.mpr (Heap.lt_size e'), by simp [q]⟩
    have z : (hidT h H).get? b = none := PySem.W.hideAll_none (trk h H) hm
    rw [z] at e; cases e

/-! ### OpenK's ledger, filled with every new object but one -/
end L2

namespace L2
open PySem PySem.Spec PyProof.Rows

/-- the module's facts, over the base: the heap at the law's entry without what is tracked there -/
structure Mod (K : PySem.W.Frag) (mg : Str → Option Value) (base : Heap) : Prop where
  kin : K.In base
  glob : base.Ns mainGlobals mg
  blt : ∃ mb, base.Ns builtinsNs mb ∧ ∀ x : Str, x ≠ "__name__" → mb x = bootBuiltins x
  nolimit : base.NoLimit

/-- the context: a def's body (or a comprehension's block) running. base: fixed through the whole law; s₀, H₀: the entry; outer: the frames whose slots others may change (a def's callers); stack: all frames that run;
   ex: iterators that were made ahead of the entry and are walked here (a comprehension's); fn: the names whose cells were made at the entry (a def: all; a comprehension's block: its own); calm: not within an except suite; pn: pins that every state bears; xe: what is wanted of an exception that leaves the code -/
structure Cx where
  prog : Program
  w : World
  K : PySem.W.Frag
  mg : Str → Option Value
  base : Heap
  A : Around
  N : List Str
  s₀ : Shared
  H₀ : Hp
  env : Env
  outer : List Env
  stack : List Env
  ex : List Addr
  fn : Str → Bool
  calm : Bool
  pn : List (Addr × Obj)
  xe : Value → Shared → Prop
/-- the callers' frames -/
def frs (l : List Env) : List Addr := l.filterMap (·.frame)
abbrev Cx.fs (X : Cx) : List Addr := frs X.outer

def Vis (sc : Scope) (x : Str) : Prop := sc.names.lookup x = some .local ∨ sc.names.lookup x = some .cell ∨ sc.names.lookup x = some .free
def Loc (sc : Scope) (x : Str) : Prop := sc.names.lookup x = some .local ∨ sc.names.lookup x = some .cell
def Look (env : Env) (h : Heap) (m : Str → Option Value) (x : Str) (u : Value) : Prop :=
  (env.kindOf x = some .local ∧ m x = some u) ∨ ((env.kindOf x = some .cell ∨ env.kindOf x = some .free) ∧ ∃ c, env.cells.lookup x = some c ∧ h.IsCell c (some u))

structure Cx.Ok (X : Cx) : Prop where
  mod : Mod X.K X.mg X.base
  kind : X.env.scope.kind = .function
  glob : X.env.globals = mainGlobals
  blt : X.env.builtins = builtinsNs
  above : X.s₀.heap.objs.size ≤ X.env.locals
  inj : ∀ x y c, X.env.cells.lookup x = some c → X.env.cells.lookup y = some c → x = y
  has : ∀ x, (X.env.kindOf x = some .cell ∨ X.env.kindOf x = some .free) → ∃ c, X.env.cells.lookup x = some c
  cab : ∀ x c, X.fn x = true → X.env.cells.lookup x = some c → X.s₀.heap.objs.size ≤ c
  hd : X.calm = true → X.A.handled = none
  frames : X.A.frames = some X.stack
  stk : X.stack = X.outer ∨ (X.stack = X.env :: X.outer ∧ X.env.frame = some X.env.locals)
  exf : ∀ b ∈ X.ex, b ≠ X.env.locals ∧ ∀ x c, X.env.cells.lookup x = some c → c ≠ b
  bs : ∀ b o, X.base.get? b = some o → X.s₀.heap.get? b = some o ∧ X.H₀ b = none
  bsz : X.base.objs.size ≤ X.s₀.heap.objs.size
  noex : ∀ b o, X.base.get? b = some o → b ∉ X.ex
  exfs : ∀ b ∈ X.ex, b ∉ X.fs
  funs : X.s₀.heap.FunFrames X.base X.outer
  frf : ∀ b ∈ X.fs, X.H₀ b = none

structure Inv (X : Cx) (pins : List (Addr × Obj)) (σ : List (Option V)) (H : Hp) (s : Shared) : Prop where
  ok : X.Ok
  os : s.os = X.s₀.os
  bare : AllBare s.gens
  base : Un X.fs X.ex X.H₀ H X.s₀.heap s.heap
  loc : ∃ m, s.heap.Ns X.env.locals m ∧ ∀ (i : Nat) (x : Str) (v : V), X.N[i]? = some x → σ[i]? = some (some v) → Vis X.env.scope x → ∃ u, RelV v u ∧ Look X.env s.heap m x u
  cell : ∀ x c, X.env.cells.lookup x = some c → ∃ v, s.heap.IsCell c v
  free : H X.env.locals = none
  freeC : ∀ x c, X.env.cells.lookup x = some c → H c = none
  pin : ∀ p ∈ X.pn ++ pins, s.heap.get? p.1 = some p.2 ∧ H p.1 = none ∧ p.1 ≠ X.env.locals ∧ p.1 ∉ X.fs ∧ ∀ v, p.2.data ≠ .cell v
  hok : HOk X.prog X.w H s.heap
  len : σ.length = X.N.length

section
variable {X : Cx} {pins : List (Addr × Obj)} {σ : List (Option V)} {H H' : Hp} {s : Shared} {h' : Heap}

theorem Cx.Ok.nofr (ok : X.Ok) {b : Addr} {o : Obj} (e : X.base.get? b = some o) : b ∉ X.fs := fun hb => by
  have := (ok.funs.mem hb).1
  rw [e] at this; cases this
theorem Inv.bs (I : Inv X pins σ H s) : ∀ b o, X.base.get? b = some o → s.heap.get? b = some o ∧ H b = none := fun b o e =>
  ⟨I.base.keep b o (I.ok.bs b o e).1 (I.ok.bs b o e).2 (I.ok.nofr e) (I.ok.noex b o e), I.base.free b o (I.ok.bs b o e).1 (I.ok.bs b o e).2 (I.ok.noex b o e)⟩
theorem Inv.bk (I : Inv X pins σ H s) : ∀ b o, X.base.get? b = some o → s.heap.get? b = some o := fun b o e => (I.bs b o e).1
theorem Inv.mod (I : Inv X pins σ H s) : Mod X.K X.mg X.base := I.ok.mod
theorem Inv.kIn (I : Inv X pins σ H s) : X.K.In s.heap := I.ok.mod.kin.keeps I.bk
theorem Inv.lt (I : Inv X pins σ H s) : X.env.locals < s.heap.objs.size := let ⟨_, hn, _⟩ := I.loc; hn.lt
theorem Inv.sz (I : Inv X pins σ H s) : X.s₀.heap.objs.size ≤ s.heap.objs.size := Nat.le_trans I.ok.above (Nat.le_of_lt I.lt)
theorem Inv.nofs (I : Inv X pins σ H s) {a : Addr} (h : s.heap.objs.size ≤ a) : a ∉ X.fs := fun hb => by
  obtain ⟨_, o, ho, _⟩ := I.ok.funs.mem hb
  exact absurd (Nat.lt_of_lt_of_le (Heap.lt_size ho) (Nat.le_trans I.sz h)) (Nat.lt_irrefl _)
theorem Inv.cne (I : Inv X pins σ H s) : ∀ x c, X.env.cells.lookup x = some c → c ≠ X.env.locals := fun x c e z => by
  obtain ⟨v, o, ho, hd⟩ := I.cell x c e
  obtain ⟨m, ⟨o', es, ep, ho', hd', _⟩, _⟩ := I.loc
  rw [z, ho'] at ho; cases ho; rw [hd'] at hd; cases hd
theorem Inv.funs (I : Inv X pins σ H s) : s.heap.FunFrames X.base X.outer := by
  have all : ∀ (l : List Env), (∀ b ∈ frs l, b ∈ X.fs) → X.s₀.heap.FunFrames X.base l → s.heap.FunFrames X.base l := by
    intro l
    induction l with
    | nil => intro _ _; trivial
    | cons env r ih =>
      intro hs hl
      obtain ⟨hk, ⟨L, o, hf, hn, ho, hd⟩, hr⟩ := hl
      have hL : L ∈ X.fs := hs L (by unfold frs; rw [List.filterMap_cons, hf]; exact List.mem_cons_self)
      obtain ⟨sl, e⟩ := I.base.slot L o ho (I.ok.frf L hL) hL fun z => I.ok.exfs L z hL
      exact ⟨hk, ⟨L, _, hf, hn, e, hd⟩, ih (fun b hb => hs b (by unfold frs; rw [List.filterMap_cons, hf]; exact List.mem_cons_of_mem _ hb)) hr⟩
  exact all X.outer (fun _ hb => hb) I.ok.funs

/-- the frames that run, for a call -/
theorem Inv.stack (I : Inv X pins σ H s) : s.heap.FunFrames X.base X.stack := by
  rcases I.ok.stk with e | ⟨e, hf⟩
  · rw [e]; exact I.funs
  · rw [e]
    obtain ⟨m, hn, _⟩ := I.loc
    refine .cons (by rw [I.ok.kind]; decide) hf hn ?_ I.funs
    exact Heap.get?_none_of_le (Nat.le_trans I.ok.bsz I.ok.above)
theorem Inv.stkSub (I : Inv X pins σ H s) : ∀ b ∈ frs X.stack, b ∈ X.env.locals :: X.fs := fun b hb => by
  rcases I.ok.stk with e | ⟨e, hf⟩
  · rw [e] at hb; exact List.mem_cons_of_mem _ hb
  · rw [e] at hb
    unfold frs at hb
    rw [List.filterMap_cons, hf] at hb
    exact hb
theorem Inv.stkFree (I : Inv X pins σ H s) : ∀ b ∈ frs X.stack, H b = none := fun b hb => by
  rcases List.mem_cons.mp (I.stkSub b hb) with e | hb
  · rw [e]; exact I.free
  · obtain ⟨_, o, ho, _⟩ := I.ok.funs.mem hb
    exact I.base.free b o ho (I.ok.frf b hb) fun z => I.ok.exfs b z hb

/-- THE STEP: the untracked objects but the frame and the records at ch are kept (the callers' frames up to slots), the frame's map is kept, the new abstract heap is held -/
theorem Inv.step {g' : Array GenState} {t' : Nat} {d' : Drawn} {ch : List Addr} (I : Inv X pins σ H s)
    (hch : ∀ b ∈ ch, (b ∈ X.ex ∨ X.s₀.heap.objs.size ≤ b) ∧ b ≠ X.env.locals ∧ (∀ x c, X.env.cells.lookup x = some c → c ≠ b) ∧ ∀ p ∈ X.pn ++ pins, p.1 ≠ b)
    (keep : ∀ b o, b ≠ X.env.locals → b ∉ X.fs → b ∉ ch → s.heap.get? b = some o → H b = none → h'.get? b = some o)
    (slot : ∀ b o, b ≠ X.env.locals → b ∈ X.fs → b ∉ ch → s.heap.get? b = some o → H b = none → ∃ sl, h'.get? b = some { o with slots := sl }) (free : ∀ b o, b ∉ ch → s.heap.get? b = some o → H b = none → H' b = none)
    (there : ∀ b o, b ∉ ch → s.heap.get? b = some o → ∃ o', h'.get? b = some o')
    (tups : ∀ b xs, H b = some (.tup xs) → H' b = some (.tup xs)) (frzs : ∀ b o u, H b = some (.frz o u) → H' b = some (.frz o u)) (tbls : ∀ b ps, H b = some (.tbl ps) → ∃ more, H' b = some (.tbl (ps ++ more)))
    (ns : ∀ m, s.heap.Ns X.env.locals m → h'.Ns X.env.locals m) (hok : HOk X.prog X.w H' h') (hg : AllBare g') :
    Inv X pins σ H' { s with heap := h', gens := g', drawn := d', toks := t' } := by
  have neL : ∀ b o, X.s₀.heap.get? b = some o → b ≠ X.env.locals := fun b o e => Nat.ne_of_lt (Nat.lt_of_lt_of_le (Heap.lt_size e) I.ok.above)
  have neC : ∀ b o, X.s₀.heap.get? b = some o → b ∉ X.ex → b ∉ ch := fun b o e hx hb => by
    rcases (hch b hb).1 with z | z
    · exact hx z
    · exact absurd (Nat.lt_of_lt_of_le (Heap.lt_size e) z) (Nat.lt_irrefl _)
  have cellK : ∀ x c, X.env.cells.lookup x = some c → ∀ v, s.heap.IsCell c v → h'.IsCell c v := fun x c e v ⟨o, ho, hd⟩ => by
    have nch : c ∉ ch := fun z => (hch c z).2.2.1 x c e rfl
    by_cases hc : c ∈ X.fs
    · obtain ⟨sl, q⟩ := slot c o (I.cne x c e) hc nch ho (I.freeC x c e)
      exact ⟨_, q, hd⟩
    · exact ⟨o, keep c o (I.cne x c e) hc nch ho (I.freeC x c e), hd⟩
  refine ⟨I.ok, I.os, hg, ⟨fun b o e n hb hx => ?_, fun b o e n hb hx => ?_, fun b o e n hx => ?_, fun b o e hx => ?_, fun b xs e => tups b xs (I.base.tups b xs e), fun b o xs e => frzs b o xs (I.base.frzs b o xs e), fun b ps e => ?_⟩, ?_, fun x c e => ?_, ?_, fun x c e => ?_, fun p hp => ?_, hok, I.len⟩
  · exact keep b o (neL b o e) hb (neC b o e hx) (I.base.keep b o e n hb hx) (I.base.free b o e n hx)
  · obtain ⟨sl, e1⟩ := I.base.slot b o e n hb hx
    obtain ⟨sl', e2⟩ := slot b _ (neL b o e) hb (neC b o e hx) e1 (I.base.free b o e n hx)
    exact ⟨sl', e2⟩
  · obtain ⟨o', e1⟩ := I.base.there b o e hx
    exact free b o' (neC b o e hx) e1 (I.base.free b o e n hx)
  · obtain ⟨o', e1⟩ := I.base.there b o e hx
    exact there b o' (neC b o e hx) e1
  · obtain ⟨m1, e1⟩ := I.base.tbls b ps e
    obtain ⟨m2, e2⟩ := tbls b _ e1
    exact ⟨m1 ++ m2, by rw [e2, Array.append_assoc]⟩
  · obtain ⟨m, hn, hl⟩ := I.loc
    refine ⟨m, ns m hn, fun i x v e1 e2 e3 => ?_⟩
    obtain ⟨u, r, l⟩ := hl i x v e1 e2 e3
    refine ⟨u, r, ?_⟩
    rcases l with l | ⟨k, c, e, z⟩
    · exact .inl l
    · exact .inr ⟨k, c, e, cellK x c e _ z⟩
  · obtain ⟨v, z⟩ := I.cell x c e
    exact ⟨v, cellK x c e v z⟩
  · obtain ⟨m, ⟨o, _, _, ho, _⟩, _⟩ := I.loc
    exact free _ o (fun z => (hch _ z).2.1 rfl) ho I.free
  · obtain ⟨v, o, ho, hd⟩ := I.cell x c e
    exact free c o (fun z => (hch c z).2.2.1 x c e rfl) ho (I.freeC x c e)
  · obtain ⟨e, n, ne, nf, d⟩ := I.pin p hp
    have nch : p.1 ∉ ch := fun z => (hch p.1 z).2.2.2 p hp rfl
    exact ⟨keep p.1 p.2 ne nf nch e n, free p.1 p.2 nch e n, ne, nf, d⟩
/-- .. where the frame's own object is kept too -/
theorem Inv.un {t' : Nat} (I : Inv X pins σ H s) (u : Un X.fs [] H H' s.heap h') (hok : HOk X.prog X.w H' h') : Inv X pins σ H' { s with heap := h', toks := t' } := by
  obtain ⟨m, ⟨o, es, ep, ho, r⟩, _⟩ := id I.loc
  obtain ⟨sl, hL⟩ := u.any ho I.free (by simp)
  exact I.step (g' := s.gens) (d' := s.drawn) (ch := []) (fun _ z => nomatch z) (fun b o _ hb _ e n => u.keep b o e n hb (by simp)) (fun b o _ hb _ e n => u.slot b o e n hb (by simp)) (fun b o _ e n => u.free b o e n (by simp)) (fun b o _ e => u.there b o e (by simp)) u.tups u.frzs u.tbls (fun m' hm => by
    obtain ⟨o', es', ep', ho', r'⟩ := hm
    rw [ho] at ho'; cases ho'
    exact ⟨_, es', ep', hL, r'⟩) hok I.bare
/-- behind a call (or a comprehension's block): the slots of this frame may have changed too, the records at ch may have turned -/
theorem Inv.call {g' : Array GenState} {t' : Nat} {d' : Drawn} {ch : List Addr} (I : Inv X pins σ H s) (u : Un (frs X.stack) ch H H' s.heap h') (hok : HOk X.prog X.w H' h') (hg : AllBare g')
    (hch : ∀ b ∈ ch, (b ∈ X.ex ∨ X.s₀.heap.objs.size ≤ b) ∧ b ≠ X.env.locals ∧ (∀ x c, X.env.cells.lookup x = some c → c ≠ b) ∧ ∀ p ∈ X.pn ++ pins, p.1 ≠ b) :
    Inv X pins σ H' { s with heap := h', gens := g', drawn := d', toks := t' } := by
  obtain ⟨m, ⟨o, es, ep, ho, r⟩, _⟩ := id I.loc
  obtain ⟨sl, hL⟩ := u.any ho I.free fun z => (hch _ z).2.1 rfl
  exact I.step (ch := ch) hch (fun b o hL hb hc e n => u.keep b o e n (fun z => (List.mem_cons.mp (I.stkSub b z)).elim hL hb) hc) (fun b o _ _ hc e n => u.any e n hc) (fun b o hc e n => u.free b o e n hc) (fun b o hc e => u.there b o e hc) u.tups u.frzs u.tbls (fun m' hm => by
    obtain ⟨o', es', ep', ho', r'⟩ := hm
    rw [ho] at ho'; cases ho'
    exact ⟨_, es', ep', hL, r'⟩) hok hg
/-- an untracked record of ours (an iterator) has turned -/
theorem Inv.turned {t' : Nat} {it : Addr} (I : Inv X pins σ H s) (k : ∀ b o, b ≠ it → s.heap.get? b = some o → h'.get? b = some o) (hn : H it = none) (hL : it ≠ X.env.locals)
    (h1 : it ∈ X.ex ∨ X.s₀.heap.objs.size ≤ it) (h2 : ∀ x c, X.env.cells.lookup x = some c → c ≠ it) (h3 : ∀ p ∈ X.pn ++ pins, p.1 ≠ it) : Inv X pins σ H { s with heap := h', toks := t' } := by
  have nit : ∀ b u, H b = some u → b ≠ it := fun b u e z => by rw [z, hn] at e; cases e
  refine I.step (g' := s.gens) (d' := s.drawn) (ch := [it]) (fun b hb => ?_) (fun b o _ _ hc e _ => k b o (fun z => hc (by simp [z])) e) (fun b o _ _ hc e _ => ⟨o.slots, k b o (fun z => hc (by simp [z])) e⟩) (fun _ _ _ _ n => n)
    (fun b o hc e => ⟨o, k b o (fun z => hc (by simp [z])) e⟩) (fun _ _ e => e) (fun _ _ _ e => e) (fun b ps e => ⟨#[], by rw [e]; simp⟩) (fun m hm => ?_) (fun b u e => ?_) I.bare
  · have e : b = it := by simpa using hb
    subst e
    exact ⟨h1, hL, h2, h3⟩
  · obtain ⟨o, es, ep, ho, r⟩ := hm
    exact ⟨o, es, ep, k _ o (Ne.symm hL) ho, r⟩
  · refine (I.hok b u e).stay (fun c v hc q => k c v ?_ q) (fun _ q => q) fun _ _ q => q
    rcases hc with z | z
    · rw [z]; exact nit b u e
    · exact nit c _ z
theorem Inv.tok (I : Inv X pins σ H s) (t : Nat) : Inv X pins σ H { s with toks := t } := I.un (h' := s.heap) (t' := t) Un.refl I.hok
/-- all objects kept -/
theorem Inv.kept {t' : Nat} (I : Inv X pins σ H s) (k : ∀ b u, s.heap.get? b = some u → h'.get? b = some u) : Inv X pins σ H { s with heap := h', toks := t' } := I.un (Un.kept k) (I.hok.kept k)
/-- a new object laid and tracked -/
theorem Inv.laid {a : Addr} {o : HO} {t' : Nat} (I : Inv X pins σ H s) (k : ∀ b u, s.heap.get? b = some u → h'.get? b = some u) (hp : s.heap.objs.size ≤ a) (new : ObjOk X.prog X.w (upd H a o) h' a o) :
    Inv X pins σ (upd H a o) { s with heap := h', toks := t' } := I.un (Un.laid k hp (I.hok.fresh hp)) (I.hok.laid k hp new)
/-- an object written -/
theorem Inv.write {x e : Addr} {o : HO} {t' : Nat} (I : Inv X pins σ H s) (mu : Mut (H x)) (he : e = x ∨ H e = some (.own x)) (k : ∀ b u, b ≠ e → s.heap.get? b = some u → h'.get? b = some u) (heo : ∃ u, h'.get? e = some u)
    (new : ObjOk X.prog X.w (upd H x o) h' x o) : Inv X pins σ (upd H x o) { s with heap := h', toks := t' } := I.un (Un.write mu he k heo) (I.hok.write mu he k heo new)
theorem Inv.pins_of {pins' : List (Addr × Obj)} (I : Inv X pins σ H s) (h : ∀ p ∈ pins', s.heap.get? p.1 = some p.2 ∧ H p.1 = none ∧ p.1 ≠ X.env.locals ∧ p.1 ∉ X.fs ∧ ∀ v, p.2.data ≠ .cell v) : Inv X pins' σ H s :=
  ⟨I.ok, I.os, I.bare, I.base, I.loc, I.cell, I.free, I.freeC, fun p hp => (List.mem_append.mp hp).elim (fun z => I.pin p (List.mem_append_left _ z)) (h p), I.hok, I.len⟩

theorem nodup_ix {N : List Str} (hN : N.Nodup) {i j : Nat} {x : Str} (a : N[i]? = some x) (b : N[j]? = some x) : i = j := by
  obtain ⟨h1, e1⟩ := List.getElem?_eq_some_iff.mp a
  obtain ⟨h2, e2⟩ := List.getElem?_eq_some_iff.mp b
  exact (List.getElem_inj hN).mp (e1.trans e2.symm)

/-- a name is stored; what changed -/
theorem store_ok2 {M : Model} {A : Around} {E : Value → Shared → Prop} {i : Nat} {x : Str} {v : V} {u : Value} {Q : Unit → Shared → Prop} (I : Inv X pins σ H s) (hN : X.N.Nodup) (hi : X.N[i]? = some x) (hx : Loc X.env.scope x) (r : RelV v u)
    (h : ∀ s', Inv X pins (σ.set i (some v)) H s' → (∃ a, Heap.SameBut a s.heap s'.heap ∧ (a = X.env.locals ∨ X.env.cells.lookup x = some a)) → Q () s') (hf : X.fn x = true ∨ X.env.scope.names.lookup x = some .local := by first | exact .inl rfl | exact .inr rfl | assumption) : wpAny M A (storeName X.env x u) Q E s := by
  obtain ⟨m, hn, hl⟩ := id I.loc
  have hcls : (X.env.scope.kind == .class || (X.env.scope.kind == .module && X.env.locals != X.env.globals)) = false := by rw [I.ok.kind]; rfl
  have hiσ : i < σ.length := by rw [I.len]; exact (List.getElem?_eq_some_iff.mp hi).1
  have cne := I.cne
  have tracked : ∀ {a : Addr} {h' : Heap}, (∃ o, s.heap.get? a = some o ∧ H a = none) → Heap.SameBut a s.heap h' → HOk X.prog X.w H h' := fun {a h'} ha hs b ob e => by
    obtain ⟨_, _, hfree⟩ := ha
    refine (I.hok b ob e).stay (fun c w' hc q => (hs.2 c ?_).trans q) (fun _ q => q) fun _ _ q => q
    rintro rfl
    rcases hc with rfl | hc
    · rw [hfree] at e; cases e
    · rw [hfree] at hc; cases hc
  rcases hx with hk | hk
  · refine wpAny_storeName_local hk hn (fun h' hn' hs => ?_) hcls
    obtain ⟨oL, _, _, hoL, _⟩ := id hn
    refine h _ ⟨I.ok, I.os, I.bare, ⟨fun b o e n hb hx => ?_, fun b o e n hb hx => ?_, I.base.free, fun b o e hx => ?_, I.base.tups, I.base.frzs, I.base.tbls⟩, ⟨_, hn', fun j y v' e1 e2 e3 => ?_⟩, fun y c e => ?_, I.free, I.freeC, fun p hp => ?_, tracked ⟨oL, hoL, I.free⟩ hs, by simpa using I.len⟩ ⟨_, hs, .inl rfl⟩
    · exact (hs.2 b (Nat.ne_of_lt (Nat.lt_of_lt_of_le (Heap.lt_size e) I.ok.above))).trans (I.base.keep b o e n hb hx)
    · obtain ⟨sl, e1⟩ := I.base.slot b o e n hb hx
      exact ⟨sl, (hs.2 b (Nat.ne_of_lt (Nat.lt_of_lt_of_le (Heap.lt_size e) I.ok.above))).trans e1⟩
    · obtain ⟨o', e1⟩ := I.base.there b o e hx
      exact ⟨o', (hs.2 b (Nat.ne_of_lt (Nat.lt_of_lt_of_le (Heap.lt_size e) I.ok.above))).trans e1⟩
    · by_cases hj : j = i
      · subst hj
        rw [hi] at e1; cases e1
        rw [List.getElem?_set_self hiσ] at e2
        cases e2
        exact ⟨u, r, .inl ⟨hk, by simp⟩⟩
      · rw [List.getElem?_set_ne (Ne.symm hj)] at e2
        obtain ⟨u', r', q⟩ := hl j y v' e1 e2 e3
        refine ⟨u', r', ?_⟩
        rcases q with ⟨k, e⟩ | ⟨k, c, e, z⟩
        · refine .inl ⟨k, ?_⟩
          have : y ≠ x := fun e => hj (nodup_ix hN e1 (e ▸ hi))
          simp [this, e]
        · exact .inr ⟨k, c, e, z.sameBut hs (cne y c e)⟩
    · obtain ⟨w', z⟩ := I.cell y c e
      exact ⟨w', z.sameBut hs (cne y c e)⟩
    · obtain ⟨e, n, ne, nf, d⟩ := I.pin p hp
      exact ⟨(hs.2 p.1 ne).trans e, n, ne, nf, d⟩
  · have hfn : X.fn x = true := by
      rcases hf with z | z
      · exact z
      · rw [z] at hk; cases hk
    obtain ⟨c, hc⟩ := I.ok.has x (.inl hk)
    obtain ⟨w', z⟩ := I.cell x c hc
    refine wpAny_storeName_cell I.ok.kind hk hc z (fun h' hc' hs => ?_)
    obtain ⟨oc, hoc, hocd⟩ := id z
    refine h { s with heap := h' } ⟨I.ok, I.os, I.bare, ⟨fun b o e n hb hx => ?_, fun b o e n hb hx => ?_, I.base.free, fun b o e hx => ?_, I.base.tups, I.base.frzs, I.base.tbls⟩, ⟨m, hn.sameBut hs (Ne.symm (cne x c hc)), fun j y v' e1 e2 e3 => ?_⟩, fun y c' e => ?_, I.free, I.freeC, fun p hp => ?_, tracked ⟨oc, hoc, I.freeC x c hc⟩ hs, by simpa using I.len⟩ ⟨c, hs, .inr hc⟩
    · exact (hs.2 b (Nat.ne_of_lt (Nat.lt_of_lt_of_le (Heap.lt_size e) (I.ok.cab x c hfn hc)))).trans (I.base.keep b o e n hb hx)
    · obtain ⟨sl, e1⟩ := I.base.slot b o e n hb hx
      exact ⟨sl, (hs.2 b (Nat.ne_of_lt (Nat.lt_of_lt_of_le (Heap.lt_size e) (I.ok.cab x c hfn hc)))).trans e1⟩
    · obtain ⟨o', e1⟩ := I.base.there b o e hx
      exact ⟨o', (hs.2 b (Nat.ne_of_lt (Nat.lt_of_lt_of_le (Heap.lt_size e) (I.ok.cab x c hfn hc)))).trans e1⟩
    · by_cases hj : j = i
      · subst hj
        rw [hi] at e1; cases e1
        rw [List.getElem?_set_self hiσ] at e2
        cases e2
        exact ⟨u, r, .inr ⟨.inl hk, c, hc, hc'⟩⟩
      · rw [List.getElem?_set_ne (Ne.symm hj)] at e2
        obtain ⟨u', r', q⟩ := hl j y v' e1 e2 e3
        refine ⟨u', r', ?_⟩
        rcases q with q | ⟨k, c', e, z'⟩
        · exact .inl q
        · refine .inr ⟨k, c', e, z'.sameBut hs ?_⟩
          rintro rfl
          exact hj (nodup_ix hN e1 (I.ok.inj _ _ _ e hc ▸ hi))
    · by_cases hcc : c' = c
      · subst hcc; exact ⟨_, hc'⟩
      · obtain ⟨w2, z2⟩ := I.cell y c' e
        exact ⟨w2, z2.sameBut hs hcc⟩
    · obtain ⟨e, n, ne, nf, d⟩ := I.pin p hp
      refine ⟨(hs.2 p.1 ?_).trans e, n, ne, nf, d⟩
      intro q
      rw [q, hoc] at e
      have q' : oc = p.2 := Option.some.inj e
      exact d w' (by rw [← q']; exact hocd)
theorem store_ok {M : Model} {A : Around} {E : Value → Shared → Prop} {i : Nat} {x : Str} {v : V} {u : Value} {Q : Unit → Shared → Prop} (I : Inv X pins σ H s) (hN : X.N.Nodup) (hi : X.N[i]? = some x) (hx : Loc X.env.scope x) (r : RelV v u)
    (h : ∀ s', Inv X pins (σ.set i (some v)) H s' → Q () s') (hf : X.fn x = true ∨ X.env.scope.names.lookup x = some .local := by first | exact .inl rfl | exact .inr rfl | assumption) : wpAny M A (storeName X.env x u) Q E s :=
  store_ok2 I hN hi hx r (fun s' I' _ => h s' I') hf
/-- behind a call or a block, the state as it is -/
theorem Inv.call' {s' : Shared} {ch : List Addr} (I : Inv X pins σ H s) (ho : s'.os = s.os) (u : Un (frs X.stack) ch H H' s.heap s'.heap) (hok : HOk X.prog X.w H' s'.heap) (hg : AllBare s'.gens)
    (hch : ∀ b ∈ ch, (b ∈ X.ex ∨ X.s₀.heap.objs.size ≤ b) ∧ b ≠ X.env.locals ∧ (∀ x c, X.env.cells.lookup x = some c → c ≠ b) ∧ ∀ p ∈ X.pn ++ pins, p.1 ≠ b) : Inv X pins σ H' s' := by
  obtain ⟨h', g', d', t', o'⟩ := s'
  have e : o' = s.os := ho
  subst e
  exact I.call (g' := g') (t' := t') (d' := d') u hok hg hch
end

/-! ### the judgements -/
/-- an exception: its class, its own dict's address (where it has one), the abstract heap behind it -/
abbrev XK := Value → Option Addr → Hp → Prop
abbrev St := List (Option V)
abbrev VK := V → Hp → Prop
/-- an expression's reading; a test's; an argument list's -/
abbrev TE := St → Hp → VK → Prop
abbrev TT := St → Hp → (Bool → Hp → Prop) → Prop
abbrev TA := St → Hp → (List V → Hp → Prop) → Prop
/-- what is wanted behind a statement -/
structure Ends where
  nx : St → Hp → Prop
  rt : VK
  bk : St → Hp → Prop := fun _ _ => False
  ct : St → Hp → Prop := fun _ _ => False
abbrev TS := Ends → St → Hp → Prop

def EP (X : Cx) (pins : List (Addr × Obj)) (σ : St) (Q : VK) (u : Value) (s' : Shared) : Prop := ∃ v H', Inv X pins σ H' s' ∧ RelV v u ∧ Q v H'
def TP (X : Cx) (pins : List (Addr × Obj)) (σ : St) (Q : Bool → Hp → Prop) (b : Bool) (s' : Shared) : Prop := ∃ H', Inv X pins σ H' s' ∧ Q b H'
def AP (X : Cx) (pins : List (Addr × Obj)) (σ : St) (Q : List V → Hp → Prop) (us : List Value) (s' : Shared) : Prop := ∃ vs H', Inv X pins σ H' s' ∧ Vals vs us ∧ Q vs H'
def SP (X : Cx) (pins : List (Addr × Obj)) (D : Ends) (f : Flow) (s' : Shared) : Prop :=
  match f with
  | .next => ∃ σ' H', Inv X pins σ' H' s' ∧ D.nx σ' H'
  | .brk => ∃ σ' H', Inv X pins σ' H' s' ∧ D.bk σ' H'
  | .cont => ∃ σ' H', Inv X pins σ' H' s' ∧ D.ct σ' H'
  | .ret u => ∃ v σ' H', Inv X pins σ' H' s' ∧ RelV v u ∧ D.rt v H'

def PE (X : Cx) (e : Expr) (t : TE) : Prop :=
  ∀ (pins : List (Addr × Obj)) (s : Shared) (σ : St) (H : Hp) (Q : VK), Inv X pins σ H s → t σ H Q → wpAny (model X.prog X.w) X.A (eval e X.env) (EP X pins σ Q) X.xe s
def PT (X : Cx) (e : Expr) (t : TT) : Prop :=
  ∀ (pins : List (Addr × Obj)) (s : Shared) (σ : St) (H : Hp) (Q : Bool → Hp → Prop), Inv X pins σ H s → t σ H Q → wpAny (model X.prog X.w) X.A (isTrue e X.env (eval e X.env)) (TP X pins σ Q) X.xe s
/-- a test whatever its 'whole' is (and, or) -/
def PW (X : Cx) (e : Expr) (t : TT) : Prop :=
  ∀ (whole : Sem Value) (pins : List (Addr × Obj)) (s : Shared) (σ : St) (H : Hp) (Q : Bool → Hp → Prop), Inv X pins σ H s → t σ H Q → wpAny (model X.prog X.w) X.A (isTrue e X.env whole) (TP X pins σ Q) X.xe s
theorem PW.pt {X : Cx} {e : Expr} {t : TT} (h : PW X e t) : PT X e t := h _
/-- an argument list (no star), from the left -/
def PA (X : Cx) (es : List Expr) (t : TA) : Prop :=
  ∀ (pos : Pos) (pins : List (Addr × Obj)) (s : Shared) (σ : St) (H : Hp) (Q : List V → Hp → Prop), Inv X pins σ H s → t σ H Q → wpAny (model X.prog X.w) X.A (spliced (backTo pos (starEach es X.env))) (AP X pins σ Q) X.xe s
def PS (X : Cx) (st : Stmt) (t : TS) : Prop :=
  ∀ (pins : List (Addr × Obj)) (s : Shared) (σ : St) (H : Hp) (D : Ends), Inv X pins σ H s → t D σ H → wpAny (model X.prog X.w) X.A (exec st X.env) (SP X pins D) X.xe s
def PSs (X : Cx) (st : List Stmt) (t : TS) : Prop :=
  ∀ (pins : List (Addr × Obj)) (s : Shared) (σ : St) (H : Hp) (D : Ends), Inv X pins σ H s → t D σ H → wpAny (model X.prog X.w) X.A (execs st X.env) (SP X pins D) X.xe s
/-- weaken the end -/
theorem thn {α : Type} {t : Sem α} {Q Q' : α → Shared → Prop} {M : Model} {A : Around} {E : Value → Shared → Prop} {s : Shared} (h : wpAny M A t Q E s) (hQ : ∀ a s, Q a s → Q' a s) : wpAny M A t Q' E s := wpAny_mono h hQ fun _ _ x => x
end L2

namespace L2
open PySem PySem.Spec PyProof.Rows
section
variable {X : Cx}


/-! ### names and constants -/
def tVar (i : Nat) : TE := fun σ H Q => ∃ v, σ[i]? = some (some v) ∧ Q v H
def tC (v : V) : TE := fun _ H Q => Q v H
theorem pe_var {i : Nat} {x : Str} {pos : Pos} (hN : X.N[i]? = some x) (hv : Vis X.env.scope x) (hd : (x == ("__debug__" : Str)) = false := by decide) (hcd : (x == ("__classdict__" : Str)) = false := by decide) : PE X (.Name x pos) (tVar i) := by
  intro pins s σ H Q I h
  obtain ⟨v, e, h⟩ := h
  obtain ⟨m, hn, hl⟩ := I.loc
  obtain ⟨u, r, l⟩ := hl i x v hN e hv
  have fin : EP X pins σ Q u s := ⟨v, H, I, r, h⟩
  rcases l with ⟨hk, hm⟩ | ⟨hk, c, hc, hcell⟩
  · exact wpAny_Name (wpAny_loadName_local I.ok.kind hk hn hm fin) hd
  · rcases hk with hk | hk
    · exact wpAny_Name (wpAny_loadName_cell I.ok.kind hk hc hcell fin) hd
    · exact wpAny_Name (wpAny_loadName_free I.ok.kind hk hc hcell fin hcd) hd
theorem pe_int {i j pos} : PE X (.Constant (.int i) j pos) (tC (.int i)) := fun _ _ _ H _ I h => wpAny_Constant_int ⟨.int i, H, I.tok _, ⟨_, rfl⟩, h⟩
theorem pe_bl {b j pos} : PE X (.Constant (.bool b) j pos) (tC (.bl b)) := fun _ _ _ H _ I h => Constant_bool ⟨.bl b, H, I, rfl, h⟩
theorem pe_non {j pos} : PE X (.Constant .none j pos) (tC .non) := fun _ _ _ H _ I h => Constant_none ⟨.non, H, I, rfl, h⟩

/-- a global name of the def -/
def Gl (X : Cx) (x : Str) : Prop := X.env.kindOf x = some .globalImplicit
theorem ld_glob {E : Value → Shared → Prop} {pins : List (Addr × Obj)} {s : Shared} {σ : St} {H : Hp} {x : Str} {u : Value} {pos : Pos} {Q : Value → Shared → Prop} (I : Inv X pins σ H s) (hg : Gl X x) (hm : X.mg x = some u) (h : Q u s)
    (hd : (x == ("__debug__" : Str)) = false := by decide) : wpAny (model X.prog X.w) X.A (eval (.Name x pos) X.env) Q E s :=
  Calls.Name_function_global I.ok.kind hg (Calls.loadGlobal_global (by rw [I.ok.glob]; exact I.mod.glob.keeps I.bk) hm h) hd
theorem ld_blt {E : Value → Shared → Prop} {pins : List (Addr × Obj)} {s : Shared} {σ : St} {H : Hp} {x : Str} {u : Value} {pos : Pos} {Q : Value → Shared → Prop} (I : Inv X pins σ H s) (hg : Gl X x) (hm : X.mg x = none) (hv : bootBuiltins x = some u) (h : Q u s)
    (hn : x ≠ "__name__" := by decide) (hd : (x == ("__debug__" : Str)) = false := by decide) : wpAny (model X.prog X.w) X.A (eval (.Name x pos) X.env) Q E s := by
  obtain ⟨mb, h1, h2⟩ := I.mod.blt
  exact Calls.Name_function_global I.ok.kind hg (Calls.loadGlobal_builtin (by rw [I.ok.glob]; exact I.mod.glob.keeps I.bk) hm (by rw [I.ok.blt]; exact h1.keeps I.bk) ((h2 x hn).trans hv) h) hd

/-! ### arithmetic -/
variable {a b : Expr} {ta tb : TE} {pos : Pos}

/-! ### comparisons -/
def PC (X : Cx) (op : CmpOp) (a b : Expr) (t : TE) : Prop :=
  ∀ (pins : List (Addr × Obj)) (s : Shared) (σ : St) (H : Hp) (Q : VK), Inv X pins σ H s → t σ H Q →
    wpAny (model X.prog X.w) X.A (eval a X.env) (fun v s₁ => wpAny (model X.prog X.w) X.A (eval b X.env) (fun u s₂ => wpAny (model X.prog X.w) X.A (compareOp op v u) (EP X pins σ Q) X.xe s₂) X.xe s₁) X.xe s
theorem nobehind (b : Expr) {op : CmpOp} (h : op ≠ .In) (h2 : op ≠ .NotIn) : behindInMarks op b = false := by
  have e1 : (op == CmpOp.In) = false := by cases op <;> first | rfl | exact absurd rfl h
  have e2 : (op == CmpOp.NotIn) = false := by cases op <;> first | rfl | exact absurd rfl h2
  cases b <;> simp [behindInMarks, e1, e2]
def tNotN (ta : TE) : TE := fun σ H Q => ta σ H fun x H1 => Q (.bl (!decide (x = .non))) H1
theorem RelV.none_iff {x : V} {v : Value} (r : RelV x v) : (v == Value.none) = decide (x = .non) := by
  cases x with
  | non => cases r; rfl
  | bl _ => cases r; rfl
  | int _ => obtain ⟨t, rfl⟩ := r; rfl
  | str _ => obtain ⟨t, rfl⟩ := r; rfl
  | byt _ => obtain ⟨t, rfl⟩ := r; rfl
  | flt _ => obtain ⟨t, rfl⟩ := r; rfl
  | ref _ => cases r; rfl
  | ty _ => cases r; rfl
theorem pc_notN {j pos'} (ha : PE X a ta) : PC X .IsNot a (.Constant .none j pos') (tNotN ta) := by
  intro pins s σ H Q I h
  refine thn (ha pins s σ H _ I h) fun v s1 ⟨x, H1, I1, r1, q1⟩ => ?_
  exact Constant_none (isnot_none_gen ⟨.bl _, H1, I1, by rw [r1.none_iff]; rfl, q1⟩)
/-- a comparison as a value, as a test -/
def tB (t : TE) : TT := fun σ H Q => t σ H fun x H1 => ∃ c, x = .bl c ∧ Q c H1
theorem pt_cmp {op : CmpOp} {t : TE} (h : PC X op a b t) (h1 : behindInMarks op b = false := by first | exact nobehind _ (by decide) (by decide) | rfl) : PT X (.Compare a [op] [b] pos) (tB t) := by
  intro pins s σ H Q I hw
  refine wpAny_isTrue_Compare1 (thn (h pins s σ H _ I hw) fun v s1 h1 => thn h1 fun u s2 h2 => thn h2 fun c s3 ⟨x, H1, I1, r1, q1⟩ => ?_) h1
  obtain ⟨d, rfl, q⟩ := q1
  cases r1
  exact wpAny_truthy_bool ⟨H1, I1, q⟩
/-- an expression whose value is a bool, as a test -/
theorem pt_val {e : Expr} {t : TE} (h : PE X e t) (he : ∀ whole, isTrue e X.env whole = (do let v ← whole; standAt e.pos; holding [v] (truthy v)) := by intro _; rfl) : PT X e (tB t) := by
  intro pins s σ H Q I hw
  refine isTrue_plain (thn (h pins s σ H _ I hw) fun v s1 ⟨x, H1, I1, r1, q1⟩ => ?_) (he _)
  obtain ⟨d, rfl, q⟩ := q1
  cases r1
  exact wpAny_truthy_bool ⟨H1, I1, q⟩

/-! ### and, or, not -/
variable {tA tB' : TT} {rest : List Expr}
def tAnd (t u : TT) : TT := fun σ H Q => t σ H fun c H1 => if c = true then u σ H1 Q else Q false H1
def tOr (t u : TT) : TT := fun σ H Q => t σ H fun c H1 => if c = true then Q true H1 else u σ H1 Q
def tNot (t : TT) : TT := fun σ H Q => t σ H fun c H1 => Q (!c) H1
theorem pw_and1 (ha : PT X a tA) : PW X (.BoolOp .And [a] pos) tA := by
  intro wh pins s σ H Q I h
  refine isTrue_and (thn (ha pins s σ H Q I h) fun c s1 e => ?_)
  cases c with
  | true => exact isTrue_and_nil e
  | false => exact e
theorem pw_or1 (ha : PT X a tA) : PW X (.BoolOp .Or [a] pos) tA := by
  intro wh pins s σ H Q I h
  refine isTrue_or (thn (ha pins s σ H Q I h) fun c s1 e => ?_)
  cases c with
  | false => exact isTrue_or_nil e
  | true => exact e
theorem pw_and (ha : PT X a tA) (hb : PW X (.BoolOp .And (b :: rest) pos) tB') : PW X (.BoolOp .And (a :: b :: rest) pos) (tAnd tA tB') := by
  intro wh pins s σ H Q I h
  refine isTrue_and (thn (ha pins s σ H _ I h) fun c s1 ⟨H1, I1, q1⟩ => ?_)
  cases c with
  | true => exact hb wh pins s1 σ H1 Q I1 q1
  | false => exact ⟨H1, I1, q1⟩
theorem pw_or (ha : PT X a tA) (hb : PW X (.BoolOp .Or (b :: rest) pos) tB') : PW X (.BoolOp .Or (a :: b :: rest) pos) (tOr tA tB') := by
  intro wh pins s σ H Q I h
  refine isTrue_or (thn (ha pins s σ H _ I h) fun c s1 ⟨H1, I1, q1⟩ => ?_)
  cases c with
  | true => exact ⟨H1, I1, q1⟩
  | false => exact hb wh pins s1 σ H1 Q I1 q1
theorem pt_not (ha : PT X a tA) : PT X (.UnaryOp .Not a pos) (tNot tA) := by
  intro pins s σ H Q I h
  exact isTrue_not (ha pins s σ H (fun c H1 => Q (!c) H1) I h)
/-- .. as values (bools) -/
def tAndV (ta tb : TE) : TE := fun σ H Q => ta σ H fun x H1 => ∃ c, x = .bl c ∧ if c = true then tb σ H1 Q else Q (.bl false) H1
theorem pe_one {op} {t : TE} (h : PE X a t) : PE X (.BoolOp op [a] pos) t := fun pins s σ H Q I hw => BoolOp_one (h pins s σ H Q I hw)
theorem pe_and (ha : PE X a ta) (hb : PE X (.BoolOp .And (b :: rest) pos) tb) : PE X (.BoolOp .And (a :: b :: rest) pos) (tAndV ta tb) := by
  intro pins s σ H Q I h
  refine BoolOp_and (thn (ha pins s σ H _ I h) fun v s1 ⟨x, H1, I1, r1, q1⟩ => ?_)
  obtain ⟨c, rfl, q1⟩ := q1
  cases r1
  refine wpAny_truthy_bool ?_
  cases c with
  | true => exact hb pins s1 σ H1 Q I1 q1
  | false => exact ⟨.bl false, H1, I1, rfl, q1⟩
/-- a if t else b -/
def tIf (t : TT) (ta tb : TE) : TE := fun σ H Q => t σ H fun c H1 => if c = true then ta σ H1 Q else tb σ H1 Q
theorem pe_ifExp {c : Expr} (hc : PT X c tA) (ha : PE X a ta) (hb : PE X b tb) : PE X (.IfExp c a b pos) (tIf tA ta tb) := by
  intro pins s σ H Q I h
  refine wpAny_IfExp (thn (hc pins s σ H _ I h) fun d s1 ⟨H1, I1, q1⟩ => ?_)
  cases d with
  | true => exact ha pins s1 σ H1 Q I1 q1
  | false => exact hb pins s1 σ H1 Q I1 q1
end
end L2

namespace L2
open PySem PySem.Spec PyProof.Rows

/-! ### a list, a tuple that is read: tracked, frozen, or an object of the module -/
def SqL (K : PySem.W.Frag) (H : Hp) (a : Addr) (xs : List V) : Prop :=
  Rd H a (.lst xs) ∨
    ∃ (o : Obj) (its : Array Value) (n : Nat), K.lookup a = some o ∧ o.cls = .type "list" ∧ o.dict = none ∧ o.data = .seq its n ∧ its.size ≤ sizeLine ∧ Vals xs its.toList
def SqT (K : PySem.W.Frag) (H : Hp) (a : Addr) (xs : List V) : Prop :=
  Rd H a (.tup xs) ∨
    ∃ (o : Obj) (its : Array Value) (n : Nat), K.lookup a = some o ∧ o.cls = .type "tuple" ∧ o.data = .seq its n ∧ its.size ≤ sizeLine ∧ Vals xs its.toList
def absV : Value → Option V
  | .none => some .non
  | .bool b => some (.bl b)
  | .int i _ => some (.int i)
  | .str x _ => some (.str x)
  | .bytes b _ => some (.byt b)
  | .float b _ => some (.flt b)
  | .ref a => some (.ref a)
  | .type n => some (.ty n)
  | _ => none
theorem RelV.abs {x : V} {u : Value} (r : RelV x u) : absV u = some x := by
  cases x with
  | non => cases r; rfl
  | bl _ => cases r; rfl
  | int _ => obtain ⟨t, rfl⟩ := r; rfl
  | str _ => obtain ⟨t, rfl⟩ := r; rfl
  | byt _ => obtain ⟨t, rfl⟩ := r; rfl
  | flt _ => obtain ⟨t, rfl⟩ := r; rfl
  | ref _ => cases r; rfl
  | ty _ => cases r; rfl
theorem RelV.inj {x y : V} {u : Value} (r : RelV x u) (q : RelV y u) : x = y := Option.some.inj (r.abs.symm.trans q.abs)
theorem Vals.inj : ∀ {xs ys : List V} {us : List Value}, Vals xs us → Vals ys us → xs = ys
  | _, _, _, .nil, .nil => rfl
  | _, _, _, .cons r t, .cons r' t' => by rw [r.inj r', Vals.inj t t']
section
variable {X : Cx} {pins : List (Addr × Obj)} {σ : St} {H : Hp} {s : Shared} {a : Addr} {xs ys : List V}
theorem SqL.of {K : PySem.W.Frag} (h : H a = some (.lst xs)) : SqL K H a xs := .inl (.inl h)
theorem SqT.of {K : PySem.W.Frag} (h : H a = some (.tup xs)) : SqT K H a xs := .inl (.inl h)
theorem Inv.list (I : Inv X pins σ H s) (h : SqL X.K H a xs) : ∃ its : List Value, Vals xs its ∧ PlainL s.heap a its.toArray ∧ xs.length ≤ sizeLine := by
  rcases h with h | ⟨o, its, n, hk, hc, hd, hs, hz, r⟩
  · obtain ⟨z, its, n, r, e⟩ := h.ok I.hok
    exact ⟨its, r, ⟨_, n, e, rfl, rfl, rfl⟩, z⟩
  · refine ⟨its.toList, r, ⟨o, n, I.kIn a o hk, hc, hd, by simpa using hs⟩, ?_⟩
    have e := r.length
    simp only [Array.length_toList] at e
    omega
theorem Inv.tuple (I : Inv X pins σ H s) (h : SqT X.K H a xs) : ∃ its : List Value, Vals xs its ∧ IsTup s.heap a its.toArray ∧ xs.length ≤ sizeLine := by
  rcases h with h | ⟨o, its, n, hk, hc, hs, hz, r⟩
  · obtain ⟨z, its, r, p⟩ := h.ok I.hok
    exact ⟨its, r, p.is, z⟩
  · refine ⟨its.toList, r, ⟨o, I.kIn a o hk, hc, n, by simpa using hs⟩, ?_⟩
    have e := r.length
    simp only [Array.length_toList] at e
    omega
theorem Inv.list_inj (I : Inv X pins σ H s) (h : SqL X.K H a xs) (h' : SqL X.K H a ys) : xs = ys := by
  obtain ⟨its, r, ⟨o, n, e, _, _, d⟩, _⟩ := I.list h
  obtain ⟨its', r', ⟨o', n', e', _, _, d'⟩, _⟩ := I.list h'
  rw [e] at e'; cases e'
  rw [d] at d'
  injection d' with d1 _
  have : its = its' := by simpa using congrArg Array.toList d1
  subst this
  exact r.inj r'
theorem Inv.tuple_inj (I : Inv X pins σ H s) (h : SqT X.K H a xs) (h' : SqT X.K H a ys) : xs = ys := by
  obtain ⟨its, r, ⟨o, e, _, n, d⟩, _⟩ := I.tuple h
  obtain ⟨its', r', ⟨o', e', _, n', d'⟩, _⟩ := I.tuple h'
  rw [e] at e'; cases e'
  rw [d] at d'
  injection d' with d1 _
  have : its = its' := by simpa using congrArg Array.toList d1
  subst this
  exact r.inj r'
end

/-! ### another wish about exceptions -/
abbrev Cx.wish (X : Cx) (E : Value → Shared → Prop) : Cx := { X with xe := E }
/-- no exception leaves -/
abbrev Cx.nox (X : Cx) : Cx := X.wish fun _ _ => False
theorem Cx.Ok.wish {X : Cx} (ok : X.Ok) (E : Value → Shared → Prop) : (X.wish E).Ok :=
  ⟨ok.mod, ok.kind, ok.glob, ok.blt, ok.above, ok.inj, ok.has, ok.cab, ok.hd, ok.frames, ok.stk, ok.exf, ok.bs, ok.bsz, ok.noex, ok.exfs, ok.funs, ok.frf⟩
theorem Cx.Ok.unwish {X : Cx} {E : Value → Shared → Prop} (ok : (X.wish E).Ok) : X.Ok :=
  ⟨ok.mod, ok.kind, ok.glob, ok.blt, ok.above, ok.inj, ok.has, ok.cab, ok.hd, ok.frames, ok.stk, ok.exf, ok.bs, ok.bsz, ok.noex, ok.exfs, ok.funs, ok.frf⟩
section
variable {X : Cx} {pins : List (Addr × Obj)} {σ : St} {H : Hp} {s : Shared} {E : Value → Shared → Prop}
theorem Inv.wish (I : Inv X pins σ H s) (E : Value → Shared → Prop) : Inv (X.wish E) pins σ H s := ⟨I.ok.wish E, I.os, I.bare, I.base, I.loc, I.cell, I.free, I.freeC, I.pin, I.hok, I.len⟩
theorem Inv.unwish (I : Inv (X.wish E) pins σ H s) : Inv X pins σ H s := ⟨I.ok.unwish, I.os, I.bare, I.base, I.loc, I.cell, I.free, I.freeC, I.pin, I.hok, I.len⟩
theorem SP.unwish {D : Ends} {f : Flow} {s' : Shared} (h : SP (X.wish E) pins D f s') : SP X pins D f s' := by
  cases f with
  | next => obtain ⟨σ', H', I, q⟩ := h; exact ⟨σ', H', I.unwish, q⟩
  | brk => obtain ⟨σ', H', I, q⟩ := h; exact ⟨σ', H', I.unwish, q⟩
  | cont => obtain ⟨σ', H', I, q⟩ := h; exact ⟨σ', H', I.unwish, q⟩
  | ret u => obtain ⟨v, σ', H', I, r, q⟩ := h; exact ⟨v, σ', H', I.unwish, r, q⟩
theorem PSs.nox {st : List Stmt} {t : TS} (h : PSs X.nox st t) : PSs X st t := fun pins s σ H D I hw =>
  wpAny_mono (h pins s σ H D (I.wish _) hw) (fun _ _ q => q.unwish) fun _ _ z => False.elim z
end

/-! ### blocks and small statements -/
section
variable {X : Cx} {st : Stmt} {rest : List Stmt} {t u : TS} {e : Expr} {te : TE} {pos : Pos}
def tNext : TS := fun D σ H => D.nx σ H
def tSeq (t u : TS) : TS := fun D σ H => t { D with nx := u D } σ H
theorem pss_nil : PSs X [] tNext := fun _ _ σ H _ I h => wpAny_execs_nil ⟨σ, H, I, h⟩
theorem pss_cons (h1 : PS X st t) (h2 : PSs X rest u) : PSs X (st :: rest) (tSeq t u) := by
  intro pins s σ H D I h
  refine wpAny_execs_cons (thn (h1 pins s σ H { D with nx := u D } I h) fun f s1 q => ?_)
  cases f with
  | next =>
    obtain ⟨σ', H', I', q⟩ := q
    exact h2 pins s1 σ' H' D I' q
  | ret v => exact q
  | brk => exact q
  | cont => exact q
theorem pss_one (h1 : PS X st t) : PSs X [st] t := by
  intro pins s σ H D I h
  refine wpAny_execs_cons (thn (h1 pins s σ H D I h) fun f s1 q => ?_)
  cases f with
  | next => exact wpAny_execs_nil q
  | ret v => exact q
  | brk => exact q
  | cont => exact q
/-- in a def's body nothing is shown -/
theorem Inv.quiet {pins : List (Addr × Obj)} {σ : St} {H : Hp} {s : Shared} (I : Inv X pins σ H s) : interactive X.env = false := by simp [interactive, I.ok.kind]
/-- an expression whose value is dropped -/
def tDrop (te : TE) : TS := fun D σ H => te σ H fun _ H1 => D.nx σ H1
theorem ps_expr (he : PE X e te) (hs : swapsWith e none pos.line X.env = pure false := by rfl) : PS X (.Expr e pos) (tDrop te) := by
  intro pins s σ H D I h
  exact wpAny_Expr_any (thn (he pins s σ H _ I h) fun v s1 ⟨x, H1, I1, r1, q1⟩ => ⟨σ, H1, I1, q1⟩) I.quiet hs
def tRet (te : TE) : TS := fun D σ H => te σ H D.rt
theorem ps_ret (he : PE X e te) : PS X (.Return (some e) pos) (tRet te) := by
  intro pins s σ H D I h
  exact wpAny_Return_some (thn (he pins s σ H _ I h) fun v s1 ⟨x, H1, I1, r1, q1⟩ => ⟨x, σ, H1, I1, r1, q1⟩)
def tIfS (c : TT) (t u : TS) : TS := fun D σ H => c σ H fun b H1 => if b = true then t D σ H1 else u D σ H1
theorem ps_if {c : Expr} {a b : List Stmt} {tc : TT} (hc : PT X c tc) (ha : PSs X a t) (hb : PSs X b u) : PS X (.If c a b pos) (tIfS tc t u) := by
  intro pins s σ H D I h
  refine wpAny_If (thn (hc pins s σ H _ I h) fun d s1 ⟨H1, I1, q1⟩ => ?_)
  cases d with
  | true => exact ha pins s1 σ H1 D I1 q1
  | false => exact hb pins s1 σ H1 D I1 q1
end

/-! ### targets -/
abbrev TG := V → St → Hp → (St → Hp → Prop) → Prop
abbrev TGs := List V → St → Hp → (St → Hp → Prop) → Prop
def PG (X : Cx) (target : Expr) (t : TG) : Prop :=
  ∀ (pins : List (Addr × Obj)) (s : Shared) (σ : St) (H : Hp) (v : V) (u : Value) (Q : St → Hp → Prop), Inv X pins σ H s → RelV v u → t v σ H Q →
    wpAny (model X.prog X.w) X.A (assign target X.env u) (fun _ s' => ∃ σ' H', Inv X pins σ' H' s' ∧ Q σ' H') X.xe s
/-- several targets, one after another -/
def PGs (X : Cx) (ts : List Expr) (t : TGs) : Prop :=
  ∀ (pins : List (Addr × Obj)) (s : Shared) (σ : St) (H : Hp) (vs : List V) (us : List Value) (Q : St → Hp → Prop), Inv X pins σ H s → Vals vs us → t vs σ H Q →
    wpAny (model X.prog X.w) X.A (assignInOrder ((assignEach ts X.env).map (·.2)) us) (fun _ s' => ∃ σ' H', Inv X pins σ' H' s' ∧ Q σ' H') X.xe s
/-- o[i] = v, by values -/
abbrev TSet := V → V → V → Hp → (Hp → Prop) → Prop
def PSet (X : Cx) (t : TSet) : Prop :=
  ∀ (pins : List (Addr × Obj)) (s : Shared) (σ : St) (H : Hp) (o i v : V) (ov iv u : Value) (Q : Hp → Prop), Inv X pins σ H s → RelV o ov → RelV i iv → RelV v u → t o i v H Q →
    wpAny (model X.prog X.w) X.A (setItem ov iv u) (fun _ s' => ∃ H', Inv X pins σ H' s' ∧ Q H') X.xe s
section
variable {X : Cx} {pos : Pos}
def gName (i : Nat) : TG := fun v σ H Q => Q (σ.set i (some v)) H
theorem pg_name {i : Nat} {x : Str} (hN : X.N.Nodup) (hi : X.N[i]? = some x) (hx : Loc X.env.scope x) (hf : X.fn x = true ∨ X.env.scope.names.lookup x = some .local := by first | exact .inl rfl | exact .inr rfl | assumption) : PG X (.Name x pos) (gName i) := by
  intro pins s σ H v u Q I r h
  exact wpAny_assign_Name (store_ok I hN hi hx r (fun s' I' => ⟨_, H, I', h⟩) hf)
def gNil : TGs := fun vs σ H Q => vs = [] ∧ Q σ H
def gCons (t : TG) (u : TGs) : TGs := fun vs σ H Q => ∃ v r, vs = v :: r ∧ t v σ H fun σ' H' => u r σ' H' Q
theorem pgs_nil : PGs X [] gNil := by
  intro pins s σ H vs us Q I r h
  obtain ⟨e, h⟩ := h
  subst e
  cases r
  exact assignInOrder_nil ⟨σ, H, I, h⟩
theorem pgs_cons {e : Expr} {es : List Expr} {t : TG} {u : TGs} (h1 : PG X e t) (h2 : PGs X es u)
    (hs : (assignEach (e :: es) X.env).map (·.2) = assign e X.env :: (assignEach es X.env).map (·.2) := by rfl) : PGs X (e :: es) (gCons t u) := by
  intro pins s σ H vs us Q I r h
  obtain ⟨v, vr, e1, h⟩ := h
  subst e1
  cases r with
  | cons r rr =>
    rw [hs]
    refine assignInOrder_cons (thn (h1 pins s σ H _ _ _ I r h) fun _ s1 ⟨σ1, H1, I1, q1⟩ => ?_)
    exact h2 pins s1 σ1 H1 _ _ Q I1 rr q1
/-- (a, b, ..) = a tuple of that length -/
def gTup (K : PySem.W.Frag) (n : Nat) (t : TGs) : TG := fun v σ H Q => ∃ a xs, v = .ref a ∧ SqT K H a xs ∧ xs.length = n ∧ t xs σ H Q
theorem pg_tup {es : List Expr} {k : Nat} {t : TGs} {n : Nat} (hc : X.calm = true) (h : PGs X es t)
    (hn : (assignEach es X.env).length = n := by rfl) (hst : (assignEach es X.env).findIdx? (·.1) = none := by rfl) : PG X (.Tuple es k pos) (gTup X.K n t) := by
  intro pins s σ H v u Q I r hw
  obtain ⟨a, xs, e1, hq, hl, hw⟩ := hw
  subst e1
  cases r
  obtain ⟨its, rv, ht, hz⟩ := I.tuple hq
  refine assign_Tuple_tuple (I.ok.hd hc) ht (by simp [hn, ← hl, rv.length]) hst fun h' hx => ?_
  have I1 : Inv X pins σ H { s with heap := h' } := I.kept (t' := s.toks) fun b o e => hx b o (Nat.ne_of_lt (Heap.lt_size e)) e
  exact h pins _ σ H xs _ Q I1 (by simpa using rv) hw
/-- o[i] = .. -/
def gSub (to ti : TE) (t : TSet) : TG := fun v σ H Q => to σ H fun o H1 => ti σ H1 fun i H2 => t o i v H2 fun H3 => Q σ H3
theorem pg_sub {o i : Expr} {to ti : TE} {t : TSet} (ho : PE X o to) (hi : PE X i ti) (hs : PSet X t)
    (ha : ∀ v, assign (.Subscript o i pos) X.env v = (do
      let ov ← holding [v] (eval o X.env)
      let iv ← holding [v, ov] (eval i X.env)
      standAt pos
      holding [v, ov, iv] (setItem ov iv v)
      release [v, ov, iv] []) := by intro _; rfl) : PG X (.Subscript o i pos) (gSub to ti t) := by
  intro pins s σ H v u Q I r h
  rw [ha]
  refine wpAny_bind (wpAny_holding (thn (ho pins s σ H _ I h) fun ov s1 ⟨x, H1, I1, r1, q1⟩ => ?_))
  refine wpAny_bind (wpAny_holding (thn (hi pins s1 σ H1 _ I1 q1) fun iv s2 ⟨y, H2, I2, r2, q2⟩ => ?_))
  refine wpAny_bind (wpAny_standAt (wpAny_bind (wpAny_holding (thn (hs pins s2 σ H2 x y v ov iv u _ I2 r1 r2 r q2) fun _ s3 ⟨H3, I3, q3⟩ => ?_))))
  exact wpAny_release ⟨σ, H3, I3, q3⟩
/-- target = value -/
def tAsg (te : TE) (g : TG) : TS := fun D σ H => te σ H fun x H1 => g x σ H1 D.nx
theorem ps_asg {tg e : Expr} {te : TE} {g : TG} (he : PE X e te) (hg : PG X tg g) (hs : swapsWithSole [tg] e pos.line X.env = pure false := by rfl) (hw : swappedStores [tg] e X.env = pure none := by rfl)
    (h1 : (assignEach [tg] X.env).map (·.2) = [assign tg X.env] := by rfl) : PS X (.Assign [tg] e pos) (tAsg te g) := by
  intro pins s σ H D I h
  refine wpAny_Assign_stores (thn (he pins s σ H _ I h) fun v s1 ⟨x, H1, I1, r1, q1⟩ => ?_) hs hw
  rw [h1]
  exact thn (hg pins s1 σ H1 x v _ I1 r1 q1) fun _ s2 q => q
/-- name = value -/
theorem ps_set {i : Nat} {x : Str} {e : Expr} {te : TE} {pos' : Pos} (hN : X.N.Nodup) (hi : X.N[i]? = some x) (hx : Loc X.env.scope x) (he : PE X e te) (hs : swapsWith e (some (.Name x pos')) pos.line X.env = pure false := by rfl) (hf : X.fn x = true ∨ X.env.scope.names.lookup x = some .local := by first | exact .inl rfl | exact .inr rfl | assumption) :
    PS X (.Assign [.Name x pos'] e pos) (tAsg te (gName i)) := by
  intro pins s σ H D I h
  refine wpAny_Assign_Name (thn (he pins s σ H _ I h) fun v s1 ⟨y, H1, I1, r1, q1⟩ => ?_) hs
  exact store_ok I1 hN hi hx r1 (fun s2 I2 => ⟨_, H1, I2, q1⟩) hf
end

/-! ### while -/
section
variable {X : Cx} {pos : Pos}
/-- the invariant W with its measure -/
def tWhile (c : TT) (tb : TS) : TS := fun D σ H => ∃ W : Nat → St → Hp → Prop, (∃ m, W m σ H) ∧ ∀ m σ H, W m σ H →
  c σ H fun b H1 => if b = true then ∃ N : St → Hp → Prop, (∀ σ' H', N σ' H' → ∃ m', m' < m ∧ W m' σ' H') ∧ tb { D with nx := N, ct := N, bk := D.nx } σ H1 else D.nx σ H1
theorem ps_while {c : Expr} {body : List Stmt} {tc : TT} {tb : TS} (hp : PassesOwn (model X.prog X.w) X.A X.env X.xe) (hc : PT X c tc) (hb : PSs X body tb) : PS X (.While c body [] pos) (tWhile tc tb) := by
  intro pins s σ H D I h
  obtain ⟨W, ⟨m0, w0⟩, turn⟩ := h
  refine wpAny_While (codeAny_whileLoop (fun n s' => ∃ σ' H', Inv X pins σ' H' s' ∧ W n σ' H') ?_ m0 ⟨σ, H, I, w0⟩)
  rintro n s1 ⟨σ1, H1, I1, w1⟩
  refine wpAny_passesOwn hp (thn (hc pins s1 σ1 H1 _ I1 (turn n σ1 H1 w1)) fun b s2 ⟨H2, I2, q2⟩ => ?_)
  cases b with
  | true =>
    obtain ⟨N, hN, q2⟩ := q2
    rw [if_pos rfl]
    refine wpAny_passesOwn hp (thn (hb pins s2 σ1 H2 _ I2 q2) fun f s3 q3 => ?_)
    cases f with
    | next =>
      obtain ⟨σ3, H3, I3, n3⟩ := q3
      obtain ⟨m', hm, w3⟩ := hN σ3 H3 n3
      exact ⟨m', hm, σ3, H3, I3, w3⟩
    | cont =>
      obtain ⟨σ3, H3, I3, n3⟩ := q3
      obtain ⟨m', hm, w3⟩ := hN σ3 H3 n3
      exact ⟨m', hm, σ3, H3, I3, w3⟩
    | brk => exact q3
    | ret v => exact q3
  | false =>
    rw [if_neg Bool.false_ne_true]
    exact wpAny_execs_nil ⟨σ1, H2, I2, q2⟩
end

/-! ### what a loop or a comprehension walks -/
/-- at turn i: it yields x (the heap may grow), or it stops -/
structure It where
  go : Nat → Hp → Prop
  yld : Nat → Hp → V → Hp → Prop
  stop : Nat → Hp → Prop
/-- the iterator's own objects may turn: they are not the frame's, not pinned, younger than the entry (or a comprehension's own) -/
def FpOk (X : Cx) (pins : List (Addr × Obj)) (H : Hp) (b : Addr) : Prop :=
  H b = none ∧ b ≠ X.env.locals ∧ b ∉ X.fs ∧ (b ∈ X.ex ∨ X.s₀.heap.objs.size ≤ b) ∧ (∀ x c, X.env.cells.lookup x = some c → c ≠ b) ∧ ∀ p ∈ X.pn ++ pins, p.1 ≠ b
theorem Inv.fpOk {X : Cx} {pins : List (Addr × Obj)} {σ : St} {H H' : Hp} {s : Shared} {b : Addr} (I : Inv X pins σ H s) (hb : s.heap.objs.size ≤ b) (hn : H' b = none) : FpOk X pins H' b := by
  refine ⟨hn, Nat.ne_of_gt (Nat.lt_of_lt_of_le I.lt hb), I.nofs hb, .inr (Nat.le_trans I.sz hb), fun x c e z => ?_, fun p hp z => ?_⟩
  · obtain ⟨v, q⟩ := I.cell x c e
    exact absurd (Nat.lt_of_lt_of_le q.lt (by rw [z]; exact hb)) (Nat.lt_irrefl _)
  · exact absurd (Nat.lt_of_lt_of_le (Heap.lt_size (I.pin p hp).1) (by rw [z]; exact hb)) (Nat.lt_irrefl _)
structure Turn (P : Program) (w : World) (K : PySem.W.Frag) (tg : Expr) (J : It) (fp : List Addr) (it : Addr) (tn : Nat → Heap → Prop) : Prop where
  mem : it ∈ fp
  obj : ∀ i h, tn i h → ∀ b ∈ fp, ∃ o, h.get? b = some o ∧ ∀ v, o.data ≠ .cell v
  keep : ∀ i h h', tn i h → (∀ b ∈ fp, ∀ o, h.get? b = some o → h'.get? b = some o) → tn i h'
  item : ∀ (X : Cx), X.prog = P → X.w = w → X.K = K → X.calm = true → ∀ (i : Nat) (pins : List (Addr × Obj)) (s : Shared) (σ : St) (H : Hp) (E : Value → Shared → Prop), Inv X pins σ H s → (∀ b ∈ fp, FpOk X pins H b) → tn i s.heap → J.go i H →
    wpAny (model P w) X.A (pyNext (.ref it)) (fun r s1 => ∃ u, r = some u ∧
      wpAny (model P w) X.A (letOwnedTupleGo tg (.ref it) u) (fun _ s2 => ∃ x H', Inv X pins σ H' s2 ∧ RelV x u ∧ J.yld i H x H' ∧ tn (i + 1) s2.heap ∧ ∀ b ∈ fp, H' b = none) E s1) E s
  done : ∀ (X : Cx), X.prog = P → X.w = w → X.K = K → X.calm = true → ∀ (i : Nat) (pins : List (Addr × Obj)) (s : Shared) (σ : St) (H : Hp) (E : Value → Shared → Prop), Inv X pins σ H s → (∀ b ∈ fp, FpOk X pins H b) → tn i s.heap → J.stop i H →
    wpAny (model P w) X.A (pyNext (.ref it)) (fun r s1 => r = none ∧ Inv X pins σ H s1) E s
  self : ∀ (A : Around) (i : Nat) (s : Shared) (Q : Value → Shared → Prop) (E : Value → Shared → Prop), tn i s.heap → Q (.ref it) s → wpAny (model P w) A (pyIter (.ref it)) Q E s
abbrev TI := St → Hp → (It → Hp → Prop) → Prop
/-- an iterator has come -/
def PIE (X : Cx) (pins : List (Addr × Obj)) (σ : St) (tg : Expr) (R : It → Hp → Prop) (itv : Value) (s2 : Shared) : Prop :=
  ∃ (it : Addr) (fp : List Addr) (tn : Nat → Heap → Prop) (J : It) (H' : Hp), itv = .ref it ∧ Inv X pins σ H' s2 ∧ Turn X.prog X.w X.K tg J fp it tn ∧ tn 0 s2.heap ∧ (∀ b ∈ fp, FpOk X pins H' b) ∧ R J H'
def PI (X : Cx) (tg iter : Expr) (wi : TI) : Prop :=
  ∀ (pins : List (Addr × Obj)) (s : Shared) (σ : St) (H : Hp) (R : It → Hp → Prop), Inv X pins σ H s → wi σ H R →
    wpAny (model X.prog X.w) X.A (eval iter X.env) (fun v s1 => wpAny (model X.prog X.w) X.A (pyIter v) (PIE X pins σ tg R) X.xe s1) X.xe s

/-- the step ahead of the store is nothing for an iterator that keeps no tuple -/
theorem go_of {M : Model} {A : Around} {E : Value → Shared → Prop} {s : Shared} {tg : Expr} {it : Addr} {u : Value} {o : Obj} {n : String} {vs : Array Value} {Q : Unit → Shared → Prop} (ho : s.heap.get? it = some o) (hc : o.cls = .type n) (hd : o.data = .fields vs)
    (hn : ["enumerate", "zip", "dict_itemiterator", "dict_reverseitemiterator", "odict_iterator", "itertools.zip_longest", "itertools.pairwise"].contains n = false) (hQ : Q () s) : wpAny M A (letOwnedTupleGo tg (.ref it) u) Q E s := by
  unfold letOwnedTupleGo
  cases tg <;> first
    | exact wpAny_pure hQ
    | (cases u <;> first
        | exact wpAny_pure hQ
        | (refine wpAny_bind (wpAny_load ho ?_)
           rw [hc, hd]
           show wpAny M A (if (["enumerate", "zip", "dict_itemiterator", "dict_reverseitemiterator", "odict_iterator", "itertools.zip_longest", "itertools.pairwise"].contains n && vs[0]? == some (rawInt _)) = true then _ else _) Q E s
           rw [if_neg (by intro h; rw [hn, Bool.false_and] at h; cases h)]
           exact wpAny_pure hQ))

/-- the list at a, as it stands at each turn (a loop may append to it) -/
def Itl (K : PySem.W.Frag) (a : Addr) : It :=
  ⟨fun i H => ∃ xs x, SqL K H a xs ∧ xs[i]? = some x, fun i H x H' => H' = H ∧ ∀ xs, SqL K H a xs → xs[i]? = some x, fun i H => ∃ xs, SqL K H a xs ∧ xs.length ≤ i⟩
def Itt (K : PySem.W.Frag) (a : Addr) : It :=
  ⟨fun i H => ∃ xs x, SqT K H a xs ∧ xs[i]? = some x, fun i H x H' => H' = H ∧ ∀ xs, SqT K H a xs → xs[i]? = some x, fun i H => ∃ xs, SqT K H a xs ∧ xs.length ≤ i⟩
/-- lo, lo + 1, .. (n of them) -/
def Itr (lo : Int) (n : Nat) : It := ⟨fun i _ => i < n, fun i H x H' => H' = H ∧ x = .int (lo + i), fun i _ => n ≤ i⟩
theorem turn_list {P : Program} {w : World} {K : PySem.W.Frag} {tg : Expr} (a it : Addr) : Turn P w K tg (Itl K a) [it] it (fun i h => h.IsListIter it a i) where
  mem := by simp
  obj := fun i h st b hb => by
    have e : b = it := by simpa using hb
    subst e
    obtain ⟨o, e, c, d⟩ := st
    exact ⟨o, e, fun v z => by rw [d] at z; cases z⟩
  keep := fun i h h' st k => st.at fun o e => k it (by simp) o e
  item := by
    intro X hP hw hK hc i pins s σ H E I hf st hg
    subst hP hw hK
    obtain ⟨xs, x, hq, hx⟩ := hg
    obtain ⟨its, rv, p, hz⟩ := I.list hq
    obtain ⟨u, hu, ru⟩ := rv.get hx
    obtain ⟨f0, f1, f2, f3, f4, f5⟩ := hf it (by simp)
    refine wpAny_pyNext_list_item st p.isList (x := u) (by simpa using hu) fun h' st' sb => ?_
    have I1 : Inv X pins σ H { s with heap := h' } := I.turned (t' := s.toks) (fun b o hb e => (sb.2 b hb).trans e) f0 f1 f3 f4 f5
    obtain ⟨o, e, c, d⟩ := id st'
    exact ⟨u, rfl, go_of (s := { s with heap := h' }) e c d (by decide) ⟨x, H, I1, ru, ⟨rfl, fun ys hy => by rw [I.list_inj hy hq]; exact hx⟩, st', fun b hb => (hf b hb).1⟩⟩
  done := by
    intro X hP hw hK hc i pins s σ H E I hf st hg
    subst hP hw hK
    obtain ⟨xs, hq, hx⟩ := hg
    obtain ⟨its, rv, p, hz⟩ := I.list hq
    obtain ⟨f0, f1, f2, f3, f4, f5⟩ := hf it (by simp)
    have hl := rv.length
    exact wpAny_pyNext_list_end (I.ok.hd hc) st p.isList (by simp; omega) fun h' eb => ⟨rfl, I.turned (t' := s.toks) (fun b o hb e => eb b o hb e) f0 f1 f3 f4 f5⟩
  self := fun _ _ _ _ _ st h => wpAny_pyIter_listiter st h
theorem turn_tuple {P : Program} {w : World} {K : PySem.W.Frag} {tg : Expr} (a it : Addr) : Turn P w K tg (Itt K a) [it] it (fun i h => h.IsTupleIter it a i) where
  mem := by simp
  obj := fun i h st b hb => by
    have e : b = it := by simpa using hb
    subst e
    obtain ⟨o, e, c, d⟩ := st
    exact ⟨o, e, fun v z => by rw [d] at z; cases z⟩
  keep := fun i h h' st k => st.at fun o e => k it (by simp) o e
  item := by
    intro X hP hw hK hc i pins s σ H E I hf st hg
    subst hP hw hK
    obtain ⟨xs, x, hq, hx⟩ := hg
    obtain ⟨its, rv, p, hz⟩ := I.tuple hq
    obtain ⟨u, hu, ru⟩ := rv.get hx
    obtain ⟨f0, f1, f2, f3, f4, f5⟩ := hf it (by simp)
    refine wpAny_pyNext_tuple_item st (show s.heap.IsTuple a its.toArray from p) (x := u) (by simpa using hu) fun h' st' sb => ?_
    have I1 : Inv X pins σ H { s with heap := h' } := I.turned (t' := s.toks) (fun b o hb e => (sb.2 b hb).trans e) f0 f1 f3 f4 f5
    obtain ⟨o, e, c, d⟩ := id st'
    exact ⟨u, rfl, go_of (s := { s with heap := h' }) e c d (by decide) ⟨x, H, I1, ru, ⟨rfl, fun ys hy => by rw [I.tuple_inj hy hq]; exact hx⟩, st', fun b hb => (hf b hb).1⟩⟩
  done := by
    intro X hP hw hK hc i pins s σ H E I hf st hg
    subst hP hw hK
    obtain ⟨xs, hq, hx⟩ := hg
    obtain ⟨its, rv, p, hz⟩ := I.tuple hq
    obtain ⟨f0, f1, f2, f3, f4, f5⟩ := hf it (by simp)
    have hl := rv.length
    exact wpAny_pyNext_tuple_end (I.ok.hd hc) st (show s.heap.IsTuple a its.toArray from p) (by simp; omega) fun h' eb => ⟨rfl, I.turned (t' := s.toks) (fun b o hb e => eb b o hb e) f0 f1 f3 f4 f5⟩
  self := fun _ _ _ _ _ st h => wpAny_pyIter_tupleiter st h
theorem turn_range {P : Program} {w : World} {K : PySem.W.Frag} {tg : Expr} (it : Addr) (lo : Int) (n : Nat) : Turn P w K tg (Itr lo n) [it] it (fun i h => IsRangeIter h it (lo + (i : Nat) * 1) ((n : Int) - (i : Nat)) 1) where
  mem := by simp
  obj := fun i h st b hb => by
    have e : b = it := by simpa using hb
    subst e
    exact ⟨_, st, fun v z => by
      have z' : Data.fields _ = Data.cell v := z
      cases z'⟩
  keep := fun i h h' st k => k it (by simp) _ st
  item := by
    intro X hP hw hK hc i pins s σ H E I hf st hg
    subst hP hw hK
    obtain ⟨f0, f1, f2, f3, f4, f5⟩ := hf it (by simp)
    have W := Walks.range (prog := X.prog) (w := X.w) (I.ok.hd hc) it lo 1 n
    refine W.item i s _ _ hg st fun v h' tk hv st' kk => ?_
    obtain ⟨t, rfl⟩ := hv
    have I1 : Inv X pins σ H { s with heap := h', toks := tk } := I.turned (fun b o hb e => kk b o (by simpa using hb) e) f0 f1 f3 f4 f5
    refine ⟨_, rfl, go_of (s := { s with heap := h', toks := tk }) (n := "range_iterator") st' rfl rfl (by decide) ⟨.int (lo + i), H, I1, ⟨t, ?_⟩, ⟨rfl, rfl⟩, st', fun b hb => (hf b hb).1⟩⟩
    rw [Int.mul_one]
  done := by
    intro X hP hw hK hc i pins s σ H E I hf st hg
    subst hP hw hK
    obtain ⟨f0, f1, f2, f3, f4, f5⟩ := hf it (by simp)
    exact wpAny_pyNext_range_end (I.ok.hd hc) st (by have : n ≤ i := hg; omega) fun h' eb => ⟨rfl, I.turned (t' := s.toks) (fun b o hb e => eb b o hb e) f0 f1 f3 f4 f5⟩
  self := fun _ _ _ _ _ st h => wpAny_pyIter_rangeiter st h
end L2

namespace L2
open PySem PySem.Spec PyProof.Rows
section
variable {X : Cx} {tg : Expr}
def iList (K : PySem.W.Frag) (tl : TE) : TI := fun σ H R => tl σ H fun x H1 => ∃ a, x = .ref a ∧ (∃ xs, SqL K H1 a xs) ∧ R (Itl K a) H1
def iTup (K : PySem.W.Frag) (tl : TE) : TI := fun σ H R => tl σ H fun x H1 => ∃ a, x = .ref a ∧ (∃ xs, SqT K H1 a xs) ∧ R (Itt K a) H1
theorem pi_list {l : Expr} {tl : TE} (hl : PE X l tl) : PI X tg l (iList X.K tl) := by
  intro pins s σ H R I h
  refine thn (hl pins s σ H _ I h) fun v s1 ⟨x, H1, I1, r1, q1⟩ => ?_
  obtain ⟨a, e, ⟨xs, hq⟩, q⟩ := q1
  subst e
  cases r1
  obtain ⟨its, rv, p, hz⟩ := I1.list hq
  refine wpAny_pyIter_list p.isList ?_
  refine ⟨s1.heap.objs.size, [s1.heap.objs.size], _, _, H1, rfl, I1.kept (t' := s1.toks) fun b o e => Heap.get?_push_of_some _ e, turn_list a _, ⟨_, Heap.get?_push_size _ rfl, rfl, rfl⟩, fun b hb => ?_, q⟩
  have e : b = s1.heap.objs.size := by simpa using hb
  subst e
  exact I1.fpOk (Nat.le_refl _) (I1.hok.fresh (Nat.le_refl _))
theorem pi_tup {l : Expr} {tl : TE} (hl : PE X l tl) : PI X tg l (iTup X.K tl) := by
  intro pins s σ H R I h
  refine thn (hl pins s σ H _ I h) fun v s1 ⟨x, H1, I1, r1, q1⟩ => ?_
  obtain ⟨a, e, ⟨xs, hq⟩, q⟩ := q1
  subst e
  cases r1
  obtain ⟨its, rv, p, hz⟩ := I1.tuple hq
  refine wpAny_pyIter_tuple (show s1.heap.IsTuple a its.toArray from p) ?_
  refine ⟨s1.heap.objs.size, [s1.heap.objs.size], _, _, H1, rfl, I1.kept (t' := s1.toks) fun b o e => Heap.get?_push_of_some _ e, turn_tuple a _, ⟨_, Heap.get?_push_size _ rfl, rfl, rfl⟩, fun b hb => ?_, q⟩
  have e : b = s1.heap.objs.size := by simpa using hb
  subst e
  exact I1.fpOk (Nat.le_refl _) (I1.hok.fresh (Nat.le_refl _))
/-- a range object just made, walked -/
theorem range_it {pins : List (Addr × Obj)} {σ : St} {H : Hp} {s : Shared} {R : It → Hp → Prop} {E : Value → Shared → Prop} {lo hi : Int} {t u v : Tok} {tk : Nat} (I : Inv X pins σ H s) (h1 : -(2 ^ 62) ≤ lo) (h2 : lo < 2 ^ 62) (h3 : -(2 ^ 62) ≤ hi) (h4 : hi < 2 ^ 62)
    (q : R (Itr lo (hi - lo).toNat) H) : wpAny (model X.prog X.w) X.A (pyIter (.ref s.heap.objs.size)) (PIE X pins σ tg R) E { s with heap := s.heap.push { cls := .type "range", data := .fields #[.int lo t, .int hi u, .int 1 v] }, toks := tk } := by
  refine wpAny_pyIter_range (IsRange.new ..) (small_one h1 h2 h3 h4) ?_
  have I1 : Inv X pins σ H { s with heap := s.heap.push { cls := .type "range", data := .fields #[.int lo t, .int hi u, .int 1 v] }, toks := tk } := I.kept fun b o e => Heap.get?_push_of_some _ e
  refine ⟨(s.heap.push { cls := .type "range", data := .fields #[.int lo t, .int hi u, .int 1 v] }).objs.size, [(s.heap.push { cls := .type "range", data := .fields #[.int lo t, .int hi u, .int 1 v] }).objs.size], _, _, H, rfl,
    I1.kept (t' := tk) fun b o e => Heap.get?_push_of_some _ e, turn_range _ lo (hi - lo).toNat, ?_, fun b hb => ?_, q⟩
  · have e1 : lo + ((0 : Nat) : Int) * 1 = lo := by simp
    have e2 : (((hi - lo).toNat : Nat) : Int) - ((0 : Nat) : Int) = Builtin.Range.rangeSize lo hi 1 := by rw [rangeSize_one]; split <;> omega
    show IsRangeIter _ _ (lo + ((0 : Nat) : Int) * 1) ((((hi - lo).toNat : Nat) : Int) - ((0 : Nat) : Int)) 1
    rw [e1, e2]
    exact Heap.get?_push_size _ rfl
  · have e : b = (s.heap.push { cls := .type "range", data := .fields #[.int lo t, .int hi u, .int 1 v] }).objs.size := by simpa using hb
    subst e
    exact I1.fpOk (Nat.le_refl _) (I1.hok.fresh (Nat.le_refl _))
def iRng1 (ta : TA) : TI := fun σ H R => ta σ H fun vs H1 => ∃ j : Int, vs = [.int j] ∧ -(2 ^ 62) ≤ j ∧ j < 2 ^ 62 ∧ R (Itr 0 j.toNat) H1
def iRng2 (ta : TA) : TI := fun σ H R => ta σ H fun vs H1 => ∃ i j : Int, vs = [.int i, .int j] ∧ (-(2 ^ 62) ≤ i ∧ i < 2 ^ 62 ∧ -(2 ^ 62) ≤ j ∧ j < 2 ^ 62) ∧ R (Itr i (j - i).toNat) H1
theorem pi_range1 {a : Expr} {ta : TA} {p pos : Pos} (hg : Gl X "range") (hm : X.mg "range" = none) (ha : PA X [a] ta) (hs : starEach [a] X.env = [(false, eval a X.env)] := by rfl) : PI X tg (.Call (.Name "range" p) [a] [] pos) (iRng1 ta) := by
  intro pins s σ H R I h
  refine Call_ (ld_blt I hg hm boot_range (PyProof.Rows.callWith_type1 (thn (ha pos pins s σ H _ I h) fun us s1 ⟨vs, H1, I1, r1, q1⟩ => ?_) hs rfl))
  obtain ⟨j, e, q1, q2, q⟩ := q1
  subst e
  cases r1 with
  | cons r rr =>
    cases rr
    obtain ⟨t, rfl⟩ := r
    exact call_range_1 (range_it I1 (by omega) (by omega) q1 q2 (by simpa using q))
theorem pi_range2 {a b : Expr} {ta : TA} {p pos : Pos} (hg : Gl X "range") (hm : X.mg "range" = none) (ha : PA X [a, b] ta) (hs : starEach [a, b] X.env = [(false, eval a X.env), (false, eval b X.env)] := by rfl) (hs2 : starEach [b] X.env = [(false, eval b X.env)] := by rfl) :
    PI X tg (.Call (.Name "range" p) [a, b] [] pos) (iRng2 ta) := by
  intro pins s σ H R I h
  refine Call_ (ld_blt I hg hm boot_range (PyProof.Rows.callWith_type1 (thn (ha pos pins s σ H _ I h) fun us s1 ⟨vs, H1, I1, r1, q1⟩ => ?_) (by rw [hs, hs2]) (by rw [hs2]; rfl)))
  obtain ⟨i, j, e, ⟨q1, q2, q3, q4⟩, q⟩ := q1
  subst e
  cases r1 with
  | cons r rr =>
    cases rr with
    | cons r' rr =>
      cases rr
      obtain ⟨t, rfl⟩ := r
      obtain ⟨t', rfl⟩ := r'
      exact call_range_2 (range_it I1 q1 q2 q3 q4 q)

/-! ### for -/
/-- W: the invariant by the turn and a measure; N: what the body is to reach -/
def tFor (wi : TI) (g : TG) (tb : TS) : TS := fun D σ H => wi σ H fun J H1 => ∃ W : Nat → Nat → St → Hp → Prop, (∃ m, W 0 m σ H1) ∧ ∀ i m σ H, W i m σ H →
  (J.stop i H ∧ D.nx σ H) ∨ (J.go i H ∧ ∃ N : St → Hp → Prop, (∀ σ' H', N σ' H' → ∃ m', m' < m ∧ W (i + 1) m' σ' H') ∧ ∀ x H', J.yld i H x H' → g x σ H' fun σ2 H2 => tb { D with nx := N, ct := N, bk := D.nx } σ2 H2)
/-- the records at fp as they stand -/
def pinsAt (fp : List Addr) (h : Heap) : List (Addr × Obj) := fp.filterMap fun b => (h.get? b).map fun o => (b, o)
theorem mem_pinsAt {fp : List Addr} {h : Heap} {b : Addr} {o : Obj} (hb : b ∈ fp) (e : h.get? b = some o) : (b, o) ∈ pinsAt fp h := List.mem_filterMap.mpr ⟨b, hb, by rw [e]; rfl⟩
theorem of_pinsAt {fp : List Addr} {h : Heap} {p : Addr × Obj} (hp : p ∈ pinsAt fp h) : p.1 ∈ fp ∧ h.get? p.1 = some p.2 := by
  obtain ⟨b, hb, e⟩ := List.mem_filterMap.mp hp
  cases q : h.get? b with
  | none => rw [q] at e; cases e
  | some o =>
    rw [q] at e
    have e' : (b, o) = p := Option.some.inj e
    subst e'
    exact ⟨hb, q⟩
theorem Inv.pinned {pins : List (Addr × Obj)} {σ : St} {H : Hp} {s : Shared} {fp : List Addr} (I : Inv X pins σ H s) (hf : ∀ b ∈ fp, FpOk X pins H b) (ho : ∀ b ∈ fp, ∃ o, s.heap.get? b = some o ∧ ∀ v, o.data ≠ .cell v) : Inv X (pins ++ pinsAt fp s.heap) σ H s :=
  I.pins_of fun p hp => (List.mem_append.mp hp).elim (fun z => I.pin p (List.mem_append_right _ z)) fun z => by
    obtain ⟨hb, e⟩ := of_pinsAt z
    obtain ⟨f0, f1, f2, _⟩ := hf p.1 hb
    obtain ⟨o, e', d⟩ := ho p.1 hb
    rw [e] at e'; cases e'
    exact ⟨e, f0, f1, f2, d⟩
theorem Inv.unpinned {pins pl : List (Addr × Obj)} {σ : St} {H : Hp} {s : Shared} (I : Inv X (pins ++ pl) σ H s) : Inv X pins σ H s := I.pins_of fun p hp => I.pin p (List.mem_append_right _ (List.mem_append_left _ hp))
theorem ps_for {iter : Expr} {body : List Stmt} {wi : TI} {g : TG} {tb : TS} {pos : Pos} (hp : PassesOwn (model X.prog X.w) X.A X.env X.xe) (hc : X.calm = true) (hi : PI X tg iter wi) (hg : PG X tg g) (hb : PSs X body tb)
    (hs : ∀ x, foldedSetIterable iter X.env x = pure x := by intro _; rfl) : PS X (.For tg iter body [] pos) (tFor wi g tb) := by
  intro pins s σ H D I h
  refine wpAny_For (thn (hi pins s σ H _ I h) fun v s1 h1 => thn h1 fun itv s2 h2 => ?_) hs
  obtain ⟨it, fp, tn, J, H2, e, I2, T, st2, f2, W, ⟨m0, w0⟩, turn⟩ := h2
  subst e
  -- what stays true of the iterator's objects through the loop
  have stat : ∀ {H' : Hp}, (∀ b ∈ fp, H' b = none) → ∀ b ∈ fp, FpOk X pins H' b := fun hn b hb => ⟨hn b hb, (f2 b hb).2⟩
  refine codeAny_forLoop_any (fun n s' => ∃ i σ' H', Inv X pins σ' H' s' ∧ tn i s'.heap ∧ (∀ b ∈ fp, H' b = none) ∧ W i n σ' H') ?_ m0 ⟨0, σ, H2, I2, st2, fun b hb => (f2 b hb).1, w0⟩
  rintro n s3 ⟨i, σ3, H3, I3, st3, fr3, w3⟩
  rcases turn i n σ3 H3 w3 with ⟨stop, qn⟩ | ⟨go, N, hN, step⟩
  · refine wpAny_passesOwn hp (thn (T.done X rfl rfl rfl hc i pins s3 σ3 H3 X.xe I3 (stat fr3) st3 stop) fun r s4 ⟨hr, I4⟩ => ?_)
    subst hr
    exact wpAny_execs_nil ⟨σ3, H3, I4, qn⟩
  · refine wpAny_passesOwn hp (thn (T.item X rfl rfl rfl hc i pins s3 σ3 H3 X.xe I3 (stat fr3) st3 go) fun r s4 ⟨u, hr, h4⟩ => ?_)
    subst hr
    refine wpAny_passesOwn hp (thn h4 fun _ s5 ⟨x, H5, I5, r5, y5, st5, fr5⟩ => ?_)
    have I5' := I5.pinned (stat fr5) (T.obj _ _ st5)
    refine wpAny_passesOwn hp (thn (hg _ s5 σ3 H5 x u _ I5' r5 (step x H5 y5)) fun _ s6 ⟨σ6, H6, I6, q6⟩ => ?_)
    refine wpAny_passesOwn hp (thn (hb _ s6 σ6 H6 _ I6 q6) fun f s7 q7 => ?_)
    have again : ∀ {σ7 : St} {H7 : Hp}, Inv X (pins ++ pinsAt fp s5.heap) σ7 H7 s7 → N σ7 H7 → ∃ m, m < n ∧ ∃ i σ' H', Inv X pins σ' H' s7 ∧ tn i s7.heap ∧ (∀ b ∈ fp, H' b = none) ∧ W i m σ' H' := fun {σ7 H7} I7 n7 => by
      obtain ⟨m', hm, w7⟩ := hN σ7 H7 n7
      refine ⟨m', hm, i + 1, σ7, H7, I7.unpinned, T.keep _ _ _ st5 fun b hb o e => (I7.pin (b, o) (List.mem_append_right _ (List.mem_append_right _ (mem_pinsAt hb e)))).1, fun b hb => ?_, w7⟩
      obtain ⟨o, e, d⟩ := T.obj _ _ st5 b hb
      exact (I7.pin (b, o) (List.mem_append_right _ (List.mem_append_right _ (mem_pinsAt hb e)))).2.1
    cases f with
    | next => obtain ⟨σ7, H7, I7, n7⟩ := q7; exact again I7 n7
    | cont => obtain ⟨σ7, H7, I7, n7⟩ := q7; exact again I7 n7
    | brk => obtain ⟨σ7, H7, I7, q7⟩ := q7; exact ⟨σ7, H7, I7.unpinned, q7⟩
    | ret v => obtain ⟨x7, σ7, H7, I7, r7, q7⟩ := q7; exact ⟨x7, σ7, H7, I7.unpinned, r7, q7⟩
end

/-! ### the forms one uses -/
/-- over a list that the body leaves as it is -/
theorem for_list {K : PySem.W.Frag} {a : Addr} {xs : List V} {g : TG} {tb : TS} {D : Ends} {σ : St} {H : Hp} (Pv : Nat → St → Hp → Prop) (h0 : Pv 0 σ H) (hl : ∀ i σ H, i ≤ xs.length → Pv i σ H → SqL K H a xs)
    (hs : ∀ i x σ H, xs[i]? = some x → Pv i σ H → g x σ H fun σ2 H2 => tb { D with nx := Pv (i + 1), ct := Pv (i + 1), bk := D.nx } σ2 H2) (hd : ∀ σ H, Pv xs.length σ H → D.nx σ H) :
    ∃ W : Nat → Nat → St → Hp → Prop, (∃ m, W 0 m σ H) ∧ ∀ i m σ H, W i m σ H →
      ((Itl K a).stop i H ∧ D.nx σ H) ∨ ((Itl K a).go i H ∧ ∃ N : St → Hp → Prop, (∀ σ' H', N σ' H' → ∃ m', m' < m ∧ W (i + 1) m' σ' H') ∧ ∀ x H', (Itl K a).yld i H x H' → g x σ H' fun σ2 H2 => tb { D with nx := N, ct := N, bk := D.nx } σ2 H2) := by
  refine ⟨fun i m σ H => m = xs.length - i ∧ i ≤ xs.length ∧ Pv i σ H, ⟨xs.length, by simp, Nat.zero_le _, h0⟩, ?_⟩
  rintro i m σ H ⟨rfl, hi, p⟩
  have q := hl i σ H hi p
  by_cases hlt : i < xs.length
  · refine .inr ⟨⟨xs, xs[i], q, by simp [hlt]⟩, Pv (i + 1), fun σ' H' p' => ⟨xs.length - (i + 1), by omega, rfl, hlt, p'⟩, fun x H' y => ?_⟩
    obtain ⟨e, y⟩ := y
    subst e
    exact hs i x σ _ (y xs q) p
  · have e : i = xs.length := by omega
    subst e
    exact .inl ⟨⟨xs, q, Nat.le_refl _⟩, hd σ H p⟩
theorem for_tup {K : PySem.W.Frag} {a : Addr} {xs : List V} {g : TG} {tb : TS} {D : Ends} {σ : St} {H : Hp} (Pv : Nat → St → Hp → Prop) (h0 : Pv 0 σ H) (hl : ∀ i σ H, i ≤ xs.length → Pv i σ H → SqT K H a xs)
    (hs : ∀ i x σ H, xs[i]? = some x → Pv i σ H → g x σ H fun σ2 H2 => tb { D with nx := Pv (i + 1), ct := Pv (i + 1), bk := D.nx } σ2 H2) (hd : ∀ σ H, Pv xs.length σ H → D.nx σ H) :
    ∃ W : Nat → Nat → St → Hp → Prop, (∃ m, W 0 m σ H) ∧ ∀ i m σ H, W i m σ H →
      ((Itt K a).stop i H ∧ D.nx σ H) ∨ ((Itt K a).go i H ∧ ∃ N : St → Hp → Prop, (∀ σ' H', N σ' H' → ∃ m', m' < m ∧ W (i + 1) m' σ' H') ∧ ∀ x H', (Itt K a).yld i H x H' → g x σ H' fun σ2 H2 => tb { D with nx := N, ct := N, bk := D.nx } σ2 H2) := by
  refine ⟨fun i m σ H => m = xs.length - i ∧ i ≤ xs.length ∧ Pv i σ H, ⟨xs.length, by simp, Nat.zero_le _, h0⟩, ?_⟩
  rintro i m σ H ⟨rfl, hi, p⟩
  have q := hl i σ H hi p
  by_cases hlt : i < xs.length
  · refine .inr ⟨⟨xs, xs[i], q, by simp [hlt]⟩, Pv (i + 1), fun σ' H' p' => ⟨xs.length - (i + 1), by omega, rfl, hlt, p'⟩, fun x H' y => ?_⟩
    obtain ⟨e, y⟩ := y
    subst e
    exact hs i x σ _ (y xs q) p
  · have e : i = xs.length := by omega
    subst e
    exact .inl ⟨⟨xs, q, Nat.le_refl _⟩, hd σ H p⟩
theorem for_range {lo : Int} {n : Nat} {g : TG} {tb : TS} {D : Ends} {σ : St} {H : Hp} (Pv : Nat → St → Hp → Prop) (h0 : Pv 0 σ H)
    (hs : ∀ i σ H, i < n → Pv i σ H → g (.int (lo + i)) σ H fun σ2 H2 => tb { D with nx := Pv (i + 1), ct := Pv (i + 1), bk := D.nx } σ2 H2) (hd : ∀ σ H, Pv n σ H → D.nx σ H) :
    ∃ W : Nat → Nat → St → Hp → Prop, (∃ m, W 0 m σ H) ∧ ∀ i m σ H, W i m σ H →
      ((Itr lo n).stop i H ∧ D.nx σ H) ∨ ((Itr lo n).go i H ∧ ∃ N : St → Hp → Prop, (∀ σ' H', N σ' H' → ∃ m', m' < m ∧ W (i + 1) m' σ' H') ∧ ∀ x H', (Itr lo n).yld i H x H' → g x σ H' fun σ2 H2 => tb { D with nx := N, ct := N, bk := D.nx } σ2 H2) := by
  refine ⟨fun i m σ H => m = n - i ∧ i ≤ n ∧ Pv i σ H, ⟨n, by simp, Nat.zero_le _, h0⟩, ?_⟩
  rintro i m σ H ⟨rfl, hi, p⟩
  by_cases hlt : i < n
  · refine .inr ⟨hlt, Pv (i + 1), fun σ' H' p' => ⟨n - (i + 1), by omega, rfl, hlt, p'⟩, fun x H' y => ?_⟩
    obtain ⟨e, y⟩ := y
    subst e y
    exact hs i σ _ hlt p
  · have e : i = n := by omega
    subst e
    exact .inl ⟨Nat.le_refl _, hd σ H p⟩
end L2

namespace L2
open PySem PySem.Spec PyProof.Rows

abbrev R2 := V → V → Hp → VK → Prop
/-- a two-place operation on values: f is binaryOp op, inplaceOp op or compareOp op -/
def OpR (X : Cx) (f : Value → Value → Sem Value) (r : R2) : Prop :=
  ∀ (pins : List (Addr × Obj)) (s : Shared) (σ : St) (H : Hp) (x y : V) (v u : Value) (Q : VK), Inv X pins σ H s → RelV x v → RelV y u → r x y H Q →
    wpAny (model X.prog X.w) X.A (f v u) (EP X pins σ Q) X.xe s
/-- a one-place operation -/
def UnR (X : Cx) (f : Value → Sem Value) (r : V → Hp → VK → Prop) : Prop :=
  ∀ (pins : List (Addr × Obj)) (s : Shared) (σ : St) (H : Hp) (x : V) (v : Value) (Q : VK), Inv X pins σ H s → RelV x v → r x H Q →
    wpAny (model X.prog X.w) X.A (f v) (EP X pins σ Q) X.xe s
/-- a call of a value that is known (a builtin, a type) with values -/
def CallR (X : Cx) (f : Value) (r : List V → Hp → VK → Prop) : Prop :=
  ∀ (pins : List (Addr × Obj)) (s : Shared) (σ : St) (H : Hp) (xs : List V) (us : List Value) (Q : VK), Inv X pins σ H s → Vals xs us → r xs H Q →
    wpAny (model X.prog X.w) X.A (call f us) (EP X pins σ Q) X.xe s

def tOp (r : R2) (ta tb : TE) : TE := fun σ H Q => ta σ H fun x H1 => tb σ H1 fun y H2 => r x y H2 Q
def tUn (r : V → Hp → VK → Prop) (ta : TE) : TE := fun σ H Q => ta σ H fun x H1 => r x H1 Q
/-- ints in, under C, and a value out -/
def rI (C : Int → Int → Prop) (g : Int → Int → V) : R2 := fun x y H Q => ∃ i j, x = .int i ∧ y = .int j ∧ C i j ∧ Q (g i j) H
def rI0 (g : Int → Int → V) : R2 := fun x y H Q => ∃ i j, x = .int i ∧ y = .int j ∧ Q (g i j) H
def rU (g : Int → V) : V → Hp → VK → Prop := fun x H Q => ∃ i, x = .int i ∧ Q (g i) H

section
variable {X : Cx} {a b c : Expr} {ta tb tc : TE} {pos : Pos}

theorem binT (ha : PE X a ta) (hb : PE X b tb) {pins : List (Addr × Obj)} {s : Shared} {σ : St} {H : Hp} {R : V → V → Hp → Prop} (I : Inv X pins σ H s)
    (h : ta σ H fun x H1 => tb σ H1 fun y H2 => R x y H2) {Q : Value → Shared → Prop} {f : Value → Value → Sem Value}
    (hf : ∀ v u s2 x y H2, Inv X pins σ H2 s2 → RelV x v → RelV y u → R x y H2 → wpAny (model X.prog X.w) X.A (f v u) Q X.xe s2) :
    wpAny (model X.prog X.w) X.A (eval a X.env) (fun v s₁ => wpAny (model X.prog X.w) X.A (eval b X.env) (fun u s₂ => wpAny (model X.prog X.w) X.A (f v u) Q X.xe s₂) X.xe s₁) X.xe s := by
  refine thn (ha pins s σ H _ I h) fun v s1 ⟨x, H1, I1, r1, q1⟩ => ?_
  refine thn (hb pins s1 σ H1 _ I1 q1) fun u s2 ⟨y, H2, I2, r2, q2⟩ => ?_
  exact hf v u s2 x y H2 I2 r1 r2 q2

theorem pe_op {op : Operator} {r : R2} (ho : OpR X (binaryOp op) r) (ha : PE X a ta) (hb : PE X b tb) : PE X (.BinOp a op b pos) (tOp r ta tb) := by
  intro pins s σ H Q I h
  exact wpAny_BinOp (binT ha hb I h fun v u s2 x y H2 I2 rx ry q => ho pins s2 σ H2 x y v u Q I2 rx ry q)
theorem pe_un {op : UnaryOp} {r : V → Hp → VK → Prop} (ho : UnR X (unaryOp op) r) (ha : PE X a ta) : PE X (.UnaryOp op a pos) (tUn r ta) := by
  intro pins s σ H Q I h
  exact UnaryOp_ (thn (ha pins s σ H _ I h) fun v s1 ⟨x, H1, I1, r1, q1⟩ => ho pins s1 σ H1 x v Q I1 r1 q1)

/-! ### ints -/
theorem opI {f : Value → Value → Sem Value} {C : Int → Int → Prop} {g : Int → Int → Int}
    (rule : ∀ (i j : Int) (t u : Tok) (s : Shared) (Q : Value → Shared → Prop) (E : Value → Shared → Prop), C i j → Q (.int (g i j) s.toks) { s with toks := s.toks + 1 } → wpAny (model X.prog X.w) X.A (f (.int i t) (.int j u)) Q E s) :
    OpR X f (rI C fun i j => .int (g i j)) := by
  intro pins s σ H x y v u Q I rx ry h
  obtain ⟨i, j, rfl, rfl, hc, q⟩ := h
  obtain ⟨t, rfl⟩ := rx
  obtain ⟨t', rfl⟩ := ry
  exact rule i j t t' s _ _ hc ⟨.int (g i j), H, I.tok _, ⟨_, rfl⟩, q⟩
theorem opI0 {f : Value → Value → Sem Value} {g : Int → Int → Int}
    (rule : ∀ (i j : Int) (t u : Tok) (s : Shared) (Q : Value → Shared → Prop) (E : Value → Shared → Prop), Q (.int (g i j) s.toks) { s with toks := s.toks + 1 } → wpAny (model X.prog X.w) X.A (f (.int i t) (.int j u)) Q E s) :
    OpR X f (rI0 fun i j => .int (g i j)) := by
  intro pins s σ H x y v u Q I rx ry h
  obtain ⟨i, j, rfl, rfl, q⟩ := h
  obtain ⟨t, rfl⟩ := rx
  obtain ⟨t', rfl⟩ := ry
  exact rule i j t t' s _ _ ⟨.int (g i j), H, I.tok _, ⟨_, rfl⟩, q⟩
theorem opB0 {f : Value → Value → Sem Value} {g : Int → Int → Bool}
    (rule : ∀ (i j : Int) (t u : Tok) (s : Shared) (Q : Value → Shared → Prop) (E : Value → Shared → Prop), Q (.bool (g i j)) s → wpAny (model X.prog X.w) X.A (f (.int i t) (.int j u)) Q E s) :
    OpR X f (rI0 fun i j => .bl (g i j)) := by
  intro pins s σ H x y v u Q I rx ry h
  obtain ⟨i, j, rfl, rfl, q⟩ := h
  obtain ⟨t, rfl⟩ := rx
  obtain ⟨t', rfl⟩ := ry
  exact rule i j t t' s _ _ ⟨.bl (g i j), H, I, rfl, q⟩

def CDiv (i j : Int) : Prop := 0 < j ∧ j < 1073741824
def CMul (i j : Int) : Prop := (-(2 ^ 64) < i ∧ i < 2 ^ 64) ∨ (-(2 ^ 64) < j ∧ j < 2 ^ 64)
theorem CMul.ok {i j : Int} (h : CMul i j) : IntMulOk i j := by
  rcases h with ⟨h1, h2⟩ | ⟨h1, h2⟩
  · exact .of_left (intBits_le_64 h1 h2)
  · exact .of_right (intBits_le_64 h1 h2)

theorem op_add : OpR X (binaryOp .Add) (rI0 fun i j => .int (i + j)) := opI0 fun _ _ _ _ _ _ _ q => add_int q
theorem op_sub : OpR X (binaryOp .Sub) (rI0 fun i j => .int (i - j)) := opI0 fun _ _ _ _ _ _ _ q => sub_int q
theorem op_mul : OpR X (binaryOp .Mult) (rI CMul fun i j => .int (i * j)) := opI fun _ _ _ _ _ _ _ hc q => mul_int q hc.ok
/-- // by a positive divisor -/
theorem op_fdiv : OpR X (binaryOp .FloorDiv) (rI CDiv fun i j => .int (i / j)) := opI fun i j _ _ _ _ _ hc q => by
  have h1 : (0 : Int) < j := hc.1
  have h2 : j < 1073741824 := hc.2
  exact floordiv_int (by omega) (by rw [Int.fdiv_eq_ediv_of_nonneg i (by omega)]; exact q) (.inl (PyProof.noPylong_small (by omega)))
/-- % by a positive divisor of any size -/
theorem op_mod : OpR X (binaryOp .Mod) (rI (fun _ j => 0 < j) fun i j => .int (i % j)) := opI fun i j _ _ _ _ _ hc q => by
  have h1 : (0 : Int) < j := hc
  exact mod_int' (by omega) (by rw [Int.fmod_eq_emod_of_nonneg i (by omega)]; exact q)


theorem unI {f : Value → Sem Value} {g : Int → Int}
    (rule : ∀ (i : Int) (t : Tok) (s : Shared) (Q : Value → Shared → Prop) (E : Value → Shared → Prop), Q (.int (g i) s.toks) { s with toks := s.toks + 1 } → wpAny (model X.prog X.w) X.A (f (.int i t)) Q E s) :
    UnR X f (rU fun i => .int (g i)) := by
  intro pins s σ H x v Q I rx h
  obtain ⟨i, rfl, q⟩ := h
  obtain ⟨t, rfl⟩ := rx
  exact rule i t s _ _ ⟨.int (g i), H, I.tok _, ⟨_, rfl⟩, q⟩
theorem un_neg : UnR X (unaryOp .USub) (rU fun i => .int (-i)) := unI fun _ _ _ _ _ q => neg_int q

/-! ### bools among ints: n += (a < b) -/
end

/-! ### comparisons -/
/-- the scalars that == tells apart as data does -/
def scal : V → V → Bool
  | .non, .non => true | .non, .int _ => true | .int _, .non => true | .non, .bl _ => true | .bl _, .non => true | .non, .str _ => true | .str _, .non => true
  | .int _, .int _ => true | .bl _, .bl _ => true | .str _, .str _ => true | .byt _, .byt _ => true
  | .int _, .str _ => true | .str _, .int _ => true | .bl _, .str _ => true | .str _, .bl _ => true
  | _, _ => false
def rEq : R2 := fun x y H Q => scal x y = true ∧ Q (.bl (decide (x = y))) H
def rNe : R2 := fun x y H Q => scal x y = true ∧ Q (.bl (!decide (x = y))) H

theorem dec_int {i j : Int} : decide (V.int i = V.int j) = (i == j) := by
  rw [Bool.eq_iff_iff]
  simp
theorem dec_bl {i j : Bool} : decide (V.bl i = V.bl j) = (i == j) := by
  rw [Bool.eq_iff_iff]
  simp
theorem dec_str {i j : Str} : decide (V.str i = V.str j) = (i == j) := by
  rw [Bool.eq_iff_iff]
  simp
theorem dec_byt {i j : Array UInt8} : decide (V.byt i = V.byt j) = (i.toList == j.toList) := by
  rw [Bool.eq_iff_iff]
  cases i
  cases j
  simp

section
variable {X : Cx} {a b c : Expr} {ta tb tc : TE} {pos : Pos}
theorem fin_bl {pins : List (Addr × Obj)} {σ : St} {H : Hp} {s : Shared} {Q : VK} {k k' : Bool} (I : Inv X pins σ H s) (q : Q (.bl k) H) (e : k = k') : EP X pins σ Q (.bool k') s := by
  subst e
  exact ⟨.bl k, H, I, rfl, q⟩
theorem op_eq : OpR X (compareOp .Eq) rEq := by
  intro pins s σ H x y v u Q I rx ry h
  obtain ⟨hs, q⟩ := h
  cases x with
  | non =>
    cases rx
    cases y with
    | non => cases ry; exact PySem.EqNone.eq_none_none (fin_bl I q (by simp))
    | bl j => cases ry; exact PySem.EqNone.eq_none_bool (fin_bl I q (by simp))
    | int j => obtain ⟨t', rfl⟩ := ry; exact PySem.EqNone.eq_none_int (fin_bl I q (by simp))
    | str j => obtain ⟨t', rfl⟩ := ry; exact PySem.EqNone.eq_none_str (fin_bl I q (by simp))
    | _ => exact absurd (show false = true from hs) Bool.false_ne_true
  | bl i =>
    cases rx
    cases y with
    | non => cases ry; exact PySem.EqNone.eq_bool_none (fin_bl I q (by simp))
    | bl j => cases ry; exact eq_bool (fin_bl I q dec_bl)
    | str j => obtain ⟨t', rfl⟩ := ry; exact PySem.EqMixed.eq_bool_str (fin_bl I q (by simp))
    | _ => exact absurd (show false = true from hs) Bool.false_ne_true
  | int i =>
    obtain ⟨t, rfl⟩ := rx
    cases y with
    | non => cases ry; exact PySem.EqNone.eq_int_none (fin_bl I q (by simp))
    | int j => obtain ⟨t', rfl⟩ := ry; exact eq_int (fin_bl I q dec_int)
    | str j => obtain ⟨t', rfl⟩ := ry; exact PySem.EqMixed.eq_int_str (fin_bl I q (by simp))
    | _ => exact absurd (show false = true from hs) Bool.false_ne_true
  | str i =>
    obtain ⟨t, rfl⟩ := rx
    cases y with
    | non => cases ry; exact PySem.EqNone.eq_str_none (fin_bl I q (by simp))
    | bl j => cases ry; exact PySem.EqMixed.eq_str_bool (fin_bl I q (by simp))
    | int j => obtain ⟨t', rfl⟩ := ry; exact PySem.EqMixed.eq_str_int (fin_bl I q (by simp))
    | str j => obtain ⟨t', rfl⟩ := ry; exact eq_str (fin_bl I q dec_str)
    | _ => exact absurd (show false = true from hs) Bool.false_ne_true
  | byt i =>
    obtain ⟨t, rfl⟩ := rx
    cases y with
    | byt j => obtain ⟨t', rfl⟩ := ry; exact PySem.W.eq_bytes (fin_bl I q dec_byt)
    | _ => exact absurd (show false = true from hs) Bool.false_ne_true
  | _ => cases y <;> exact absurd (show false = true from hs) Bool.false_ne_true
theorem op_ne : OpR X (compareOp .NotEq) rNe := by
  intro pins s σ H x y v u Q I rx ry h
  obtain ⟨hs, q⟩ := h
  cases x with
  | non =>
    cases rx
    cases y with
    | non => cases ry; exact PySem.EqNone.ne_none_none (fin_bl I q (by simp))
    | bl j => cases ry; exact PySem.EqNone.ne_none_bool (fin_bl I q (by simp))
    | int j => obtain ⟨t', rfl⟩ := ry; exact PySem.EqNone.ne_none_int (fin_bl I q (by simp))
    | str j => obtain ⟨t', rfl⟩ := ry; exact PySem.EqNone.ne_none_str (fin_bl I q (by simp))
    | _ => exact absurd (show false = true from hs) Bool.false_ne_true
  | bl i =>
    cases rx
    cases y with
    | non => cases ry; exact PySem.EqNone.ne_bool_none (fin_bl I q (by simp))
    | bl j => cases ry; exact ne_bool (fin_bl I q (congrArg not dec_bl))
    | str j => obtain ⟨t', rfl⟩ := ry; exact PySem.EqMixed.ne_bool_str (fin_bl I q (by simp))
    | _ => exact absurd (show false = true from hs) Bool.false_ne_true
  | int i =>
    obtain ⟨t, rfl⟩ := rx
    cases y with
    | non => cases ry; exact PySem.EqNone.ne_int_none (fin_bl I q (by simp))
    | int j => obtain ⟨t', rfl⟩ := ry; exact ne_int (fin_bl I q (congrArg not dec_int))
    | str j => obtain ⟨t', rfl⟩ := ry; exact PySem.EqMixed.ne_int_str (fin_bl I q (by simp))
    | _ => exact absurd (show false = true from hs) Bool.false_ne_true
  | str i =>
    obtain ⟨t, rfl⟩ := rx
    cases y with
    | non => cases ry; exact PySem.EqNone.ne_str_none (fin_bl I q (by simp))
    | bl j => cases ry; exact PySem.EqMixed.ne_str_bool (fin_bl I q (by simp))
    | int j => obtain ⟨t', rfl⟩ := ry; exact PySem.EqMixed.ne_str_int (fin_bl I q (by simp))
    | str j => obtain ⟨t', rfl⟩ := ry; exact ne_str (fin_bl I q (congrArg not dec_str))
    | _ => exact absurd (show false = true from hs) Bool.false_ne_true
  | byt i =>
    obtain ⟨t, rfl⟩ := rx
    cases y with
    | byt j => obtain ⟨t', rfl⟩ := ry; exact PySem.W.ne_bytes (fin_bl I q (congrArg not dec_byt))
    | _ => exact absurd (show false = true from hs) Bool.false_ne_true
  | _ => cases y <;> exact absurd (show false = true from hs) Bool.false_ne_true

theorem op_lt : OpR X (compareOp .Lt) (rI0 fun i j => .bl (decide (i < j))) := opB0 fun _ _ _ _ _ _ _ q => lt_int q
theorem op_le : OpR X (compareOp .LtE) (rI0 fun i j => .bl (decide (i ≤ j))) := opB0 fun _ _ _ _ _ _ _ q => le_int q
theorem op_gt : OpR X (compareOp .Gt) (rI0 fun i j => .bl (decide (j < i))) := opB0 fun _ _ _ _ _ _ _ q => gt_int q




theorem nomark (b : Expr) {op : CmpOp} (h : op ≠ .In := by decide) (h2 : op ≠ .NotIn := by decide) : behindInMarks op b = false := by
  have e1 : (op == CmpOp.In) = false := by cases op <;> first | rfl | exact absurd rfl h
  have e2 : (op == CmpOp.NotIn) = false := by cases op <;> first | rfl | exact absurd rfl h2
  cases b <;> simp [behindInMarks, e1, e2]
/-- a comparison as a value; hm: nomark b, or (for in, not in) by with_unfolding_all rfl -/
theorem pe_cmpR {op : CmpOp} {r : R2} (ho : OpR X (compareOp op) r) (ha : PE X a ta) (hb : PE X b tb) (hm : behindInMarks op b = false) : PE X (.Compare a [op] [b] pos) (tOp r ta tb) := by
  intro pins s σ H Q I h
  exact wpAny_Compare1 (binT ha hb I h fun v u s2 x y H2 I2 rx ry q => ho pins s2 σ H2 x y v u Q I2 rx ry q) hm
/-- a reading of a value as a test -/
def tTest (t : TE) : TT := fun σ H Q => t σ H fun x H' => ∃ k, x = .bl k ∧ Q k H'
theorem pt_cmpR {op : CmpOp} {r : R2} (ho : OpR X (compareOp op) r) (ha : PE X a ta) (hb : PE X b tb) (hm : behindInMarks op b = false) : PT X (.Compare a [op] [b] pos) (tTest (tOp r ta tb)) := by
  intro pins s σ H Q I h
  refine wpAny_isTrue_Compare1 (thn (ha pins s σ H _ I h) fun v s1 ⟨x, H1, I1, r1, q1⟩ => thn (hb pins s1 σ H1 _ I1 q1) fun u s2 ⟨y, H2, I2, r2, q2⟩ =>
    thn (ho pins s2 σ H2 x y v u _ I2 r1 r2 q2) fun c s3 ⟨z, H3, I3, r3, k, e, q3⟩ => ?_) hm
  subst e
  cases r3
  exact wpAny_truthy_bool ⟨H3, I3, q3⟩
/-- a op1 b op2 c -/
def tChain (r r' : R2) (ta tb tc : TE) : TE := fun σ H Q => ta σ H fun x H1 => tb σ H1 fun y H2 => r x y H2 fun z H3 => ∃ k, z = .bl k ∧
  (if k = true then tc σ H3 fun w' H4 => r' y w' H4 Q else Q (.bl false) H3)
theorem pt_chain {op op' : CmpOp} {r r' : R2} (ho : OpR X (compareOp op) r) (ho' : OpR X (compareOp op') r') (ha : PE X a ta) (hb : PE X b tb) (hc : PE X c tc)
    (hm : lastMarks [op, op'] [b, c] = false := by with_unfolding_all rfl) : PT X (.Compare a [op, op'] [b, c] pos) (tTest (tChain r r' ta tb tc)) := by
  intro pins s σ H Q I h
  refine isTrue_chain (thn (ha pins s σ H _ I h) fun v s1 ⟨x, H1, I1, r1, q1⟩ => test_link (thn (hb pins s1 σ H1 _ I1 q1) fun u s2 ⟨y, H2, I2, r2, q2⟩ =>
    thn (ho pins s2 σ H2 x y v u _ I2 r1 r2 q2) fun d s3 ⟨z, H3, I3, r3, k, e, q3⟩ => ?_)) hm
  subst e
  cases r3
  refine wpAny_truthy_bool ?_
  cases k with
  | false =>
    obtain ⟨k', e', q'⟩ := q3
    cases e'
    exact ite_ff ⟨H3, I3, q'⟩
  | true =>
    refine ite_tt (test_last (thn (hc pins s3 σ H3 _ I3 q3) fun w' s4 ⟨z', H4, I4, r4, q4⟩ => thn (ho' pins s4 σ H4 y z' u w' _ I4 r2 r4 q4) fun d' s5 ⟨z2, H5, I5, r5, k2, e2, q5⟩ => ?_))
    subst e2
    cases r5
    exact wpAny_truthy_bool ⟨H5, I5, q5⟩

/-! ### truth -/
theorem line63 : (sizeLine : Nat) < 2 ^ 63 := by rw [sizeLine_eq]; decide

/-! ### strs and bytes -/


/-! ### scalar builtins, by CallR -/
theorem vals1 {x : V} {us : List Value} (r : Vals [x] us) : ∃ u, us = [u] ∧ RelV x u := by
  cases r with
  | cons r1 r2 => cases r2; exact ⟨_, rfl, r1⟩
theorem vals2 {x y : V} {us : List Value} (r : Vals [x, y] us) : ∃ u w', us = [u, w'] ∧ RelV x u ∧ RelV y w' := by
  cases r with
  | cons r1 r2 =>
    cases r2 with
    | cons r3 r4 => cases r4; exact ⟨_, _, rfl, r1, r3⟩
theorem call_min2 (hc : X.calm = true) : CallR X (.builtin "min") (fun xs H Q => ∃ i j, xs = [.int i, .int j] ∧ Q (.int (if j < i then j else i)) H) := by
  intro pins s σ H xs us Q I r h
  obtain ⟨i, j, rfl, q⟩ := h
  obtain ⟨u, w', rfl, ⟨t, rfl⟩, ⟨t', rfl⟩⟩ := vals2 r
  refine min_two_ints (I.ok.hd hc) fun h' tk k => ⟨_, H, I.kept k, ?_, q⟩
  by_cases hj : j < i
  · rw [if_pos hj, if_pos hj]; exact ⟨_, rfl⟩
  · rw [if_neg hj, if_neg hj]; exact ⟨_, rfl⟩
theorem call_int1 : CallR X (.type "int") (fun xs H Q => (∃ i, xs = [.int i] ∧ Q (.int i) H) ∨ ∃ k, xs = [.bl k] ∧ Q (.int (if k then 1 else 0)) H) := by
  intro pins s σ H xs us Q I r h
  rcases h with ⟨i, rfl, q⟩ | ⟨k, rfl, q⟩
  · obtain ⟨u, rfl, t, rfl⟩ := vals1 r
    exact call_int_int ⟨.int i, H, I, ⟨_, rfl⟩, q⟩
  · obtain ⟨u, rfl, r1⟩ := vals1 r
    cases r1
    exact call_int_bool ⟨.int (if k then 1 else 0), H, I.tok _, ⟨_, rfl⟩, q⟩
end
end L2

namespace L2
open PySem PySem.Spec PyProof.Rows

/-! ### an instance, its attributes a map -/



section
variable {prog : Program} {w : World} {A : Around} {E : Value → Shared → Prop} {s : Shared} {K : PySem.W.Frag} {x dx C f : Addr} {mA : Str → Option Value} {name : Str} {v : Value}





end

/-! ### the attributes as a list of pairs -/


section
variable {P : Program} {w : World} {H H' : Hp} {h h' : Heap} {a C dx : Addr} {fs fs' : List (Str × V)}
end

/-! ### what of the text a class must have -/

section
variable {X : Cx} {pins : List (Addr × Obj)} {σ : St} {H : Hp} {s : Shared} {a C dx : Addr} {fs : List (Str × V)} {f : Str} {v : V} {A : Around} {E : Value → Shared → Prop}






end

/-! ### readings and rules -/

section
variable {X : Cx} {o e value : Expr} {f : Str} {pos pos' tpos : Pos} {ta tv : TE}

end

/-! ### isinstance -/
section
variable {X : Cx} {pins : List (Addr × Obj)} {σ : St} {H : Hp} {s : Shared} {A : Around} {E : Value → Shared → Prop} {Q : Value → Shared → Prop} {c : Value} {b : Bool}
end
end L2

namespace L2
open PySem PySem.Spec PyProof.Rows

/-! ### room -/
structure Room (k : Nat) (A : Around) : Prop where
  hd : A.handled = none
  dp : A.depth + 3 * k + 5 < recursionLimit
  un : A.units + 16 * k + 200 < cLine
theorem Room.mono {j k : Nat} {A : Around} (r : Room k A) (h : j ≤ k) : Room j A := ⟨r.hd, by have := r.dp; omega, by have := r.un; omega⟩
theorem Room.deeper {k : Nat} {A : Around} (r : Room (k + 1) A) (env : Env) : Room k (A.deeper env) :=
  ⟨r.hd, by have := r.dp; show A.depth + 1 + 3 * k + 5 < _; omega, by have := r.un; show A.units + 3 + 16 * k + 200 < _; omega⟩
theorem Room.depth {k : Nat} {A : Around} (r : Room k A) : A.depth < recursionLimit := by have := r.dp; omega

/-! ### argument lists and displays -/
def tNil : TA := fun _ H Q => Q [] H
def tCons (ta : TE) (tr : TA) : TA := fun σ H Q => ta σ H fun x H1 => tr σ H1 fun xs H2 => Q (x :: xs) H2
section
variable {X : Cx} {e : Expr} {es : List Expr} {te : TE} {t : TA} {pos : Pos}
theorem pa_nil : PA X [] tNil := fun _ _ _ _ H Q I h => Calls.spliced_nil ⟨[], H, I, .nil, h⟩
theorem pa_cons (ha : PE X e te) (hr : PA X es t) (hs : starEach (e :: es) X.env = (false, eval e X.env) :: starEach es X.env := by rfl) : PA X (e :: es) (tCons te t) := by
  intro pos pins s σ H Q I h
  rw [hs]
  show wpAny _ _ (spliced ((false, eval e X.env) :: backTo pos (starEach es X.env))) _ _ s
  refine Calls.spliced_cons (thn (ha pins s σ H _ I h) fun u s1 ⟨x, H1, I1, r1, q1⟩ => ?_)
  exact thn (hr pos pins s1 σ H1 _ I1 q1) fun us s2 ⟨xs, H2, I2, r2, q2⟩ => ⟨x :: xs, H2, I2, .cons r1 r2, q2⟩

/-- a tuple, a list of written items -/
def tTup (t : TA) : TE := fun σ H Q => t σ H fun xs H1 => xs.length ≤ sizeLine ∧ ∀ p, H1 p = none → Q (.ref p) (upd H1 p (.tup xs))
def tLst (t : TA) : TE := fun σ H Q => t σ H fun xs H1 => xs.length ≤ sizeLine ∧ ∀ p, H1 p = none → Q (.ref p) (upd H1 p (.lst xs))
theorem pe_tup {x1} (h : PA X es t) : PE X (.Tuple es x1 pos) (tTup t) := by
  intro pins s σ H Q I hq
  refine wpAny_Tuple_spliced (thn (h pos pins s σ H _ I hq) fun us s1 ⟨xs, H1, I1, r, z, q⟩ => ⟨by rw [← r.length]; exact z, ?_⟩)
  have hf : H1 s1.heap.objs.size = none := I1.hok.fresh (Nat.le_refl _)
  refine ⟨.ref s1.heap.objs.size, upd H1 s1.heap.objs.size (.tup xs), I1.laid (t' := s1.toks) (fun b u e => Heap.get?_push_of_some _ e) (Nat.le_refl _) ?_, rfl, q _ hf⟩
  exact ⟨z, us, r, ⟨_, Heap.get?_push_size _ rfl, rfl, _, rfl⟩⟩
theorem pe_lst (h : PA X es t) : PE X (.List es pos) (tLst t) := by
  intro pins s σ H Q I hq
  refine wpAny_List_spliced (thn (h pos pins s σ H _ I hq) fun us s1 ⟨xs, H1, I1, r, z, q⟩ => ⟨by rw [← r.length]; exact z, ?_⟩)
  have hf : H1 s1.heap.objs.size = none := I1.hok.fresh (Nat.le_refl _)
  refine ⟨.ref s1.heap.objs.size, upd H1 s1.heap.objs.size (.lst xs), I1.laid (t' := s1.toks) (fun b u e => Heap.get?_push_of_some _ e) (Nat.le_refl _) ?_, rfl, q _ hf⟩
  exact ⟨z, us, 0, r, Heap.get?_push_size _ rfl⟩
end

/-! ### what a def promises -/
/-- a def's promise: the bound arguments in the parameters' order, the heap, the wanted end, the wanted exception -/
abbrev Sp := List V → Hp → VK → XK → Prop
/-- how an exception lies behind a call (file 08 gives it): the callers' frames, abstract heap and state ahead of the call, the wish, the exception, the state -/
abbrev CXT := List Env → Hp → Shared → XK → Value → Shared → Prop

/-- the state at a call -/
structure Env0 (P : Program) (w : World) (K : PySem.W.Frag) (mg : Str → Option Value) (base : Heap) (A : Around) (outer : List Env) (s : Shared) (H : Hp) : Prop where
  frames : A.frames = some outer
  mod : Mod K mg base
  bs : ∀ b o, base.get? b = some o → s.heap.get? b = some o ∧ H b = none
  bsz : base.objs.size ≤ s.heap.objs.size
  funs : s.heap.FunFrames base outer
  frf : ∀ b ∈ frs outer, H b = none
  hok : HOk P w H s.heap
  bare : AllBare s.gens
/-- a call's end -/
def CE (outer : List Env) (P : Program) (w : World) (H : Hp) (s : Shared) (Q : VK) (u : Value) (s' : Shared) : Prop :=
  ∃ v H', s'.os = s.os ∧ AllBare s'.gens ∧ Un (frs outer) [] H H' s.heap s'.heap ∧ HOk P w H' s'.heap ∧ RelV v u ∧ Q v H'
def CR (CX : CXT) (outer : List Env) (P : Program) (w : World) (H : Hp) (s : Shared) (Q : VK) (E : XK) (r : Result) (s' : Shared) : Prop :=
  match r with
  | .ok (.ret u) => CE outer P w H s Q u s'
  | .ok _ => False
  | .error e => CX outer H s E e s'
structure FnOk (P : Program) (w : World) (K : PySem.W.Frag) (mg : Str → Option Value) (base : Heap) (CX : CXT) (k : Nat) (f : Addr) (fd : FuncData) (ps : List Str) (sp : Sp) : Prop where
  len : ∀ vs H Q E, sp vs H Q E → vs.length = ps.length
  run : ∀ (A : Around) (outer : List Env) (s : Shared) (H : Hp) (args : Args) (us : List Value) (vs : List V) (Q : VK) (E : XK), Room k A → Env0 P w K mg base A outer s H → BindsTo s fd args (ps.zip us) → Vals vs us → sp vs H Q E →
    codeAny (model P w) A (.call (.ref f) args) (CR CX outer P w H s Q E) s
theorem FnOk.mono {P : Program} {w : World} {K : PySem.W.Frag} {mg : Str → Option Value} {base : Heap} {CX : CXT} {j k : Nat} {f : Addr} {fd : FuncData} {ps : List Str} {sp : Sp} (F : FnOk P w K mg base CX j f fd ps sp) (h : j ≤ k) :
    FnOk P w K mg base CX k f fd ps sp := ⟨F.len, fun A outer s H args us vs Q E hr => F.run A outer s H args us vs Q E (hr.mono h)⟩


section
variable {X : Cx} {pins : List (Addr × Obj)} {σ : St} {H : Hp} {s s' : Shared}
/-- from a body: what a callee wants -/
theorem Inv.env0 (I : Inv X pins σ H s) : Env0 X.prog X.w X.K X.mg X.base X.A X.stack s H :=
  ⟨I.ok.frames, I.ok.mod, I.bs, Nat.le_trans I.ok.bsz I.sz, I.stack, I.stkFree, I.hok, I.bare⟩
/-- behind a call -/
theorem Inv.after {Q : VK} {u : Value} (I : Inv X pins σ H s) (h : CE X.stack X.prog X.w H s Q u s') : EP X pins σ Q u s' := by
  obtain ⟨v, H', os, bare, un, hok, r, q⟩ := h
  obtain ⟨hh, g, d, t, os'⟩ := s'
  obtain rfl : os' = s.os := os
  exact ⟨v, H', I.call (h' := hh) (g' := g) (d' := d) (t' := t) (ch := []) un hok bare (fun b z => absurd z (by simp)), r, q⟩
end

/-! ### calls -/
/-- f(..): the written arguments, then the defaults dvs; E: what is wanted of an exception -/
def tCall (sp : Sp) (dvs : List V) (E : XK) (t : TA) : TE := fun σ H Q => t σ H fun vs H1 => sp (vs ++ dvs) H1 Q E

/-- how the parameters are bound: us the positional arguments, kw the keywords' values by name, ds the defaults that fill up -/
def Binds (K : PySem.W.Frag) (fd : FuncData) (ps : List Str) (ds : List Value) : Prop :=
  ∀ (s : Shared) (us : List Value), K.In s.heap → (us ++ ds).length = ps.length → BindsTo s fd ⟨us, []⟩ (ps.zip (us ++ ds))
/-- every parameter is given -/
theorem Binds.all {K : PySem.W.Frag} {fd : FuncData} {ps : List Str} (h : ∀ us : List Value, us.length = ps.length → bindArgs fd ⟨us, []⟩ = pure (ps.zip us)) : Binds K fd ps [] := fun s us _ hl => by
  rw [List.append_nil] at hl ⊢
  exact .of_eq (h us hl)

/-- an exception of a callee reaches what this body wants of exceptions -/
def Passes (CX : CXT) (X : Cx) (E : XK) : Prop := ∀ (pins : List (Addr × Obj)) (σ : St) (H : Hp) (s : Shared) (e : Value) (s' : Shared), Inv X pins σ H s → CX X.stack H s E e s' → X.xe e s'

section
variable {X : Cx} {CX : CXT} {k : Nat} {f C : Addr} {fd : FuncData} {ps : List Str} {sp : Sp} {dvs : List V} {ds : List Value} {E : XK} {x m : Str} {p pos apos : Pos} {e o : Expr} {es : List Expr} {ta : TE} {t : TA}

/-- the callee runs -/
theorem run_fn {pins : List (Addr × Obj)} {σ : St} {H : Hp} {s : Shared} {Q : VK} {us : List Value} {vs : List V} (F : FnOk X.prog X.w X.K X.mg X.base CX k f fd ps sp) (hr : Room k X.A) (hb : Binds X.K fd ps ds) (hd : Vals dvs ds) (hx : Passes CX X E)
    (I : Inv X pins σ H s) (r : Vals vs us) (h : sp (vs ++ dvs) H Q E) : wpAny (model X.prog X.w) X.A (call (.ref f) us) (EP X pins σ Q) X.xe s := by
  have r2 : Vals (vs ++ dvs) (us ++ ds) := r.append hd
  have hl : (us ++ ds).length = ps.length := by rw [← r2.length]; exact F.len _ _ _ _ h
  refine wpAny_call (codeAny_mono (F.run X.A X.stack s H ⟨us, []⟩ (us ++ ds) (vs ++ dvs) Q E hr I.env0 (hb s us I.kIn hl) r2 h) fun r s' hq => ?_)
  cases r with
  | error e => exact hx pins σ H s e s' I hq
  | ok fl =>
    cases fl with
    | ret u => exact I.after hq
    | next => exact False.elim hq
    | brk => exact False.elim hq
    | cont => exact False.elim hq

theorem pe_call (F : FnOk X.prog X.w X.K X.mg X.base CX k f fd ps sp) (hr : Room k X.A) (hg : Gl X x) (hm : X.mg x = some (.ref f)) (hk : PySem.W.keepIn X.K (.ref f) = true) (hb : Binds X.K fd ps ds) (hd : Vals dvs ds) (hx : Passes CX X E)
    (ha : PA X (e :: es) t) (hdb : (x == ("__debug__" : Str)) = false := by decide) (he : starEach (e :: es) X.env = (false, eval e X.env) :: starEach es X.env := by rfl) (hpl : (backTo pos (starEach es X.env)).any (·.1) = false := by rfl) :
    PE X (.Call (.Name x p) (e :: es) [] pos) (tCall sp dvs E t) := by
  intro pins s σ H Q I h
  refine wpAny_Call_Name_kw (ld_glob I hg hm ?_ hdb)
  refine PySem.W.callWith_K (h₀ := X.base) I.ok.mod.kin hk (thn (ha pos pins s σ H _ I h) fun us s1 ⟨vs, H1, I1, r, q⟩ => ⟨I1.kIn, ?_⟩) he hpl
  exact run_fn F hr hb hd hx I1 r q



end

/-! ### keywords -/
/-- the values of the keywords, from the left -/
def PK (X : Cx) (kws : List Keyword) (t : TA) : Prop :=
  ∀ (pos : Pos) (pins : List (Addr × Obj)) (s : Shared) (σ : St) (H : Hp) (Q : List V → Hp → Prop), Inv X pins σ H s → t σ H Q → wpAny (model X.prog X.w) X.A (evalAll ((backToKw pos (keywordEach kws X.env)).map (·.2))) (AP X pins σ Q) X.xe s
section
variable {X : Cx} {CX : CXT} {k : Nat} {f C : Addr} {fd : FuncData} {ps ks : List Str} {sp : Sp} {E : XK} {x m : Str} {p pos apos kpos : Pos} {e o : Expr} {es : List Expr} {kws : List Keyword} {te ta : TE} {t tk : TA} {nm : Option Str}
theorem pk_nil : PK X [] tNil := fun _ _ _ _ H Q I h => wpAny_evalAll_nil ⟨[], H, I, .nil, h⟩
theorem pk_cons (ha : PE X e te) (hr : PK X kws t) : PK X (⟨nm, e, kpos⟩ :: kws) (tCons te t) := by
  intro pos pins s σ H Q I h
  show wpAny _ _ (evalAll ((do let v ← eval e X.env; standAt pos; pure v) :: (backToKw pos (keywordEach kws X.env)).map (·.2))) _ _ s
  refine wpAny_evalAll_cons (wpAny_bind (thn (ha pins s σ H _ I h) fun u s1 ⟨x, H1, I1, r1, q1⟩ => wpAny_bind (wpAny_standAt (wpAny_pure ?_))))
  exact thn (hr pos pins s1 σ H1 _ I1 q1) fun us s2 ⟨xs, H2, I2, r2, q2⟩ => ⟨x :: xs, H2, I2, .cons r1 r2, q2⟩

variable {g : List Value → List Value → List Value} {gV : List V → List V → List V}
end

/-! ### a def's body keeps its promise -/
/-- names: the parameters first -/
structure FnScope (N P : List Str) (sc : Scope) : Prop where
  kind : sc.kind = .function
  co : sc.isCoroutine = false
  gen : sc.isGenerator = false
  nd : N.Nodup
  pre : N.take P.length = P
  par : ∀ x ∈ P, sc.names.lookup x = some .local ∨ sc.names.lookup x = some .cell
  nofree : ∀ y ∈ sc.names, y.2 ≠ .free

theorem bindL_out {kindOf : Str → Option NameKind} {x : Str} : ∀ {binds : List (Str × Value)} {m : Str → Option Value}, (∀ v, (x, v) ∉ binds) → bindL kindOf binds m x = m x
  | [], _, _ => rfl
  | (n, v) :: r, m, h => by
    unfold bindL
    rw [bindL_out fun w hw => h w (List.mem_cons_of_mem _ hw)]
    split
    · have : x ≠ n := by rintro rfl; exact h v List.mem_cons_self
      simp [this]
    · rfl
theorem bindC_out {kindOf : Str → Option NameKind} {x : Str} : ∀ {binds : List (Str × Value)} {m : Str → Option Value}, (∀ v, (x, v) ∉ binds) → bindC kindOf binds m x = m x
  | [], _, _ => rfl
  | (n, v) :: r, m, h => by
    unfold bindC
    rw [bindC_out fun w hw => h w (List.mem_cons_of_mem _ hw)]
    split
    · rfl
    · have : x ≠ n := by rintro rfl; exact h v List.mem_cons_self
      simp [this]
theorem bindL_get {kindOf : Str → Option NameKind} {x : Str} {v : Value} : ∀ {P : List Str} {vs : List Value} {i : Nat} {m : Str → Option Value}, P.Nodup → P[i]? = some x → vs[i]? = some v → kindOf x = some .local →
    bindL kindOf (P.zip vs) m x = some v
  | [], _, _, _, _, h, _, _ => by simp at h
  | _ :: _, [], _, _, _, _, h, _ => by simp at h
  | p :: P, w :: vs, 0, m, nd, h1, h2, hk => by
    simp at h1 h2; subst h1; subst h2
    show bindL kindOf ((p, w) :: P.zip vs) m p = _
    unfold bindL
    rw [bindL_out fun v hv => (List.nodup_cons.mp nd).1 (List.of_mem_zip hv).1, if_pos hk]
    simp
  | p :: P, w :: vs, i + 1, m, nd, h1, h2, hk => by
    show bindL kindOf ((p, w) :: P.zip vs) m x = _
    unfold bindL
    exact bindL_get (i := i) (List.nodup_cons.mp nd).2 (by simpa using h1) (by simpa using h2) hk
theorem bindC_get {kindOf : Str → Option NameKind} {x : Str} {v : Value} : ∀ {P : List Str} {vs : List Value} {i : Nat} {m : Str → Option Value}, P.Nodup → P[i]? = some x → vs[i]? = some v → kindOf x ≠ some .local →
    bindC kindOf (P.zip vs) m x = some v
  | [], _, _, _, _, h, _, _ => by simp at h
  | _ :: _, [], _, _, _, _, h, _ => by simp at h
  | p :: P, w :: vs, 0, m, nd, h1, h2, hk => by
    simp at h1 h2; subst h1; subst h2
    show bindC kindOf ((p, w) :: P.zip vs) m p = _
    unfold bindC
    rw [bindC_out fun v hv => (List.nodup_cons.mp nd).1 (List.of_mem_zip hv).1, if_neg hk]
    simp
  | p :: P, w :: vs, i + 1, m, nd, h1, h2, hk => by
    show bindC kindOf ((p, w) :: P.zip vs) m x = _
    unfold bindC
    exact bindC_get (i := i) (List.nodup_cons.mp nd).2 (by simpa using h1) (by simpa using h2) hk

/-- the names' values at the entry -/
def start (N : List Str) (vs : List V) : St := vs.map some ++ List.replicate (N.length - vs.length) none

/-- the context of a def's body, at its entry; an exception leaves the frame, then lies as CX says -/
def cxOf (CX : CXT) (P : Program) (w : World) (K : PySem.W.Frag) (mg : Str → Option Value) (base : Heap) (N : List Str) (qual : Str) (scope : Scope) (f : Addr) (cd : Value) (A : Around) (outer : List Env) (s : Shared) (H : Hp) (E : XK) : Cx where
  prog := P
  w := w
  K := K
  mg := mg
  base := base
  A := A.deeper (envOfC qual scope s.heap.objs.size f cd)
  N := N
  s₀ := s
  H₀ := H
  env := envOfC qual scope s.heap.objs.size f cd
  outer := outer
  stack := envOfC qual scope s.heap.objs.size f cd :: outer
  ex := []
  calm := true
  fn := fun _ => true
  pn := []
  xe := fun e s' => wpAny (model P w) (A.deeper (envOfC qual scope s.heap.objs.size f cd)) (leaving (envOfC qual scope s.heap.objs.size f cd) e) (fun _ s'' => CX outer H s E e s'') (fun e' s'' => CX outer H s E e' s'') s'

theorem cell_has {sc : Scope} {n : Nat} {x : Str} (h : sc.names.lookup x = some .cell) : ∃ c, (cellsFrom n sc.names []).lookup x = some c := by
  have q := PySem.W.cellsFrom_some sc.names n [] (.inl h)
  exact Option.isSome_iff_exists.mp q

theorem inv_start {CX : CXT} {P : Program} {w : World} {K : PySem.W.Frag} {mg : Str → Option Value} {base : Heap} {N ps : List Str} {qual : Str} {scope : Scope} {f : Addr} {cd : Value} {A : Around} {outer : List Env} {s s1 : Shared} {H : Hp} {E : XK} {us : List Value} {vs : List V}
    (S : FnScope N ps scope) (hd : A.handled = none) (e0 : Env0 P w K mg base A outer s H) (hl : vs.length = ps.length) (r : Vals vs us)
    (x : InCallC s s.heap.objs.size (bindL (envOfC qual scope s.heap.objs.size f cd).kindOf (ps.zip us) fun _ => none) (cellsFrom (s.heap.objs.size + 1) scope.names []) (bindC (envOfC qual scope s.heap.objs.size f cd).kindOf (ps.zip us) fun _ => none) s1) :
    Inv (cxOf CX P w K mg base N qual scope f cd A outer s H E) [] (start N vs) H s1 := by
  have hpl : ps.length ≤ N.length := by have := congrArg List.length S.pre; rw [List.length_take] at this; omega
  obtain ⟨h1, tk, rfl, hk⟩ := x.done
  have noA : ∀ b : Addr, b ∉ (cxOf CX P w K mg base N qual scope f cd A outer s H E).ex := fun b z => absurd (show b ∈ ([] : List Addr) from z) (by simp)
  refine ⟨⟨e0.mod, S.kind, rfl, rfl, Nat.le_refl _, fun y z c h1 h2 => ?_, fun y hy => ?_, fun y c _ h => ?_, fun _ => hd, Around.frames_deeper e0.frames, .inr ⟨rfl, rfl⟩, fun b z => absurd z (noA b), e0.bs, e0.bsz, fun b _ _ => noA b, fun b z => absurd z (noA b), e0.funs, e0.frf⟩,
    rfl, e0.bare, Un.kept hk, ⟨_, x.toInCall.ns, fun i y v h1 h2 h3 => ?_⟩, fun y c h => ⟨_, x.cell y c h⟩, e0.hok.fresh (Nat.le_refl _), fun y c h => ?_, fun p hp => absurd (show p ∈ ([] : List (Addr × Obj)) from hp) (by simp), e0.hok.kept hk, ?_⟩
  · exact name_of_addr x.apart (PySem.mem_of_lookup h1) (PySem.mem_of_lookup h2)
  · have hy : scope.names.lookup y = some .cell ∨ scope.names.lookup y = some .free := hy
    rcases hy with hy | hy
    · exact cell_has hy
    · exact absurd rfl (S.nofree _ (PySem.mem_of_lookup hy))
  · exact Nat.le_of_lt (x.above y c (PySem.mem_of_lookup h))
  · have hi : i < vs.length := by
      unfold start at h2
      by_cases hi : i < vs.length
      · exact hi
      · rw [List.getElem?_append_right (by simpa using hi)] at h2
        rw [List.getElem?_replicate] at h2
        split at h2 <;> cases h2
    have ha : vs[i]? = some v := by
      unfold start at h2
      rw [List.getElem?_append_left (by simpa using hi), List.getElem?_map] at h2
      cases e : vs[i]? with
      | none => rw [e] at h2; cases h2
      | some a => rw [e] at h2; cases h2; rfl
    obtain ⟨u, hu, rv⟩ := r.get ha
    have hp : ps[i]? = some y := by
      rw [← S.pre, List.getElem?_take_of_lt (by omega)]; exact h1
    have ndP : ps.Nodup := by rw [← S.pre]; exact S.nd.sublist (List.take_sublist _ _)
    refine ⟨u, rv, ?_⟩
    rcases S.par y (List.mem_of_getElem? hp) with k | k
    · exact .inl ⟨k, bindL_get ndP hp hu k⟩
    · obtain ⟨c, e⟩ := cell_has (n := s.heap.objs.size + 1) k
      refine .inr ⟨.inl k, c, e, ?_⟩
      have q := x.cell y c e
      rw [bindC_get ndP hp hu (by show scope.names.lookup y ≠ _; rw [k]; decide)] at q
      exact q
  · exact e0.hok.fresh (Nat.le_of_lt (x.above y c (PySem.mem_of_lookup h)))
  · unfold start
    show _ = N.length
    rw [List.length_append, List.length_map, List.length_replicate]
    omega

/-- THE RULE: a def (or a method) of the text, by its body. The body's reading t is chosen for each entry; it is run at the parameters' values -/
theorem fn_of {CX : CXT} {P : Program} {w : World} {K : PySem.W.Frag} {mg : Str → Option Value} {base : Heap} {k : Nat} {f : Addr} {name qual : Str} {params : Arguments} {body : List Stmt} {scope : Scope} {dV kV doc pm cdv ct oc : Value} {an od : Option Addr}
    {osl : Array (Option Value)} {N ps : List Str} {sp : Sp} (lk : K.lookup f = some ⟨oc, od, .func (PySem.W.fnOf name qual params body scope dV kV doc pm an cdv ct), osl⟩) (hcd : PySem.W.codeIn K cdv qual = true) (S : FnScope N ps scope)
    (len : ∀ vs H Q E, sp vs H Q E → vs.length = ps.length)
    (hbody : ∀ (A : Around) (outer : List Env) (s : Shared) (H : Hp) (vs : List V) (Q : VK) (E : XK), Room k (A.deeper (envOfC qual scope s.heap.objs.size f cdv)) → sp vs H Q E →
      ∃ t, PSs (cxOf CX P w K mg base N qual scope f cdv A outer s H E) body t ∧ t { nx := fun _ H' => Q .non H', rt := Q } (start N vs) H) :
    FnOk P w K mg base CX (k + 1) f (PySem.W.fnOf name qual params body scope dV kV doc pm an cdv ct) ps sp := by
  refine ⟨len, fun A outer s H args us vs Q E hr e0 hb r hsp => ?_⟩
  have hl := len _ _ _ _ hsp
  have KX : K.In s.heap := e0.mod.kin.keeps fun b o e => (e0.bs b o e).1
  have lim : s.heap.NoLimit := e0.mod.nolimit.keeps fun b o e => (e0.bs b o e).1
  have hkind : ∀ y ∈ ps.zip us, scope.names.lookup y.1 = some .local ∨ (scope.names.lookup y.1 = some .cell ∧ ((cellsFrom (s.heap.objs.size + 1) scope.names []).lookup y.1).isSome = true) := fun ⟨n, v⟩ hy => by
    rcases S.par n (List.of_mem_zip hy).1 with q | q
    · exact .inl q
    · exact .inr ⟨q, PySem.W.cellsFrom_some _ _ _ (.inl q)⟩
  refine codeAny_call_function hr.depth (KX _ _ lk) rfl S.co S.gen rfl (PySem.W.codeRec_of KX hcd) (hb _ _ _ _ ?_)
  refine wpAny_newFunctionEnv_cells S.kind hkind fun env he s1 x => ?_
  subst he
  refine ⟨lim.keeps x.toInCall.keep, codeAny_func ?_⟩
  obtain ⟨t, ht, hq⟩ := hbody A outer s H vs Q E (hr.deeper _) hsp
  have I : Inv (cxOf CX P w K mg base N qual scope f cdv A outer s H E) [] (start N vs) H s1 := inv_start S hr.hd e0 hl r x
  refine wpAny_mono (ht [] s1 (start N vs) H _ I hq) (fun fl s' hs => ?_) fun e s' hs => hs
  have fin : ∀ {σ' : St} {H' : Hp} {v : V} {u : Value}, Inv (cxOf CX P w K mg base N qual scope f cdv A outer s H E) [] σ' H' s' → RelV v u → Q v H' → CE outer P w H s Q u s' :=
    fun {σ' H' v u} J rv q => ⟨v, H', J.os, J.bare, J.base, J.hok, rv, q⟩
  cases fl with
  | ret u =>
    obtain ⟨v, σ', H', J, rv, q⟩ := hs
    exact fin J rv q
  | next =>
    obtain ⟨σ', H', J, q⟩ := hs
    exact fin (v := V.non) (u := Value.none) J rfl q
  | brk =>
    obtain ⟨_, _, _, q⟩ := hs
    exact False.elim q
  | cont =>
    obtain ⟨_, _, _, q⟩ := hs
    exact False.elim q
end L2

namespace L2
open PySem PySem.Spec PyProof.Rows
section
variable {X : Cx} {x : Str} {p pos : Pos} {e : Expr} {es : List Expr} {t : TA} {id T : String} {r : List V → Hp → VK → Prop}

def tCB (r : List V → Hp → VK → Prop) (t : TA) : TE := fun σ H Q => t σ H fun vs H1 => r vs H1 Q
/-- f(e, ..), f a built-in function -/
theorem pe_callB (hc : CallR X (.builtin id) r) (hg : Gl X x) (hm : X.mg x = none) (hv : bootBuiltins x = some (.builtin id)) (ha : PA X (e :: es) t) (hn : x ≠ "__name__" := by decide) (hdb : (x == ("__debug__" : Str)) = false := by decide)
    (he : starEach (e :: es) X.env = (false, eval e X.env) :: starEach es X.env := by rfl) (hpl : (backTo pos (starEach es X.env)).any (·.1) = false := by rfl) : PE X (.Call (.Name x p) (e :: es) [] pos) (tCB r t) := by
  intro pins s σ H Q I h
  refine wpAny_Call_Name_kw (ld_blt I hg hm hv ?_ hn hdb)
  exact PyProof.Rows.callWith_builtin1 (thn (ha pos pins s σ H _ I h) fun us s1 ⟨vs, H1, I1, r1, q1⟩ => hc pins s1 σ H1 vs us Q I1 r1 q1) he hpl
/-- T(e, ..), T a built-in type -/
theorem pe_callTy (hc : CallR X (.type T) r) (hg : Gl X x) (hm : X.mg x = none) (hv : bootBuiltins x = some (.type T)) (ha : PA X (e :: es) t) (hn : x ≠ "__name__" := by decide) (hdb : (x == ("__debug__" : Str)) = false := by decide)
    (he : starEach (e :: es) X.env = (false, eval e X.env) :: starEach es X.env := by rfl) (hpl : (backTo pos (starEach es X.env)).any (·.1) = false := by rfl) : PE X (.Call (.Name x p) (e :: es) [] pos) (tCB r t) := by
  intro pins s σ H Q I h
  refine wpAny_Call_Name_kw (ld_blt I hg hm hv ?_ hn hdb)
  exact PyProof.Rows.callWith_type1 (thn (ha pos pins s σ H _ I h) fun us s1 ⟨vs, H1, I1, r1, q1⟩ => hc pins s1 σ H1 vs us Q I1 r1 q1) he hpl
end
end L2

namespace HT
open PySem PyProof.Rows



section
open PySem.SeqAt
open PySem.AutoSeq1 (wpAny_loadPart')
open PySem.MeetsSeq PySem.MeetsSeq2 PySem.MeetsSeq3

end

section
variable {prog : Program} {w : World} {A : Around} {E : Value → Shared → Prop} {s : Shared}


/-- t + u, t not empty -/
theorem cat_tup {t b : Addr} {vs ws : List Value} {Q : Value → Shared → Prop} (ht : IsTup s.heap t vs.toArray) (hb : IsTup s.heap b ws.toArray) (hv : vs ≠ [])
    (h1 : ws = [] → Q (.ref t) s) (h2 : ws ≠ [] → Q (.ref s.heap.objs.size) { s with heap := s.heap.push { cls := .type "tuple", data := .seq (vs ++ ws).toArray } })
    (hsz : vs.length + ws.length ≤ sizeLine) : wpAny (model prog w) A (binaryOp .Add (.ref t) (.ref b)) Q E s := by
  obtain ⟨⟨cls, dd, data, sl⟩, ho, hc, n, hd⟩ := id ht
  obtain ⟨⟨cls2, dd2, data2, sl2⟩, ho2, hc2, n2, hd2⟩ := id hb
  simp only at hc hd hc2 hd2
  subst hc hd hc2 hd2
  have e : vs.toArray ++ ws.toArray = (vs ++ ws).toArray := by simp
  by_cases hw : ws = []
  · exact concat_meets ⟨_, ho, rfl⟩ ⟨_, ho2, rfl⟩ noFill_tuple_add seq_tuple_add PySem.F.slot_tuple_add PySem.F.entry_tuple_add (PySem.F.args_tuple_add_2 _ _)
      (tuple_addW1 t b vs.toArray ws.toArray n n2 dd dd2 sl sl2 (by simpa using hv) (by simp [hw])) ⟨ho, ho2, h1 hw⟩
  · refine concat_meets ⟨_, ho, rfl⟩ ⟨_, ho2, rfl⟩ noFill_tuple_add seq_tuple_add PySem.F.slot_tuple_add PySem.F.entry_tuple_add (PySem.F.args_tuple_add_2 _ _)
      (tuple_addW2 t b vs.toArray ws.toArray n n2 dd dd2 sl sl2 (by simpa using hv) (by simpa using hw) (by rw [List.size_toArray, List.size_toArray]; exact hsz)) ⟨ho, ho2, ?_⟩
    rw [e]
    exact h2 hw

/-! ### t[a:b], not the whole -/
/-- a slice's bound as a place among n (d where it is left out) -/
def sIx (n d : Nat) : Option Int → Nat
  | none => d
  | some v => if v < 0 then (v + (n : Int)).toNat else min v.toNat n
theorem sIx_none (n d : Nat) : sIx n d none = d := rfl
theorem sIx_nat (n d k : Nat) : sIx n d (some (k : Int)) = min k n := by
  show (if (k : Int) < 0 then ((k : Int) + (n : Int)).toNat else min (k : Int).toNat n) = min k n
  rw [if_neg (by omega), Int.toNat_natCast]
theorem sIx_le (n d : Nat) (hd : d ≤ n) (o : Option Int) : sIx n d o ≤ n := by
  cases o with
  | none => exact hd
  | some v =>
    show (if v < 0 then (v + (n : Int)).toNat else min v.toNat n) ≤ n
    by_cases hv : v < 0
    · rw [if_pos hv]; omega
    · rw [if_neg hv]; exact Nat.min_le_right _ _
theorem clip_eq (v : Int) (n d : Nat) : (if v < 0 then max (v + (n : Int)) 0 else min v (n : Int)) = ((sIx n d (some v) : Nat) : Int) := by
  show (if v < 0 then max (v + (n : Int)) 0 else min v (n : Int)) = (((if v < 0 then (v + (n : Int)).toNat else min v.toNat n) : Nat) : Int)
  by_cases hv : v < 0
  · simp only [if_pos hv]; omega
  · simp only [if_neg hv]; omega
theorem adjust_gen (lo hi : Option Int) (n : Nat) : Builtin.Slice.sliceAdjust lo hi 1 (n : Int) = (((sIx n 0 lo : Nat) : Int), ((sIx n n hi : Nat) : Int)) := by
  have h1 : ¬ ((1 : Int) < 0) := by omega
  unfold Builtin.Slice.sliceAdjust
  simp only [h1, if_false]
  refine Prod.ext ?_ ?_
  · cases lo with
    | none => rfl
    | some v => exact clip_eq v n 0
  · cases hi with
    | none => rfl
    | some v => exact clip_eq v n n
theorem places_gen (i j : Nat) : Builtin.Slice.slicePlaces (i : Int) (j : Int) 1 = j - i := by
  unfold Builtin.Slice.slicePlaces
  have h1 : (1 : Int) > 0 := by omega
  simp only [h1, if_true, Int.ediv_one]
  split <;> omega
theorem slicePart_ {v : Value} {o : Option Int} {Q : Option Int → Shared → Prop} (p : IsPart v o) (h : Q o s) : wpAny (model prog w) A (Builtin.Slice.slicePartIndex v) Q E s := by
  cases p with
  | none => exact slicePart_none h
  | int i t => exact slicePart_int h
theorem sliceApplied_gen {sl : Addr} {vl vu : Value} {lo hi : Option Int} {n : Nat} {Q : Int × Int × Nat → Shared → Prop} (hs : s.heap.IsSliceOf sl vl vu .none) (pl : IsPart vl lo) (pu : IsPart vu hi)
    (h : Q (((sIx n 0 lo : Nat) : Int), 1, sIx n n hi - sIx n 0 lo) s) : wpAny (model prog w) A (Builtin.Slice.sliceApplied (.ref sl) (pure (n : Int))) Q E s := by
  obtain ⟨os, hos, hcs, hds⟩ := id hs
  unfold Builtin.Slice.sliceApplied Builtin.Slice.sliceFields
  refine wpAny_bind (wpAny_bind (wpAny_field hos hds (x := vl) rfl (wpAny_bind (wpAny_field hos hds (x := vu) rfl (wpAny_bind (wpAny_field hos hds (x := .none) rfl (wpAny_pure ?_)))))))
  refine wpAny_bind (slicePart_none ?_)
  show wpAny _ _ (if ((1 : Int) == 0) = true then _ else _) _ _ s
  rw [if_neg (by decide)]
  refine wpAny_bind (slicePart_ pl (wpAny_bind (slicePart_ pu (wpAny_bind (wpAny_pure ?_)))))
  show wpAny _ _ (match Builtin.Slice.sliceAdjust lo hi 1 (n : Int) with | (lo, hi) => pure (lo, (1 : Int), Builtin.Slice.slicePlaces lo hi 1)) _ _ s
  rw [adjust_gen lo hi n]
  show wpAny _ _ (pure (((sIx n 0 lo : Nat) : Int), (1 : Int), Builtin.Slice.slicePlaces ((sIx n 0 lo : Nat) : Int) ((sIx n n hi : Nat) : Int) 1)) _ _ s
  rw [places_gen]
  exact wpAny_pure h
theorem pick_gen (xs : Array Value) (i k : Nat) : ((List.range k).filterMap fun (m : Nat) => xs[((i : Int) + (m : Int) * 1).toNat]?).toArray = ((xs.toList.drop i).take k).toArray := by
  have e : (fun (m : Nat) => xs[((i : Int) + (m : Int) * 1).toNat]?) = fun m => xs[i + m]? := by
    funext m
    have : ((i : Int) + (m : Int) * 1).toNat = i + m := by omega
    rw [this]
  rw [e]
  have := pick_run xs i k
  rw [List.filterMap_map] at this
  have e2 : ((fun x => xs[x]?) ∘ fun x => i + x) = fun m => xs[i + m]? := rfl
  rw [e2] at this
  rw [this]

theorem getItem_tuple_cut {t sl : Addr} {items : Array Value} {vl vu : Value} {lo hi : Option Int} {Q : Value → Shared → Prop} (ht : IsTup s.heap t items) (hs : s.heap.IsSliceOf sl vl vu .none) (pl : IsPart vl lo) (pu : IsPart vu hi)
    (hw : ¬ (sIx items.size 0 lo = 0 ∧ sIx items.size items.size hi = items.size))
    (h : Q (.ref s.heap.objs.size) { s with heap := s.heap.push { cls := .type "tuple", data := .seq ((items.toList.drop (sIx items.size 0 lo)).take (sIx items.size items.size hi - sIx items.size 0 lo)).toArray } })
    (hsz : items.size ≤ sizeLine) : wpAny (model prog w) A (getItem (.ref t) (.ref sl)) Q E s := by
  have htake : sizeOk (.seq ((items.toList.drop (sIx items.size 0 lo)).take (sIx items.size items.size hi - sIx items.size 0 lo)).toArray) := by
    show ((items.toList.drop (sIx items.size 0 lo)).take (sIx items.size items.size hi - sIx items.size 0 lo)).toArray.size ≤ sizeLine
    rw [List.size_toArray, List.length_take, List.length_drop, Array.length_toList]
    omega
  have hj : sIx items.size items.size hi ≤ items.size := sIx_le _ _ (Nat.le_refl _) hi
  obtain ⟨os, hos, hcs, hds⟩ := id hs
  have hTs : s.TypeIs (.ref sl) "slice" := ⟨os, hos, hcs⟩
  unfold getItem
  try with_reducible refine wpAny_holding ?_
  first | refine wpAny_bind (wpAny_pure ?_) | skip
  refine wpAny_bind (wpAny_sequenceKey ht.typeIs (by decide) ?_)
  refine wpAny_bind (wpAny_callSpecial?_slot (name := Str.ofString "__getitem__") ht.typeIs PyProof.Rows.slot_tuple_getitem
    (wpAny_call_entry PyProof.Rows.slot_tuple_getitem ht.typeIs entry_tuple_getitem ?_ (args_tuple_getitem _ _)))
  show wpAny _ _ (Builtin.Tuple.tupleItemsOf (.ref t) >>= _) _ _ s
  refine wpAny_bind (tupleItemsOf_ ht ?_)
  refine wpAny_bind (wpAny_typeOf hTs ?_)
  rw [if_pos (by decide)]
  refine wpAny_bind (sliceApplied_gen hs pl pu ?_)
  have hno : ¬ ((((sIx items.size 0 lo : Nat) : Int) == 0 && (1 : Int) == 1 && (sIx items.size items.size hi - sIx items.size 0 lo) == items.size) = true) := by
    intro q
    rw [Bool.and_eq_true, Bool.and_eq_true] at q
    have q1 : ((sIx items.size 0 lo : Nat) : Int) = 0 := eq_of_beq q.1.1
    have q2 : sIx items.size items.size hi - sIx items.size 0 lo = items.size := eq_of_beq q.2
    exact hw ⟨by omega, by omega⟩
  show wpAny _ _ (if (((sIx items.size 0 lo : Nat) : Int) == 0 && (1 : Int) == 1 && (sIx items.size items.size hi - sIx items.size 0 lo) == items.size) = true then _ else _) _ _ s
  rw [if_neg hno, pick_gen]
  first
    | exact wpAny_bind (m := Builtin.Tuple.tupleExact _) (wpAny_newObj_type (wpAny_pure ⟨_, rfl, wpAny_pure h⟩) htake)
    | exact wpAny_bind (m := Builtin.Tuple.tupleExact _) (wpAny_newObj_type (wpAny_bind (wpAny_pure (wpAny_pure ⟨_, rfl, wpAny_pure h⟩))) htake)
    | exact wpAny_bind (wpAny_bind (m := Builtin.Tuple.tupleExact _) (wpAny_newObj_type (wpAny_pure (wpAny_pure ⟨_, rfl, wpAny_pure h⟩)) htake))
    | exact wpAny_bind (wpAny_bind (m := Builtin.Tuple.tupleExact _) (wpAny_newObj_type (wpAny_pure ⟨_, rfl, wpAny_pure h⟩) htake))
end
end HT

namespace L2
open PySem PySem.Spec PyProof.Rows

/-! ### the parts of a slice -/
abbrev TO := St → Hp → (Option Int → Hp → Prop) → Prop
/-- a slice's part (left out, or an int) -/
def PO (X : Cx) (e : Option Expr) (t : TO) : Prop :=
  ∀ (pins : List (Addr × Obj)) (s : Shared) (σ : St) (H : Hp) (Q : Option Int → Hp → Prop), Inv X pins σ H s → t σ H Q →
    wpAny (model X.prog X.w) X.A (evalPart e X.env) (fun u s' => ∃ o H', Inv X pins σ H' s' ∧ IsPart u o ∧ Q o H') X.xe s
def tNoPart : TO := fun _ H Q => Q none H
def tPart (t : TE) : TO := fun σ H Q => t σ H fun x H1 => ∃ i, x = .int i ∧ Q (some i) H1

theorem intsAre_of {ns : List Int} : ∀ {us : List Value}, Vals (ns.map V.int) us → IntsAre us ns := by
  induction ns with
  | nil => intro us r; rw [List.map_nil] at r; cases r; exact .nil
  | cons n ns ih =>
    intro us r
    rw [List.map_cons] at r
    cases r with
    | cons r1 r2 =>
      obtain ⟨t, e⟩ := r1
      subst e
      exact .cons n t (ih r2)

section
variable {X : Cx} {e : Expr} {te : TE} {lo hi : Option Expr} {tl th : TO} {pos p2 : Pos}

theorem po_none : PO X none tNoPart := by
  intro pins s σ H Q I h
  rw [evalPart_none]
  exact wpAny_pure ⟨none, H, I, .none, h⟩
theorem po_some (h : PE X e te) : PO X (some e) (tPart te) := by
  intro pins s σ H Q I hw
  rw [evalPart_some]
  refine thn (h pins s σ H _ I hw) fun u s1 ⟨x, H1, I1, r1, q1⟩ => ?_
  obtain ⟨i, rfl, q⟩ := q1
  obtain ⟨t, rfl⟩ := r1
  exact ⟨some i, H1, I1, .int i t, q⟩

/-- what a slice of a value is, by values: the slice object stands at sl -/
def SlR (X : Cx) (r : V → Option Int → Option Int → Hp → VK → Prop) : Prop :=
  ∀ (pins : List (Addr × Obj)) (s : Shared) (σ : St) (H : Hp) (x : V) (v vl vu : Value) (lo hi : Option Int) (sl : Addr) (Q : VK), Inv X pins σ H s → RelV x v → s.heap.IsSliceOf sl vl vu .none → IsPart vl lo → IsPart vu hi → r x lo hi H Q →
    ∃ T id, typeLookup (.type T) "__getitem__" = pure (some (.builtin id)) ∧ s.TypeIs v T ∧ wpAny (model X.prog X.w) X.A (getItem v (.ref sl)) (EP X pins σ Q) X.xe s
def tSl (r : V → Option Int → Option Int → Hp → VK → Prop) (te : TE) (tl th : TO) : TE := fun σ H Q => te σ H fun x H1 => tl σ H1 fun l H2 => th σ H2 fun u H3 => r x l u H3 Q
/-- a[lo:hi], any a -/
theorem pe_slice {r : V → Option Int → Option Int → Hp → VK → Prop} (hr : SlR X r) (he : PE X e te) (hl : PO X lo tl) (hu : PO X hi th) : PE X (.Subscript e (.Slice lo hi none p2) pos) (tSl r te tl th) := by
  intro pins s σ H Q I h
  refine Subscript_ (thn (he pins s σ H _ I h) fun v s1 ⟨x, H1, I1, r1, q1⟩ => ?_)
  refine wpAny_Slice (thn (hl pins s1 σ H1 _ I1 q1) fun vl s2 ⟨l, H2, I2, pl, q2⟩ => thn (hu pins s2 σ H2 _ I2 q2) fun vu s3 ⟨u, H3, I3, pu, q3⟩ => ?_)
  rw [evalPart_none]
  refine wpAny_pure ?_
  have I4 : Inv X pins σ H3 { s3 with heap := s3.heap.push { cls := .type "slice", data := .fields #[vl, vu, .none] } } := I3.kept (t' := s3.toks) fun b ob q => Heap.get?_push_of_some _ q
  obtain ⟨T, id, hT, ht, hg⟩ := hr pins { s3 with heap := s3.heap.push { cls := .type "slice", data := .fields #[vl, vu, .none] } } σ H3 x v vl vu l u s3.heap.objs.size Q I4 r1 (Heap.IsSliceOf.new ..) pl pu q3
  show wpAny (model X.prog X.w) X.A (subscriptTail e (.Slice lo hi none p2) v (.ref s3.heap.objs.size)) (EP X pins σ Q) X.xe { s3 with heap := s3.heap.push { cls := .type "slice", data := .fields #[vl, vu, .none] } }
  exact tail_any (ops := [.ref s3.heap.objs.size, v]) ht hT hg (by with_unfolding_all rfl)

/-- the items of xs[lo:hi] -/
def cutV (xs : List V) (lo hi : Option Int) : List V := (xs.drop (HT.sIx xs.length 0 lo)).take (HT.sIx xs.length xs.length hi - HT.sIx xs.length 0 lo)
theorem cutV_length (xs : List V) (lo hi : Option Int) : (cutV xs lo hi).length ≤ xs.length := by
  unfold cutV
  rw [List.length_take, List.length_drop]
  omega
/-- t[lo:hi], not the whole of it (the whole would be t itself) -/
def rSlT (K : PySem.W.Frag) : V → Option Int → Option Int → Hp → VK → Prop := fun x lo hi H Q => ∃ a xs, x = .ref a ∧ SqT K H a xs ∧
  ¬ (HT.sIx xs.length 0 lo = 0 ∧ HT.sIx xs.length xs.length hi = xs.length) ∧ ∀ p, H p = none → Q (.ref p) (upd H p (.tup (cutV xs lo hi)))
theorem sl_tup : SlR X (rSlT X.K) := by
  intro pins s σ H x v vl vu lo hi sl Q I rx hs pl pu h
  obtain ⟨a, xs, rfl, hx, hw, q⟩ := h
  cases rx
  obtain ⟨its, r, ht, hz⟩ := I.tuple hx
  have hlen : its.toArray.size = xs.length := by rw [List.size_toArray]; exact r.length.symm
  refine ⟨"tuple", _, PyProof.Rows.slot_tuple_getitem.lookup, ht.typeIs, ?_⟩
  refine HT.getItem_tuple_cut ht hs pl pu (by rw [hlen]; exact hw) ?_ (by rw [hlen]; exact hz)
  rw [hlen]
  refine ⟨.ref s.heap.objs.size, _, I.laid (t' := s.toks) (o := .tup (cutV xs lo hi)) (fun b ob q => Heap.get?_push_of_some _ q) (Nat.le_refl _) ?_, rfl, q _ (I.hok.fresh (Nat.le_refl _))⟩
  exact ⟨Nat.le_trans (cutV_length xs lo hi) hz, _, (r.drop (HT.sIx xs.length 0 lo)).take (HT.sIx xs.length xs.length hi - HT.sIx xs.length 0 lo), IsTupN.new _ _⟩

/-! ### t < u, t + u -/
/-- t + u, t not empty: u empty gives t itself -/
def rCatT (K : PySem.W.Frag) : R2 := fun x y H Q => ∃ a b xs ys, x = .ref a ∧ y = .ref b ∧ SqT K H a xs ∧ SqT K H b ys ∧ xs ≠ [] ∧ xs.length + ys.length ≤ sizeLine ∧
  (ys = [] → Q (.ref a) H) ∧ (ys ≠ [] → ∀ p, H p = none → Q (.ref p) (upd H p (.tup (xs ++ ys))))
theorem Vals.nil_iff {xs : List V} {us : List Value} (r : Vals xs us) : us = [] ↔ xs = [] := by
  cases r with
  | nil => simp
  | cons _ _ => simp
theorem op_catT : OpR X (binaryOp .Add) (rCatT X.K) := by
  intro pins s σ H x y v u Q I rx ry h
  obtain ⟨a, b, xs, ys, rfl, rfl, ha, hb, hx, hz, q1, q2⟩ := h
  cases rx
  cases ry
  obtain ⟨its, r1, p1, _⟩ := I.tuple ha
  obtain ⟨its2, r2, p2, _⟩ := I.tuple hb
  refine HT.cat_tup p1 p2 (fun z => hx (r1.nil_iff.mp z)) (fun z => ⟨.ref a, H, I, rfl, q1 (r2.nil_iff.mp z)⟩) (fun z => ?_) (by rw [← r1.length, ← r2.length]; exact hz)
  refine ⟨.ref s.heap.objs.size, _, I.laid (t' := s.toks) (o := .tup (xs ++ ys)) (fun b ob q => Heap.get?_push_of_some _ q) (Nat.le_refl _) ?_, rfl, q2 (fun w => z (r2.nil_iff.mpr w)) _ (I.hok.fresh (Nat.le_refl _))⟩
  exact ⟨by rw [List.length_append]; exact hz, _, r1.append r2, IsTupN.new _ _⟩
end
end L2

namespace L2
open PySem PySem.Spec PyProof.Rows

/-! ### places -/
/-- the place that an index of any sign means -/
def ixN (n : Nat) (i : Int) : Option Nat := if 0 ≤ i then (if i < n then some i.toNat else none) else if -(n : Int) ≤ i then some (i + n).toNat else none
def atI {α : Type} (xs : List α) (i : Int) : Option α := (ixN xs.length i).bind fun j => xs[j]?
theorem ixN_seq {n : Nat} {i : Int} {j : Nat} (h : ixN n i = some j) : seqIndex? i n = some j ∧ j < n ∧ -(n : Int) ≤ i ∧ i < n := by
  unfold ixN at h
  by_cases h0 : 0 ≤ i
  · rw [if_pos h0] at h
    by_cases h1 : i < n
    · rw [if_pos h1] at h
      have e : i.toNat = j := Option.some.inj h
      exact ⟨by rw [seqIndex_of h0 h1, e], by omega, by omega, h1⟩
    · rw [if_neg h1] at h; cases h
  · rw [if_neg h0] at h
    by_cases h1 : -(n : Int) ≤ i
    · rw [if_pos h1] at h
      have e : (i + n).toNat = j := Option.some.inj h
      exact ⟨by rw [seqIndex_neg (by omega) h1, e], by omega, h1, by omega⟩
    · rw [if_neg h1] at h; cases h
theorem atI_get {α : Type} {xs : List α} {i : Int} {v : α} (h : atI xs i = some v) : ∃ j, seqIndex? i xs.length = some j ∧ xs[j]? = some v ∧ j < xs.length ∧ -(xs.length : Int) ≤ i ∧ i < xs.length := by
  unfold atI at h
  cases e : ixN xs.length i with
  | none => rw [e] at h; cases h
  | some j =>
    rw [e] at h
    obtain ⟨h1, h2, h3, h4⟩ := ixN_seq e
    exact ⟨j, h1, h, h2, h3, h4⟩
theorem atI_nat {α : Type} {xs : List α} {j : Nat} {v : α} (h : xs[j]? = some v) : atI xs (j : Int) = some v := by
  have hj : j < xs.length := (List.getElem?_eq_some_iff.mp h).1
  have e : ixN xs.length (j : Int) = some j := by
    unfold ixN
    rw [if_pos (by omega), if_pos (by omega)]; simp
  unfold atI; rw [e]; exact h
theorem atI_last {α : Type} (xs : List α) (v : α) : atI (xs ++ [v]) (-1) = some v := by
  have hl : (xs ++ [v]).length = xs.length + 1 := by simp
  have e : ixN (xs ++ [v]).length (-1) = some xs.length := by
    unfold ixN
    rw [hl, if_neg (by decide), if_pos (by omega)]
    congr 1
    omega
  unfold atI
  rw [e]
  show (xs ++ [v])[xs.length]? = some v
  simp

/-! ### what may be subscripted -/
/-- what stands as an index of a plain subscript -/
def PlainIx (b : Expr) : Prop := ∀ o i, subscripted b false o i = operate [o, i] (getItem o i)
/-- a subscript by values -/
def IxR (X : Cx) (r : R2) : Prop :=
  ∀ (value slice : Expr) (pins : List (Addr × Obj)) (s : Shared) (σ : St) (H : Hp) (x y : V) (v u : Value) (Q : VK), Inv X pins σ H s → RelV x v → RelV y u → r x y H Q →
    subscripted slice false v u = operate [v, u] (getItem v u) → wpAny (model X.prog X.w) X.A (subscriptTail value slice v u) (EP X pins σ Q) X.xe s
/-- a call of a builtin's method by values: the receiver, the arguments -/
def MtR (X : Cx) (id : String) (r : V → List V → Hp → VK → Prop) : Prop :=
  ∀ (pins : List (Addr × Obj)) (s : Shared) (σ : St) (H : Hp) (x : V) (xs : List V) (v : Value) (us : List Value) (Q : VK), Inv X pins σ H s → RelV x v → Vals xs us → r x xs H Q →
    wpAny (model X.prog X.w) X.A (call (.builtin id) (v :: us)) (EP X pins σ Q) X.xe s
section
variable {X : Cx} {a b : Expr} {ta tb : TE} {pos : Pos}
/-- a[b] -/
theorem pe_ix {r : R2} (hr : IxR X r) (ha : PE X a ta) (hb : PE X b tb) (hs : PlainIx b) : PE X (.Subscript a b pos) (tOp r ta tb) := by
  intro pins s σ H Q I h
  exact Subscript_ (binT ha hb I h fun v u s2 x y H2 I2 rx ry q => hr a b pins s2 σ H2 x y v u Q I2 rx ry q (hs _ _))

def rIxL (K : PySem.W.Frag) : R2 := fun x y H Q => ∃ p xs i v, x = .ref p ∧ y = .int i ∧ SqL K H p xs ∧ atI xs i = some v ∧ Q v H
def rIxT (K : PySem.W.Frag) : R2 := fun x y H Q => ∃ p xs i v, x = .ref p ∧ y = .int i ∧ SqT K H p xs ∧ atI xs i = some v ∧ Q v H
theorem ix_list : IxR X (rIxL X.K) := by
  intro value slice pins s σ H x y v u Q I rx ry h hs
  obtain ⟨p, xs, i, z, rfl, rfl, hq, he, q⟩ := h
  cases rx
  obtain ⟨t, rfl⟩ := ry
  obtain ⟨its, r, pl, hz⟩ := I.list hq
  obtain ⟨j, h1, h2, h3, h4, h5⟩ := atI_get he
  obtain ⟨w, ew, rw'⟩ := r.get h2
  have hl := r.length
  have hn := line63
  have fin : EP X pins σ Q w s := ⟨z, H, I, rw', q⟩
  by_cases h0 : 0 ≤ i
  · have hj : i.toNat = j := by
      rw [seqIndex_of h0 h5] at h1
      exact Option.some.inj h1
    exact item_listR pl.isList h0 (by omega) (by rw [hj]; simpa using ew) fin hs
  · have hj : (i + (its.toArray.size : Int)).toNat = j := by
      rw [seqIndex_neg (by omega) h4] at h1
      rw [List.size_toArray, ← hl]
      exact Option.some.inj h1
    exact subscriptTail_builtinR (x := w) pl.isList.typeIs slot_list_getitem.lookup
      (wpAny_getItem_list_neg (Q := fun r s' => r = w ∧ EP X pins σ Q r s') pl.isList (by omega) (by rw [List.size_toArray] <;> omega) (by omega) (by rw [hj]; simpa using ew) ⟨rfl, fin⟩) hs
theorem ix_tup : IxR X (rIxT X.K) := by
  intro value slice pins s σ H x y v u Q I rx ry h hs
  obtain ⟨p, xs, i, z, rfl, rfl, hq, he, q⟩ := h
  cases rx
  obtain ⟨t, rfl⟩ := ry
  obtain ⟨its, r, pl, hz⟩ := I.tuple hq
  obtain ⟨j, h1, h2, h3, h4, h5⟩ := atI_get he
  obtain ⟨w, ew, rw'⟩ := r.get h2
  have hl := r.length
  have hn := line63
  have fin : EP X pins σ Q w s := ⟨z, H, I, rw', q⟩
  exact subscriptTail_builtinR (x := w) pl.typeIs slot_tuple_getitem.lookup
    (getItem_tuple (j := j) (Q := fun r s' => r = w ∧ EP X pins σ Q r s') pl (by omega) (by omega) (by rw [List.size_toArray, ← hl]; exact h1) (by simpa using ew) ⟨rfl, fin⟩) hs

/-! ### xs[i] = v, any sign -/
/-- the list's object behind a store -/
theorem mapSeq_set (its : List Value) (n j : Nat) (u : Value) : Obj.mapSeq (·.setIfInBounds j u) { cls := .type "list", data := .seq its.toArray n } = { cls := .type "list", data := .seq (its.set j u).toArray n } := by
  simp [Obj.mapSeq]
theorem Inv.lst {pins : List (Addr × Obj)} {σ : St} {H : Hp} {s : Shared} {p : Addr} {xs : List V} (I : Inv X pins σ H s) (h : H p = some (.lst xs)) :
    ∃ (its : List Value) (n : Nat), Vals xs its ∧ s.heap.get? p = some { cls := .type "list", data := .seq its.toArray n } ∧ xs.length ≤ sizeLine := by
  obtain ⟨z, its, n, r, e⟩ := I.hok p _ h
  exact ⟨its, n, r, e, z⟩
/-- the list at p is written by an update of its object -/
theorem Inv.lstUpd {pins : List (Addr × Obj)} {σ : St} {H : Hp} {s : Shared} {p : Addr} {xs ys : List V} {its its' : List Value} {n n' : Nat} {f : Obj → Obj} (I : Inv X pins σ H s) (h : H p = some (.lst xs))
    (ho : s.heap.get? p = some { cls := .type "list", data := .seq its.toArray n }) (hf : f { cls := .type "list", data := .seq its.toArray n } = { cls := .type "list", data := .seq its'.toArray n' }) (r : Vals ys its') (hz : ys.length ≤ sizeLine) (t : Nat) :
    Inv X pins σ (upd H p (.lst ys)) { s with heap := s.heap.update p f, toks := t } := by
  have e : (s.heap.update p f).get? p = some { cls := .type "list", data := .seq its'.toArray n' } := by
    rw [Heap.get?_update_self f ho (by rw [hf] <;> rfl), hf]
  refine I.write (x := p) (e := p) (by rw [h]; trivial) (.inl rfl) (fun b u hb q => (Heap.get?_update_other _ _ (Ne.symm hb)).trans q) ⟨_, e⟩ ?_
  exact ⟨hz, its', n', r, e⟩
def rSetL : V → V → V → Hp → (Hp → Prop) → Prop := fun o i v H Q => ∃ p xs k j, o = .ref p ∧ i = .int k ∧ H p = some (.lst xs) ∧ ixN xs.length k = some j ∧ Q (upd H p (.lst (xs.set j v)))
theorem set_list : PSet X rSetL := by
  intro pins s σ H o i v ov iv u Q I ro ri rv h
  obtain ⟨p, xs, k, j, rfl, rfl, hp, hj, q⟩ := h
  cases ro
  obtain ⟨t, rfl⟩ := ri
  obtain ⟨its, n, r, ho, hz⟩ := I.lst hp
  obtain ⟨h1, h2, h3, h4⟩ := ixN_seq hj
  have hl := r.length
  have hn := line63
  have I' : Inv X pins σ (upd H p (.lst (xs.set j v))) { s with heap := s.heap.update p (Obj.mapSeq (·.setIfInBounds j u)) } :=
    I.lstUpd hp ho (mapSeq_set its n j u) (r.set rv j) (by rw [List.length_set]; exact hz) s.toks
  by_cases h0 : 0 ≤ k
  · have hk : k.toNat = j := by
      rw [seqIndex_of h0 h4] at h1
      exact Option.some.inj h1
    exact PySem.W.ki_setAt ho h0 (by omega) (by rw [List.size_toArray, ← hl]; exact h4) (by rw [hk]; exact ⟨_, I', q⟩)
  · have hk : (k + (its.toArray.size : Int)).toNat = j := by
      rw [seqIndex_neg (by omega) h3] at h1
      rw [List.size_toArray, ← hl]
      exact Option.some.inj h1
    exact PySem.W.ki_setBack ho (by omega) (by rw [List.size_toArray, ← hl]; exact h3) (by omega) (by rw [hk]; exact ⟨_, I', q⟩)

/-! ### slices -/
theorem slice_bounds (lo hi : Option Int) (n : Nat) : (sliceBounds lo hi none n).1 = ((HT.sIx n 0 lo : Nat) : Int) ∧ (sliceBounds lo hi none n).2.1 = ((HT.sIx n n hi : Nat) : Int) ∧ (sliceBounds lo hi none n).2.2 = 1 := by
  refine ⟨?_, ?_, rfl⟩
  · cases lo with
    | none => simp [sliceBounds, HT.sIx]
    | some i =>
      simp only [sliceBounds, HT.sIx, Option.getD_none, show (1 : Int) > 0 by decide, if_true]
      by_cases h : i < 0
      · simp only [h, if_true] <;> omega
      · simp only [h, if_false] <;> omega
  · cases hi with
    | none => simp [sliceBounds, HT.sIx]
    | some i =>
      simp only [sliceBounds, HT.sIx, Option.getD_none, show (1 : Int) > 0 by decide, if_true]
      by_cases h : i < 0
      · simp only [h, if_true] <;> omega
      · simp only [h, if_false] <;> omega
theorem slicePick_cut (its : List Value) (lo hi : Option Int) : slicePick its.toArray lo hi none = ((its.drop (HT.sIx its.length 0 lo)).take (HT.sIx its.length its.length hi - HT.sIx its.length 0 lo)).toArray := by
  obtain ⟨h1, h2, h3⟩ := slice_bounds lo hi its.toArray.size
  unfold slicePick
  rw [h1, h2, h3]
  simp only [sliceRange_one, pick_run, List.size_toArray] <;> rfl
/-- xs[lo:hi] of a list: a new list -/
def rSlL (K : PySem.W.Frag) : V → Option Int → Option Int → Hp → VK → Prop := fun x lo hi H Q => ∃ a xs, x = .ref a ∧ SqL K H a xs ∧ ∀ p, H p = none → Q (.ref p) (upd H p (.lst (cutV xs lo hi)))
theorem sl_list : SlR X (rSlL X.K) := by
  intro pins s σ H x v vl vu lo hi sl Q I rx hs pl pu h
  obtain ⟨a, xs, rfl, hx, q⟩ := h
  cases rx
  obtain ⟨its, r, ht, hz⟩ := I.list hx
  have hlen := r.length
  refine ⟨"list", _, slot_list_getitem.lookup, ht.isList.typeIs, ?_⟩
  refine wpAny_getItem_list_slice ht.isList hs pl pu .none (by simp) ?_ (by rw [List.size_toArray] <;> omega)
  rw [slicePick_cut, ← hlen]
  refine ⟨.ref s.heap.objs.size, _, I.laid (t' := s.toks) (o := .lst (cutV xs lo hi)) (fun b ob q => Heap.get?_push_of_some _ q) (Nat.le_refl _) ?_, rfl, q _ (I.hok.fresh (Nat.le_refl _))⟩
  exact ⟨Nat.le_trans (cutV_length xs lo hi) hz, _, 0, (r.drop (HT.sIx xs.length 0 lo)).take (HT.sIx xs.length xs.length hi - HT.sIx xs.length 0 lo), Heap.get?_push_size _ rfl⟩

/-! ### in, not in: flat items -/
def flatV : V → Bool
  | .non => true
  | .bl _ => true
  | .int _ => true
  | .str _ => true
  | _ => false
/-- == of flat values -/
def eqV : V → V → Bool
  | .non, .non => true
  | .bl a, .bl b => a == b
  | .bl a, .int b => (if a then 1 else 0) == b
  | .int a, .bl b => a == (if b then 1 else 0)
  | .int a, .int b => a == b
  | .str a, .str b => a == b
  | _, _ => false
theorem eqAt_V {A : Around} {s : Shared} {y x : V} {u v : Value} (ry : RelV y u) (rx : RelV x v) (fy : flatV y = true) (fx : flatV x = true) : SeqAt.EqAt A s u v (eqV y x) := by
  cases y with
  | non =>
    cases ry
    cases x with
    | non => cases rx; exact SeqAt.EqAt.same _
    | bl b => cases rx; exact SeqAt.EqAt.none_bool b
    | int b => obtain ⟨t, rfl⟩ := rx; exact SeqAt.EqAt.none_int b t
    | str b => obtain ⟨t, rfl⟩ := rx; exact SeqAt.EqAt.none_str b t
    | _ => exact absurd (show false = true from fx) Bool.false_ne_true
  | bl a =>
    cases ry
    cases x with
    | non => cases rx; exact SeqAt.EqAt.bool_none a
    | bl b => cases rx; exact SeqAt.EqAt.bool_bool a b
    | int b => obtain ⟨t, rfl⟩ := rx; exact SeqAt.EqAt.bool_int a b t
    | str b => obtain ⟨t, rfl⟩ := rx; exact SeqAt.EqAt.bool_str a b t
    | _ => exact absurd (show false = true from fx) Bool.false_ne_true
  | int a =>
    obtain ⟨t', rfl⟩ := ry
    cases x with
    | non => cases rx; exact SeqAt.EqAt.int_none a t'
    | bl b => cases rx; exact SeqAt.EqAt.int_bool a t' b
    | int b => obtain ⟨t, rfl⟩ := rx; exact SeqAt.EqAt.int_int a t' b t
    | str b => obtain ⟨t, rfl⟩ := rx; exact SeqAt.EqAt.int_str a t' b t
    | _ => exact absurd (show false = true from fx) Bool.false_ne_true
  | str a =>
    obtain ⟨t', rfl⟩ := ry
    cases x with
    | non => cases rx; exact SeqAt.EqAt.str_none a t'
    | bl b => cases rx; exact SeqAt.EqAt.str_bool a t' b
    | int b => obtain ⟨t, rfl⟩ := rx; exact SeqAt.EqAt.str_int a t' b t
    | str b => obtain ⟨t, rfl⟩ := rx; exact SeqAt.EqAt.str_str a t' b t
    | _ => exact absurd (show false = true from fx) Bool.false_ne_true
  | _ => exact absurd (show false = true from fy) Bool.false_ne_true
/-- the items' answers, read off the values (a value's own answer does not lean on its token) -/
def eqU (x : V) (u : Value) : Bool := match u with
  | .none => eqV .non x
  | .bool b => eqV (.bl b) x
  | .int i _ => eqV (.int i) x
  | .str z _ => eqV (.str z) x
  | _ => false
theorem eqU_of {x y : V} {u : Value} (r : RelV y u) (f : flatV y = true) : eqU x u = eqV y x := by
  cases y with
  | non => cases r; rfl
  | bl b => cases r; rfl
  | int i => obtain ⟨t, rfl⟩ := r; rfl
  | str z => obtain ⟨t, rfl⟩ := r; rfl
  | _ => exact absurd (show false = true from f) Bool.false_ne_true
theorem any_eqU {x : V} : ∀ {xs : List V} {us : List Value}, Vals xs us → xs.all flatV = true → us.any (eqU x) = xs.any fun y => eqV y x
  | _, _, .nil, _ => rfl
  | y :: xs, u :: us, .cons r t, f => by
    rw [List.all_cons, Bool.and_eq_true] at f
    rw [List.any_cons, List.any_cons, eqU_of r f.1, any_eqU t f.2]
theorem mem_eqAt {A : Around} {s : Shared} {x : V} {v : Value} (rx : RelV x v) (fx : flatV x = true) : ∀ {xs : List V} {us : List Value}, Vals xs us → xs.all flatV = true → ∀ u ∈ us, SeqAt.EqAt A s u v (eqU x u)
  | _, _, .nil, _ => fun u hu => by cases hu
  | y :: xs, u :: us, .cons r t, f => fun u' hu => by
    rw [List.all_cons, Bool.and_eq_true] at f
    rcases List.mem_cons.mp hu with rfl | hu
    · rw [eqU_of r f.1]; exact eqAt_V r rx f.1 fx
    · exact mem_eqAt rx fx t f.2 u' hu
def inV (x : V) (xs : List V) : Bool := xs.any fun y => eqV y x
/-- x in a list or tuple of flat items -/
def rIn (K : PySem.W.Frag) (neg : Bool) : R2 := fun x y H Q => ∃ p xs, y = .ref p ∧ (SqL K H p xs ∨ SqT K H p xs) ∧ flatV x = true ∧ xs.all flatV = true ∧ Q (.bl (if neg then !inV x xs else inV x xs)) H
theorem op_in_seq : OpR X (compareOp .In) (rIn X.K false) := by
  intro pins s σ H x y v u Q I rx ry h
  obtain ⟨p, xs, rfl, hq, fx, fs, q⟩ := h
  cases ry
  rcases hq with hq | hq
  · obtain ⟨its, r, pl, hz⟩ := I.list hq
    refine SeqAt.in_listAt (eqU x) pl.isList (fun w hw => mem_eqAt rx fx r fs w (by simpa using hw)) ⟨.bl _, H, I, rfl, ?_⟩
    rw [show its.toArray.any (eqU x) = its.any (eqU x) by simp, any_eqU r fs]
    exact q
  · obtain ⟨its, r, pl, hz⟩ := I.tuple hq
    refine SeqAt.in_tupleAt (eqU x) pl (fun w hw => mem_eqAt rx fx r fs w (by simpa using hw)) ⟨.bl _, H, I, rfl, ?_⟩
    rw [show its.toArray.any (eqU x) = its.any (eqU x) by simp, any_eqU r fs]
    exact q
theorem op_notIn_seq : OpR X (compareOp .NotIn) (rIn X.K true) := by
  intro pins s σ H x y v u Q I rx ry h
  obtain ⟨p, xs, rfl, hq, fx, fs, q⟩ := h
  cases ry
  rcases hq with hq | hq
  · obtain ⟨its, r, pl, hz⟩ := I.list hq
    refine SeqAt.notIn_listAt (eqU x) pl.isList (fun w hw => mem_eqAt rx fx r fs w (by simpa using hw)) ⟨.bl _, H, I, rfl, ?_⟩
    rw [show its.toArray.any (eqU x) = its.any (eqU x) by simp, any_eqU r fs]
    exact q
  · obtain ⟨its, r, pl, hz⟩ := I.tuple hq
    refine SeqAt.notIn_tupleAt (eqU x) pl (fun w hw => mem_eqAt rx fx r fs w (by simpa using hw)) ⟨.bl _, H, I, rfl, ?_⟩
    rw [show its.toArray.any (eqU x) = its.any (eqU x) by simp, any_eqU r fs]
    exact q

/-! ### len, list(x), tuple(x) of any list or tuple that is read -/
theorem call_len_seq : CallR X (.builtin "len") (fun xs H Q => ∃ p ys, xs = [.ref p] ∧ (SqL X.K H p ys ∨ SqT X.K H p ys) ∧ Q (.int ys.length) H) := by
  intro pins s σ H xs us Q I r h
  obtain ⟨p, ys, rfl, hq, q⟩ := h
  obtain ⟨u, rfl, rx⟩ := vals1 r
  cases rx
  have hn := line63
  rcases hq with hq | hq
  · obtain ⟨its, r', pl, hz⟩ := I.list hq
    have hlen := r'.length
    exact Calls.call_len_list pl.isList (by simp only [List.size_toArray] <;> omega) ⟨.int ys.length, H, I.tok _, ⟨s.toks + 1, by rw [List.size_toArray, hlen]⟩, q⟩
  · obtain ⟨its, r', pl, hz⟩ := I.tuple hq
    have hlen := r'.length
    exact len_tuple pl (by simp only [List.size_toArray] <;> omega) ⟨.int ys.length, H, I.tok _, ⟨s.toks + 1, by rw [List.size_toArray, hlen]⟩, q⟩
theorem call_list_of : CallR X (.type "list") (fun xs H Q => ∃ p ys, xs = [.ref p] ∧ (SqL X.K H p ys ∨ SqT X.K H p ys) ∧ ∀ l, H l = none → Q (.ref l) (upd H l (.lst ys))) := by
  intro pins s σ H xs us Q I r h
  obtain ⟨p, ys, rfl, hq, q⟩ := h
  obtain ⟨u, rfl, rx⟩ := vals1 r
  cases rx
  have fin : ∀ (its : List Value), Vals ys its → ys.length ≤ sizeLine → ∀ (h' : Heap) (c' : Nat), (∀ b o', s.heap.get? b = some o' → h'.get? b = some o') →
      h'.get? s.heap.objs.size = some { cls := .type "list", dict := none, data := .seq its.toArray c', slots := #[] } → EP X pins σ Q (.ref s.heap.objs.size) { s with heap := h' } := fun its r' hz h' c' kp e =>
    ⟨.ref s.heap.objs.size, _, I.laid (t' := s.toks) kp (Nat.le_refl _) (show ObjOk X.prog X.w _ h' _ (.lst ys) from ⟨hz, its, c', r', e⟩), rfl, q _ (I.hok.fresh (Nat.le_refl _))⟩
  rcases hq with hq | hq
  · obtain ⟨its, r', pl, hz⟩ := I.list hq
    have hlen := r'.length
    obtain ⟨o, ho, hc, n, hd⟩ := pl.isList
    exact call_list_seq p (.inl rfl) ho hc hd (fun h' c' kp e => fin its r' hz h' c' kp e) (by simp only [List.size_toArray] <;> omega)
  · obtain ⟨its, r', pl, hz⟩ := I.tuple hq
    have hlen := r'.length
    obtain ⟨o, ho, hc, n, hd⟩ := pl
    exact call_list_seq p (.inr rfl) ho hc hd (fun h' c' kp e => fin its r' hz h' c' kp e) (by simp only [List.size_toArray] <;> omega)
theorem call_tuple_of : CallR X (.type "tuple") (fun xs H Q => ∃ p ys, xs = [.ref p] ∧ ((SqL X.K H p ys ∧ ∀ l, H l = none → Q (.ref l) (upd H l (.tup ys))) ∨ (SqT X.K H p ys ∧ Q (.ref p) H))) := by
  intro pins s σ H xs us Q I r h
  obtain ⟨p, ys, rfl, h⟩ := h
  obtain ⟨u, rfl, rx⟩ := vals1 r
  cases rx
  rcases h with ⟨hq, q⟩ | ⟨hq, q⟩
  · obtain ⟨its, r', pl, hz⟩ := I.list hq
    have hlen := r'.length
    refine call_tuple_list pl.isList (fun h' kp => ?_) (by simp only [List.size_toArray] <;> omega)
    have I1 : Inv X pins σ H { s with heap := h' } := I.kept (t' := s.toks) kp
    have I2 : Inv X pins σ (upd H h'.objs.size (.tup ys)) { s with heap := h'.push { cls := .type "tuple", data := .seq its.toArray } } :=
      I1.laid (t' := s.toks) (fun b o e => Heap.get?_push_of_some _ e) (Nat.le_refl _) (show ObjOk X.prog X.w _ _ _ (.tup ys) from ⟨hz, its, r', IsTupN.new _ _⟩)
    exact ⟨.ref h'.objs.size, _, I2, rfl, q _ (I1.hok.fresh (Nat.le_refl _))⟩
  · obtain ⟨its, r', pl, hz⟩ := I.tuple hq
    exact call_tuple_same pl ⟨.ref p, H, I, rfl, q⟩

/-! ### the call of a builtin's method: o.m(..) -/
/-- the value is of that builtin type -/
def tyV (K : PySem.W.Frag) (T : String) (x : V) (H : Hp) : Prop := match x with
  | .str _ => T = "str"
  | .int _ => T = "int"
  | .ref p => (T = "list" ∧ ∃ xs, SqL K H p xs) ∨ (T = "tuple" ∧ ∃ o, K.lookup p = some o ∧ o.cls = .type "tuple" ∧ o.dict = none) ∨
      (T = "dict" ∧ ((∃ kvs, H p = some (.dK kvs)) ∨ ∃ kvs, H p = some (.dT kvs))) ∨ (T = "set" ∧ ∃ S n, H p = some (.set S n))
  | _ => False
theorem tyV_is {pins : List (Addr × Obj)} {σ : St} {H : Hp} {s : Shared} {T : String} {x : V} {v : Value} (I : Inv X pins σ H s) (r : RelV x v) (ty : tyV X.K T x H) :
    s.TypeIs v T ∧ ∀ a, v = .ref a → ∃ ob, s.heap.get? a = some ob ∧ ob.dict = none := by
  cases x with
  | str z =>
    obtain ⟨t, rfl⟩ := r
    cases (show T = "str" from ty)
    exact ⟨typeIs_str s z t, fun _ e => nomatch e⟩
  | int i =>
    obtain ⟨t, rfl⟩ := r
    cases (show T = "int" from ty)
    exact ⟨typeIs_int s i t, fun _ e => nomatch e⟩
  | ref p =>
    cases r
    rcases ty with ⟨rfl, xs, hq⟩ | ⟨rfl, o, hk, hc, hd⟩ | ⟨rfl, hk⟩ | ⟨rfl, S, n, hk⟩
    · obtain ⟨its, _, pl, _⟩ := I.list hq
      refine ⟨pl.isList.typeIs, fun a e => ?_⟩
      cases e
      obtain ⟨o, n, e, c, hd, _⟩ := pl
      exact ⟨o, e, hd⟩
    · refine ⟨⟨o, I.kIn p o hk, hc⟩, fun a e => ?_⟩
      cases e
      exact ⟨o, I.kIn _ o hk, hd⟩
    · have z : ∃ o, s.heap.get? p = some o ∧ o.ExactDict := by
        rcases hk with ⟨kvs, hk⟩ | ⟨kvs, hk⟩
        · obtain ⟨_, _, _, _, o, _, _, e, ex, _⟩ := I.hok p _ hk
          exact ⟨o, e, ex⟩
        · obtain ⟨_, _, _, _, o, _, _, e, ex, _⟩ := I.hok p _ hk
          exact ⟨o, e, ex⟩
      obtain ⟨o, e, ex⟩ := z
      refine ⟨⟨o, e, ex.1⟩, fun a e2 => ?_⟩
      cases e2
      exact ⟨o, e, ex.2.1⟩
    · obtain ⟨o, _, _, _, e, ex, _⟩ := I.hok p _ hk
      refine ⟨⟨o, e, ex.1⟩, fun a e2 => ?_⟩
      cases e2
      exact ⟨o, e, ex.2.1⟩
  | _ => exact False.elim ty
def tBM (K : PySem.W.Frag) (T : String) (r : V → List V → Hp → VK → Prop) (to : TE) (t : TA) : TE := fun σ H Q => to σ H fun x H1 => tyV K T x H1 ∧ t σ H1 fun xs H2 => r x xs H2 Q
variable {o e : Expr} {es : List Expr} {to : TE} {t : TA} {name : Str} {apos cpos : Pos} {T id : String} {r : V → List V → Hp → VK → Prop}
theorem pe_bm (pa : PlainAttrs T) (slot : Slot T name id) (hty : typeOf (.builtin id) = pure (.type "method_descriptor")) (hm : MtR X id r) (ho : PE X o to) (ha : PA X (e :: es) t)
    (hbase : attributeBase o name X.env (eval o X.env) = eval o X.env := by rfl)
    (hfew : ((backTo cpos (starEach (e :: es) X.env)).all (fun x => !x.1) && (backToKw cpos (keywordEach [] X.env)).all (fun x => x.1.isSome)
      && decide ((e :: es).length + ([] : List Keyword).length + (if ([] : List Keyword).isEmpty then 0 else 1) < 30)) = true := by rfl)
    (hline : (apos.endLine == cpos.line) = true := by rfl) (hs : starEach (e :: es) X.env = (false, eval e X.env) :: starEach es X.env := by rfl) (hplain : (backTo cpos (starEach es X.env)).any (·.1) = false := by rfl) :
    PE X (.Call (.Attribute o name apos) (e :: es) [] cpos) (tBM X.K T r to t) := by
  intro pins s σ H Q I h
  refine wpAny_Call_method_late hbase hfew hline rfl (thn (ho pins s σ H _ I h) fun v s1 ⟨x, H1, I1, r1, ty, q1⟩ => ?_)
  obtain ⟨h1, h2⟩ := tyV_is I1 r1 ty
  refine ⟨T, id, pa, slot, hty, h1, h2, ?_⟩
  have hA := ha cpos pins s1 σ H1 _ I1 q1
  rw [hs] at hA ⊢
  refine Calls.callWith_builtin (by show (false || (backTo cpos (starEach es X.env)).any (·.1)) = false; rw [hplain] <;> rfl) (Calls.evalArgs_plain ?_)
  exact thn hA fun us s2 ⟨vs, H2, I2, r2, q2⟩ => hm pins s2 σ H2 x vs v us Q I2 r1 r2 q2
/- xs.append(e), list.index on a module's tuple .. are MtR facts of 06m -/
end
end L2

namespace L2
open PySem PySem.Spec PyProof.Rows

def MtM (X : Cx) (id : String) (r : V → List V → Hp → VK → Prop) : Prop :=
  ∀ (pins : List (Addr × Obj)) (s : Shared) (σ : St) (H : Hp) (x : V) (xs : List V) (v : Value) (us : List Value) (Q : VK), Inv X pins σ H s → RelV x v → Vals xs us → r x xs H Q →
    wpAny (model X.prog X.w) X.A (call (.builtin id) (v :: us)) (EP X pins σ Q) X.xe s

/-! ### lists of values -/
theorem Vals.one : ∀ {x : V} {us : List Value}, Vals [x] us → ∃ u, us = [u] ∧ RelV x u
  | _, _, .cons r .nil => ⟨_, rfl, r⟩

section
variable {X : Cx} {pins : List (Addr × Obj)} {σ : St} {H : Hp} {s : Shared} {l b : Addr} {xs ys zs : List V}

/-! ### the two steps: a tracked list is rewritten, a new list is laid -/
theorem Inv.lset {its its' : List Value} {n : Nat} {f : Array Value → Array Value} {t' : Nat} (I : Inv X pins σ H s) (hH : H l = some (.lst xs))
    (e : s.heap.get? l = some { cls := .type "list", data := .seq its.toArray n }) (hf : f its.toArray = its'.toArray) (hv : Vals ys its') (hz : ys.length ≤ sizeLine) :
    Inv X pins σ (upd H l (.lst ys)) { s with heap := s.heap.update l (Obj.mapSeq f), toks := t' } := by
  have q := PySem.IsL.update e f
  rw [hf] at q
  refine I.write (x := l) (e := l) (by rw [hH]; exact trivial) (.inl rfl) (fun b' u hb hu => (Heap.get?_update_other s.heap (Obj.mapSeq f) (Ne.symm hb)).trans hu) ⟨_, q⟩ ?_
  exact ⟨hz, its', _, hv, q⟩
theorem Inv.lnew {its : List Value} {t' : Nat} (I : Inv X pins σ H s) (hv : Vals ys its) (hz : ys.length ≤ sizeLine) :
    Inv X pins σ (upd H s.heap.objs.size (.lst ys)) { s with heap := s.heap.push { cls := .type "list", data := .seq its.toArray }, toks := t' } :=
  I.laid (fun _ _ q => Heap.get?_push_of_some _ q) (Nat.le_refl _) ⟨hz, its, 0, hv, Heap.get?_push_size _ rfl⟩
theorem Inv.fresh (I : Inv X pins σ H s) : H s.heap.objs.size = none := I.hok.fresh (Nat.le_refl _)
theorem Inv.lstM (I : Inv X pins σ H s) (hH : H l = some (.lst xs)) : xs.length ≤ sizeLine ∧ ∃ (its : List Value) (n : Nat), Vals xs its ∧ xs.length = its.length ∧ s.heap.get? l = some { cls := .type "list", data := .seq its.toArray n } := by
  obtain ⟨z, its, n, r, e⟩ := I.hok l _ hH
  exact ⟨z, its, n, r, r.length, e⟩

theorem notLongL {n : Nat} (h : n ≤ sizeLine) : Builtin.List.listTooLong n = false := by
  unfold Builtin.List.listTooLong
  exact decide_eq_false (by omega)
end

section
variable {X : Cx}

/-! ### methods -/
def rAppend : V → List V → Hp → VK → Prop := fun x vs H Q => ∃ l xs y, x = .ref l ∧ vs = [y] ∧ H l = some (.lst xs) ∧ xs.length < sizeLine ∧ Q .non (upd H l (.lst (xs ++ [y])))
theorem mt_append : MtM X "list.append" rAppend := by
  intro pins s σ H x vs v us Q I rx rv h
  obtain ⟨l, xs, y, rfl, rfl, hH, hz, q⟩ := h
  cases rx
  obtain ⟨u, rfl, ru⟩ := rv.one
  obtain ⟨z, its, n, r, hl, e⟩ := I.lstM hH
  refine call_meets F.slot_list_append ⟨_, e, rfl⟩ F.entry_list_append (F.args_list_append_2 _ _) (PySem.list_append l its.toArray n u (by rw [List.size_toArray]; omega)) ⟨e, ?_⟩
  refine ⟨.non, _, I.lset (its' := its ++ [u]) hH e (by simp) (r.append (.cons ru .nil)) ?_, rfl, q⟩
  rw [List.length_append, List.length_singleton]
  omega

def rExtend : V → List V → Hp → VK → Prop := fun x vs H Q => ∃ l b xs zs, x = .ref l ∧ vs = [.ref b] ∧ H l = some (.lst xs) ∧ H b = some (.lst zs) ∧ xs.length + zs.length ≤ sizeLine ∧ Q .non (upd H l (.lst (xs ++ zs)))
theorem mt_extend : MtM X "list.extend" rExtend := by
  intro pins s σ H x vs v us Q I rx rv h
  obtain ⟨l, b, xs, zs, rfl, rfl, hH, hB, hz, q⟩ := h
  cases rx
  obtain ⟨u, rfl, ru⟩ := rv.one
  cases ru
  obtain ⟨z, its, n, r, hl, e⟩ := I.lstM hH
  obtain ⟨z2, its2, n2, r2, hl2, e2⟩ := I.lstM hB
  have hsz : its.toArray.size + its2.toArray.size ≤ sizeLine := by rw [List.size_toArray, List.size_toArray]; omega
  have hlong : ¬ (!its.toArray.isEmpty && Builtin.List.listTooLong (its.toArray.size + its2.toArray.size)) = true := by
    rw [notLongL hsz, Bool.and_false]
    exact Bool.false_ne_true
  refine call_meets F.slot_list_extend ⟨_, e, rfl⟩ F.entry_list_extend (F.args_list_extend_2 _ _)
    (AutoSeq1.list_extend_list_list_0 l its.toArray n b its2.toArray n2 hlong (by rw [List.size_toArray]; omega) (by omega)) ⟨e, e2, ?_⟩
  refine ⟨.non, _, I.lset (its' := its ++ its2) hH e (by simp) (r.append r2) ?_, rfl, q⟩
  rw [List.length_append]
  omega





/-! ### list + list, list += list, list * int -/
def rCat : R2 := fun x y H Q => ∃ l b xs zs, x = .ref l ∧ y = .ref b ∧ H l = some (.lst xs) ∧ H b = some (.lst zs) ∧ xs.length + zs.length ≤ sizeLine ∧ ∀ p, H p = none → Q (.ref p) (upd H p (.lst (xs ++ zs)))
theorem op_cat : OpR X (binaryOp .Add) rCat := by
  intro pins s σ H x y v u Q I rx ry h
  obtain ⟨l, b, xs, zs, rfl, rfl, hH, hB, hz, q⟩ := h
  cases rx
  cases ry
  obtain ⟨z, its, n, r, hl, e⟩ := I.lstM hH
  obtain ⟨z2, its2, n2, r2, hl2, e2⟩ := I.lstM hB
  refine PySem.P.add_list e e2 ?_ (by rw [List.size_toArray, List.size_toArray]; omega)
  have ea : its.toArray ++ its2.toArray = (its ++ its2).toArray := by simp
  rw [ea]
  exact ⟨.ref _, _, I.lnew (t' := s.toks) (r.append r2) (by rw [List.length_append]; omega), rfl, q _ I.fresh⟩

/-! ### del xs[i] -/
end

/-! ### xs[a:b] = ys -/
section
variable {prog : Program} {w : World} {A : Around} {E : Value → Shared → Prop} {s : Shared}
end

section
variable {X : Cx}
end
end L2

namespace Att
open PySem PySem.W PySem.Calls PyProof.Rows

/-! ### the script -/
theorem ints_of_wellAll {P : Params} {h : Heap} : ∀ (ns : List Int) (vs : List Value), WellAll P h vs (ns.map WData.int) → IntsAre vs ns := by
  intro ns
  induction ns with
  | nil =>
    intro vs w
    rw [List.map_nil] at w
    cases w
    exact .nil
  | cons n ns ih =>
    intro vs w
    rw [List.map_cons] at w
    cases w with
    | cons a b =>
      cases a
      exact .cons _ _ (ih _ b)

theorem script_of {l : OpenLaw} {n : Nat} (hn : l.most = some n) {P : Params} {h : Heap} {args : List WData} {vals : List Value}
    (hpre : l.row.toRowW.claim.pre args = true) (hwl : WellAll P h vals args) :
    ∃ a vs ns, vals = [Value.ref a] ∧ args = [WData.list (ns.map WData.int)] ∧ h.get? a = some { cls := .type "list", data := .seq vs.toArray } ∧ IntsAre vs ns ∧ ns.length ≤ n := by
  have hsh : WShape.hasAll [] args [.list .int] = true := (pre_splitW hpre).1
  have hc : l.pre.holds [] { args := args } = true := (pre_splitW hpre).2
  obtain ⟨d, r, rfl, h1, h2⟩ := hasAllW_cons hsh
  obtain rfl := hasAllW_nil h2
  obtain ⟨xs, rfl, h3⟩ := hasW_list h1
  obtain ⟨ns, rfl⟩ := items_int h3
  have hlen : ns.length ≤ n := by
    unfold OpenLaw.pre at hc
    have h4 : (WTm.not (.lt (.lit (.int (n : Int))) (.len (.arg 0)))).holds [] { args := [.list (ns.map .int)] } = true := by
      have h4 := (holds_andW hc).1
      rw [hn] at h4
      exact h4
    have h5 := condW_of h4 (w_not (w_lt w_lit (w_len_list (w_arg rfl))))
    rw [List.length_map] at h5
    refine Nat.le_of_not_lt fun q => ?_
    have q' : (n : Int) < ((ns.length : Nat) : Int) := by omega
    first
      | (rw [decide_eq_true q'] at h5; exact absurd h5 (by decide))
      | (simp at h5; omega)
  cases hwl with
  | cons w1 w2 =>
    cases w2
    cases w1 with
    | list ho hall => exact ⟨_, _, ns, rfl, rfl, ho, ints_of_wellAll ns _ hall, hlen⟩

theorem post_true (l : OpenLaw) (args : List WData) : l.row.toRowW.claim.post args (.bool true) args = true :=
  postW_of (r := l.row.toRowW) (X := (true == true))
    (show WShape.has [] (.bool true) .bool = true by first | rfl | decide | simp [WShape.has, WShape.arms, WShape.armsAll])
    (show (WTm.eq .res (.lit (.bool true))).value [] { args := args, res := some (.bool true), after := args } = some (.bool (true == true)) from w_eq_bool (w_res rfl) w_lit) rfl

/-! ### the attachment: holds_open's last premise (the goal 'hc' behind k_head) from a wpAny of the law's body -/

/-- the same from a codeAny of the CALL (for a layer whose function contracts speak of calls) -/
theorem attach_call {l : OpenLaw} {n : Nat} {q : Program} {loose : List Str} {XP : (Str → Option Value) → Heap → Prop} {YP : World → Heap → Prop} {d : DefRec}
    (hn : l.most = some n) (hdf : d.params.defaults = [])
    (call : ∀ (w : World) (s₀ s₁ : Shared) (mg mb : Str → Option Value) (fa : Addr) (o : Obj) (pm cd doc : Value) (a : Addr) (vs : List Value) (ns : List Int),
      Ground q loose [] XP w s₀ mg mb s₁.heap → YP w s₁.heap →
      s₁.heap.get? fa = some o → o.data = .func (docDef d.name d.params d.body d.scope pm cd doc) → s₁.heap.CodeRec cd d.name → mg d.name = some (.ref fa) →
      s₁.heap.get? a = some { cls := .type "list", data := .seq vs.toArray } → IntsAre vs ns → ns.length ≤ n → s₁.gens = #[] →
      codeAny (model l.prog w) callerA (.call (.ref fa) ⟨[.ref a], []⟩) (fun r s' => r = .ok (.ret (.bool true)) ∧ OldK s₁.heap s'.heap ∧ s'.os = s₁.os ∧ AllBare s'.gens) s₁) :
    WalkO q loose XP YP l.row.toRowW d [] (fun f vs => PySem.call f vs) := by
  intro w s₀ s₁ mg mb G Y fa o pm cd doc dV kV ho hd hcd hD hmg hg args vals as hpre hlay hrd hwl hlo
  obtain rfl : dV = .none := Dflts.none hD hdf
  obtain rfl : kV = .none := Dflts.noKw hD
  obtain ⟨a, vs, ns, rfl, rfl, hobj, hints, hlen⟩ := script_of hn hpre hwl
  refine enter_call (codeAny_mono (call w s₀ s₁ mg mb fa o pm cd doc a vs ns G Y ho (fd_plain hd) hcd hmg hobj hints hlen hg) fun r s' hq => ?_)
  obtain ⟨rfl, h2, h3, h4⟩ := hq
  exact ⟨.inl ⟨.bool true, .bool true, [], rfl, fun _ => rfl, .bool true, post_true l _, fun _ => ⟨List.Pairwise.nil, fun _ hm => (nomatch hm)⟩⟩, h2, h3, h4⟩


/-! ### rules over ANY heap (no ledger) from facts about the written part K: the library's own take a ledger (News) for what they write -/
section
variable {prog : Program} {w : World} {A : Around} {E : Value → Shared → Prop} {s : Shared} {K : Frag}





/-! the whole heap as the ledger: makes every rule that writes through a ledger a rule over any heap -/

end
end Att

namespace L2
open PySem PySem.Spec PyProof.Rows

theorem vals_ints : ∀ {vs : List Value} {ns : List Int}, IntsAre vs ns → Vals (ns.map V.int) vs
  | _, _, .nil => .nil
  | _, _, .cons n t h => .cons ⟨t, rfl⟩ (vals_ints h)

/-- nothing is tracked but the script, known to the object (or it is an object of the module) -/
def Only (H : Hp) : Prop := ∀ b, H b = none ∨ ∃ o xs, H b = some (.frz o (.lst xs))

/-- THE HEAD: the law's promise, at the heap behind the top. F, the promise of the law's def, may use that base is part of the heap (so K.In base, base.Ns mainGlobals mg stand in Mod) -/
theorem law_call {P : Program} {w : World} {K : PySem.W.Frag} {mg mb : Str → Option Value} {CX : CXT} {k : Nat} {fa a : Addr} {fd : FuncData} {x : Str} {sp : Sp} {s₁ : Shared} {vs : List Value} {ns : List Int}
    (KX : K.In s₁.heap) (hns : s₁.heap.Ns mainGlobals mg) (hb : s₁.heap.Ns builtinsNs mb) (hbb : ∀ x : Str, x ≠ "__name__" → mb x = bootBuiltins x) (hlim : s₁.heap.NoLimit) (hg : s₁.gens = #[])
    (ha : s₁.heap.get? a = some { cls := .type "list", data := .seq vs.toArray }) (hi : IntsAre vs ns) (hl : ns.length ≤ sizeLine) (hr : Room k callerA)
    (F : ∀ base : Heap, K.In base → base.Ns mainGlobals mg → FnOk P w K mg base CX k fa fd [x] sp) (hbind : ∀ (s : Shared) (u : Value), BindsTo s fd ⟨[u], []⟩ [(x, u)])
    (hsp : ∀ H : Hp, Only H → SqL K H a (ns.map V.int) → sp [.ref a] H (fun v _ => v = .bl true) fun _ _ _ => False)
    (hCX : ∀ H e s', CX [] H s₁ (fun _ _ _ => False) e s' → False) :
    codeAny (model P w) callerA (.call (.ref fa) ⟨[.ref a], []⟩) (fun r s' => r = .ok (.ret (.bool true)) ∧ OldK s₁.heap s'.heap ∧ s'.os = s₁.os ∧ AllBare s'.gens) s₁ := by
  have rv := vals_ints hi
  have lenV := hi.length
  -- from an abstract heap in which nothing but the script may be tracked
  have core : ∀ H : Hp, Only H → SqL K H a (ns.map V.int) → HOk P w H s₁.heap → (∀ b, H b ≠ none → b = a) → (H a ≠ none → K.lookup a = none) →
      codeAny (model P w) callerA (.call (.ref fa) ⟨[.ref a], []⟩) (fun r s' => r = .ok (.ret (.bool true)) ∧ OldK s₁.heap s'.heap ∧ s'.os = s₁.os ∧ AllBare s'.gens) s₁ := by
    intro H hO hS hok hA hK
    have base_of : ∀ {b : Addr} {o : Obj}, s₁.heap.get? b = some o → H b = none → (hidT s₁.heap H).get? b = some o := fun e n => hidT_get e n
    have noA : ∀ {b : Addr} {o : Obj} {es : Array DictEntry} {ep : Nat}, s₁.heap.get? b = some o → o.data = .dict es ep → H b = none := fun {b o es ep} e d => by
      cases q : H b with
      | none => rfl
      | some u =>
        have e' : b = a := hA b (by rw [q]; simp)
        subst e'
        rw [ha] at e; cases e
        have d' : Data.seq vs.toArray _ = Data.dict es ep := d
        cases d'
    have nsK : ∀ {b : Addr} {m : Str → Option Value}, s₁.heap.Ns b m → (hidT s₁.heap H).Ns b m := fun {b m} ⟨o, es, ep, e, d, r⟩ => ⟨o, es, ep, base_of e (noA e d), d, r⟩
    have hKb : K.In (hidT s₁.heap H) := fun b o e => base_of (KX b o e) (by
      cases q : H b with
      | none => rfl
      | some u =>
        have e' : b = a := hA b (by rw [q]; simp)
        subst e'
        rw [hK (by rw [q]; simp)] at e; cases e)
    have hM : Mod K mg (hidT s₁.heap H) := ⟨hKb, nsK hns, ⟨mb, nsK hb, hbb⟩, let ⟨mc, h1, h2⟩ := hlim; ⟨mc, nsK h1, h2⟩⟩
    have e0 : Env0 P w K mg (hidT s₁.heap H) callerA [] s₁ H := ⟨rfl, hM, fun b o e => of_hidT e, Nat.le_of_eq (hidT_size _ _), trivial, fun b hb => absurd (show b ∈ ([] : List Addr) from hb) (by simp), hok, .of_eq hg⟩
    refine codeAny_mono ((F _ hKb (nsK hns)).run callerA [] s₁ H ⟨[.ref a], []⟩ [.ref a] [.ref a] _ _ hr e0 (hbind s₁ (.ref a)) (.cons rfl .nil) (hsp H hO hS)) fun r s' h => ?_
    cases r with
    | error e => exact (hCX H e s' h).elim
    | ok fl =>
      cases fl with
      | next => exact False.elim h
      | brk => exact False.elim h
      | cont => exact False.elim h
      | ret u =>
        obtain ⟨v, H', os, bare, un, hok', r', q⟩ := h
        have q' : v = .bl true := q
        subst q'
        obtain rfl : u = Value.bool true := r'
        refine ⟨rfl, OldK.of_keep fun b o e => ?_, os, bare⟩
        cases q : H b with
        | none => exact un.keep b o e q (by intro z; exact absurd (show b ∈ ([] : List Addr) from z) (by simp)) (by simp)
        | some u =>
          rcases hO b with z | ⟨ob, xs, z⟩
          · rw [q] at z; cases z
          · have z2 := un.frzs b ob _ z
            obtain ⟨e1, _⟩ := hok b _ z
            obtain ⟨e2, _⟩ := hok' b _ z2
            rw [e] at e1; cases e1
            exact e2
  cases hk : K.lookup a with
  | some o =>
    -- the script is one of the module's own objects
    have e := KX a o hk
    rw [ha] at e
    cases e
    refine core (fun _ => none) (fun _ => .inl rfl) (.inr ⟨_, vs.toArray, _, hk, rfl, rfl, rfl, by rw [List.size_toArray, lenV]; exact hl, by simpa using rv⟩) (fun b u z => by have z' : (none : Option HO) = some u := z; cases z') (fun b z => absurd rfl z) fun z => absurd rfl z
  | none =>
    refine core (fun b => if b = a then some (.frz { cls := .type "list", data := .seq vs.toArray } (.lst (ns.map V.int))) else none) (fun b => ?_) (.inl (.inr ⟨{ cls := .type "list", data := .seq vs.toArray }, if_pos rfl⟩)) (fun b u z => ?_) (fun b z => ?_) fun _ => hk
    · by_cases hb : b = a
      · exact .inr ⟨_, _, if_pos hb⟩
      · exact .inl (if_neg hb)
    · by_cases hb : b = a
      · have z' := (if_pos hb).symm.trans z
        cases z'
        subst hb
        exact ⟨ha, by rw [List.length_map]; exact hl, vs, _, rv, ha⟩
      · have z' := (if_neg hb).symm.trans z
        cases z'
    · by_cases hb : b = a
      · exact hb
      · exact absurd (if_neg hb) z
end L2

namespace L2
open PySem PySem.Spec PyProof.Rows


/-- the goal that k_head leaves (case hc), from the law's promise. F gives the function object fd (K's own) once, then the promise over every base -/
theorem walk_of {l : PySem.W.OpenLaw} {n k : Nat} {q : Program} {loose : List Str} {XP : (Str → Option Value) → Heap → Prop} {YP : World → Heap → Prop} {d : DefRec} {K : Params → PySem.W.Frag} {CX : World → CXT} {sp : World → Sp} {x : Str}
    (hn : l.most = some n) (hn2 : n ≤ sizeLine) (hdf : d.params.defaults = []) (hr : Room k callerA)
    (hY : ∀ (w : World) (h : Heap), YP w h → (K w.params).In h)
    (F : ∀ (w : World) (mg : Str → Option Value) (fa : Addr) (h : Heap), (K w.params).In h → h.Ns mainGlobals mg → mg d.name = some (.ref fa) →
      ∃ fd : FuncData, (∀ (s : Shared) (u : Value), BindsTo s fd ⟨[u], []⟩ [(x, u)]) ∧
        ∀ base : Heap, (K w.params).In base → base.Ns mainGlobals mg → FnOk l.prog w (K w.params) mg base (CX w) k fa fd [x] (sp w))
    (hsp : ∀ (w : World) (H : Hp) (a : Addr) (ns : List Int), ns.length ≤ n → Only H → SqL (K w.params) H a (ns.map V.int) → sp w [.ref a] H (fun v _ => v = .bl true) fun _ _ _ => False)
    (hCX : ∀ (w : World) (H : Hp) (s : Shared) (e : Value) (s' : Shared), CX w [] H s (fun _ _ _ => False) e s' → False) :
    PySem.W.WalkO q loose XP YP l.row.toRowW d [] (fun f vs => PySem.call f vs) := by
  refine Att.attach_call hn hdf fun w s₀ s₁ mg mb fa o pm cd doc a vs ns G Y ho hd hcd hmg hobj hints hlen hg => ?_
  have KX := hY w _ Y
  obtain ⟨fd, hb, hF⟩ := F w mg fa _ KX G.T.g hmg
  exact law_call KX G.T.g G.T.b G.T.builtins G.T.nolimit hg hobj hints (Nat.le_trans hlen hn2) hr hF hb (fun H hO hS => hsp w H a ns hlen hO hS) fun H e s' => hCX w H s₁ e s'
end L2

/- THE LAST THEOREM (shape; LID, My.* are yours):
   My.Adr: a structure of the addresses that your layer names (classes, functions); My.Txt K t: a structure (Prop) of the equations over K;
   My.txt_mk : {K} {implicit addresses ..} (e1 : nsIn K mainGlobals "law" = some (some (.ref f))) (e2 : K.lookup f = some ⟨oc, od, .func (fnOf "law" "law" params body scope dV kV doc pm an cdv ct), sl⟩) (e3 : codeIn K cdv "law" = true) .. : ∃ t, My.Txt K t

set_option maxRecDepth 100000 in
set_option maxHeartbeats 0 in
theorem PySem.Challenge.cw_LID_holds : PySem.Challenge.rw_LID.Holds := by
  w_on; o_law; k_head; (case hw => w_witness2)
  k_fill
  refine L2.walk_of (l := PySem.Challenge.rw_LID) (n := 63) (k := 40) (x := "script") (CX := fun w => ..) (sp := fun _ => My.sp_law) rfl (by decide) rfl ⟨rfl, by decide, by decide⟩ (fun w h Y => PySem.W.kIn_of Y) ?F ?S ?C
  case F =>
    intro w mg fa h KX G hmg
    have T : ∃ t, My.Txt (L2.KOf KX) t := by
      dsimp only [L2.KOf]                          -- K must stand as «<heap const> w.params» for k_is
      refine' My.txt_mk ?e1 ?e2 ?e3 ..
      (case e1 => PySem.W.k_is)                    -- in the order: a name -> its address -> its object -> its parts
      (case e2 => PySem.W.k_is)
      ..
    obtain ⟨t, T⟩ := T
    have e0 := hmg.symm.trans (PySem.W.mg_of KX G T.law)
    cases e0                                       -- fa is the law's own address
    exact ⟨_, fun s u => .of_eq rfl, fun base kb nb => My.law_fn T kb nb⟩     -- if «.of_eq rfl» comes too early: refine' ⟨_, ?b, fun base kb nb => My.law_fn T kb nb⟩; exact fun s u => .of_eq rfl
  case S => exact fun w H a ns hl hO hS => ..
  case C => exact ..
(the tactic k_is has no namespace: write k_is) -/

/-! SHORT WORDS over the layer: a def of the text, its body, what a loop and a test want. -/
namespace L2
open PySem PySem.Spec PyProof.Rows

/-! ### the text by places -/
def defArgs (s : Stmt) : Arguments := match s with
  | .FunctionDef _ a _ _ _ _ _ _ _ _ => a
  | _ => { posonlyargs := [], args := [], vararg := none, kwonlyargs := [], kw_defaults := [], kwarg := none, defaults := [] }
def defBody (s : Stmt) : List Stmt := match s with
  | .FunctionDef _ _ b _ _ _ _ _ _ _ => b
  | _ => []
def defScope (s : Stmt) : Scope := match s with
  | .FunctionDef _ _ _ _ _ _ sc _ _ _ => sc
  | _ => { kind := .function, names := [], isGenerator := false, isCoroutine := false }

/-! ### no exception leaves a def -/
abbrev CX0 : CXT := fun _ _ _ _ _ _ => False
abbrev E0 : XK := fun _ _ _ => False
theorem pass0 {X : Cx} : Passes CX0 X E0 := fun _ _ _ _ _ _ _ h => h.elim

/-! ### a def (or method) of the text as it stands behind the top -/
structure Fun (K : PySem.W.Frag) (x qual : Str) (st : Stmt) (f : Addr) (fd : FuncData) : Prop where
  ex : ∃ (oc : Value) (od : Option Addr) (kV doc pm : Value) (an : Option Addr) (cdv ct : Value) (osl : Array (Option Value)),
    fd = PySem.W.fnOf x qual (defArgs st) (defBody st) (defScope st) .none kV doc pm an cdv ct ∧ K.lookup f = some ⟨oc, od, .func fd, osl⟩ ∧ PySem.W.codeIn K cdv qual = true
  kp : PySem.W.keepIn K (.ref f) = true
section
variable {P : Program} {w : World} {K : PySem.W.Frag} {mg : Str → Option Value} {base : Heap}
/-- THE RULE for a def: its body as a term of rules, and the reading of that term -/
theorem Fun.ok {x qual : Str} {st : Stmt} {f : Addr} {fd : FuncData} {N ps : List Str} {k : Nat} {sp : Sp} (F : Fun K x qual st f fd) (S : FnScope N ps (defScope st)) (len : ∀ vs H Q E, sp vs H Q E → vs.length = ps.length)
    (hbody : ∀ (cdv : Value) (A : Around) (outer : List Env) (s : Shared) (H : Hp) (vs : List V) (Q : VK) (E : XK), Room k (A.deeper (envOfC qual (defScope st) s.heap.objs.size f cdv)) → sp vs H Q E →
      ∃ t, PSs (cxOf CX0 P w K mg base N qual (defScope st) f cdv A outer s H E).nox (defBody st) t ∧ t { nx := fun _ H' => Q .non H', rt := Q } (start N vs) H) : FnOk P w K mg base CX0 (k + 1) f fd ps sp := by
  obtain ⟨oc, od, kV, doc, pm, an, cdv, ct, osl, rfl, lk, hcd⟩ := F.ex
  refine fn_of lk hcd S len fun A outer s H vs Q E hr hsp => ?_
  obtain ⟨t, h, q⟩ := hbody cdv A outer s H vs Q E hr hsp
  exact ⟨t, h.nox, q⟩
/-- how its arguments bind (no defaults): h is «fun _ _ _ _ _ _ us hl => match us, hl with | [_, _], _ => rfl», one _ a parameter -/
theorem Fun.binds {x qual : Str} {st : Stmt} {f : Addr} {fd : FuncData} {ps : List Str} (F : Fun K x qual st f fd)
    (h : ∀ (kV doc pm : Value) (an : Option Addr) (cdv ct : Value) (us : List Value), us.length = ps.length → bindArgs (PySem.W.fnOf x qual (defArgs st) (defBody st) (defScope st) .none kV doc pm an cdv ct) ⟨us, []⟩ = pure (ps.zip us)) : Binds K fd ps [] := by
  obtain ⟨oc, od, kV, doc, pm, an, cdv, ct, osl, rfl, lk, hcd⟩ := F.ex
  exact .all (h kV doc pm an cdv ct)
theorem fun_mk {x qual : Str} {st : Stmt} {f : Addr} {oc : Value} {od an : Option Addr} {osl : Array (Option Value)} {kV doc pm cdv ct : Value} (l : K.lookup f = some ⟨oc, od, .func (PySem.W.fnOf x qual (defArgs st) (defBody st) (defScope st) .none kV doc pm an cdv ct), osl⟩)
    (c : PySem.W.codeIn K cdv qual = true) (k : PySem.W.keepIn K (.ref f) = true) : Fun K x qual st f (PySem.W.fnOf x qual (defArgs st) (defBody st) (defScope st) .none kV doc pm an cdv ct) := ⟨⟨oc, od, kV, doc, pm, an, cdv, ct, osl, rfl, l, c⟩, k⟩
end
theorem small1000 {n : Nat} (h : n ≤ 1000) : n < sizeLine := Nat.lt_of_le_of_lt h (by decide)

/-! ### expressions in short: the name that stands in the i-th slot -/
section
variable {X : Cx}
theorem pv (i : Nat) {x : Str} {pos : Pos} (hN : X.N[i]? = some x := by rfl) (hv : Vis X.env.scope x := by first | exact Or.inl rfl | exact Or.inr (Or.inl rfl) | exact Or.inr (Or.inr rfl)) (hd : (x == ("__debug__" : Str)) = false := by decide)
    (hcd : (x == ("__classdict__" : Str)) = false := by decide) : PE X (.Name x pos) (tVar i) := pe_var hN hv hd hcd
end

/-! ### tests -/
theorem iteF {A B : Prop} (h : B) : if false = true then A else B := by
  rw [if_neg Bool.false_ne_true]
  exact h
theorem iteT {A B : Prop} (h : A) : if true = true then A else B := by
  rw [if_pos rfl]
  exact h
theorem ite2 {c A B : Prop} [Decidable c] (h1 : c → A) (h2 : ¬ c → B) : if c then A else B := by
  by_cases h : c
  · rw [if_pos h]
    exact h1 h
  · rw [if_neg h]
    exact h2 h

/-! ### heaps -/
/-- all that was tracked is as it was -/
def Same (H H' : Hp) : Prop := ∀ b o, H b = some o → H' b = some o
theorem Same.refl (H : Hp) : Same H H := fun _ _ h => h
theorem Same.trans {H H1 H2 : Hp} (a : Same H H1) (b : Same H1 H2) : Same H H2 := fun c o h => b c o (a c o h)
theorem Same.free {H H' : Hp} (e : Same H H') {l : Addr} (h : H' l = Option.none) : H l = Option.none := by
  cases q : H l with
  | none => rfl
  | some o =>
    rw [e l o q] at h
    cases h
theorem Same.seq {K : PySem.W.Frag} {H H' : Hp} {a : Addr} {xs : List V} (e : Same H H') (h : SqL K H a xs) : SqL K H' a xs := by
  rcases h with (h | ⟨o, h⟩) | h
  · exact .inl (.inl (e _ _ h))
  · exact .inl (.inr ⟨o, e _ _ h⟩)
  · exact .inr h

end L2

namespace L2
open PySem PySem.Spec PyProof.Rows

/-! ### list comprehensions -/
theorem forIn_yields {α β : Type} {f : α → β → Sem (ForInStep β)} {g : α → β → β} : ∀ (l : List α) (b : β), (∀ x ∈ l, ∀ c, f x c = pure (.yield (g x c))) → forIn l b f = pure (l.foldl (fun c x => g x c) b)
  | [], b, _ => rfl
  | x :: l, b, h => by
    rw [List.forIn_cons, h x List.mem_cons_self, pure_bind]
    exact forIn_yields l _ fun y hy => h y (List.mem_cons_of_mem _ hy)

def closStep (cells : List (Str × Addr)) (x : Str × NameKind) (cs : List (Str × Addr)) : List (Str × Addr) :=
  if (x.2 == NameKind.free) = true then (x.1, (cells.lookup x.1).getD 0) :: cs else cs
def closOf (cells : List (Str × Addr)) (names : List (Str × NameKind)) (cs : List (Str × Addr)) : List (Str × Addr) := names.foldl (fun cs x => closStep cells x cs) cs

theorem closureFor_eq {scope : Scope} {env : Env} (h : ∀ y ∈ scope.names, y.2 = .free → ∃ c, env.cells.lookup y.1 = some c) : closureFor scope env = pure (closOf env.cells scope.names []) := by
  simp only [closureFor]
  rw [forIn_yields (g := fun x cs => closStep env.cells x cs) scope.names [] (fun x hx c => by
    obtain ⟨n, kind⟩ := x
    cases hk : (kind == NameKind.free) with
    | false => simp only [hk, closStep, Bool.false_eq_true, if_false]
    | true =>
      obtain ⟨a, ha⟩ := h (n, kind) hx (by simpa using hk)
      have hc : cellOf env n = pure a := by
        unfold cellOf
        have ha' : env.cells.lookup n = some a := ha
        rw [ha']
      have ha' : env.cells.lookup n = some a := ha
      simp only [hk, closStep, if_true, hc, pure_bind, ha', Option.getD_some])]
  rfl

theorem closOf_sub {cells : List (Str × Addr)} : ∀ (names : List (Str × NameKind)) (cs : List (Str × Addr)), (∀ y ∈ names, y.2 = .free → ∃ c, cells.lookup y.1 = some c) →
    (∀ x c, cs.lookup x = some c → cells.lookup x = some c) → ∀ x c, (closOf cells names cs).lookup x = some c → cells.lookup x = some c
  | [], cs, _, h => h
  | (n, k) :: r, cs, hf, h => by
    refine closOf_sub r (closStep cells (n, k) cs) (fun y hy => hf y (List.mem_cons_of_mem _ hy)) fun x c e => ?_
    unfold closStep at e
    split at e
    · rename_i hk
      obtain ⟨a, ha⟩ := hf (n, k) List.mem_cons_self (by simpa using hk)
      have ha' : cells.lookup n = some a := ha
      rw [List.lookup_cons] at e
      cases hx : (x == n) with
      | true =>
        simp only [hx, ha', Option.getD_some] at e
        have : x = n := by simpa using hx
        rw [this, ha', e]
      | false =>
        simp only [hx] at e
        exact h x c e
    · exact h x c e

theorem closOf_has {cells : List (Str × Addr)} : ∀ (names : List (Str × NameKind)) (cs : List (Str × Addr)) (x : Str), ((∃ c, cs.lookup x = some c) ∨ (x, NameKind.free) ∈ names) → ∃ c, (closOf cells names cs).lookup x = some c
  | [], cs, x, h => by
    rcases h with h | h
    · exact h
    · cases h
  | (n, k) :: r, cs, x, h => by
    refine closOf_has r (closStep cells (n, k) cs) x ?_
    rcases h with ⟨c, h⟩ | h
    · left
      unfold closStep
      split
      · rw [List.lookup_cons]
        cases hx : (x == n) with
        | true => exact ⟨_, rfl⟩
        | false => exact ⟨c, h⟩
      · exact ⟨c, h⟩
    · rcases List.mem_cons.mp h with e | h
      · left
        cases e
        unfold closStep
        rw [if_pos (show ((n, NameKind.free).2 == NameKind.free) = true from rfl), List.lookup_cons]
        simp
      · exact .inr h

/-- the clause's tests -/
def PTs (X : Cx) (ifs : List Expr) (t : TT) : Prop :=
  ∀ (pins : List (Addr × Obj)) (s : Shared) (σ : St) (H : Hp) (Q : Bool → Hp → Prop), Inv X pins σ H s → t σ H Q →
    wpAny (model X.prog X.w) X.A (forIn ifs true fun c r => if r = true then do let ok ← isTrue c X.env (eval c X.env); pure (ForInStep.yield ok) else pure (ForInStep.yield r)) (TP X pins σ Q) X.xe s
def tYes : TT := fun _ H Q => Q true H
theorem pts_nil {X : Cx} : PTs X [] tYes := fun pins s σ H Q I h => wpAny_tests_nil ⟨H, I, h⟩
theorem pts_one {X : Cx} {c : Expr} {t : TT} (h : PT X c t) : PTs X [c] t := fun pins s σ H Q I q => wpAny_tests_one (h pins s σ H Q I q)

/-- the context of a comprehension's block -/
def cxComp (X : Cx) (Nc : List Str) (scope : Scope) (cl : List (Str × Addr)) (C : Addr) (s₁ : Shared) (H₁ : Hp) (fp : List Addr) : Cx where
  prog := X.prog
  w := X.w
  K := X.K
  mg := X.mg
  base := X.base
  A := X.A
  N := Nc
  s₀ := s₁
  H₀ := H₁
  env := compEnvC scope cl C X.env
  outer := X.stack
  stack := X.stack
  ex := fp
  fn := fun _ => false
  calm := X.calm
  pn := []
  xe := fun _ _ => False

/-- what the block takes over from the frame around it, slot by slot -/
def capt (fm : List (Option Nat)) (σ : St) : St := fm.map fun o => match o with
  | none => none
  | some j => (σ[j]?).join

structure Capt (X : Cx) (Nc : List Str) (scope : Scope) (fm : List (Option Nat)) : Prop where
  kind : scope.kind = .function
  nocell : ∀ y ∈ scope.names, y.2 ≠ .cell
  names : ∀ y ∈ scope.names, y.2 = .local → scope.names.lookup y.1 = some .local
  free : ∀ y ∈ scope.names, y.2 = .free → X.env.kindOf y.1 = some .cell ∨ X.env.kindOf y.1 = some .free
  len : fm.length = Nc.length
  at_ : ∀ (p : Option Nat × Str), p ∈ fm.zip Nc → ∀ j, p.1 = some j → X.N[j]? = some p.2 ∧ (p.2, NameKind.free) ∈ scope.names ∧ scope.names.lookup p.2 = some .free

def captOk (N : List Str) (sc : Scope) (Nc : List Str) (scope : Scope) (fm : List (Option Nat)) : Bool :=
  decide (scope.kind = .function) && scope.names.all (fun y => decide (y.2 ≠ .cell) && (decide (y.2 ≠ .local) || decide (scope.names.lookup y.1 = some .local)) &&
    (decide (y.2 ≠ .free) || (decide (sc.names.lookup y.1 = some .cell) || decide (sc.names.lookup y.1 = some .free)))) && decide (fm.length = Nc.length) &&
    (fm.zip Nc).all (fun p => match p.1 with
      | none => true
      | some j => decide (N[j]? = some p.2) && decide ((p.2, NameKind.free) ∈ scope.names) && decide (scope.names.lookup p.2 = some .free))
theorem captOk.capt {X : Cx} {Nc : List Str} {scope : Scope} {fm : List (Option Nat)} (h : captOk X.N X.env.scope Nc scope fm = true) : Capt X Nc scope fm := by
  unfold captOk at h
  rw [Bool.and_eq_true, Bool.and_eq_true, Bool.and_eq_true] at h
  obtain ⟨⟨⟨h1, h2⟩, h3⟩, h4⟩ := h
  rw [List.all_eq_true] at h2 h4
  have g : ∀ y ∈ scope.names, (y.2 ≠ .cell ∧ (y.2 ≠ .local ∨ scope.names.lookup y.1 = some .local)) ∧ (y.2 ≠ .free ∨ (X.env.scope.names.lookup y.1 = some .cell ∨ X.env.scope.names.lookup y.1 = some .free)) := fun y hy => by
    have := h2 y hy
    simpa only [Bool.and_eq_true, Bool.or_eq_true, decide_eq_true_eq] using this
  refine ⟨of_decide_eq_true h1, fun y hy => (g y hy).1.1, fun y hy e => ?_, fun y hy e => ?_, of_decide_eq_true h3, fun p hp j e => ?_⟩
  · rcases (g y hy).1.2 with z | z
    · exact absurd e z
    · exact z
  · rcases (g y hy).2 with z | z
    · exact absurd e z
    · exact z
  · have := h4 p hp
    obtain ⟨a, b⟩ := p
    cases e
    simp only [Bool.and_eq_true, decide_eq_true_eq] at this
    exact ⟨this.1.1, this.1.2, this.2⟩

theorem lookup_relabel_free {env : Env} : ∀ {names : List (Str × NameKind)} {x : Str}, names.lookup x = some .free →
    ((names.map fun (n, k) => if (k == NameKind.free && env.scope.kind == .function && env.kindOf n == some .cell) then (n, NameKind.cell) else (n, k)).lookup x = some .cell ∨
     (names.map fun (n, k) => if (k == NameKind.free && env.scope.kind == .function && env.kindOf n == some .cell) then (n, NameKind.cell) else (n, k)).lookup x = some .free)
  | [], _, h => by simp at h
  | (n, k) :: r, x, h => by
    have ih := @lookup_relabel_free env r x
    rw [List.map_cons]
    cases hx : x == n with
    | true =>
      simp only [List.lookup_cons, hx] at h
      cases h
      dsimp only
      split
      · left
        simp only [List.lookup_cons, hx]
      · right
        simp only [List.lookup_cons, hx]
    | false =>
      simp only [List.lookup_cons, hx] at h
      dsimp only
      split
      · simp only [List.lookup_cons, hx]
        exact ih h
      · simp only [List.lookup_cons, hx]
        exact ih h

/-- a name that the relabelled scope has as a cell or free stood there as free -/
theorem free_of_relabel {env : Env} : ∀ {names : List (Str × NameKind)} {x : Str}, (∀ y ∈ names, y.2 ≠ .cell) →
    ((names.map fun (n, k) => if (k == NameKind.free && env.scope.kind == .function && env.kindOf n == some .cell) then (n, NameKind.cell) else (n, k)).lookup x = some .cell ∨
     (names.map fun (n, k) => if (k == NameKind.free && env.scope.kind == .function && env.kindOf n == some .cell) then (n, NameKind.cell) else (n, k)).lookup x = some .free) → (x, NameKind.free) ∈ names
  | [], _, _, h => by simp at h
  | (n, k) :: r, x, hc, h => by
    have ih := @free_of_relabel env r x (fun y hy => hc y (List.mem_cons_of_mem _ hy))
    rw [List.map_cons] at h
    cases hx : x == n with
    | true =>
      have hxn : x = n := by simpa using hx
      dsimp only at h
      split at h
      · rename_i hk
        rw [Bool.and_eq_true, Bool.and_eq_true] at hk
        have : k = .free := by simpa using hk.1.1
        rw [hxn, this]
        exact List.mem_cons_self
      · simp only [List.lookup_cons, hx] at h
        rcases h with h | h
        · cases h
          exact absurd rfl (hc (n, .cell) List.mem_cons_self)
        · cases h
          rw [hxn]
          exact List.mem_cons_self
    | false =>
      dsimp only at h
      split at h
      · simp only [List.lookup_cons, hx] at h
        exact List.mem_cons_of_mem _ (ih h)
      · simp only [List.lookup_cons, hx] at h
        exact List.mem_cons_of_mem _ (ih h)

def tComp (fm : List (Option Nat)) (wi : TI) (g : TG) (tt : TT) (te : TE) : TE := fun σ H Q => wi σ H fun J H1 => ∀ l, H1 l = none →
  ∃ W : Nat → Nat → List V → St → Hp → Prop, (∃ m, W 0 m [] (capt fm σ) (upd H1 l (.lst []))) ∧
    ∀ i m ys σ' H', W i m ys σ' H' → H' l = some (.lst ys) ∧
      ((J.stop i H' ∧ Q (.ref l) H') ∨
       (J.go i H' ∧ ∃ N : List V → St → Hp → Prop, (∀ zs σ2 H2, N zs σ2 H2 → ∃ m', m' < m ∧ W (i + 1) m' zs σ2 H2) ∧ ∀ x H2, J.yld i H' x H2 → g x σ' H2 fun σ3 H3 => tt σ3 H3 fun b H4 =>
          if b = true then te σ3 H4 fun y H5 => H5 l = some (.lst ys) ∧ ys.length < sizeLine ∧ N (ys ++ [y]) σ3 (upd H5 l (.lst (ys ++ [y])))
          else N ys σ3 H4))

section
variable {prog : Program} {w : World} {A : Around} {R : Result → Shared → Prop} {s : Shared}
abbrev NoX : Value → Shared → Prop := fun _ _ => False
theorem compLoop_T {elt target iter : Expr} {ifs : List Expr} {scope : Scope} {pos : Pos} {it acc : Value} {env : Env} (I : Nat → Shared → Prop)
    (turn : ∀ n s, I n s → wpAny (model prog w) A (pyNext it) (fun r s₁ => match r with
      | none => R (.ok .next) s₁
      | some v => wpAny (model prog w) A (letOwnedTupleGo target it v) (fun _ s₁' => wpAny (model prog w) A (assign target env v) (fun _ s₂ =>
          wpAny (model prog w) A (forIn ifs true fun c r => if r = true then do let ok ← isTrue c env (eval c env); pure (ForInStep.yield ok) else pure (ForInStep.yield r)) (fun ok s₃ =>
            if ok = true then wpAny (model prog w) A (eval elt env) (fun x s₄ =>
              wpAny (model prog w) A (call (.builtin "list.append") [acc, x]) (fun _ s₅ => ∃ m, m < n ∧ I m s₅) NoX s₄) NoX s₃
            else ∃ m, m < n ∧ I m s₃) NoX s₂) NoX s₁') NoX s₁) NoX s)
    (n : Nat) (h : I n s) :
    codeAny (model prog w) A (.compLoop (.ListComp elt [⟨target, iter, ifs, 0⟩] scope pos) 0 it acc env) R s := by
  refine codeAny_loop rfl I (fun n s hI => ?_) n h
  show wpAny _ A ((compTurn (.ListComp elt [⟨target, iter, ifs, 0⟩] scope pos) 0 it acc env).onRaise (fun x => do noteFrame x env; theTreesLotGoes x)) _ _ s
  refine wpAny_noted ?_
  rw [compTurn_list]
  refine wpAny_bind (wpAny_standAt (wpAny_bind (wpAny_mono (turn n s hI) (fun r s₁ h₁ => ?_) fun _ _ f => f.elim)))
  cases r with
  | none => exact wpAny_pure h₁
  | some v =>
    refine wpAny_bind (wpAny_mono h₁ (fun _ s₁' h₁' => ?_) fun _ _ f => f.elim)
    refine wpAny_bind (wpAny_mono h₁' (fun _ s₂ h₂ => wpAny_bind (wpAny_mono h₂ (fun ok s₃ h₃ => ?_) fun _ _ f => f.elim)) fun _ _ f => f.elim)
    cases ok with
    | false => exact wpAny_pure ⟨rfl, h₃⟩
    | true =>
      exact wpAny_bind (wpAny_bind (wpAny_mono h₃ (fun x s₄ h₄ => wpAny_bind (wpAny_mono h₄ (fun _ s₅ h₅ => wpAny_pure (wpAny_pure ⟨rfl, h₅⟩)) fun _ _ f => f.elim)) fun _ _ f => f.elim))
end

section
variable {X : Cx} {pins : List (Addr × Obj)} {σ : St} {H₁ : Hp} {s₁ : Shared}
/-- the block begins -/
theorem comp_inv {Nc : List Str} {scope : Scope} {fm : List (Option Nat)} {fp : List Addr} {h₁ : Heap} {tk : Nat} {m : Str → Option Value} (c : Capt X Nc scope fm) (I : Inv X pins σ H₁ s₁) (hf : ∀ b ∈ fp, FpOk X pins H₁ b) (hfp : ∀ b ∈ fp, b < s₁.heap.objs.size)
    (old : ∀ b o, s₁.heap.get? b = some o → h₁.get? b = some o) (hD : h₁.get? s₁.heap.objs.size = some { cls := .type "list", data := .seq ([] : List Value).toArray }) (hns : h₁.Ns (s₁.heap.objs.size + 1) m) :
    Inv (cxComp X Nc scope (closOf X.env.cells scope.names []) (s₁.heap.objs.size + 1) s₁ H₁ fp) [] (capt fm σ) (upd H₁ s₁.heap.objs.size (.lst [])) { s₁ with heap := h₁, toks := tk } := by
  have hfree : ∀ y ∈ scope.names, y.2 = .free → ∃ a, X.env.cells.lookup y.1 = some a := fun y hy e => I.ok.has y.1 (c.free y hy e)
  have sub : ∀ x a, (closOf X.env.cells scope.names []).lookup x = some a → X.env.cells.lookup x = some a := closOf_sub _ _ hfree (fun x a e => by simp at e)
  have lt : ∀ x a, X.env.cells.lookup x = some a → a < s₁.heap.objs.size := fun x a e => (I.cell x a e).elim fun v q => q.lt
  have hDn : H₁ s₁.heap.objs.size = none := I.hok.fresh (Nat.le_refl _)
  have hCn : H₁ (s₁.heap.objs.size + 1) = none := I.hok.fresh (Nat.le_succ _)
  refine ⟨⟨I.ok.mod, c.kind, I.ok.glob, I.ok.blt, Nat.le_succ _, fun x y a e1 e2 => I.ok.inj x y a (sub x a e1) (sub y a e2), fun x hx => ?_, fun x a z => absurd z (by intro q; cases q), I.ok.hd, I.ok.frames, .inl rfl, fun b hb => ?_, I.bs, Nat.le_trans I.ok.bsz I.sz, fun b o e hb => ?_, fun b hb hfs => ?_, I.stack, I.stkFree⟩,
    rfl, I.bare, Un.laid old (Nat.le_refl _) hDn, ⟨m, hns, fun i x v e1 e2 e3 => ?_⟩, fun x a e => ?_, ?_, fun x a e => ?_, fun p hp => absurd (show p ∈ ([] : List (Addr × Obj)) from hp) (by simp), ?_, ?_⟩
  · exact closOf_has _ _ x (.inr (free_of_relabel (env := X.env) c.nocell hx))
  · exact ⟨Nat.ne_of_lt (Nat.lt_succ_of_lt (hfp b hb)), fun x a e => (hf b hb).2.2.2.2.1 x a (sub x a e)⟩
  · rcases (hf b hb).2.2.2.1 with z | z
    · exact I.ok.noex b o e z
    · exact absurd (Nat.lt_of_lt_of_le (Heap.lt_size e) (Nat.le_trans I.ok.bsz z)) (Nat.lt_irrefl _)
  · rcases List.mem_cons.mp (I.stkSub b hfs) with z | z
    · exact (hf b hb).2.1 z
    · exact (hf b hb).2.2.1 z
  · -- the names taken over
    have hz : ∃ j, fm[i]? = some (some j) ∧ σ[j]? = some (some v) := by
      unfold capt at e2
      rw [List.getElem?_map] at e2
      cases q : fm[i]? with
      | none => rw [q] at e2; cases e2
      | some o =>
        rw [q] at e2
        cases o with
        | none => cases e2
        | some j =>
          refine ⟨j, rfl, ?_⟩
          have e2' : (σ[j]?).join = some v := Option.some.inj e2
          cases q2 : σ[j]? with
          | none => rw [q2] at e2'; cases e2'
          | some u => rw [q2] at e2'; cases u with
            | none => cases e2'
            | some u => cases e2'; rfl
    obtain ⟨j, hfm, hσ⟩ := hz
    have hp : ((some j : Option Nat), x) ∈ fm.zip Nc := by
      have : (fm.zip Nc)[i]? = some (some j, x) := by rw [List.getElem?_zip_eq_some]; exact ⟨hfm, e1⟩
      exact List.mem_of_getElem? this
    obtain ⟨hN, hmem, hlk⟩ := c.at_ _ hp j rfl
    have hk := c.free _ hmem rfl
    obtain ⟨m0, hn0, hl0⟩ := I.loc
    have hvis : Vis X.env.scope x := hk.elim (fun z => .inr (.inl z)) (fun z => .inr (.inr z))
    obtain ⟨u, ru, lk⟩ := hl0 j x v hN hσ hvis
    refine ⟨u, ru, .inr ⟨lookup_relabel_free (env := X.env) hlk, ?_⟩⟩
    rcases lk with ⟨z, _⟩ | ⟨_, a, ea, o, ho, hd⟩
    · rcases hk with q | q
      · rw [show X.env.kindOf x = _ from q] at z; cases z
      · rw [show X.env.kindOf x = _ from q] at z; cases z
    · obtain ⟨a', ea'⟩ := closOf_has (cells := X.env.cells) scope.names [] x (.inr hmem)
      have := sub x a' ea'
      rw [ea] at this
      cases this
      exact ⟨a, ea', o, old a o ho, hd⟩
  · obtain ⟨v, o, ho, hd⟩ := I.cell x a (sub x a e)
    exact ⟨v, o, old a o ho, hd⟩
  · show upd H₁ s₁.heap.objs.size (.lst []) (s₁.heap.objs.size + 1) = none
    rw [upd_ne (Nat.succ_ne_self _)]
    exact hCn
  · show upd H₁ s₁.heap.objs.size (.lst []) a = none
    rw [upd_ne (Nat.ne_of_lt (lt x a (sub x a e)))]
    exact I.freeC x a (sub x a e)
  · exact I.hok.laid old (Nat.le_refl _) ⟨Nat.zero_le _, [], 0, .nil, hD⟩
  · show (capt fm σ).length = Nc.length
    unfold capt
    rw [List.length_map]
    exact c.len

/-- .. and ends: the frame around it -/
theorem comp_back {Nc : List Str} {scope : Scope} {cl : List (Str × Addr)} {C : Addr} {fp : List Addr} {σ' : St} {H' : Hp} {s' : Shared} (I : Inv X pins σ H₁ s₁) (hf : ∀ b ∈ fp, FpOk X pins H₁ b) (J : Inv (cxComp X Nc scope cl C s₁ H₁ fp) [] σ' H' s') :
    Inv X pins σ H' s' := I.call' (ch := fp) J.os J.base J.hok J.bare fun b hb => ⟨(hf b hb).2.2.2.1, (hf b hb).2.1, (hf b hb).2.2.2.2.1, (hf b hb).2.2.2.2.2⟩

/-- what is known of the block's names when it is left -/
theorem comp_go {Nc : List Str} {scope : Scope} {cl : List (Str × Addr)} {fp : List Addr} {σ' : St} {H' : Hp} {s' : Shared} {σ2 : St} {s2 : Shared} {h'' : Heap} (I : Inv X pins σ H₁ s₁) (J : Inv (cxComp X Nc scope cl (s₁.heap.objs.size + 1) s₁ H₁ fp) [] σ' H' s')
    (I2 : Inv X pins σ2 H' s2) (sb : Heap.SameBut (s₁.heap.objs.size + 1) s2.heap h'') : Inv X pins σ2 H' { s2 with heap := h'' } := by
  have hle : s₁.heap.objs.size ≤ s₁.heap.objs.size + 1 := Nat.le_succ _
  refine I2.turned (t' := s2.toks) (it := s₁.heap.objs.size + 1) (fun b o hb e => (sb.2 b hb).trans e) J.free (Nat.ne_of_gt (Nat.lt_of_lt_of_le I.lt hle)) (.inr (Nat.le_trans I.sz hle)) (fun x c e z => ?_) (fun p hp z => ?_)
  · obtain ⟨v, q⟩ := I.cell x c e
    exact absurd (Nat.lt_of_lt_of_le q.lt (by rw [z]; exact hle)) (Nat.lt_irrefl _)
  · exact absurd (Nat.lt_of_lt_of_le (Heap.lt_size (I.pin p hp).1) (by rw [z]; exact hle)) (Nat.lt_irrefl _)

/-- THE BLOCK -/
theorem comp_block {elt tg iter : Expr} {ifs : List Expr} {scope : Scope} {pos : Pos} {Nc : List Str} {fm : List (Option Nat)} {g : TG} {tt : TT} {te : TE} {it : Addr} {fp : List Addr} {tn : Nat → Heap → Prop} {J : It} {Q : VK} {E : Value → Shared → Prop} {RR : Value → Addr → Result → Shared → Prop}
    (hc : X.calm = true) (c : Capt X Nc scope fm) (I : Inv X pins σ H₁ s₁) (T : Turn X.prog X.w X.K tg J fp it tn) (st : tn 0 s₁.heap) (hf : ∀ b ∈ fp, FpOk X pins H₁ b)
    (hg : ∀ cl C s₁ H₁ fp, PG (cxComp X Nc scope cl C s₁ H₁ fp) tg g) (ht : ∀ cl C s₁ H₁ fp, PTs (cxComp X Nc scope cl C s₁ H₁ fp) ifs tt) (he : ∀ cl C s₁ H₁ fp, PE (cxComp X Nc scope cl C s₁ H₁ fp) elt te)
    (h : ∀ l, H₁ l = none → ∃ W : Nat → Nat → List V → St → Hp → Prop, (∃ m, W 0 m [] (capt fm σ) (upd H₁ l (.lst []))) ∧
      ∀ i m ys σ' H', W i m ys σ' H' → H' l = some (.lst ys) ∧
        ((J.stop i H' ∧ Q (.ref l) H') ∨
         (J.go i H' ∧ ∃ N : List V → St → Hp → Prop, (∀ zs σ2 H2, N zs σ2 H2 → ∃ m', m' < m ∧ W (i + 1) m' zs σ2 H2) ∧ ∀ x H2, J.yld i H' x H2 → g x σ' H2 fun σ3 H3 => tt σ3 H3 fun b H4 =>
            if b = true then te σ3 H4 fun y H5 => H5 l = some (.lst ys) ∧ ys.length < sizeLine ∧ N (ys ++ [y]) σ3 (upd H5 l (.lst (ys ++ [y])))
            else N ys σ3 H4)))
    (fin : ∀ σ' H' s', Inv (cxComp X Nc scope (closOf X.env.cells scope.names []) (s₁.heap.objs.size + 1) s₁ H₁ fp) [] σ' H' s' → Q (.ref s₁.heap.objs.size) H' → RR (.ref s₁.heap.objs.size) (s₁.heap.objs.size + 1) (.ok .next) s') :
    wpAny (model X.prog X.w) X.A (newList []) (fun acc s₃ => wpAny (model X.prog X.w) X.A (newFunctionEnv scope X.env.globals (closOf X.env.cells scope.names []) [] X.env.qual none .none (some X.env)) (fun cenv s₄ =>
      codeAny (model X.prog X.w) X.A (.compStart (.ListComp elt [⟨tg, iter, ifs, 0⟩] scope pos) 0 (.ref it) acc { cenv with scope := relabel scope X.env }) (RR acc cenv.locals) s₄) E s₃) E s₁ := by
  have hfp : ∀ b ∈ fp, b < s₁.heap.objs.size := fun b hb => by
    obtain ⟨o, ho, _⟩ := T.obj 0 _ st b hb
    exact Heap.lt_size ho
  refine wpAny_newObj_type (wpAny_newFunctionEnv c.nocell (by intro y hy; simp at hy) (fun h₁ hns₁ hsb₁ => ?_) c.kind)
  dsimp only at hns₁ hsb₁ ⊢
  generalize hH2 : s₁.heap.push { cls := .type "list", dict := none, data := .seq ([] : List Value).toArray } = H2 at hns₁ hsb₁ ⊢
  have hC : H2.objs.size = s₁.heap.objs.size + 1 := by rw [← hH2, Heap.size_push]
  rw [hC] at hns₁ hsb₁
  show codeAny _ _ (.compStart _ 0 _ _ (compEnvC scope (closOf X.env.cells scope.names []) H2.objs.size X.env)) (RR _ H2.objs.size) _
  rw [hC]
  have old : ∀ b o, s₁.heap.get? b = some o → h₁.get? b = some o := fun b o e => hsb₁.extBut b o (Nat.ne_of_lt (Nat.lt_succ_of_lt (Heap.lt_size e))) (Heap.get?_push_of_some _ (hH2 ▸ Heap.get?_push_of_some _ e))
  have hD : h₁.get? s₁.heap.objs.size = some { cls := .type "list", data := .seq ([] : List Value).toArray } := hsb₁.extBut _ _ (Nat.ne_of_lt (Nat.lt_succ_self _)) (Heap.get?_push_of_some _ (hH2 ▸ Heap.get?_push_size _ rfl))
  have st1 : tn 0 h₁ := T.keep _ _ _ st fun b _ o e => old b o e
  have hDn : H₁ s₁.heap.objs.size = none := I.hok.fresh (Nat.le_refl _)
  obtain ⟨W, ⟨m0, w0⟩, turn⟩ := h _ hDn
  have loop : ∀ tk : Nat, codeAny (model X.prog X.w) X.A (.compLoop (.ListComp elt [⟨tg, iter, ifs, 0⟩] scope pos) 0 (.ref it) (.ref s₁.heap.objs.size) (compEnvC scope (closOf X.env.cells scope.names []) (s₁.heap.objs.size + 1) X.env))
      (RR (.ref s₁.heap.objs.size) (s₁.heap.objs.size + 1)) { s₁ with heap := h₁, toks := tk } := by
    intro tk
    have I0 := comp_inv (tk := tk) c I hf hfp old hD hns₁
    have stat : ∀ {H' : Hp}, (∀ b ∈ fp, H' b = none) → ∀ b ∈ fp, FpOk (cxComp X Nc scope (closOf X.env.cells scope.names []) (s₁.heap.objs.size + 1) s₁ H₁ fp) [] H' b := fun hn b hb =>
      ⟨hn b hb, (I0.ok.exf b hb).1, I0.ok.exfs b hb, .inl hb, (I0.ok.exf b hb).2, fun p hp => absurd (show p ∈ ([] : List (Addr × Obj)) from hp) (by simp)⟩
    refine compLoop_T (fun n s' => ∃ i ys σ' H', Inv (cxComp X Nc scope (closOf X.env.cells scope.names []) (s₁.heap.objs.size + 1) s₁ H₁ fp) [] σ' H' s' ∧ tn i s'.heap ∧ (∀ b ∈ fp, H' b = none) ∧ W i n ys σ' H') ?_ m0
      ⟨0, [], _, _, I0, st1, fun b hb => by rw [upd_ne (Nat.ne_of_lt (hfp b hb))]; exact (hf b hb).1, w0⟩
    rintro n s3 ⟨i, ys, σ3, H3, I3, st3, fr3, w3⟩
    obtain ⟨hl, alt⟩ := turn i n ys σ3 H3 w3
    rcases alt with ⟨stop, qn⟩ | ⟨go, N, hN, step⟩
    · refine thn (T.done (cxComp X Nc scope (closOf X.env.cells scope.names []) (s₁.heap.objs.size + 1) s₁ H₁ fp) rfl rfl rfl hc i [] s3 σ3 H3 NoX I3 (stat fr3) st3 stop) fun r s4 ⟨hr, I4⟩ => ?_
      subst hr
      exact fin σ3 H3 s4 I4 qn
    · refine thn (T.item (cxComp X Nc scope (closOf X.env.cells scope.names []) (s₁.heap.objs.size + 1) s₁ H₁ fp) rfl rfl rfl hc i [] s3 σ3 H3 NoX I3 (stat fr3) st3 go) fun r s4 ⟨u, hr, h4⟩ => ?_
      subst hr
      refine thn h4 fun _ s5 ⟨x, H5, I5, r5, y5, st5, fr5⟩ => ?_
      have I5' := I5.pinned (stat fr5) (T.obj _ _ st5)
      have again : ∀ {σ7 : St} {H7 : Hp} {s7 : Shared} {zs : List V} {m' : Nat}, Inv (cxComp X Nc scope (closOf X.env.cells scope.names []) (s₁.heap.objs.size + 1) s₁ H₁ fp) ([] ++ pinsAt fp s5.heap) σ7 H7 s7 → m' < n → W (i + 1) m' zs σ7 H7 →
          ∃ m, m < n ∧ ∃ i ys σ' H', Inv (cxComp X Nc scope (closOf X.env.cells scope.names []) (s₁.heap.objs.size + 1) s₁ H₁ fp) [] σ' H' s7 ∧ tn i s7.heap ∧ (∀ b ∈ fp, H' b = none) ∧ W i m ys σ' H' := fun {σ7 H7 s7 zs m'} I7 hm w7 => by
        refine ⟨m', hm, i + 1, zs, σ7, H7, I7.unpinned, T.keep _ _ _ st5 fun b hb o e => (I7.pin (b, o) (List.mem_append_right _ (List.mem_append_right _ (mem_pinsAt hb e)))).1, fun b hb => ?_, w7⟩
        obtain ⟨o, e, d⟩ := T.obj _ _ st5 b hb
        exact (I7.pin (b, o) (List.mem_append_right _ (List.mem_append_right _ (mem_pinsAt hb e)))).2.1
      refine thn (hg _ _ _ _ _ _ s5 σ3 H5 x u _ I5' r5 (step x H5 y5)) fun _ s6 ⟨σ6, H6, I6, q6⟩ => ?_
      refine thn (ht _ _ _ _ _ _ s6 σ6 H6 _ I6 q6) fun ok s7 ⟨H7, I7, q7⟩ => ?_
      cases ok with
      | false =>
        rw [if_neg Bool.false_ne_true] at q7 ⊢
        obtain ⟨m', hm, w7⟩ := hN _ _ _ q7
        exact again I7 hm w7
      | true =>
        rw [if_pos rfl] at q7 ⊢
        refine thn (he _ _ _ _ _ _ s7 σ6 H7 _ I7 q7) fun y s8 ⟨v8, H8, I8, r8, hl8, hz8, n8⟩ => ?_
        obtain ⟨m', hm, w8⟩ := hN _ _ _ n8
        refine thn (mt_append _ s8 σ6 H8 (.ref s₁.heap.objs.size) [v8] (.ref s₁.heap.objs.size) [y] (fun v H' => H' = upd H8 s₁.heap.objs.size (.lst (ys ++ [v8]))) I8 rfl (.cons r8 .nil) ⟨_, ys, v8, rfl, rfl, hl8, hz8, rfl⟩) fun _ s9 ⟨_, H9, I9, _, e9⟩ => ?_
        subst e9
        exact again I9 hm w8
  exact codeAny_compStart_list (loop _) (T.self _ 0 _ _ _ st1 (loop _))
end

section
variable {X : Cx} {elt tg iter : Expr} {ifs : List Expr} {scope : Scope} {pos spos : Pos} {wi : TI} {g : TG} {tt : TT} {te : TE}
/-- [elt for tg in iter if ..]: Nc the names of the block (the targets first), fm their slots in the frame around it -/
theorem pe_lc (Nc : List Str) (fm : List (Option Nat)) (hc : X.calm = true) (hk : captOk X.N X.env.scope Nc scope fm = true) (hi : PI X tg iter wi)
    (hg : ∀ cl C s₁ H₁ fp, PG (cxComp X Nc scope cl C s₁ H₁ fp) tg g) (ht : ∀ cl C s₁ H₁ fp, PTs (cxComp X Nc scope cl C s₁ H₁ fp) ifs tt) (he : ∀ cl C s₁ H₁ fp, PE (cxComp X Nc scope cl C s₁ H₁ fp) elt te)
    (hs : ∀ x, foldedSetIterable iter X.env x = pure x := by intro _; rfl) : PE X (.ListComp elt [⟨tg, iter, ifs, 0⟩] scope pos) (tComp fm wi g tt te) := by
  intro pins s σ H Q I h
  have c := captOk.capt hk
  rw [eval_ListComp]
  refine wpAny_comprehension_free (use := none) rfl hs (closureFor_eq fun y hy e => I.ok.has y.1 (c.free y hy e)) c.kind c.names (thn (hi pins s σ H _ I h) fun v s1 h1 => thn h1 fun itv s2 h2 => ?_)
  obtain ⟨it, fp, tn, J, H2, e, I2, T, st2, f2, h⟩ := h2
  subst e
  refine comp_block (RR := fun acc C => compPost (model X.prog X.w) X.A X.xe none (EP X pins σ Q) acc C) hc c I2 T st2 f2 hg ht he h fun σ' H' s' J' q => ?_
  obtain ⟨m, hn, _⟩ := J'.loc
  exact ⟨m, hn, fun h'' sb => ⟨.ref s2.heap.objs.size, H', comp_go I2 J' (comp_back I2 f2 J') sb, rfl, q⟩⟩

/-- x = [elt for tg in iter if ..], x a local of the frame: the name is stored ahead of the block's end -/
theorem ps_lc {i : Nat} {x : Str} {px : Pos} (Nc : List Str) (fm : List (Option Nat)) (hN : X.N.Nodup) (hi' : X.N[i]? = some x) (hx : Loc X.env.scope x) (hc : X.calm = true) (hk : captOk X.N X.env.scope Nc scope fm = true) (hi : PI X tg iter wi)
    (hg : ∀ cl C s₁ H₁ fp, PG (cxComp X Nc scope cl C s₁ H₁ fp) tg g) (ht : ∀ cl C s₁ H₁ fp, PTs (cxComp X Nc scope cl C s₁ H₁ fp) ifs tt) (he : ∀ cl C s₁ H₁ fp, PE (cxComp X Nc scope cl C s₁ H₁ fp) elt te)
    (hsw : swapsWith (.ListComp elt [⟨tg, iter, ifs, 0⟩] scope pos) (some (.Name x px)) spos.line X.env = pure true := by rfl)
    (hs : ∀ x, foldedSetIterable iter X.env x = pure x := by intro _; rfl) (hf : X.fn x = true ∨ X.env.scope.names.lookup x = some .local := by first | exact .inl rfl | exact .inr rfl | assumption) :
    PS X (.Assign [.Name x px] (.ListComp elt [⟨tg, iter, ifs, 0⟩] scope pos) spos) (tAsg (tComp fm wi g tt te) (gName i)) := by
  intro pins s σ H D I h
  have c := captOk.capt hk
  rw [exec_Assign_Name_used _ _ _ _ hsw]
  refine wpAny_bind (wpAny_standAt (wpAny_bind ?_))
  show wpAny _ X.A (do let _ ← comprehension (.ListComp elt [⟨tg, iter, ifs, 0⟩] scope pos) scope X.env _ (newList []) false (eval iter X.env) (some (assign (.Name x px) X.env))) _ _ s
  refine wpAny_bind (wpAny_mono (wpAny_comprehension_free (use := some (assign (.Name x px) X.env)) (Q := fun _ s' => SP X pins D .next s') rfl hs (closureFor_eq fun y hy e => I.ok.has y.1 (c.free y hy e)) c.kind c.names
    (thn (hi pins s σ H _ I h) fun v s1 h1 => thn h1 fun itv s2 h2 => ?_)) (fun _ s' hq => wpAny_pure (wpAny_pure hq)) fun _ _ e => e)
  obtain ⟨it, fp, tn, J, H2, e, I2, T, st2, f2, h⟩ := h2
  subst e
  refine comp_block (Q := fun v H' => gName i v σ H' D.nx) (RR := fun acc C => compPost (model X.prog X.w) X.A X.xe (some (assign (.Name x px) X.env)) (fun _ s' => SP X pins D .next s') acc C) hc c I2 T st2 f2 hg ht he h fun σ' H' s' J' q => ?_
  obtain ⟨m, hn, _⟩ := J'.loc
  have IB := comp_back I2 f2 J'
  show wpAny _ X.A (assign (.Name x px) X.env _) _ _ _
  refine wpAny_assign_Name (store_ok2 (v := .ref s2.heap.objs.size) IB hN hi' hx rfl (fun s'' I'' ⟨a, sa, ha⟩ => ?_) hf)
  have hle : s2.heap.objs.size ≤ s2.heap.objs.size + 1 := Nat.le_succ _
  have hne : s2.heap.objs.size + 1 ≠ a := by
    rcases ha with rfl | ha
    · exact Nat.ne_of_gt (Nat.lt_of_lt_of_le I2.lt hle)
    · obtain ⟨v, q⟩ := I2.cell x a ha
      exact Nat.ne_of_gt (Nat.lt_of_lt_of_le q.lt hle)
  exact ⟨m, hn.sameBut sa hne, fun h'' sb => ⟨_, H', comp_go I2 J' I'' sb, q⟩⟩
end
end L2

namespace L2
open PySem PySem.Spec PyProof.Rows

/-! ### rules whose reading names the written part K alone (for a block's context) -/
section
variable {X : Cx}
theorem ix_tupK (K : PySem.W.Frag) (h : X.K = K := by rfl) : IxR X (rIxT K) := by subst h; exact ix_tup
theorem ix_listK (K : PySem.W.Frag) (h : X.K = K := by rfl) : IxR X (rIxL K) := by subst h; exact ix_list
theorem op_inK (K : PySem.W.Frag) (h : X.K = K := by rfl) : OpR X (compareOp .In) (rIn K false) := by subst h; exact op_in_seq
theorem op_notInK (K : PySem.W.Frag) (h : X.K = K := by rfl) : OpR X (compareOp .NotIn) (rIn K true) := by subst h; exact op_notIn_seq
def rLen (K : PySem.W.Frag) : List V → Hp → VK → Prop := fun xs H Q => ∃ p ys, xs = [.ref p] ∧ (SqL K H p ys ∨ SqT K H p ys) ∧ Q (.int ys.length) H
theorem call_lenK (K : PySem.W.Frag) (h : X.K = K := by rfl) : CallR X (.builtin "len") (rLen K) := by subst h; exact call_len_seq
theorem pi_tupK {tg l : Expr} {tl : TE} (K : PySem.W.Frag) (hl : PE X l tl) (h : X.K = K := by rfl) : PI X tg l (iTup K tl) := by subst h; exact pi_tup hl
theorem pi_listK {tg l : Expr} {tl : TE} (K : PySem.W.Frag) (hl : PE X l tl) (h : X.K = K := by rfl) : PI X tg l (iList K tl) := by subst h; exact pi_list hl

/-! ### all(..) of a list of bools -/

/-! ### == and != of two lists -/
def eqVs (xs ys : List V) : Bool := decide (xs.length = ys.length) && (xs.zip ys).all fun p => eqV p.1 p.2
theorem eqV_refl {x : V} (h : flatV x = true) : eqV x x = true := by
  cases x <;> simp_all [eqV, flatV]
theorem eqVs_refl : ∀ {xs : List V}, xs.all flatV = true → eqVs xs xs = true
  | [], _ => rfl
  | x :: xs, h => by
    rw [List.all_cons, Bool.and_eq_true] at h
    have ih := eqVs_refl h.2
    unfold eqVs at ih ⊢
    simp only [decide_true, Bool.true_and] at ih ⊢
    rw [List.zip_cons_cons, List.all_cons, eqV_refl h.1, ih]
    rfl
theorem range_eqVs {xs ys : List V} (hl : xs.length = ys.length) : (List.range xs.length).all (fun j => match xs[j]?, ys[j]? with | some a, some b => eqV a b | _, _ => false) = eqVs xs ys := by
  unfold eqVs
  rw [decide_eq_true hl, Bool.true_and, Bool.eq_iff_iff, List.all_eq_true, List.all_eq_true]
  constructor
  · intro h p hp
    obtain ⟨i, hi, rfl⟩ := List.mem_iff_getElem.mp hp
    rw [List.length_zip] at hi
    have := h i (List.mem_range.mpr (by omega))
    have h1 : i < xs.length := by omega
    have h2 : i < ys.length := by omega
    simpa [h1, h2] using this
  · intro h i hi
    have h1 := List.mem_range.mp hi
    have h2 : i < ys.length := by omega
    have hi' : i < (xs.zip ys).length := by rw [List.length_zip]; omega
    have := h ((xs.zip ys)[i]) (List.getElem_mem hi')
    simpa [h1, h2] using this
theorem listEqAt {A : Around} {s : Shared} {xs ys : List V} {its its2 : List Value} (r1 : Vals xs its) (r2 : Vals ys its2) (f1 : xs.all flatV = true) (f2 : ys.all flatV = true) : ∀ j (h1 : j < its.toArray.size) (h2 : j < its2.toArray.size),
    SeqAt.EqAt A s its.toArray[j] its2.toArray[j] (match xs[j]?, ys[j]? with | some a, some b => eqV a b | _, _ => false) := fun j h1 h2 => by
  have l1 := r1.length
  have l2 := r2.length
  rw [List.size_toArray] at h1 h2
  have hx : xs[j]? = some (xs[j]'(by omega)) := by simp
  have hy : ys[j]? = some (ys[j]'(by omega)) := by simp
  obtain ⟨u, hu, ru⟩ := r1.get hx
  obtain ⟨v, hv, rv⟩ := r2.get hy
  have e1 : its.toArray[j] = u := by
    have : its[j]? = some its[j] := by simp [h1]
    rw [this] at hu
    simpa using Option.some.inj hu
  have e2 : its2.toArray[j] = v := by
    have : its2[j]? = some its2[j] := by simp [h2]
    rw [this] at hv
    simpa using Option.some.inj hv
  rw [e1, e2, hx, hy]
  exact eqAt_V ru rv (List.all_eq_true.mp f1 _ (List.getElem_mem _)) (List.all_eq_true.mp f2 _ (List.getElem_mem _))
/-- flat items, or lists of unlike lengths -/
def rLL (K : PySem.W.Frag) (neg : Bool) : R2 := fun x y H Q => ∃ a b xs ys, x = .ref a ∧ y = .ref b ∧ SqL K H a xs ∧ SqL K H b ys ∧ ((xs.all flatV = true ∧ ys.all flatV = true) ∨ xs.length ≠ ys.length) ∧ Q (.bl (if neg then !eqVs xs ys else eqVs xs ys)) H
theorem op_eqL (hu : X.A.units < cLine) (K : PySem.W.Frag) (hK : X.K = K := by rfl) : OpR X (compareOp .Eq) (rLL K false) := by
  subst hK
  intro pins s σ H x y v u Q I rx ry h
  obtain ⟨a, b, xs, ys, rfl, rfl, h1, h2, hf, q⟩ := h
  cases rx
  cases ry
  obtain ⟨its, r1, p1, z1⟩ := I.list h1
  obtain ⟨its2, r2, p2, z2⟩ := I.list h2
  have l1 := r1.length
  have l2 := r2.length
  by_cases hl : xs.length = ys.length
  · have hf' := hf.resolve_right (fun z => z hl)
    refine SeqAt.eq_listAt p1.isList p2.isList (by rw [List.size_toArray, List.size_toArray]; omega) hu (listEqAt r1 r2 hf'.1 hf'.2) ⟨.bl _, H, I, rfl, ?_⟩
    rw [List.size_toArray, ← l1, range_eqVs hl]
    exact q
  · have e : eqVs xs ys = false := by unfold eqVs; rw [decide_eq_false hl, Bool.false_and]
    refine SeqAt.eq_list_lengthsAt p1.isList p2.isList (by simp only [List.size_toArray, bne_iff_ne]; omega) hu ⟨.bl _, H, I, rfl, ?_⟩
    rw [← e]
    exact q
theorem op_neL (hu : X.A.units < cLine) (K : PySem.W.Frag) (hK : X.K = K := by rfl) : OpR X (compareOp .NotEq) (rLL K true) := by
  subst hK
  intro pins s σ H x y v u Q I rx ry h
  obtain ⟨a, b, xs, ys, rfl, rfl, h1, h2, hf, q⟩ := h
  cases rx
  cases ry
  obtain ⟨its, r1, p1, z1⟩ := I.list h1
  obtain ⟨its2, r2, p2, z2⟩ := I.list h2
  have l1 := r1.length
  have l2 := r2.length
  by_cases hl : xs.length = ys.length
  · have hf' := hf.resolve_right (fun z => z hl)
    refine SeqAt.RcNeAt.lists p1.isList p2.isList (by rw [List.size_toArray, List.size_toArray]; omega) hu (listEqAt r1 r2 hf'.1 hf'.2) _ _ _ _ ⟨.bl _, H, I, rfl, ?_⟩
    rw [List.size_toArray, ← l1, range_eqVs hl]
    exact q
  · have e : eqVs xs ys = false := by unfold eqVs; rw [decide_eq_false hl, Bool.false_and]
    refine SeqAt.RcNeAt.lists_lengths p1.isList p2.isList (by simp only [List.size_toArray, bne_iff_ne]; omega) hu _ _ _ _ ⟨.bl _, H, I, rfl, ?_⟩
    have q' : Q (.bl (!eqVs xs ys)) H := q
    rw [e] at q'
    exact q'

/-! ### isinstance(x, T), T a built-in type -/
end

/-! ### walks by items -/
structure Wlk (J : It) (xs : List V) (P : Hp → Prop) : Prop where
  go : ∀ i H, P H → i < xs.length → J.go i H
  yld : ∀ i H x H', P H → J.yld i H x H' → i < xs.length → H' = H ∧ xs[i]? = some x
  stop : ∀ i H, P H → xs.length ≤ i → J.stop i H
theorem wlk_tup {K : PySem.W.Frag} {a : Addr} {xs : List V} : Wlk (Itt K a) xs (fun H => SqT K H a xs) :=
  ⟨fun i H h hi => ⟨xs, xs[i], h, by simp [hi]⟩, fun i H x H' h y _ => ⟨y.1, y.2 xs h⟩, fun i H h hi => ⟨xs, h, hi⟩⟩
theorem wlk_list {K : PySem.W.Frag} {a : Addr} {xs : List V} : Wlk (Itl K a) xs (fun H => SqL K H a xs) :=
  ⟨fun i H h hi => ⟨xs, xs[i], h, by simp [hi]⟩, fun i H x H' h y _ => ⟨y.1, y.2 xs h⟩, fun i H h hi => ⟨xs, h, hi⟩⟩
/-- 0, 1, .. below n -/
def rng (n : Nat) : List V := (List.range n).map fun i : Nat => V.int (i : Int)
theorem rng_len (n : Nat) : (rng n).length = n := by unfold rng; rw [List.length_map, List.length_range]
theorem rng_at {n i : Nat} (h : i < n) : (rng n)[i]? = some (.int (i : Int)) := by
  unfold rng
  rw [List.getElem?_map, List.getElem?_range h]
  rfl
theorem rng_get {n i : Nat} {x : V} (h : (rng n)[i]? = some x) : i < n ∧ x = .int (i : Int) := by
  have hi : i < n := by
    have := (List.getElem?_eq_some_iff.mp h).1
    rwa [rng_len] at this
  rw [rng_at hi] at h
  exact ⟨hi, (Option.some.inj h).symm⟩
theorem wlk_range {n : Nat} : Wlk (Itr 0 n) (rng n) (fun _ => True) :=
  ⟨fun i H _ hi => by rw [rng_len] at hi; exact hi, fun i H x H' _ y hi => by
    rw [rng_len] at hi
    obtain ⟨e, rfl⟩ := y
    refine ⟨e, ?_⟩
    rw [rng_at hi, Int.zero_add], fun i H _ hi => by rw [rng_len] at hi; exact hi⟩

/-- a turn of a comprehension -/
def compBody (g : TG) (tt : TT) (te : TE) (x : V) (σ : St) (H : Hp) (R : Option V → St → Hp → Prop) : Prop :=
  g x σ H fun σ3 H3 => tt σ3 H3 fun b H4 => if b = true then te σ3 H4 fun y H5 => R (some y) σ3 H5 else R none σ3 H4
theorem comp_of {J : It} {xs : List V} {P : Hp → Prop} {g : TG} {tt : TT} {te : TE} {l : Addr} {QL : Hp → Prop} {σ0 : St} {H0 : Hp} (Wk : Wlk J xs P) (Pv : Nat → List V → St → Hp → Prop) (h0 : Pv 0 [] σ0 H0)
    (hP : ∀ i ys σ H, Pv i ys σ H → P H ∧ H l = some (.lst ys))
    (hs : ∀ i x ys σ H, xs[i]? = some x → Pv i ys σ H → compBody g tt te x σ H fun o σ3 H5 => match o with
      | some y => H5 l = some (.lst ys) ∧ ys.length < sizeLine ∧ Pv (i + 1) (ys ++ [y]) σ3 (upd H5 l (.lst (ys ++ [y])))
      | none => Pv (i + 1) ys σ3 H5)
    (hd : ∀ ys σ H, Pv xs.length ys σ H → QL H) :
    ∃ W : Nat → Nat → List V → St → Hp → Prop, (∃ m, W 0 m [] σ0 H0) ∧
    ∀ i m ys σ' H', W i m ys σ' H' → H' l = some (.lst ys) ∧
      ((J.stop i H' ∧ QL H') ∨
       (J.go i H' ∧ ∃ N : List V → St → Hp → Prop, (∀ zs σ2 H2, N zs σ2 H2 → ∃ m', m' < m ∧ W (i + 1) m' zs σ2 H2) ∧ ∀ x H2, J.yld i H' x H2 → g x σ' H2 fun σ3 H3 => tt σ3 H3 fun b H4 =>
          if b = true then te σ3 H4 fun y H5 => H5 l = some (.lst ys) ∧ ys.length < sizeLine ∧ N (ys ++ [y]) σ3 (upd H5 l (.lst (ys ++ [y])))
          else N ys σ3 H4)) := by
  refine ⟨fun i m ys σ H => m = xs.length - i ∧ i ≤ xs.length ∧ Pv i ys σ H, ⟨xs.length, by simp, Nat.zero_le _, h0⟩, ?_⟩
  rintro i m ys σ H ⟨rfl, hi, p⟩
  obtain ⟨hp, hl⟩ := hP i ys σ H p
  refine ⟨hl, ?_⟩
  by_cases hlt : i < xs.length
  · refine .inr ⟨Wk.go i H hp hlt, fun zs σ2 H2 => Pv (i + 1) zs σ2 H2, fun zs σ2 H2 n => ⟨xs.length - (i + 1), by omega, rfl, hlt, n⟩, fun x H2 y => ?_⟩
    obtain ⟨e, hx⟩ := Wk.yld i H x H2 hp y hlt
    subst e
    exact hs i x ys σ _ hx p
  · have e : i = xs.length := by omega
    subst e
    exact .inl ⟨Wk.stop _ H hp (Nat.le_refl _), hd ys σ H p⟩

theorem Same.upd_new {H H' : Hp} {l : Addr} {o : HO} (e : Same H H') (h : H l = none) : Same H (upd H' l o) := fun b u q => by
  rw [upd_ne (ne_of_none q h)]
  exact e b u q
theorem Same.new {H : Hp} {l : Addr} {o : HO} (h : H l = none) : Same H (upd H l o) := (Same.refl H).upd_new h
theorem range_filterMap {β : Type} {F : Nat → Option β} {i : Nat} : (List.range (i + 1)).filterMap F = (List.range i).filterMap F ++ (F i).toList := by
  rw [List.range_succ, List.filterMap_append]
  cases e : F i <;> simp [e]
theorem filterMap_len {β : Type} {F : Nat → Option β} {i : Nat} : ((List.range i).filterMap F).length ≤ i := by
  have h := List.length_filterMap_le F (List.range i)
  rw [List.length_range] at h
  exact h
theorem filterMap_some {α β : Type} (h : α → β) (l : List α) : (l.filterMap fun i => some (h i)) = l.map h := by
  induction l with
  | nil => rfl
  | cons a l ih => rw [List.filterMap_cons, List.map_cons, ih]

/-- a comprehension whose items make nothing that is kept: F tells each turn's value, or that it is left out -/
theorem comp_pure {J : It} {xs : List V} {P : Hp → Prop} {g : TG} {tt : TT} {te : TE} {l : Addr} {QL : Hp → Prop} {σ0 : St} {H1 : Hp} (F : Nat → Option V) (S : St → Prop) (Wk : Wlk J xs P) (hz : xs.length ≤ sizeLine) (hl : H1 l = none)
    (hPm : ∀ H, Same H1 H → P H) (hS : S σ0)
    (hs : ∀ i x σ H (R : Option V → St → Hp → Prop), xs[i]? = some x → S σ → Same H1 H → (∀ σ' H', S σ' → Same H H' → R (F i) σ' H') → compBody g tt te x σ H R)
    (hd : ∀ H, Same H1 H → H l = some (.lst ((List.range xs.length).filterMap F)) → QL H) :
    ∃ W : Nat → Nat → List V → St → Hp → Prop, (∃ m, W 0 m [] σ0 (upd H1 l (.lst []))) ∧
    ∀ i m ys σ' H', W i m ys σ' H' → H' l = some (.lst ys) ∧
      ((J.stop i H' ∧ QL H') ∨
       (J.go i H' ∧ ∃ N : List V → St → Hp → Prop, (∀ zs σ2 H2, N zs σ2 H2 → ∃ m', m' < m ∧ W (i + 1) m' zs σ2 H2) ∧ ∀ x H2, J.yld i H' x H2 → g x σ' H2 fun σ3 H3 => tt σ3 H3 fun b H4 =>
          if b = true then te σ3 H4 fun y H5 => H5 l = some (.lst ys) ∧ ys.length < sizeLine ∧ N (ys ++ [y]) σ3 (upd H5 l (.lst (ys ++ [y])))
          else N ys σ3 H4)) := by
  refine comp_of Wk (fun i ys σ H => Same H1 H ∧ H l = some (.lst ys) ∧ S σ ∧ ys = (List.range i).filterMap F) ⟨Same.new hl, upd_same, hS, rfl⟩ (fun i ys σ H p => ⟨hPm H p.1, p.2.1⟩) ?_ ?_
  · rintro i x ys σ H hx ⟨sm, hl', hσ, rfl⟩
    refine hs i x σ H _ hx hσ sm fun σ' H' hσ' sm' => ?_
    have hi : i < xs.length := (List.getElem?_eq_some_iff.mp hx).1
    cases e : F i with
    | none =>
      refine ⟨sm.trans sm', sm' _ _ hl', hσ', ?_⟩
      rw [range_filterMap, e]
      simp
    | some y =>
      refine ⟨sm' _ _ hl', ?_, (sm.trans sm').upd_new hl, upd_same, hσ', ?_⟩
      · have h1 := filterMap_len (F := F) (i := i)
        omega
      · rw [range_filterMap, e]
        rfl
  · rintro ys σ H ⟨sm, hl', hσ, rfl⟩
    exact hd H sm hl'

/-! ### begun squares in the heap -/
theorem Paired.getL {α β : Type} {F : α → β → Prop} : ∀ {l₁ : List α} {l₂ : List β} {i : Nat} {a : α}, Paired F l₁ l₂ → l₁[i]? = some a → ∃ b, l₂[i]? = some b ∧ F a b
  | _, _, _, _, .nil, e => by simp at e
  | _, _, 0, _, .cons r _, e => by simp at e; subst e; exact ⟨_, rfl, r⟩
  | _, _, i + 1, a, .cons _ t, e => by
    obtain ⟨u, h1, h2⟩ := Paired.getL (i := i) (a := a) t (by simpa using e)
    exact ⟨u, by simpa using h1, h2⟩
theorem Paired.getR {α β : Type} {F : α → β → Prop} : ∀ {l₁ : List α} {l₂ : List β} {i : Nat} {b : β}, Paired F l₁ l₂ → l₂[i]? = some b → ∃ a, l₁[i]? = some a ∧ F a b
  | _, _, _, _, .nil, e => by simp at e
  | _, _, 0, _, .cons r _, e => by simp at e; subst e; exact ⟨_, rfl, r⟩
  | _, _, i + 1, b, .cons _ t, e => by
    obtain ⟨u, h1, h2⟩ := Paired.getR (i := i) (b := b) t (by simpa using e)
    exact ⟨u, by simpa using h1, h2⟩

theorem atI_of {xs : List V} {i : Nat} {v : V} (h : xs[i]? = some v) : atI xs (i : Int) = some v := atI_nat h
theorem small6 {n : Nat} (h : n ≤ 1000) : n ≤ sizeLine := Nat.le_of_lt (small1000 h)
theorem map_ints_flat (ns : List Int) : (ns.map V.int).all flatV = true := by
  rw [List.all_map]
  exact List.all_eq_true.mpr fun _ _ => rfl
theorem Paired.append {α β : Type} {F : α → β → Prop} : ∀ {l₁ m₁ : List α} {l₂ m₂ : List β}, Paired F l₁ l₂ → Paired F m₁ m₂ → Paired F (l₁ ++ m₁) (l₂ ++ m₂)
  | _, _, _, _, .nil, s => s
  | _, _, _, _, .cons r t, s => .cons r (Paired.append t s)
theorem bt_list : bootBuiltins "list" = some (Value.type "list") := by decide +kernel
theorem bt_tuple : bootBuiltins "tuple" = some (Value.type "tuple") := by decide +kernel
theorem bt_int : bootBuiltins "int" = some (Value.type "int") := by decide +kernel
theorem pg_c {X : Cx} {Nc : List Str} {scope : Scope} {cl : List (Str × Addr)} {C : Addr} {s₁ : Shared} {H₁ : Hp} {fp : List Addr} (i : Nat) {x : Str} {pos : Pos} (hN : Nc.Nodup := by decide +kernel) (hi : Nc[i]? = some x := by rfl)
    (hx : (relabel scope X.env).names.lookup x = some .local := by rfl) : PG (cxComp X Nc scope cl C s₁ H₁ fp) (.Name x pos) (gName i) := pg_name hN hi (.inl hx) (.inr hx)
end L2

namespace L2
open PySem PySem.Spec PyProof.Rows

/-! ### exceptions: raised in a def, passed to its caller, met by an except clause there -/

section
variable {P : Program} {w : World} {outer : List Env} {H H' : Hp} {s s' s'' : Shared} {e : Addr} {cls a0 : Value} {B : Heap}
end


section
variable {P : Program} {w : World} {K : PySem.W.Frag} {mg : Str → Option Value} {base : Heap} {N : List Str} {qual : Str} {scope : Scope} {f : Addr} {cd : Value} {A : Around} {outer : List Env} {s₀ : Shared} {H₀ : Hp} {E : XK}

end

/-! ### try -/
section
variable {X : Cx} {pins ps' : List (Addr × Obj)} {σ : St} {H : Hp} {s : Shared} {xe : Value → Shared → Prop}
end
section
variable {X : Cx} {CX : CXT} {k : Nat} {f : Addr} {fd : FuncData} {ps : List Str} {sp : Sp} {dvs : List V} {ds : List Value} {E : XK} {x : Str} {p pos : Pos} {e : Expr} {es : List Expr} {t : TA}
end

section
variable {X : Cx} {pins : List (Addr × Obj)} {σ : St} {H : Hp} {s : Shared} {e : Addr}
end
section
variable {X : Cx}
end
end L2

namespace L2
open PySem
/-! ### the empty cells, exactly -/

/-! ### a thing put in a cell -/

/-! ### things once in each row and column -/


/-! ### tracked squares -/
def GridT (H : Hp) (a : Addr) (B : List (List V)) : Prop := ∃ ps : List Addr, H a = some (.tup (ps.map V.ref)) ∧ Paired (fun p row => H p = some (.tup row)) ps B

/-! ### slices and sums of tuples -/
theorem cut_to (xs : List V) {c : Nat} (h : c ≤ xs.length) : cutV xs none (some (c : Int)) = xs.take c := by
  unfold cutV
  rw [HT.sIx_none, HT.sIx_nat, List.drop_zero, Nat.sub_zero]
  congr 1
  omega
theorem cut_from (xs : List V) {c : Nat} (h : c ≤ xs.length) : cutV xs (some (c : Int)) none = xs.drop c := by
  unfold cutV
  rw [HT.sIx_none, HT.sIx_nat]
  have e : min c xs.length = c := by omega
  rw [e, List.take_of_length_le]
  rw [List.length_drop]
  exact Nat.le_refl _
theorem not_whole_to {m c : Nat} (h : c < m) : ¬ (HT.sIx m 0 none = 0 ∧ HT.sIx m m (some (c : Int)) = m) := by
  rw [HT.sIx_nat]
  omega
theorem not_whole_from {m c : Nat} (h : c < m) : ¬ (HT.sIx m 0 (some ((c + 1 : Nat) : Int)) = 0 ∧ HT.sIx m m none = m) := by
  rw [HT.sIx_nat]
  omega
/-- t + u: a tuple of both; which one it is isn't said -/
def rSumT (K : PySem.W.Frag) : R2 := fun x y H Q => ∃ a b xs ys, x = .ref a ∧ y = .ref b ∧ H a = some (.tup xs) ∧ H b = some (.tup ys) ∧ xs.length + ys.length ≤ sizeLine ∧ ∀ p H', Same H H' → H' p = some (.tup (xs ++ ys)) → Q (.ref p) H'
theorem op_sumT {X : Cx} (K : PySem.W.Frag) : OpR X (binaryOp .Add) (rSumT K) := by
  intro pins s σ H x y v u Q I rx ry h
  obtain ⟨a, b, xs, ys, rfl, rfl, ha, hb, hz, q⟩ := h
  cases rx
  cases ry
  by_cases hx : xs = []
  · subst hx
    obtain ⟨its, r1, p1, _⟩ := I.tuple (SqT.of ha)
    obtain ⟨its2, r2, p2, _⟩ := I.tuple (SqT.of hb)
    have e0 : its = [] := r1.nil_iff.mpr rfl
    subst e0
    obtain ⟨⟨cls, dd, data, sl⟩, ho, hc, n, hd⟩ := id p1
    obtain ⟨⟨cls2, dd2, data2, sl2⟩, ho2, hc2, n2, hd2⟩ := id p2
    simp only at hc hd hc2 hd2
    subst hc hd hc2 hd2
    exact concat_meets ⟨_, ho, rfl⟩ ⟨_, ho2, rfl⟩ noFill_tuple_add seq_tuple_add PySem.F.slot_tuple_add PySem.F.entry_tuple_add (PySem.F.args_tuple_add_2 _ _) (PyProof.Rows.tuple_addW0 a b _ _ n n2 dd dd2 sl sl2 rfl) ⟨ho, ho2, .ref b, H, I, rfl, q b H (Same.refl H) hb⟩
  · refine op_catT pins s σ H (.ref a) (.ref b) _ _ Q I rfl rfl ⟨a, b, xs, ys, rfl, rfl, SqT.of ha, SqT.of hb, hx, hz, fun e => ?_, fun _ p hp => q p _ (Same.new hp) upd_same⟩
    subst e
    rw [List.append_nil] at q
    exact q a H (Same.refl H) ha
end L2

namespace L2
open PySem PySem.Spec PyProof.Rows PySem.W

/-! ### an exception's own class -/

section
variable {prog : Program} {w : World} {A : Around} {E : Value → Shared → Prop} {K : PySem.W.Frag} {h : Heap} {g : Array GenState} {d : Drawn} {t : Nat} {os : OsState} {a C : Addr} {o : Obj}
end

end L2

namespace L2
open PySem PySem.Spec PyProof.Rows

/-! ### a caught exception, tracked -/
section
variable {X : Cx} {pins : List (Addr × Obj)} {σ : St} {H : Hp} {s : Shared}

end


section
variable {X : Cx}
end

/-! ### isinstance of a caught exception -/

/-! ### defs that are called within an except suite -/
section
variable {X : Cx} {k : Nat} {f : Addr} {fd : FuncData} {ps : List Str} {sp : Sp} {x : Str} {p pos : Pos} {e : Expr} {es : List Expr} {t : TA}
end
end L2

namespace L2
open PySem PySem.Spec PyProof.Rows

/-! ### == and != of nested lists and tuples -/
inductive EqD (K : PySem.W.Frag) (H : Hp) : Nat → V → V → Bool → Prop where
  | flat {d : Nat} {x y : V} (fx : flatV x = true) (fy : flatV y = true) : EqD K H d x y (eqV x y)
  | tups {d : Nat} {a c : Addr} {xs ys : List V} {e : Nat → Bool} (h1 : SqT K H a xs) (h2 : SqT K H c ys) (he : ∀ j x y, xs[j]? = some x → ys[j]? = some y → EqD K H d x y (e j)) : EqD K H (d + 1) (.ref a) (.ref c) (decide (xs.length = ys.length) && (List.range xs.length).all fun j => decide (j < ys.length) && e j)
  | lsts {d : Nat} {a c : Addr} {xs ys : List V} {e : Nat → Bool} (h1 : SqL K H a xs) (h2 : SqL K H c ys) (he : xs.length = ys.length → ∀ j x y, xs[j]? = some x → ys[j]? = some y → EqD K H d x y (e j)) : EqD K H (d + 1) (.ref a) (.ref c) (decide (xs.length = ys.length) && (List.range xs.length).all fun j => decide (j < ys.length) && e j)
  | tupF {d : Nat} {a : Addr} {xs : List V} {y : V} (h1 : SqT K H a xs) (fy : flatV y = true) : EqD K H d (.ref a) y false
  | Ftup {d : Nat} {a : Addr} {xs : List V} {y : V} (h1 : SqT K H a xs) (fy : flatV y = true) : EqD K H d y (.ref a) false
  | lstF {d : Nat} {a : Addr} {xs : List V} {y : V} (h1 : SqL K H a xs) (fy : flatV y = true) : EqD K H d (.ref a) y false
  | Flst {d : Nat} {a : Addr} {xs : List V} {y : V} (h1 : SqL K H a xs) (fy : flatV y = true) : EqD K H d y (.ref a) false
  | tupL {d : Nat} {a c : Addr} {xs ys : List V} (h1 : SqT K H a xs) (h2 : SqL K H c ys) : EqD K H d (.ref a) (.ref c) false
  | lstT {d : Nat} {a c : Addr} {xs ys : List V} (h1 : SqL K H a xs) (h2 : SqT K H c ys) : EqD K H d (.ref a) (.ref c) false

theorem rcAt_V {A : Around} {s : Shared} {y x : V} {u v : Value} (ry : RelV y u) (rx : RelV x v) (fy : flatV y = true) (fx : flatV x = true) : SeqAt.RcAt A s u v (eqV y x) ∧ SeqAt.RcNeAt A s u v (!eqV y x) := by
  cases y with
  | non =>
    cases ry
    cases x with
    | non => cases rx; exact ⟨SeqAt.RcAt.none_none, SeqAt.RcNeAt.none_none⟩
    | bl b => cases rx; exact ⟨SeqAt.RcAt.none_bool b, SeqAt.RcNeAt.none_bool b⟩
    | int b => obtain ⟨t, rfl⟩ := rx; exact ⟨SeqAt.RcAt.none_int b t, SeqAt.RcNeAt.none_int b t⟩
    | str b => obtain ⟨t, rfl⟩ := rx; exact ⟨SeqAt.RcAt.none_str b t, SeqAt.RcNeAt.none_str b t⟩
    | _ => exact absurd (show false = true from fx) Bool.false_ne_true
  | bl a =>
    cases ry
    cases x with
    | non => cases rx; exact ⟨SeqAt.RcAt.bool_none a, SeqAt.RcNeAt.bool_none a⟩
    | bl b => cases rx; exact ⟨SeqAt.RcAt.bool_bool a b, SeqAt.RcNeAt.bool_bool a b⟩
    | int b => obtain ⟨t, rfl⟩ := rx; exact ⟨SeqAt.RcAt.bool_int a b t, SeqAt.RcNeAt.bool_int a b t⟩
    | str b => obtain ⟨t, rfl⟩ := rx; exact ⟨SeqAt.RcAt.bool_str a b t, SeqAt.RcNeAt.bool_str a b t⟩
    | _ => exact absurd (show false = true from fx) Bool.false_ne_true
  | int a =>
    obtain ⟨t', rfl⟩ := ry
    cases x with
    | non => cases rx; exact ⟨SeqAt.RcAt.int_none a t', SeqAt.RcNeAt.int_none a t'⟩
    | bl b => cases rx; exact ⟨SeqAt.RcAt.int_bool a t' b, SeqAt.RcNeAt.int_bool a t' b⟩
    | int b => obtain ⟨t, rfl⟩ := rx; exact ⟨SeqAt.RcAt.int_int a t' b t, SeqAt.RcNeAt.int_int a t' b t⟩
    | str b => obtain ⟨t, rfl⟩ := rx; exact ⟨SeqAt.RcAt.int_str a t' b t, SeqAt.RcNeAt.int_str a t' b t⟩
    | _ => exact absurd (show false = true from fx) Bool.false_ne_true
  | str a =>
    obtain ⟨t', rfl⟩ := ry
    cases x with
    | non => cases rx; exact ⟨SeqAt.RcAt.str_none a t', SeqAt.RcNeAt.str_none a t'⟩
    | bl b => cases rx; exact ⟨SeqAt.RcAt.str_bool a t' b, SeqAt.RcNeAt.str_bool a t' b⟩
    | int b => obtain ⟨t, rfl⟩ := rx; exact ⟨SeqAt.RcAt.str_int a t' b t, SeqAt.RcNeAt.str_int a t' b t⟩
    | str b => obtain ⟨t, rfl⟩ := rx; exact ⟨SeqAt.RcAt.str_str a t' b t, SeqAt.RcNeAt.str_str a t' b t⟩
    | _ => exact absurd (show false = true from fx) Bool.false_ne_true
  | _ => exact absurd (show false = true from fy) Bool.false_ne_true
section
variable {A : Around} {s : Shared} {l : Addr} {its : Array Value}
theorem tupF_at (hl : s.heap.IsTuple l its) {y : V} {v : Value} (r : RelV y v) (fy : flatV y = true) (hu : A.units < cLine) :
    (SeqAt.EqAt A s (.ref l) v false ∧ SeqAt.RcAt A s (.ref l) v false ∧ SeqAt.RcNeAt A s (.ref l) v true) ∧ (SeqAt.EqAt A s v (.ref l) false ∧ SeqAt.RcAt A s v (.ref l) false ∧ SeqAt.RcNeAt A s v (.ref l) true) := by
  cases y with
  | non => cases r; exact ⟨⟨.tuple_none hl hu, .tuple_none hl hu, .tuple_none hl hu⟩, .none_tuple hl hu, .none_tuple hl hu, .none_tuple hl hu⟩
  | bl b => cases r; exact ⟨⟨.tuple_bool b hl hu, .tuple_bool b hl hu, .tuple_bool b hl hu⟩, .bool_tuple b hl hu, .bool_tuple b hl hu, .bool_tuple b hl hu⟩
  | int b => obtain ⟨t, rfl⟩ := r; exact ⟨⟨.tuple_int b t hl hu, .tuple_int b t hl hu, .tuple_int b t hl hu⟩, .int_tuple b t hl hu, .int_tuple b t hl hu, .int_tuple b t hl hu⟩
  | str b => obtain ⟨t, rfl⟩ := r; exact ⟨⟨.tuple_str b t hl hu, .tuple_str b t hl hu, .tuple_str b t hl hu⟩, .str_tuple b t hl hu, .str_tuple b t hl hu, .str_tuple b t hl hu⟩
  | _ => exact absurd (show false = true from fy) Bool.false_ne_true
theorem lstF_at (hl : s.heap.IsList l its) {y : V} {v : Value} (r : RelV y v) (fy : flatV y = true) (hu : A.units < cLine) :
    (SeqAt.EqAt A s (.ref l) v false ∧ SeqAt.RcAt A s (.ref l) v false ∧ SeqAt.RcNeAt A s (.ref l) v true) ∧ (SeqAt.EqAt A s v (.ref l) false ∧ SeqAt.RcAt A s v (.ref l) false ∧ SeqAt.RcNeAt A s v (.ref l) true) := by
  cases y with
  | non => cases r; exact ⟨⟨.list_none hl hu, .list_none hl hu, .list_none hl hu⟩, .none_list hl hu, .none_list hl hu, .none_list hl hu⟩
  | bl b => cases r; exact ⟨⟨.list_bool b hl hu, .list_bool b hl hu, .list_bool b hl hu⟩, .bool_list b hl hu, .bool_list b hl hu, .bool_list b hl hu⟩
  | int b => obtain ⟨t, rfl⟩ := r; exact ⟨⟨.list_int b t hl hu, .list_int b t hl hu, .list_int b t hl hu⟩, .int_list b t hl hu, .int_list b t hl hu, .int_list b t hl hu⟩
  | str b => obtain ⟨t, rfl⟩ := r; exact ⟨⟨.list_str b t hl hu, .list_str b t hl hu, .list_str b t hl hu⟩, .str_list b t hl hu, .str_list b t hl hu, .str_list b t hl hu⟩
  | _ => exact absurd (show false = true from fy) Bool.false_ne_true
end
theorem min_all {n m : Nat} {e : Nat → Bool} : ((List.range (min n m)).all e && (n == m)) = (decide (n = m) && (List.range n).all fun j => decide (j < m) && e j) := by
  by_cases h : n = m
  · subst h
    rw [Nat.min_self, beq_self_eq_true, Bool.and_true, decide_eq_true rfl, Bool.true_and, Bool.eq_iff_iff, List.all_eq_true, List.all_eq_true]
    constructor
    · intro h j hj
      rw [decide_eq_true (List.mem_range.mp hj), Bool.true_and]
      exact h j hj
    · intro h j hj
      have := h j hj
      rw [Bool.and_eq_true] at this
      exact this.2
  · rw [decide_eq_false h, Bool.false_and, show (n == m) = false by simpa using h, Bool.and_false]
theorem all_lt {n : Nat} {e : Nat → Bool} : ((List.range n).all fun j => decide (j < n) && e j) = (List.range n).all e := by
  rw [Bool.eq_iff_iff, List.all_eq_true, List.all_eq_true]
  constructor
  · intro h j hj
    have := h j hj
    rw [Bool.and_eq_true] at this
    exact this.2
  · intro h j hj
    rw [decide_eq_true (List.mem_range.mp hj), Bool.true_and]
    exact h j hj
section
variable {X : Cx} {pins : List (Addr × Obj)} {σ : St} {H : Hp} {s : Shared}
theorem EqD.refl' (I : Inv X pins σ H s) {d : Nat} {x y : V} {b : Bool} (h : EqD X.K H d x y b) : x = y → b = true := by
  induction h with
  | flat fx fy => rintro rfl; exact eqV_refl fx
  | tups h1 h2 he ih =>
    intro e
    cases e
    have := I.tuple_inj h1 h2
    subst this
    rw [decide_eq_true rfl, Bool.true_and, all_lt, List.all_eq_true]
    intro j hj
    have hj' := List.mem_range.mp hj
    exact ih j _ _ (List.getElem?_eq_getElem hj') (List.getElem?_eq_getElem hj') rfl
  | lsts h1 h2 he ih =>
    intro e
    cases e
    have := I.list_inj h1 h2
    subst this
    rw [decide_eq_true rfl, Bool.true_and, all_lt, List.all_eq_true]
    intro j hj
    have hj' := List.mem_range.mp hj
    exact ih rfl j _ _ (List.getElem?_eq_getElem hj') (List.getElem?_eq_getElem hj') rfl
  | tupF h1 fy => rintro rfl; cases fy
  | Ftup h1 fy => rintro rfl; cases fy
  | lstF h1 fy => rintro rfl; cases fy
  | Flst h1 fy => rintro rfl; cases fy
  | tupL h1 h2 =>
    intro e
    cases e
    obtain ⟨_, _, p, _⟩ := I.tuple h1
    obtain ⟨_, _, q, _⟩ := I.list h2
    obtain ⟨o, ho, hc, _⟩ := p
    obtain ⟨o', _, ho', hc', _⟩ := q
    rw [ho] at ho'
    cases ho'
    rw [hc] at hc'
    exact absurd hc' (by decide)
  | lstT h1 h2 =>
    intro e
    cases e
    obtain ⟨_, _, p, _⟩ := I.tuple h2
    obtain ⟨_, _, q, _⟩ := I.list h1
    obtain ⟨o, ho, hc, _⟩ := p
    obtain ⟨o', _, ho', hc', _⟩ := q
    rw [ho] at ho'
    cases ho'
    rw [hc] at hc'
    exact absurd hc' (by decide)
theorem Vals.at {xs : List V} {its : List Value} (r : Vals xs its) {j : Nat} (h : j < its.toArray.size) : ∃ x, xs[j]? = some x ∧ RelV x its.toArray[j] := by
  rw [List.size_toArray] at h
  have hx : j < xs.length := by rw [r.length]; exact h
  have e1 : xs[j]? = some xs[j] := List.getElem?_eq_getElem hx
  obtain ⟨u, hu, ru⟩ := r.get e1
  refine ⟨_, e1, ?_⟩
  rw [List.getElem?_eq_getElem h] at hu
  cases hu
  simpa using ru
/-- all three readings of ==, != at once -/
theorem EqD.all (I : Inv X pins σ H s) {d : Nat} {x y : V} {b : Bool} (h : EqD X.K H d x y b) : ∀ {A : Around} {u v : Value}, RelV x u → RelV y v → A.units + d < cLine →
    SeqAt.EqAt A s u v b ∧ SeqAt.RcAt A s u v b ∧ SeqAt.RcNeAt A s u v (!b) := by
  induction h with
  | flat fx fy => exact fun {A u v} rx ry hu => ⟨eqAt_V rx ry fx fy, rcAt_V rx ry fx fy⟩
  | @tups d a c xs ys e h1 h2 he ih =>
    intro A u v rx ry hu
    cases rx
    cases ry
    obtain ⟨its, r1, p1, _⟩ := I.tuple h1
    obtain ⟨its2, r2, p2, _⟩ := I.tuple h2
    have el : ∀ j (q1 : j < its.toArray.size) (q2 : j < its2.toArray.size), SeqAt.EqAt A.in1 s its.toArray[j] its2.toArray[j] (e j) := fun j q1 q2 => by
      obtain ⟨x, e1, rx⟩ := r1.at q1
      obtain ⟨y, e2, ry⟩ := r2.at q2
      exact (ih j x y e1 e2 rx ry (by show A.units + 1 + d < cLine; omega)).1
    have sz : its.toArray.size = xs.length ∧ its2.toArray.size = ys.length := by
      rw [List.size_toArray, List.size_toArray, r1.length, r2.length]
      exact ⟨rfl, rfl⟩
    have g1 := SeqAt.RcAt.tuples (A := A) p1 p2 (by omega) el
    have g2 := SeqAt.RcNeAt.tuples (A := A) p1 p2 (by omega) el
    rw [sz.1, sz.2, min_all] at g1 g2
    refine ⟨?_, g1, g2⟩
    by_cases hac : a = c
    · subst hac
      rw [EqD.refl' I (.tups h1 h2 he) rfl]
      exact SeqAt.EqAt.same _
    · exact SeqAt.EqAt.of_refs hac g1
  | @lsts d a c xs ys e h1 h2 he ih =>
    intro A u v rx ry hu
    cases rx
    cases ry
    obtain ⟨its, r1, p1, _⟩ := I.list h1
    obtain ⟨its2, r2, p2, _⟩ := I.list h2
    have sz : its.toArray.size = xs.length ∧ its2.toArray.size = ys.length := by
      rw [List.size_toArray, List.size_toArray, r1.length, r2.length]
      exact ⟨rfl, rfl⟩
    have g : SeqAt.RcAt A s (.ref a) (.ref c) (decide (xs.length = ys.length) && (List.range xs.length).all fun j => decide (j < ys.length) && e j) ∧ SeqAt.RcNeAt A s (.ref a) (.ref c) (!(decide (xs.length = ys.length) && (List.range xs.length).all fun j => decide (j < ys.length) && e j)) := by
      by_cases hl : xs.length = ys.length
      · have el : ∀ j (q1 : j < its.toArray.size) (q2 : j < its2.toArray.size), SeqAt.EqAt A.in1 s its.toArray[j] its2.toArray[j] (e j) := fun j q1 q2 => by
          obtain ⟨x, e1, rx⟩ := r1.at q1
          obtain ⟨y, e2, ry⟩ := r2.at q2
          exact (ih hl j x y e1 e2 rx ry (by show A.units + 1 + d < cLine; omega)).1
        have g1 := SeqAt.RcAt.lists (A := A) p1.isList p2.isList (by rw [sz.1, sz.2, hl]) (by omega) el
        have g2 := SeqAt.RcNeAt.lists (A := A) p1.isList p2.isList (by rw [sz.1, sz.2, hl]) (by omega) el
        rw [sz.1] at g1 g2
        rw [decide_eq_true hl, Bool.true_and, ← hl, all_lt]
        exact ⟨g1, g2⟩
      · rw [decide_eq_false hl, Bool.false_and]
        have hz : (its.toArray.size != its2.toArray.size) = true := by rw [sz.1, sz.2]; simpa using hl
        exact ⟨.lists_lengths p1.isList p2.isList hz (by omega), .lists_lengths p1.isList p2.isList hz (by omega)⟩
    refine ⟨?_, g⟩
    by_cases hac : a = c
    · subst hac
      rw [EqD.refl' I (.lsts h1 h2 he) rfl]
      exact SeqAt.EqAt.same _
    · exact SeqAt.EqAt.of_refs hac g.1
  | tupF h1 fy =>
    intro A u v rx ry hu
    cases rx
    obtain ⟨its, r1, p1, _⟩ := I.tuple h1
    exact (tupF_at p1 ry fy (by omega)).1
  | Ftup h1 fy =>
    intro A u v rx ry hu
    cases ry
    obtain ⟨its, r1, p1, _⟩ := I.tuple h1
    exact (tupF_at p1 rx fy (by omega)).2
  | lstF h1 fy =>
    intro A u v rx ry hu
    cases rx
    obtain ⟨its, r1, p1, _⟩ := I.list h1
    exact (lstF_at p1.isList ry fy (by omega)).1
  | Flst h1 fy =>
    intro A u v rx ry hu
    cases ry
    obtain ⟨its, r1, p1, _⟩ := I.list h1
    exact (lstF_at p1.isList rx fy (by omega)).2
  | tupL h1 h2 =>
    intro A u v rx ry hu
    cases rx
    cases ry
    obtain ⟨its, r1, p1, _⟩ := I.tuple h1
    obtain ⟨its2, r2, p2, _⟩ := I.list h2
    exact ⟨.tuple_list p1 p2.isList (by omega), .tuple_list p1 p2.isList (by omega), .tuple_list p1 p2.isList (by omega)⟩
  | lstT h1 h2 =>
    intro A u v rx ry hu
    cases rx
    cases ry
    obtain ⟨its, r1, p1, _⟩ := I.list h1
    obtain ⟨its2, r2, p2, _⟩ := I.tuple h2
    exact ⟨.list_tuple p1.isList p2 (by omega), .list_tuple p1.isList p2 (by omega), .list_tuple p1.isList p2 (by omega)⟩
end
def rEqD (K : PySem.W.Frag) (d : Nat) (neg : Bool) : R2 := fun x y H Q => ∃ b, EqD K H d x y b ∧ Q (.bl (if neg then !b else b)) H
section
variable {X : Cx}
theorem op_eqD {d : Nat} (hu : X.A.units + d < cLine) (K : PySem.W.Frag) (hK : X.K = K := by rfl) : OpR X (compareOp .Eq) (rEqD K d false) := by
  subst hK
  intro pins s σ H x y v u Q I rx ry h
  obtain ⟨b, e, q⟩ := h
  exact (e.all I rx ry hu).2.1 _ _ _ _ ⟨.bl b, H, I, rfl, q⟩
theorem op_neD {d : Nat} (hu : X.A.units + d < cLine) (K : PySem.W.Frag) (hK : X.K = K := by rfl) : OpR X (compareOp .NotEq) (rEqD K d true) := by
  subst hK
  intro pins s σ H x y v u Q I rx ry h
  obtain ⟨b, e, q⟩ := h
  exact (e.all I rx ry hu).2.2 _ _ _ _ ⟨.bl (!b), H, I, rfl, q⟩

/-! ### 'text' * 0, 'text' * 1 -/
end
end L2

namespace L2
open PySem PySem.Spec PyProof.Rows

/-! ### (a, b, ..) = a list -/
section
variable {prog : Program} {w : World} {A : Around} {E : Value → Shared → Prop}
end
end L2

namespace L2
open PySem PySem.Spec PyProof.Rows
theorem EqD.cast {K : PySem.W.Frag} {H : Hp} {d : Nat} {x y : V} {b b' : Bool} (h : EqD K H d x y b) (e : b = b') : EqD K H d x y b' := e ▸ h
theorem eqVs_range {xs ys : List V} : (decide (xs.length = ys.length) && (List.range xs.length).all fun j => decide (j < ys.length) && eqV (xs.getD j .non) (ys.getD j .non)) = eqVs xs ys := by
  by_cases hl : xs.length = ys.length
  · rw [decide_eq_true hl, Bool.true_and, ← hl, all_lt, ← range_eqVs hl]
    refine Bool.eq_iff_iff.mpr ?_
    rw [List.all_eq_true, List.all_eq_true]
    refine forall_congr' fun j => forall_congr' fun hj => ?_
    have h1 := List.mem_range.mp hj
    have h2 : j < ys.length := by omega
    rw [List.getElem?_eq_getElem h1, List.getElem?_eq_getElem h2, List.getD_eq_getElem?_getD, List.getD_eq_getElem?_getD, List.getElem?_eq_getElem h1, List.getElem?_eq_getElem h2]
    rfl
  · unfold eqVs
    rw [decide_eq_false hl, Bool.false_and, Bool.false_and]
theorem flat_at {xs : List V} (f : xs.all flatV = true) {j : Nat} {x : V} (h : xs[j]? = some x) : flatV x = true := List.all_eq_true.mp f _ (List.mem_of_getElem? h)
section
variable {K : PySem.W.Frag} {H : Hp} {d : Nat} {a c : Addr} {xs ys : List V}
theorem eqd_tup (h1 : SqT K H a xs) (h2 : SqT K H c ys) (f1 : xs.all flatV = true) (f2 : ys.all flatV = true) : EqD K H (d + 1) (.ref a) (.ref c) (eqVs xs ys) := by
  rw [← eqVs_range]
  refine .tups h1 h2 fun j x y e1 e2 => ?_
  have g1 : xs.getD j .non = x := by rw [List.getD_eq_getElem?_getD, e1]; rfl
  have g2 : ys.getD j .non = y := by rw [List.getD_eq_getElem?_getD, e2]; rfl
  rw [g1, g2]
  exact .flat (flat_at f1 e1) (flat_at f2 e2)
theorem all_true {n : Nat} : (decide (n = n) && (List.range n).all fun j => decide (j < n) && true) = true := by
  rw [decide_eq_true rfl, Bool.true_and, List.all_eq_true]
  intro j hj
  rw [decide_eq_true (List.mem_range.mp hj)]
  rfl
/-- like items: equal -/
theorem eqd_tupS (h1 : SqT K H a xs) (h2 : SqT K H c ys) (hl : xs.length = ys.length) (he : ∀ (j : Nat) x y, xs[j]? = some x → ys[j]? = some y → EqD K H d x y true) : EqD K H (d + 1) (.ref a) (.ref c) true := by
  have := EqD.tups (e := fun _ => true) h1 h2 he
  rw [← hl, all_true] at this
  exact this
theorem eqd_lstS (h1 : SqL K H a xs) (h2 : SqL K H c ys) (hl : xs.length = ys.length) (he : ∀ (j : Nat) x y, xs[j]? = some x → ys[j]? = some y → EqD K H d x y true) : EqD K H (d + 1) (.ref a) (.ref c) true := by
  have := EqD.lsts (e := fun _ => true) h1 h2 fun _ => he
  rw [← hl, all_true] at this
  exact this
end
end L2

namespace L2
open PySem PySem.Spec PyProof.Rows
/-- a def of the text, bound under its name -/
structure Dfn (K : PySem.W.Frag) (mg : Str → Option Value) (x : Str) (st : Stmt) (ps : List Str) (f : Addr) (fd : FuncData) : Prop where
  F : Fun K x x st f fd
  b : Binds K fd ps []
  m : mg x = some (.ref f)
section
variable {X : Cx}
theorem call_tupleK (K : PySem.W.Frag) (h : X.K = K := by rfl) : CallR X (.type "tuple") (fun xs H Q => ∃ p ys, xs = [.ref p] ∧ ((SqL K H p ys ∧ ∀ l, H l = none → Q (.ref l) (upd H l (.tup ys))) ∨ (SqT K H p ys ∧ Q (.ref p) H))) := by subst h; exact call_tuple_of
theorem call_listK (K : PySem.W.Frag) (h : X.K = K := by rfl) : CallR X (.type "list") (fun xs H Q => ∃ p ys, xs = [.ref p] ∧ (SqL K H p ys ∨ SqT K H p ys) ∧ ∀ l, H l = none → Q (.ref l) (upd H l (.lst ys))) := by subst h; exact call_list_of
end
theorem cut_mem {xs : List V} {lo hi : Option Int} {x : V} (h : x ∈ cutV xs lo hi) : x ∈ xs := by
  unfold cutV at h
  exact List.mem_of_mem_drop (List.mem_of_mem_take h)
end L2

namespace L2
open PySem PySem.Spec PyProof.Rows

/-! ### an exception in flight keeps its dict -/
section
variable {M : Model} {A : Around} {E : Value → Shared → Prop} {s : Shared}
end
end L2

namespace L2
open PySem PySem.Spec PyProof.Rows PySem.W

/-! ### an own class of exceptions with an __init__ of its own -/

section
variable {prog : Program} {w : World} {A : Around} {E : Value → Shared → Prop} {h : Heap} {g : Array GenState} {d : Drawn} {t : Nat} {os : OsState}
variable {nm q : Str} {C N : Addr} {bs bm bmB : List Value} {hdct : Bool} {sn : List Str} {sub : List Value} {ab : Bool} {col : Option Bool} {dd : Option Addr} {k0 k1 k2 k3 k5 : Option Value} {B newId initId : String}
end

/-! ### its attributes -/
section
variable {prog : Program} {w : World} {A : Around} {E : Value → Shared → Prop} {K : Frag} {h : Heap} {g : Array GenState} {d : Drawn} {t : Nat} {os : OsState}
variable {nm q f : Str} {C N x : Addr} {bs bm : List Value} {sn : List Str} {sub : List Value} {ab : Bool} {col : Option Bool} {dd : Option Addr} {k0 k1 k2 k3 k5 : Option Value} {newId : String} {o : Obj} {v : Value}
end
end L2

namespace L2
open PySem PySem.Spec PyProof.Rows

/-! ### exceptions of own classes: new, made, met -/
section
variable {X : Cx} {pins : List (Addr × Obj)} {σ : St} {H : Hp} {s : Shared}
end

/-! ### isinstance, attributes -/
section
variable {X : Cx} {o e value : Expr} {f : Str} {pos pos' : Pos} {ta tv : TE}
end

/-! ### C(..), C a class of exceptions with an __init__ of its own -/
section
variable {X : Cx} {k : Nat} {f C : Addr} {fd : FuncData} {ps : List Str} {sp : Sp} {x : Str} {p pos : Pos} {e : Expr} {es : List Expr} {t : TA}
end
end L2

namespace L2
open PySem PySem.Spec PyProof.Rows

/-! ### exceptions with their dicts: raised, passed on, met -/
section
variable {M : Model} {A : Around} {E : Value → Shared → Prop} {env : Env}
variable {nm q : Str} {C N : Addr} {bs bm : List Value} {hdct : Bool} {sn : List Str} {sub : List Value} {ab : Bool} {col : Option Bool} {dd : Option Addr} {k0 k1 k2 k3 k5 : Option Value} {newId : String}
end
section
variable {P : Program} {w : World} {K : PySem.W.Frag} {mg : Str → Option Value} {base : Heap} {N : List Str} {qual : Str} {scope : Scope} {f : Addr} {cd : Value} {A : Around} {outer : List Env} {s₀ : Shared} {H₀ : Hp} {E : XK}
end

section
variable {P : Program} {w : World} {K : PySem.W.Frag} {mg : Str → Option Value} {base : Heap} {E : XK}
end
section
variable {X : Cx}
end
end L2

namespace L2
open PySem PySem.Spec PyProof.Rows

/-! ### list(range(n)) -/
section
variable {X : Cx}
end

/-! ### (..) * k -/
section
variable (l : Addr) (its : List Value) (n : Nat) (dd : Option Addr) (sl : Array (Option Value)) (k : Int) (t : Tok)
end

end L2

namespace L2
open PySem PySem.Spec PyProof.Rows

/-! ### lists of pairs as tables -/
section
variable {κ : Type} [DecidableEq κ]



end


/-! ### a tracked dict, its keys ints and texts or tuples of these -/


section
variable {P : Program} {w : World} {H : Hp} {h : Heap} {a : Addr}
end



section
variable {X : Cx} {pins : List (Addr × Obj)} {σ : St} {H : Hp} {s : Shared} {a : Addr} {y v : V} {u r : Value} {o : Option V} {A : Around} {E : Value → Shared → Prop}


end

section
variable {X : Cx} {pins : List (Addr × Obj)} {σ : St} {H : Hp} {s : Shared} {a : Addr} {kvs : List (Key × V)} {k : Key} {u : Value} {A : Around} {E : Value → Shared → Prop}
end


/-! ### readings and rules -/



section
variable {X : Cx} {o i e value : Expr} {pos pos' tpos : Pos} {td ty tv : TE}
end


/-! ### displays -/
section
variable {X : Cx} {pos : Pos}
end




/-! ### methods -/


section
variable {X : Cx} {pins : List (Addr × Obj)} {σ : St} {H : Hp} {s : Shared} {a : Addr} {y d : V} {u r : Value} {o : Option V} {A : Around} {E : Value → Shared → Prop}
end

section
variable {X : Cx} {o e f : Expr} {apos cpos : Pos} {td ty tx : TE}
end

/-! ### dict(d): a copy -/
section
variable {X : Cx} {pins : List (Addr × Obj)} {σ : St} {H : Hp} {s : Shared} {a : Addr} {kvs : List (Key × V)} {A : Around} {E : Value → Shared → Prop}
end


section
variable {X : Cx} {pins : List (Addr × Obj)} {σ : St} {H : Hp} {s : Shared} {a : Addr} {y : V} {u : Value} {A : Around} {E : Value → Shared → Prop}
end
end L2

namespace L2
open PySem PySem.Spec PyProof.Rows
section
variable {X : Cx}
end
/-! ### a dict's pairs: keys that differ -/
section
variable {κ : Type} [DecidableEq κ]
end
end L2

namespace L2
open PySem PySem.Spec PyProof.Rows
/-! ### long displays, item by item -/
section
variable {X : Cx} {es : List Expr} {te : TE} {t : TA} {p : Pos}
end
end L2

namespace L2
open PySem PySem.Spec PyProof.Rows
/-! ### for k in d: the dict is frozen while it is walked -/
section
variable {X : Cx} {pins : List (Addr × Obj)} {σ : St} {H : Hp} {s : Shared} {a : Addr} {kvs : List (Key × V)}
end

/-! ### sorted(a list of ints) -/
def rSorted (K : PySem.W.Frag) : List V → Hp → VK → Prop := fun xs H Q => ∃ (p : Addr) (ns : List Int), xs = [.ref p] ∧ SqL K H p (ns.map V.int) ∧ ns.length < 64 ∧ ∀ (l : Addr) (ns' : List Int), H l = none → ns'.Perm ns → ns'.Pairwise (· ≤ ·) → Q (.ref l) (upd H l (.lst (ns'.map V.int)))
theorem call_sorted {X : Cx} (K : PySem.W.Frag) (hK : X.K = K := by rfl) : CallR X (.builtin "sorted") (rSorted K) := by
  subst hK
  intro pins s σ H xs us Q I r h
  obtain ⟨p, ns, rfl, hq, hl, q⟩ := h
  obtain ⟨u, rfl, rx⟩ := vals1 r
  cases rx
  obtain ⟨its, rv, ht, hz⟩ := I.list hq
  have hlen : its.length = ns.length := by rw [← rv.length, List.length_map]
  refine sorted_ints (vs := its) (ns := ns) ht.isList (intsAre_of rv) (by rw [hlen]; exact hl) fun out ns' a1 a2 a3 => ?_
  obtain ⟨e, he⟩ := sortedAll_at s.heap its out
  have hn : H (s.heap.objs.size + 1) = none := I.hok.fresh (Nat.le_succ _)
  have vv := vals_ints a1
  refine ⟨.ref (s.heap.objs.size + 1), _, I.laid (t' := s.toks) (fun b o e => sortedAll_old e) (Nat.le_succ _) ?_, rfl, q _ ns' hn a2 a3⟩
  exact ⟨Nat.le_trans (m := 64) (by rw [List.length_map, a2.length_eq]; omega) (by decide), out.toList, e, vv, by simpa using he⟩
end L2

namespace L2
open PySem PySem.Spec PyProof.Rows
/-! ### dict(a list of pairs) -/
end L2

namespace L2
open PySem PySem.Spec PyProof.Rows
section
variable {prog : Program} {w : World} {A : Around} {R : Result → Shared → Prop} {κ : Type} [DecidableEq κ] {knd : PySem.KeyKind prog w κ}
end
end L2

namespace L2
open PySem PySem.Spec PyProof.Rows
/-! ### for k, v in d.items() -/
end L2

namespace L2
open PySem PySem.Spec PyProof.Rows
/-! ### zip of two lists -/
theorem Inv.turnedL {X : Cx} {pins : List (Addr × Obj)} {σ : St} {H : Hp} {s : Shared} {h' : Heap} {t' : Nat} {fp : List Addr} (I : Inv X pins σ H s) (k : ∀ b o, b ∉ fp → s.heap.get? b = some o → h'.get? b = some o) (hf : ∀ b ∈ fp, FpOk X pins H b) : Inv X pins σ H { s with heap := h', toks := t' } := by
  have nit : ∀ b u, H b = some u → b ∉ fp := fun b u e z => by rw [(hf b z).1] at e; cases e
  refine I.step (g' := s.gens) (d' := s.drawn) (ch := fp) (fun b hb => ?_) (fun b o _ _ hc e _ => k b o hc e) (fun b o _ _ hc e _ => ⟨o.slots, k b o hc e⟩) (fun _ _ _ _ n => n)
    (fun b o hc e => ⟨o, k b o hc e⟩) (fun _ _ e => e) (fun _ _ _ e => e) (fun b ps e => ⟨#[], by rw [e]; simp⟩) (fun m hm => ?_) (fun b u e => ?_) I.bare
  · obtain ⟨f0, f1, f2, f3, f4, f5⟩ := hf b hb
    exact ⟨f3, f1, f4, f5⟩
  · obtain ⟨o, es, ep, ho, r⟩ := hm
    exact ⟨o, es, ep, k _ o (fun z => (hf _ z).2.1 rfl) ho, r⟩
  · refine (I.hok b u e).stay (fun c v hc q => k c v ?_ q) (fun _ q => q) fun _ _ q => q
    rcases hc with z | z
    · rw [z]; exact nit b u e
    · exact nit c _ z
end L2

namespace L2
open PySem PySem.Spec PyProof.Rows
theorem bt_zip : bootBuiltins "zip" = some (Value.type "zip") := by decide +kernel
theorem bt_set : bootBuiltins "set" = some (Value.type "set") := by decide +kernel
/-! ### set(a list of ints), len of it -/
end L2

namespace L2
open PySem PySem.Spec PyProof.Rows
/-! ### zip of two tuples -/
section
variable {prog : Program} {w : World} {A : Around} {E : Value → Shared → Prop} {s : Shared}
theorem nextT_item {it t : Addr} {i : Nat} {vs : Array Value} {x : Value} {Q : Value → Shared → Prop} (gi : s.heap.IsTupleIter it t i) (gt : s.heap.IsTuple t vs) (hx : vs[i]? = some x)
    (q : ∀ h', h'.IsTupleIter it t (i + 1) → Heap.SameBut it s.heap h' → Q x { s with heap := h' }) : wpAny (model prog w) A (Builtin.SmallTypes.nextOf (.ref it)) Q E s := by
  obtain ⟨o, eo, co, d⟩ := id gi
  obtain ⟨ot, et, _, nt, dt⟩ := gt
  unfold Builtin.SmallTypes.nextOf
  refine wpAny_bind (wpAny_callSpecial?_slot (name := Str.ofString "__next__") gi.typeIs PySem.F.slot_tuple_iterator_next (wpAny_call_entry PySem.F.slot_tuple_iterator_next gi.typeIs PySem.F.entry_tuple_iterator_next ?_ (PySem.F.args_tuple_iterator_next_1 _)))
  refine wpAny_bind (m := field (.ref it) 0) (wpAny_field eo d (x := .ref t) rfl ?_)
  refine (if_neg (show ¬ ((Value.ref t == Value.none) = true) from Bool.false_ne_true)).symm ▸ wpAny_bind (m := field (.ref it) 1) (wpAny_field eo d (x := .int i 0) rfl (wpAny_bind (m := seqItems? (.ref t)) (wpAny_seqItems et dt ?_)))
  simp only [Int.toNat_natCast, hx]
  refine wpAny_bind (wpAny_setField eo d (by simp) (wpAny_pure ⟨x, rfl, wpAny_pure (q _ ⟨_, Heap.get?_update_self _ eo (Obj.isFreed_of_fields (Obj.data_mapFields d _)), (Obj.cls_mapFields ..).trans co, ?_⟩ (Heap.SameBut.update ..))⟩))
  rw [Obj.data_mapFields d]
  simp [rawInt]
theorem nextT_end {it t : Addr} {i : Nat} {vs : Array Value} {Q : Value → Shared → Prop} (hh : A.handled = none) (gi : s.heap.IsTupleIter it t i) (gt : s.heap.IsTuple t vs) (hx : vs[i]? = none)
    (q : ∀ h' e, Heap.ExtBut it s.heap h' → (∃ o, h'.get? e = some o ∧ o.cls = .type "StopIteration") → E (.ref e) { s with heap := h' }) : wpAny (model prog w) A (Builtin.SmallTypes.nextOf (.ref it)) Q E s := by
  obtain ⟨o, eo, co, d⟩ := id gi
  obtain ⟨ot, et, _, nt, dt⟩ := gt
  unfold Builtin.SmallTypes.nextOf
  refine wpAny_bind (wpAny_callSpecial?_slot (name := Str.ofString "__next__") gi.typeIs PySem.F.slot_tuple_iterator_next (wpAny_call_entry PySem.F.slot_tuple_iterator_next gi.typeIs PySem.F.entry_tuple_iterator_next ?_ (PySem.F.args_tuple_iterator_next_1 _)))
  refine wpAny_bind (m := field (.ref it) 0) (wpAny_field eo d (x := .ref t) rfl ?_)
  refine (if_neg (show ¬ ((Value.ref t == Value.none) = true) from Bool.false_ne_true)).symm ▸ wpAny_bind (m := field (.ref it) 1) (wpAny_field eo d (x := .int i 0) rfl (wpAny_bind (m := seqItems? (.ref t)) (wpAny_seqItems et dt ?_)))
  simp only [Int.toNat_natCast, hx]
  refine wpAny_bind (wpAny_rule (wpAny_bind (wpAny_setField eo d (by simp) (wpAny_bind (m := newExc (.type "StopIteration") []) ?_))))
  simp only [newExc, newTuple]
  refine wpAny_bind (wpAny_newObj_type (wpAny_bind (m := firstArgMember _ _) (wpAny_of_eq (a := Value.none) (by first | rfl | (simp only [firstArgMember]; rfl)) (wpAny_newObj_type ?_ (by size_fits)))) (by size_fits))
  simp only [raiseNew]
  refine wpAny_bind (wpAny_handled ?_)
  rw [show A.in1.handled = none from hh]
  exact wpAny_bind (wpAny_pure (wpAny_throw (q _ _ (((Heap.SameBut.update ..).extBut.push _).push _) ⟨_, Heap.get?_push_size _ rfl, rfl⟩)))
theorem zipT_item {z ti to i1 i2 l1 l2 : Addr} {k1 k2 : Nat} {xs ys : Array Value} {x y a b : Value} {Q : Value → Shared → Prop} (D : ZipApart z ti to i1 i2 l1 l2) (gz : IsZip s.heap z ti to .none) (gi : IsPair s.heap ti (.ref i1) (.ref i2)) (go : IsPair s.heap to a b)
    (g1 : s.heap.IsTupleIter i1 l1 k1) (g2 : s.heap.IsTupleIter i2 l2 k2) (t1 : s.heap.IsTuple l1 xs) (t2 : s.heap.IsTuple l2 ys) (hx : xs[k1]? = some x) (hy : ys[k2]? = some y)
    (q : ∀ h', IsZip h' z ti to (rawInt s.heap.objs.size) → IsPair h' to x y → h'.IsTupleIter i1 l1 (k1 + 1) → h'.IsTupleIter i2 l2 (k2 + 1) → IsPair h' s.heap.objs.size x y →
      (∀ c o, c ≠ z → c ≠ to → c ≠ i1 → c ≠ i2 → s.heap.get? c = some o → h'.get? c = some o) → Q (.ref s.heap.objs.size) { s with heap := h' }) :
    wpAny (model prog w) A (Builtin.«zip.__next__» ⟨[.ref z], []⟩) (fun fin s' => ∃ v, fin = .done (.ret v) ∧ Q v s') E s := by
  refine wpAny_bind (m := field (.ref z) 2) (wpAny_field gz rfl (x := .bool false) rfl ?_)
  refine wpAny_bind (m := field (.ref z) 3) (wpAny_field gz rfl (x := .ref ti) rfl (wpAny_bind (wpAny_seqItems gi rfl ?_)))
  refine wpAny_bind (m := Builtin.SmallTypes.ownedTupleIsFree (.ref z)) ?_
  unfold Builtin.SmallTypes.ownedTupleIsFree
  refine wpAny_bind (wpAny_field gz rfl (x := .none) rfl (wpAny_pure ?_))
  simp only [if_true]
  refine wpAny_bind (wpAny_rule (wpAny_bind (wpAny_field gz rfl (x := .ref to) rfl (wpAny_bind (wpAny_setField_rec gz (by simp) fun ha za sa => wpAny_bind ?_)))))
  replace za : IsZip ha z ti to .ellipsis := za
  simp only [List.zipIdx_cons, List.zipIdx_nil, List.forIn_cons, List.forIn_nil]
  refine wpAny_bind (wpAny_bind (wpAny_onRaise (wpAny_bind (m := Builtin.SmallTypes.nextOf (.ref i1)) ?_)))
  refine nextT_item (g1.extBut sa.extBut D.i1z) (t1.extBut sa.extBut D.l1z) hx fun hb g1b sb => wpAny_pure ?_
  have ob : IsPair hb to a b := sb.extBut _ _ D.TOi1 (sa.extBut _ _ D.TOz go)
  refine wpAny_bind (wpAny_seqItems ob rfl (wpAny_bind (wpAny_updateSeq_pair ob fun hc oc sc => wpAny_bind (wpAny_letGo (wpAny_pure ?_)))))
  replace oc : IsPair hc to x b := oc
  refine wpAny_bind (wpAny_bind (wpAny_onRaise (wpAny_bind (m := Builtin.SmallTypes.nextOf (.ref i2)) ?_)))
  refine nextT_item (((g2.extBut sa.extBut D.i2z).extBut sb.extBut D.i12.symm).extBut sc.extBut D.TOi2.symm) (((t2.extBut sa.extBut D.l2z).extBut sb.extBut D.l2i1).extBut sc.extBut D.l2TO) hy fun hd g2d sd => wpAny_pure ?_
  have od : IsPair hd to x b := sd.extBut _ _ D.TOi2 oc
  refine wpAny_bind (wpAny_seqItems od rfl (wpAny_bind (wpAny_updateSeq_pair od fun he oe se => wpAny_bind (wpAny_letGo (wpAny_pure (wpAny_pure ?_))))))
  replace oe : IsPair he to x y := oe
  refine wpAny_bind (wpAny_seqItems oe rfl (wpAny_bind (wpAny_newTuple ?_)))
  have ze : IsZip he z ti to .ellipsis := se.extBut _ _ D.TOz.symm (sd.extBut _ _ D.i2z.symm (sc.extBut _ _ D.TOz.symm (sb.extBut _ _ D.i1z.symm za)))
  have hsz : he.objs.size = s.heap.objs.size := by rw [se.1, sd.1, sc.1, sb.1, sa.1]
  have zlt : z < he.objs.size := Heap.lt_size ze
  have g1e : he.IsTupleIter i1 l1 (k1 + 1) := ((g1b.extBut sc.extBut D.TOi1.symm).extBut sd.extBut D.i12).extBut se.extBut D.TOi1.symm
  have g2e : he.IsTupleIter i2 l2 (k2 + 1) := g2d.extBut se.extBut D.TOi2.symm
  refine wpAny_bind (m := Builtin.SmallTypes.ownedTupleHandOut (.ref z) (.ref he.objs.size)) ?_
  unfold Builtin.SmallTypes.ownedTupleHandOut
  have zf : IsZip (he.push { cls := .type "tuple", data := .seq #[x, y] }) z ti to .ellipsis := Heap.get?_push_of_some _ ze
  refine wpAny_bind (wpAny_setField_rec zf (by simp) fun hg zg sg => ?_)
  replace zg : IsZip hg z ti to (rawInt he.objs.size) := zg
  refine wpAny_setField_rec zg (by simp) fun hk zk sk => wpAny_pure ⟨_, rfl, ?_⟩
  replace zk : IsZip hk z ti to (rawInt he.objs.size) := zk
  have up : ∀ c o, c ≠ z → he.get? c = some o → hk.get? c = some o := fun c o n e => sk.extBut _ _ n (sg.extBut _ _ n (Heap.get?_push_of_some _ e))
  have pk : IsPair hk he.objs.size x y := sk.extBut _ _ (Nat.ne_of_gt zlt) (sg.extBut _ _ (Nat.ne_of_gt zlt) (Heap.get?_push_size _ rfl))
  show Q (.ref he.objs.size) _
  rw [hsz] at zk pk ⊢
  refine q hk zk (up _ _ D.TOz oe) ?_ ?_ pk fun c o n1 n2 n3 n4 e => up c o n1 (se.extBut _ _ n2 (sd.extBut _ _ n4 (sc.extBut _ _ n2 (sb.extBut _ _ n3 (sa.extBut _ _ n1 e)))))
  · exact let ⟨o, e, r⟩ := g1e; ⟨o, up _ o D.i1z e, r⟩
  · exact let ⟨o, e, r⟩ := g2e; ⟨o, up _ o D.i2z e, r⟩
theorem zipT_end {z ti to i1 i2 l1 l2 : Addr} {k1 k2 : Nat} {xs ys : Array Value} {a b : Value} {Q : Fin → Shared → Prop} (hh : A.handled = none) (D : ZipApart z ti to i1 i2 l1 l2) (gz : IsZip s.heap z ti to .none) (gi : IsPair s.heap ti (.ref i1) (.ref i2)) (go : IsPair s.heap to a b)
    (g1 : s.heap.IsTupleIter i1 l1 k1) (g2 : s.heap.IsTupleIter i2 l2 k2) (t1 : s.heap.IsTuple l1 xs) (t2 : s.heap.IsTuple l2 ys) (hend : xs[k1]? = none ∨ ys[k2]? = none)
    (q : ∀ h' e, (∀ c o, c ≠ z → c ≠ to → c ≠ i1 → c ≠ i2 → s.heap.get? c = some o → h'.get? c = some o) → (∃ o, h'.get? e = some o ∧ o.cls = .type "StopIteration") → E (.ref e) { s with heap := h' }) :
    wpAny (model prog w) A (Builtin.«zip.__next__» ⟨[.ref z], []⟩) Q E s := by
  refine wpAny_bind (m := field (.ref z) 2) (wpAny_field gz rfl (x := .bool false) rfl ?_)
  refine wpAny_bind (m := field (.ref z) 3) (wpAny_field gz rfl (x := .ref ti) rfl (wpAny_bind (wpAny_seqItems gi rfl ?_)))
  refine wpAny_bind (m := Builtin.SmallTypes.ownedTupleIsFree (.ref z)) ?_
  unfold Builtin.SmallTypes.ownedTupleIsFree
  refine wpAny_bind (wpAny_field gz rfl (x := .none) rfl (wpAny_pure ?_))
  simp only [if_true]
  refine wpAny_bind (wpAny_rule (wpAny_bind (wpAny_field gz rfl (x := .ref to) rfl (wpAny_bind (wpAny_setField_rec gz (by simp) fun ha za sa => wpAny_bind ?_)))))
  replace za : IsZip ha z ti to .ellipsis := za
  simp only [List.zipIdx_cons, List.zipIdx_nil, List.forIn_cons, List.forIn_nil]
  refine wpAny_bind (wpAny_bind (wpAny_onRaise (wpAny_bind (m := Builtin.SmallTypes.nextOf (.ref i1)) ?_)))
  cases hx : xs[k1]? with
  | none =>
    refine nextT_end hh (g1.extBut sa.extBut D.i1z) (t1.extBut sa.extBut D.l1z) hx fun hb e sb ⟨oe, ee, ce⟩ => ?_
    have zb : IsZip hb z ti to .ellipsis := sb _ _ D.i1z.symm za
    have ne : e ≠ z := fun u => by subst u; rw [zb] at ee; cases ee; simp at ce
    exact wpAny_setField_rec zb (by simp) fun hc _ sc => q hc e (fun c o n1 _ n3 _ u => sc.extBut _ _ n1 (sb _ _ n3 (sa.extBut _ _ n1 u))) ⟨oe, sc.extBut _ _ ne ee, ce⟩
  | some x =>
    have hy : ys[k2]? = none := by
      rcases hend with u | u
      · rw [hx] at u; cases u
      · exact u
    refine nextT_item (g1.extBut sa.extBut D.i1z) (t1.extBut sa.extBut D.l1z) hx fun hb g1b sb => wpAny_pure ?_
    have ob : IsPair hb to a b := sb.extBut _ _ D.TOi1 (sa.extBut _ _ D.TOz go)
    refine wpAny_bind (wpAny_seqItems ob rfl (wpAny_bind (wpAny_updateSeq_pair ob fun hc oc sc => wpAny_bind (wpAny_letGo (wpAny_pure ?_)))))
    refine wpAny_bind (wpAny_bind (wpAny_onRaise (wpAny_bind (m := Builtin.SmallTypes.nextOf (.ref i2)) ?_)))
    refine nextT_end hh (((g2.extBut sa.extBut D.i2z).extBut sb.extBut D.i12.symm).extBut sc.extBut D.TOi2.symm) (((t2.extBut sa.extBut D.l2z).extBut sb.extBut D.l2i1).extBut sc.extBut D.l2TO) hy fun hd e sd ⟨oe, ee, ce⟩ => ?_
    have zd : IsZip hd z ti to .ellipsis := sd _ _ D.i2z.symm (sc.extBut _ _ D.TOz.symm (sb.extBut _ _ D.i1z.symm za))
    have ne : e ≠ z := fun u => by subst u; rw [zd] at ee; cases ee; simp at ce
    exact wpAny_setField_rec zd (by simp) fun he _ se => q he e (fun c o n1 n2 n3 n4 u => se.extBut _ _ n1 (sd _ _ n4 (sc.extBut _ _ n2 (sb.extBut _ _ n3 (sa.extBut _ _ n1 u))))) ⟨oe, se.extBut _ _ ne ee, ce⟩
abbrev zt1 (h : Heap) (l1 : Addr) : Heap := h.push { cls := .type "tuple_iterator", data := .fields #[.ref l1, .int 0 0] }
abbrev zt2 (h : Heap) (l1 l2 : Addr) : Heap := (zt1 h l1).push { cls := .type "tuple_iterator", data := .fields #[.ref l2, .int 0 0] }
abbrev zt3 (h : Heap) (l1 l2 : Addr) : Heap := (zt2 h l1 l2).push { cls := .type "tuple", data := .seq #[.ref h.objs.size, .ref (zt1 h l1).objs.size] }
abbrev zt4 (h : Heap) (l1 l2 : Addr) : Heap := (zt3 h l1 l2).push { cls := .type "tuple", data := .seq #[.none, .none] }
abbrev zt5 (h : Heap) (l1 l2 : Addr) : Heap := (zt4 h l1 l2).push { cls := .type "zip", data := .fields #[.none, .bool false, .bool false, .ref (zt2 h l1 l2).objs.size, .ref (zt3 h l1 l2).objs.size] }
theorem meets_zipT (l1 l2 : Addr) (xs ys : Array Value) : Meets (Builtin.«zip.__new__» ⟨[.type "zip", .ref l1, .ref l2], []⟩) (fun _ R s => s.heap.IsTuple l1 xs ∧ s.heap.IsTuple l2 ys ∧ R (.ok (.ret (.ref (zt4 s.heap l1 l2).objs.size))) { s with heap := zt5 s.heap l1 l2 }) :=
  .of_wp fun prog w A R s h => by
    obtain ⟨hp, g, d, tk, os⟩ := s
    obtain ⟨t1, t2, h⟩ := h
    have hsub := sub_zip
    have u1 : Heap.IsTuple (Shared.heap ⟨hp, g, d, tk, os⟩) l1 xs := t1
    have u2 : Heap.IsTuple (Shared.heap ⟨hp.push { cls := .type "tuple_iterator", data := .fields #[.ref l1, .int 0 0] }, g, d, tk, os⟩) l2 ys := Heap.IsTuple.push t2 _
    wp_walk using wpAny_pyIter_tuple u1, wpAny_pyIter_tuple u2
    exact ⟨_, rfl, h⟩
theorem call_zipT {l1 l2 : Addr} {xs ys : Array Value} {Q : Value → Shared → Prop} (t1 : s.heap.IsTuple l1 xs) (t2 : s.heap.IsTuple l2 ys)
    (h : ∀ h', IsZip h' (s.heap.objs.size + 4) (s.heap.objs.size + 2) (s.heap.objs.size + 3) .none → IsPair h' (s.heap.objs.size + 2) (.ref s.heap.objs.size) (.ref (s.heap.objs.size + 1)) → IsPair h' (s.heap.objs.size + 3) .none .none →
      h'.IsTupleIter s.heap.objs.size l1 0 → h'.IsTupleIter (s.heap.objs.size + 1) l2 0 → (∀ c o, s.heap.get? c = some o → h'.get? c = some o) → Q (.ref (s.heap.objs.size + 4)) { s with heap := h' }) :
    wpAny (model prog w) A (call (.type "zip") [.ref l1, .ref l2]) Q E s := by
  refine callType_new PySem.F.called_zip (by decide) (PySem.F.typeCall_zip_2 _ _) (PySem.F.newCall_zip_2 _ _) (fun obj => PySem.F.args_object_init_3 obj _ _) PySem.F.entry_zip_new (meets_zipT l1 l2 xs ys) ⟨t1, t2, ?_⟩
  have z1 : (zt1 s.heap l1).objs.size = s.heap.objs.size + 1 := Heap.size_push ..
  have z2 : (zt2 s.heap l1 l2).objs.size = s.heap.objs.size + 2 := by rw [Heap.size_push, z1]
  have z3 : (zt3 s.heap l1 l2).objs.size = s.heap.objs.size + 3 := by rw [Heap.size_push, z2]
  have z4 : (zt4 s.heap l1 l2).objs.size = s.heap.objs.size + 4 := by rw [Heap.size_push, z3]
  have p5 : ∀ c o, (zt4 s.heap l1 l2).get? c = some o → (zt5 s.heap l1 l2).get? c = some o := fun c o e => Heap.get?_push_of_some _ e
  have p4 : ∀ c o, (zt3 s.heap l1 l2).get? c = some o → (zt5 s.heap l1 l2).get? c = some o := fun c o e => p5 c o (Heap.get?_push_of_some _ e)
  have p3 : ∀ c o, (zt2 s.heap l1 l2).get? c = some o → (zt5 s.heap l1 l2).get? c = some o := fun c o e => p4 c o (Heap.get?_push_of_some _ e)
  have p2 : ∀ c o, (zt1 s.heap l1).get? c = some o → (zt5 s.heap l1 l2).get? c = some o := fun c o e => p3 c o (Heap.get?_push_of_some _ e)
  have g5 : (zt5 s.heap l1 l2).get? (zt4 s.heap l1 l2).objs.size = some _ := Heap.get?_push_size _ rfl
  have g4 : (zt5 s.heap l1 l2).get? (zt3 s.heap l1 l2).objs.size = some _ := p5 _ _ (Heap.get?_push_size _ rfl)
  have g3 : (zt5 s.heap l1 l2).get? (zt2 s.heap l1 l2).objs.size = some _ := p4 _ _ (Heap.get?_push_size _ rfl)
  have g2 : (zt5 s.heap l1 l2).get? (zt1 s.heap l1).objs.size = some _ := p3 _ _ (Heap.get?_push_size _ rfl)
  have g1 : (zt5 s.heap l1 l2).get? s.heap.objs.size = some _ := p2 _ _ (Heap.get?_push_size _ rfl)
  show _ ∧ _
  rw [z2, z3, z4] at g5
  rw [z1, z2] at g3
  rw [z3] at g4
  rw [z1] at g2
  rw [z4]
  exact ⟨⟨_, g5, rfl⟩, h _ g5 g3 g4 ⟨_, g1, rfl, rfl⟩ ⟨_, g2, rfl, rfl⟩ fun c o e => p2 c o (Heap.get?_push_of_some _ e)⟩
theorem nextZT_item {z ti to i1 i2 l1 l2 : Addr} {k1 k2 : Nat} {xs ys : Array Value} {x y a b : Value} {Q : Option Value → Shared → Prop} (D : ZipApart z ti to i1 i2 l1 l2) (gz : IsZip s.heap z ti to .none) (gi : IsPair s.heap ti (.ref i1) (.ref i2)) (go : IsPair s.heap to a b)
    (g1 : s.heap.IsTupleIter i1 l1 k1) (g2 : s.heap.IsTupleIter i2 l2 k2) (t1 : s.heap.IsTuple l1 xs) (t2 : s.heap.IsTuple l2 ys) (hx : xs[k1]? = some x) (hy : ys[k2]? = some y)
    (q : ∀ h', IsZip h' z ti to (rawInt s.heap.objs.size) → IsPair h' to x y → h'.IsTupleIter i1 l1 (k1 + 1) → h'.IsTupleIter i2 l2 (k2 + 1) → IsPair h' s.heap.objs.size x y →
      (∀ c o, c ≠ z → c ≠ to → c ≠ i1 → c ≠ i2 → s.heap.get? c = some o → h'.get? c = some o) → Q (some (.ref s.heap.objs.size)) { s with heap := h' }) : wpAny (model prog w) A (pyNext (.ref z)) Q E s := by
  have hT : s.TypeIs (.ref z) "zip" := ⟨_, gz, rfl⟩
  unfold pyNext
  exact wpAny_bind (wpAny_attempt (wpAny_callSpecial?_slot (name := Str.ofString "__next__") hT PySem.F.slot_zip_next (wpAny_call_entry PySem.F.slot_zip_next hT PySem.F.entry_zip_next (zipT_item D gz gi go g1 g2 t1 t2 hx hy fun h' a1 a2 a3 a4 a5 a6 => wpAny_pure (q h' a1 a2 a3 a4 a5 a6)) (PySem.F.args_zip_next_1 _))))
theorem nextZT_end {z ti to i1 i2 l1 l2 : Addr} {k1 k2 : Nat} {xs ys : Array Value} {a b : Value} {Q : Option Value → Shared → Prop} (hh : A.handled = none) (D : ZipApart z ti to i1 i2 l1 l2) (gz : IsZip s.heap z ti to .none) (gi : IsPair s.heap ti (.ref i1) (.ref i2)) (go : IsPair s.heap to a b)
    (g1 : s.heap.IsTupleIter i1 l1 k1) (g2 : s.heap.IsTupleIter i2 l2 k2) (t1 : s.heap.IsTuple l1 xs) (t2 : s.heap.IsTuple l2 ys) (hend : xs[k1]? = none ∨ ys[k2]? = none)
    (q : ∀ h', (∀ c o, c ≠ z → c ≠ to → c ≠ i1 → c ≠ i2 → s.heap.get? c = some o → h'.get? c = some o) → Q none { s with heap := h' }) : wpAny (model prog w) A (pyNext (.ref z)) Q E s := by
  have hT : s.TypeIs (.ref z) "zip" := ⟨_, gz, rfl⟩
  unfold pyNext
  refine wpAny_bind (wpAny_attempt (wpAny_callSpecial?_slot (name := Str.ofString "__next__") hT PySem.F.slot_zip_next (wpAny_call_entry PySem.F.slot_zip_next hT PySem.F.entry_zip_next (zipT_end hh D gz gi go g1 g2 t1 t2 hend fun h' e k ⟨o, eo, co⟩ => ?_) (PySem.F.args_zip_next_1 _))))
  exact wpAny_bind (wpAny_isInstance (T := "StopIteration") (b := true) ⟨o, eo, co⟩ isSubtype_stop (wpAny_pure (q _ k)))
end
def ItzT (K : PySem.W.Frag) (l1 l2 : Addr) : It :=
  ⟨fun i H => ∃ xs ys x y, SqT K H l1 xs ∧ SqT K H l2 ys ∧ xs[i]? = some x ∧ ys[i]? = some y,
   fun i H v H' => ∃ p x y, v = .ref p ∧ H p = none ∧ (∀ xs, SqT K H l1 xs → xs[i]? = some x) ∧ (∀ ys, SqT K H l2 ys → ys[i]? = some y) ∧ H' = upd H p (.tup [x, y]),
   fun i H => ∃ xs ys, SqT K H l1 xs ∧ SqT K H l2 ys ∧ (xs.length ≤ i ∨ ys.length ≤ i)⟩
structure ZTAt (z TI TO i1 i2 l1 l2 : Addr) (i : Nat) (h : Heap) : Prop where
  z : IsZip h z TI TO .none
  ti : IsPair h TI (.ref i1) (.ref i2)
  to : ∃ a b, IsPair h TO a b
  i1 : h.IsTupleIter i1 l1 i
  i2 : h.IsTupleIter i2 l2 i
theorem itT_at {h h' : Heap} {a t : Addr} {i : Nat} (x : h.IsTupleIter a t i) (k : ∀ o, h.get? a = some o → h'.get? a = some o) : h'.IsTupleIter a t i := let ⟨o, e, r⟩ := x; ⟨o, k o e, r⟩
theorem turn_zipT {P : Program} {w : World} {K : PySem.W.Frag} {elts : List Expr} {x1} {tpos : Pos} {z TI TO i1 i2 l1 l2 : Addr} (D : ZipApart z TI TO i1 i2 l1 l2) : Turn P w K (.Tuple elts x1 tpos) (ItzT K l1 l2) [z, TI, TO, i1, i2] z (fun i h => ZTAt z TI TO i1 i2 l1 l2 i h) where
  mem := by simp
  obj := fun i h st b hb => by
    simp only [List.mem_cons, List.not_mem_nil, or_false] at hb
    rcases hb with rfl | rfl | rfl | rfl | rfl
    · exact ⟨_, st.z, fun v q => by cases q⟩
    · exact ⟨_, st.ti, fun v q => by cases q⟩
    · obtain ⟨a, b, e⟩ := st.to
      exact ⟨_, e, fun v q => by cases q⟩
    · obtain ⟨o, e, c, d⟩ := st.i1
      exact ⟨o, e, fun v q => by rw [d] at q; cases q⟩
    · obtain ⟨o, e, c, d⟩ := st.i2
      exact ⟨o, e, fun v q => by rw [d] at q; cases q⟩
  keep := fun i h h' st k => ⟨k z (by simp) _ st.z, k TI (by simp) _ st.ti, let ⟨a, b, e⟩ := st.to; ⟨a, b, k TO (by simp) _ e⟩, itT_at st.i1 fun o e => k i1 (by simp) o e, itT_at st.i2 fun o e => k i2 (by simp) o e⟩
  item := by
    intro X hP hw hK hc i pins s σ H E I hf st hg
    subst hP hw hK
    obtain ⟨xs, ys, x, y, hq1, hq2, hx, hy⟩ := hg
    obtain ⟨its1, rv1, p1, hz1⟩ := I.tuple hq1
    obtain ⟨its2, rv2, p2, hz2⟩ := I.tuple hq2
    obtain ⟨u, hu, ru⟩ := rv1.get hx
    obtain ⟨v, hv, rv⟩ := rv2.get hy
    obtain ⟨a, b, hTO⟩ := st.to
    refine nextZT_item D st.z st.ti hTO st.i1 st.i2 p1 p2 (x := u) (y := v) (by simpa using hu) (by simpa using hv) fun h' z1 to1 j1 j2 htup keep => ⟨_, rfl, ?_⟩
    refine wpAny_letOwnedTupleGo_zip (s := { s with heap := h' }) z1 fun h2 z2 sb => ?_
    have hnone : H s.heap.objs.size = none := I.hok.fresh (Nat.le_refl _)
    have hfp : ∀ c ∈ [z, TI, TO, i1, i2], c < s.heap.objs.size := fun c hc => by
      simp only [List.mem_cons, List.not_mem_nil, or_false] at hc
      rcases hc with rfl | rfl | rfl | rfl | rfl
      · exact Heap.lt_size st.z
      · exact Heap.lt_size st.ti
      · exact Heap.lt_size hTO
      · obtain ⟨o, e, _⟩ := st.i1; exact Heap.lt_size e
      · obtain ⟨o, e, _⟩ := st.i2; exact Heap.lt_size e
    have I1 : Inv X pins σ (upd H s.heap.objs.size (.tup [x, y])) { s with heap := s.heap.push { cls := .type "tuple", data := .seq #[u, v] } } :=
      I.laid (t' := s.toks) (fun b u e => Heap.get?_push_of_some _ e) (Nat.le_refl _) ⟨(show 2 ≤ sizeLine by decide), [u, v], .cons ru (.cons rv .nil), ⟨_, Heap.get?_push_size _ rfl, rfl, _, rfl⟩⟩
    have hkk : ∀ c o, c ∉ [z, TI, TO, i1, i2] → (s.heap.push { cls := .type "tuple", data := .seq #[u, v] }).get? c = some o → h2.get? c = some o := fun c o hc e => by
      simp only [List.mem_cons, List.not_mem_nil, or_false, not_or] at hc
      rw [sb.2 c hc.1]
      by_cases q : c = s.heap.objs.size
      · subst q
        rw [Heap.get?_push_size _ rfl] at e
        cases e
        exact htup
      · rw [Heap.get?_push_ne _ _ _ q] at e
        exact keep c o hc.1 hc.2.2.1 hc.2.2.2.1 hc.2.2.2.2 e
    have hf' : ∀ c ∈ [z, TI, TO, i1, i2], FpOk X pins (upd H s.heap.objs.size (.tup [x, y])) c := fun c hc => by
      obtain ⟨f0, r⟩ := hf c hc
      exact ⟨by rw [upd_ne (Nat.ne_of_lt (hfp c hc))]; exact f0, r⟩
    have I2 : Inv X pins σ (upd H s.heap.objs.size (.tup [x, y])) { s with heap := h2 } := I1.turnedL (t' := s.toks) hkk hf'
    refine ⟨.ref s.heap.objs.size, _, I2, rfl, ⟨_, x, y, rfl, hnone, fun l h => by rw [I.tuple_inj h hq1]; exact hx, fun l h => by rw [I.tuple_inj h hq2]; exact hy, rfl⟩, ?_, fun c hc => (hf' c hc).1⟩
    exact ⟨z2, (sb.2 TI D.TIz).trans (keep TI _ D.TIz D.TITO D.TIi1 D.TIi2 st.ti), ⟨u, v, (sb.2 TO D.TOz).trans to1⟩, itT_at j1 fun o e => (sb.2 i1 D.i1z).trans e, itT_at j2 fun o e => (sb.2 i2 D.i2z).trans e⟩
  done := by
    intro X hP hw hK hc i pins s σ H E I hf st hg
    subst hP hw hK
    obtain ⟨xs, ys, hq1, hq2, hend⟩ := hg
    obtain ⟨its1, rv1, p1, hz1⟩ := I.tuple hq1
    obtain ⟨its2, rv2, p2, hz2⟩ := I.tuple hq2
    obtain ⟨a, b, hTO⟩ := st.to
    have h1 := rv1.length
    have h2 := rv2.length
    refine nextZT_end (I.ok.hd hc) D st.z st.ti hTO st.i1 st.i2 p1 p2 (hend.imp (fun h => by simp; omega) fun h => by simp; omega) fun h' keep => ⟨rfl, I.turnedL (t' := s.toks) (fun c o hc e => ?_) hf⟩
    simp only [List.mem_cons, List.not_mem_nil, or_false, not_or] at hc
    exact keep c o hc.1 hc.2.2.1 hc.2.2.2.1 hc.2.2.2.2 e
  self := fun _ _ _ _ _ st h => wpAny_pyIter_zip st.z h
def iZipT (K : PySem.W.Frag) (ta : TA) : TI := fun σ H R => ta σ H fun vs H1 => ∃ l1 l2 xs ys, vs = [.ref l1, .ref l2] ∧ SqT K H1 l1 xs ∧ SqT K H1 l2 ys ∧ R (ItzT K l1 l2) H1
theorem pi_zipT {X : Cx} {elts : List Expr} {x1} {tpos : Pos} {a b : Expr} {ta : TA} {p pos : Pos} (K : PySem.W.Frag) (hg : Gl X "zip") (hm : X.mg "zip" = none) (ha : PA X [a, b] ta) (hK : X.K = K := by rfl) (hs : starEach [a, b] X.env = [(false, eval a X.env), (false, eval b X.env)] := by rfl) (hs2 : starEach [b] X.env = [(false, eval b X.env)] := by rfl) :
    PI X (.Tuple elts x1 tpos) (.Call (.Name "zip" p) [a, b] [] pos) (iZipT K ta) := by
  subst hK
  intro pins s σ H R I h
  refine Call_ (ld_blt I hg hm bt_zip (PyProof.Rows.callWith_type1 (thn (ha pos pins s σ H _ I h) fun us s1 ⟨vs, H1, I1, r1, q1⟩ => ?_) (by rw [hs, hs2]) (by rw [hs2]; rfl)))
  obtain ⟨l1, l2, xs, ys, e, hq1, hq2, q⟩ := q1
  subst e
  cases r1 with
  | cons r rr =>
    cases rr with
    | cons r' rr =>
      cases rr
      cases r
      cases r'
      obtain ⟨its1, rv1, p1, hz1⟩ := I1.tuple hq1
      obtain ⟨its2, rv2, p2, hz2⟩ := I1.tuple hq2
      have a1 : l1 < s1.heap.objs.size := by obtain ⟨_, e, _⟩ := p1; exact Heap.lt_size e
      have a2 : l2 < s1.heap.objs.size := by obtain ⟨_, e, _⟩ := p2; exact Heap.lt_size e
      refine call_zipT p1 p2 fun h' hz hTI hTO hi1 hi2 hk => wpAny_pyIter_zip (s := { s1 with heap := h' }) hz ?_
      refine ⟨_, [s1.heap.objs.size + 4, s1.heap.objs.size + 2, s1.heap.objs.size + 3, s1.heap.objs.size, s1.heap.objs.size + 1], _, _, H1, rfl, I1.kept (t' := s1.toks) hk, turn_zipT (zipApart_new a1 a2), ⟨hz, hTI, ⟨_, _, hTO⟩, hi1, hi2⟩, fun c hc => ?_, q⟩
      simp only [List.mem_cons, List.not_mem_nil, or_false] at hc
      have hge : s1.heap.objs.size ≤ c := by
        have : s1.heap.objs.size + 0 = s1.heap.objs.size := rfl
        rcases hc with rfl | rfl | rfl | rfl | rfl
        · exact Nat.le_add_right _ _
        · exact Nat.le_add_right _ _
        · exact Nat.le_add_right _ _
        · exact Nat.le_refl _
        · exact Nat.le_add_right _ _
      exact I1.fpOk hge (I1.hok.fresh hge)
/-- a for-loop over an iterator that may lay something at each turn -/
theorem for_of2 {J : It} {n : Nat} {Y : Nat → Hp → V → Hp → Prop} {P : Hp → Prop} {g : TG} {tb : TS} {D : Ends} {σ : St} {H : Hp} (hgo : ∀ i H, P H → i < n → J.go i H) (hy : ∀ i H x H', P H → J.yld i H x H' → i < n → Y i H x H') (hst : ∀ i H, P H → n ≤ i → J.stop i H)
    (Pv : Nat → St → Hp → Prop) (h0 : Pv 0 σ H) (hP : ∀ i σ H, Pv i σ H → P H)
    (hs : ∀ i x σ H H2, i < n → Pv i σ H → Y i H x H2 → g x σ H2 fun σ2 H3 => tb { D with nx := Pv (i + 1), ct := Pv (i + 1), bk := D.nx } σ2 H3) (hd : ∀ σ H, Pv n σ H → D.nx σ H) :
    ∃ W : Nat → Nat → St → Hp → Prop, (∃ m, W 0 m σ H) ∧ ∀ i m σ H, W i m σ H →
      (J.stop i H ∧ D.nx σ H) ∨ (J.go i H ∧ ∃ N : St → Hp → Prop, (∀ σ' H', N σ' H' → ∃ m', m' < m ∧ W (i + 1) m' σ' H') ∧ ∀ x H', J.yld i H x H' → g x σ H' fun σ2 H2 => tb { D with nx := N, ct := N, bk := D.nx } σ2 H2) := by
  refine ⟨fun i m σ H => m = n - i ∧ i ≤ n ∧ Pv i σ H, ⟨n, by simp, Nat.zero_le _, h0⟩, ?_⟩
  rintro i m σ H ⟨rfl, hi, p⟩
  have hp := hP i σ H p
  by_cases hlt : i < n
  · exact .inr ⟨hgo i H hp hlt, fun σ2 H2 => Pv (i + 1) σ2 H2, fun σ2 H2 q => ⟨n - (i + 1), by omega, rfl, hlt, q⟩, fun x H2 y => hs i x σ H H2 hlt p (hy i H x H2 hp y hlt)⟩
  · have e : i = n := by omega
    subst e
    exact .inl ⟨hst _ H hp (Nat.le_refl _), hd σ H p⟩
end L2

namespace L2
open PySem PySem.Spec PyProof.Rows
/-! ### a set of small rising numbers: its table -/
def subs : List Nat → List (List Nat)
  | [] => [[]]
  | x :: l => subs l ++ (subs l).map (x :: ·)
theorem subs_of {l ns : List Nat} (h : ns.Sublist l) : ns ∈ subs l := by
  induction h with
  | slnil => exact List.mem_singleton.mpr rfl
  | cons a _ ih => exact List.mem_append_left _ ih
  | cons_cons a _ ih => exact List.mem_append_right _ (List.mem_map.mpr ⟨_, ih, rfl⟩)
theorem rise_sub : ∀ (k a : Nat) (ns : List Nat), ns.Pairwise (· < ·) → (∀ x ∈ ns, a ≤ x ∧ x < a + k) → ns.Sublist (List.range' a k)
  | 0, a, [], _, _ => List.Sublist.slnil
  | 0, a, x :: ns, _, h => by have := h x (by simp); omega
  | k + 1, a, [], _, _ => List.nil_sublist _
  | k + 1, a, x :: ns, hp, h => by
    rw [List.range'_succ]
    have hx := h x (by simp)
    have hp' := List.pairwise_cons.mp hp
    by_cases e : x = a
    · subst e
      refine List.Sublist.cons_cons _ (rise_sub k _ ns hp'.2 fun y hy => ?_)
      have h1 := hp'.1 y hy
      have h2 := h y (by simp [hy])
      omega
    · refine List.Sublist.cons _ (rise_sub k _ (x :: ns) hp fun y hy => ?_)
      have h2 := h y hy
      rcases List.mem_cons.mp hy with rfl | hy'
      · omega
      · have h1 := hp'.1 y hy'
        omega
def tab (led : Bool) (ns : List Nat) : SetTable := { mask := if ns.length < 5 then 7 else 31, place := ns.toArray, dummies := #[], finger := 0, led := led, moves := if ns.length < 5 then 0 else 1, plain := true }
theorem tab_rises (led : Bool) {ns : List Nat} (hp : ns.Pairwise (· < ·)) (hn : ∀ x ∈ ns, x < 8) : (tab led ns).fits ns.length = true ∧ ∀ i, i < ns.length → SetTable.below (tab led ns).place (ns.getD i 0) = i ∧ SetTable.below (tab led ns).place (ns.getD i 0 + 1) = i + 1 := by
  have key : ∀ led : Bool, ∀ ns ∈ subs (List.range' 0 8), (tab led ns).fits ns.length = true ∧ ∀ i, i < ns.length → SetTable.below (tab led ns).place (ns.getD i 0) = i ∧ SetTable.below (tab led ns).place (ns.getD i 0 + 1) = i + 1 := by decide +kernel
  exact key led ns (subs_of (rise_sub 8 0 ns hp fun x hx => ⟨Nat.zero_le _, by have := hn x hx; omega⟩))
end L2

namespace L2
open PySem PySem.Spec PyProof.Rows
abbrev setObj (es : Array (Int × Value)) (ep : Nat) (t : SetTable) : Obj := { cls := .type "set", dict := none, data := .set es ep t }
def SEnt (e : Int × Value) (n : Nat) : Prop := ∃ t, e = ((n : Int), Value.int (n : Int) t)
def SetR (h : Heap) (a : Addr) (led : Bool) (ns : List Nat) : Prop := ∃ es ep, h.get? a = some (setObj es ep (tab led ns)) ∧ Paired SEnt es.toList ns
theorem sent_mem : ∀ {l : List (Int × Value)} {ns : List Nat}, Paired SEnt l ns → ∀ e ∈ l, ∃ n ∈ ns, SEnt e n
  | _, _, .nil, e, h => by cases h
  | _, _, .cons hx r, e, h => by
    rcases List.mem_cons.mp h with rfl | h
    · exact ⟨_, by simp, hx⟩
    · obtain ⟨n, hn, x⟩ := sent_mem r e h
      exact ⟨n, by simp [hn], x⟩
theorem sent_fst : ∀ {l : List (Int × Value)} {ns : List Nat}, Paired SEnt l ns → l.map (·.1) = ns.map fun (k : Nat) => (k : Int)
  | _, _, .nil => rfl
  | _, _, .cons ⟨t, e⟩ r => by subst e; rw [List.map_cons, List.map_cons, sent_fst r]
theorem relay_all {t t' : SetTable} {es : Array (Int × Value)} {k : Nat} (h : t.relaid (es.map (·.1)) k = some (t', (List.range es.size).toArray)) (hf : t'.fits es.size = true) : relayAll t es k = (es, t', false) := by
  unfold relayAll
  rw [h]
  dsimp only
  have e : (List.range es.size).toArray.filterMap (es[·]?) = es := by
    apply Array.ext'
    rw [Array.toList_filterMap]
    simp only [List.toList_toArray]
    have : ∀ (m : Nat), m ≤ es.size → (List.range m).filterMap (es[·]?) = es.toList.take m := by
      intro m
      induction m with
      | zero => intro _; rfl
      | succ m ih =>
        intro hm
        rw [List.range_succ, List.filterMap_append, ih (by omega)]
        have hlt : m < es.size := by omega
        rw [List.take_succ]
        simp [hlt]
    rw [this es.size (Nat.le_refl _)]
    exact List.take_of_length_le (Nat.le_of_eq Array.length_toList)
  rw [e]
  have c : coversAll (List.range es.size).toArray es.size = true := by
    unfold coversAll
    exact List.isPerm_iff.mpr (List.Perm.refl _)
  rw [c, hf]
  rfl
section
variable {prog : Program} {w : World} {A : Around} {E : Value → Shared → Prop} {s : Shared}
theorem elems_sent {l : List (Int × Value)} {ns : List Nat} (hp : Paired SEnt l ns) (hh : ∀ n ∈ ns, hashInt (n : Int) = (n : Int)) : ElemsOf (intKind prog w) l := fun e he => by
  obtain ⟨n, hn, t, rfl⟩ := sent_mem hp e he
  exact ⟨⟨(n : Int), by simp [intKind, Value.isInt], (hh n hn).symm⟩, rfl⟩
end
end L2

namespace L2
open PySem PySem.Spec PyProof.Rows
theorem SetR.at {h h' : Heap} {a : Addr} {led : Bool} {ns : List Nat} (x : SetR h a led ns) (e : ∀ o, h.get? a = some o → h'.get? a = some o) : SetR h' a led ns :=
  let ⟨es, ep, ho, hp⟩ := x; ⟨es, ep, e _ ho, hp⟩
section
variable {prog : Program} {w : World} {A : Around} {R : Result → Shared → Prop} {I : Addr} {fp wr : List Addr} {G : Array GenState → Array GenState → Prop} {P : Nat → Value → Prop} {St : Nat → Shared → Prop}
theorem take_succ_rise {ns : List Nat} {i : Nat} (hi : i < ns.length) : ns.take (i + 1) = ns.take i ++ [ns[i]] := by
  rw [List.take_succ, List.getElem?_eq_getElem hi]; rfl
end
def byText (w : World) : Bool := w.params.followText "set-order"
section
variable {prog : Program} {w : World} {A : Around} {E : Value → Shared → Prop} {s : Shared}
theorem set_new (a : Value) {Q : Value → Shared → Prop} (h : Q (.ref s.heap.objs.size) { s with heap := s.heap.push (setObj #[] 0 (tab (!byText w) [])) }) :
    codeAny (model prog w) A (.call (.builtin "set.__new__") ⟨[.type "set", a], []⟩) (wants Q E) s := by
  refine codeAny_of_tree (wpAny_bind (wpAny_of_eq (PySem.F.newCall_set_1 a) (wpAny_pure ⟨plainId_quiet PySem.F.plain_set_new _, codeAny_builtin PySem.F.entry_set_new ?_⟩)))
  rw [Around.under_plainId PySem.F.plain_set_new _]
  unfold Builtin.«set.__new__» Builtin.Frozenset.newClass
  have hsub := sub_set_self
  obtain ⟨hp, g, d, tk, os⟩ := s
  dsimp only
  wp_walk
  refine wpAny_askSetting (wpAny_pure ?_)
  dsimp only
  simp only [newObj]
  exact wpAny_bind (wpAny_alloc (wpAny_pure (wpAny_pure h)))
end
end L2

namespace L2
open PySem PySem.Spec PyProof.Rows
section
variable {prog : Program} {w : World} {A : Around} {E : Value → Shared → Prop} {s : Shared}
/-- set(x): made, then filled -/
theorem set_made {a : Value} {Q Q1 : Value → Shared → Prop} (hnew : codeAny (model prog w) A.in1 (.call (.builtin "set.__new__") ⟨[.type "set", a], []⟩) (wants Q1 E) s)
    (hgo : ∀ obj s1, Q1 obj s1 → s1.TypeIs obj "set" ∧ wpAny (model prog w) A.in1.in1 (Builtin.«set.__init__» ⟨[obj, a], []⟩)
        (fun fin s' => match fin with | .done f => wants (fun r s2 => r = .none ∧ Q obj s2) E (.ok f) s' | .again c => c.quiet = true ∧ codeAny (model prog w) A.in1 c (wants (fun r s2 => r = .none ∧ Q obj s2) E) s')
        (fun e s' => wants (fun r s2 => r = .none ∧ Q obj s2) E (.error e) s') s1) : wpAny (model prog w) A (call (.type "set") [a]) Q E s := by
  have ft := PySem.F.called_set
  obtain ⟨c, tl, hmro⟩ := ft.mro
  have hmade := ft.made
  have hsub := ft.sub
  refine wpAny_call (codeAny_of_tree (wpAny_pure ⟨Code.quiet_builtin _ (by decide +kernel), codeAny_builtin PySem.F.entry_type_call ?_⟩))
  rw [Around.under_plain (weight_type_call_type "set" [a] []) rfl]
  have h1 := ft.notType
  have h2 := ft.canCreate
  have h3 := PySem.F.typeCall_set_1 a
  repeat (any_goals (first | assumption | wp_step))
  refine codeAny_mono hnew fun r1 s1 x1 => ?_
  cases r1 with
  | error e => exact x1
  | ok f1 =>
    cases f1 with
    | ret obj =>
      obtain ⟨hT, hs⟩ := hgo _ _ x1
      have hli := ft.init.lookup
      have hbi := ft.init.bind obj
      repeat (any_goals (first | assumption | wp_step))
      refine codeAny_mono (codeAny_call_builtin ft.init.plain PySem.F.entry_set_init (PySem.check_set_init_1 hT hs)) fun r2 s2 x2 => ?_
      cases r2 with
      | error e => exact x2
      | ok f2 =>
        cases f2 with
        | ret r =>
          obtain ⟨rfl, hq⟩ := x2
          repeat (any_goals (first | assumption | wp_step))
        | _ => exact x2.elim
    | _ => exact x1.elim
end
end L2

namespace L2
open PySem PySem.Spec PyProof.Rows
/-! ### a set of small rising numbers, walked -/
theorem slot_sit_next : Slot "set_iterator" "__next__" "set_iterator.__next__" := .of (owner := "set_iterator") (n := "__next__") (by rw [typeLookup_type, builtinLookup_eq_fast]; kernel_rfl) (by decide +kernel) (by decide +kernel) (by decide +kernel) (by first | exact .inl (by decide +kernel) | exact .inr (by decide +kernel)) (by rw [isSubtype_type]; kernel_rfl)
theorem slot_sit_iter : Slot "set_iterator" "__iter__" "set_iterator.__iter__" := .of (owner := "set_iterator") (n := "__iter__") (by rw [typeLookup_type, builtinLookup_eq_fast]; kernel_rfl) (by decide +kernel) (by decide +kernel) (by decide +kernel) (by first | exact .inl (by decide +kernel) | exact .inr (by decide +kernel)) (by rw [isSubtype_type]; kernel_rfl)
theorem entry_sit_next : entryFor table "set_iterator.__next__" = some Builtin.«set_iterator.__next__» := entryFor_of_tree (by kernel_rfl)
theorem args_sit_next (a : Value) : argsOk "set_iterator.__next__" ⟨[a], []⟩ := by unfold argsOk; kernel_rfl
theorem args_sit_iter (a : Value) : argsOk "set_iterator.__iter__" ⟨[a], []⟩ := by unfold argsOk; kernel_rfl
theorem entry_set_iter : entryFor table "set.__iter__" = some Builtin.«frozenset.__iter__» := entryFor_alias (id' := "frozenset.__iter__") (by kernel_rfl) rfl (by decide +kernel) (by kernel_rfl)
theorem entry_sit_iter : entryFor table "set_iterator.__iter__" = some Builtin.«dict_keyiterator.__iter__» := entryFor_alias (id' := "dict_keyiterator.__iter__") (by kernel_rfl) rfl (by decide +kernel) (by kernel_rfl)
end L2

namespace L2
open PySem PySem.Spec PyProof.Rows
theorem perm_erase {α : Type} : ∀ (l : List α) (i : Nat) (h : i < l.length), (l[i] :: l.eraseIdx i).Perm l
  | x :: l, 0, _ => by simp
  | x :: l, i + 1, h => by
    have ih := perm_erase l i (by simpa using h)
    rw [List.getElem_cons_succ, List.eraseIdx_cons_succ]
    exact (List.Perm.swap x _ _).trans (List.Perm.cons x ih)
theorem pick_go {α : Type} (next : Nat → Nat) : ∀ (f k : Nat) (left : List α) (out : Array α), left.length ≤ f → ((pickOrder.go next f k left out).toList).Perm (out.toList ++ left)
  | 0, k, [], out, _ => by unfold pickOrder.go; rw [List.append_nil]
  | 0, k, x :: l, out, h => by simp at h
  | f + 1, k, [], out, _ => by
    unfold pickOrder.go
    simp
  | f + 1, k, x :: l, out, h => by
    unfold pickOrder.go
    have hlt : next k % (x :: l).length < (x :: l).length := Nat.mod_lt _ (by simp)
    rw [List.getElem?_eq_getElem hlt]
    dsimp only
    refine (pick_go next f (k + 1) _ _ ?_).trans ?_
    · rw [List.length_eraseIdx_of_lt hlt]
      simp only [List.length_cons] at h ⊢
      omega
    · rw [Array.toList_push, List.append_assoc]
      exact List.Perm.append_left _ (perm_erase _ _ hlt)
theorem pick_perm {α : Type} (next : Nat → Nat) (xs : Array α) : (pickOrder next xs).toList.Perm xs.toList := by
  have h := pick_go next xs.size 0 xs.toList #[] (by simp)
  rw [show (#[] : Array α).toList ++ xs.toList = xs.toList from rfl] at h
  exact h
def walkOf (w : World) (a : Addr) (es : Array (Int × Value)) (ep : Nat) : Array (Int × Value) := if byText w then pickOrder (w.params.setOrder a ep) es else es
theorem walk_perm (w : World) (a : Addr) (es : Array (Int × Value)) (ep : Nat) : (walkOf w a es ep).toList.Perm es.toList := by
  unfold walkOf
  split
  · exact pick_perm _ _
  · exact List.Perm.refl _
theorem walk_size (w : World) (a : Addr) (es : Array (Int × Value)) (ep : Nat) : (walkOf w a es ep).size = es.size := by
  rw [← Array.length_toList, (walk_perm w a es ep).length_eq, Array.length_toList]
def slotAt (w : World) (ns : List Nat) : Nat → Nat
  | 0 => 0
  | i + 1 => if byText w then 0 else ns.getD i 0 + 1
def SitObj (d : Addr) (sl i n ep : Nat) : Obj := { cls := .type "set_iterator", data := .fields #[.int sl 0, .int i 0, .ref d, .int n 0, .int ep 0] }
theorem tab_zero (led : Bool) {ns : List Nat} (hp : ns.Pairwise (· < ·)) (hn : ∀ x ∈ ns, x < 8) : SetTable.below (tab led ns).place 0 = 0 := by
  have key : ∀ led : Bool, ∀ ns ∈ subs (List.range' 0 8), SetTable.below (tab led ns).place 0 = 0 := by decide +kernel
  exact key led ns (subs_of (rise_sub 8 0 ns hp fun x hx => ⟨Nat.zero_le _, by have := hn x hx; omega⟩))
theorem slot_below (w : World) (led : Bool) {ns : List Nat} (hp : ns.Pairwise (· < ·)) (hn : ∀ x ∈ ns, x < 8) (hb : byText w = false) : ∀ i, i ≤ ns.length → SetTable.below (tab led ns).place (slotAt w ns i) = i
  | 0, _ => tab_zero led hp hn
  | i + 1, h => by
    unfold slotAt
    rw [hb]
    exact ((tab_rises led hp hn).2 i h).2
section
variable {prog : Program} {w : World} {A : Around} {E : Value → Shared → Prop} {s : Shared} {d : Addr} {es : Array (Int × Value)} {ep : Nat} {ns : List Nat}
theorem set_next {i : Nat} {Q : Option (Value × Nat) → Shared → Prop} (ho : s.heap.get? d = some (setObj es ep (tab (!byText w) ns))) (hp : Paired SEnt es.toList ns) (hr : ns.Pairwise (· < ·)) (h8 : ∀ x ∈ ns, x < 8) (hi : i ≤ ns.length)
    (h : Q (((walkOf w d es ep)[i]?).map fun e => (e.2, slotAt w ns (i + 1))) s) : wpAny (model prog w) A (setNext d (slotAt w ns i) i ep) Q E s := by
  have hz : es.size = ns.length := by rw [← Array.length_toList, hp.length]
  have hfit : (tab (!byText w) ns).fits es.size = true := by rw [hz]; exact (tab_rises _ hr h8).1
  unfold setNext setsByText
  refine wpAny_bind (wpAny_setState_of ho rfl hfit (wpAny_bind (wpAny_bind (wpAny_askSetting (wpAny_pure ?_)))))
  dsimp only
  have ee : (model prog w).w.params.followText "set-order" = byText w := rfl
  rw [ee]
  cases hb : byText w with
  | true =>
    simp only [↓reduceIte, bne_self_eq_false, Bool.false_eq_true]
    unfold setWalk setsByText
    refine wpAny_bind (wpAny_bind (wpAny_setState_of ho rfl hfit (wpAny_bind (wpAny_bind (wpAny_askSetting (wpAny_pure ?_))))))
    rw [ee, hb]
    simp only [↓reduceIte]
    refine wpAny_bind (wpAny_askSetting (wpAny_pure (wpAny_pure ?_)))
    have e1 : slotAt w ns i = slotAt w ns (i + 1) := by
      cases i <;> simp [slotAt, hb]
    rw [e1]
    unfold walkOf at h
    rw [hb] at h
    exact h
  | false =>
    simp only [Bool.false_eq_true, ↓reduceIte]
    refine wpAny_ite_split (fun hx => absurd hx (show ¬ _ from Bool.false_ne_true)) (fun _ => wpAny_bind ?_)
    show wpAny _ _ (if (!true && !es.isEmpty) = true then unsupported "set:maker-not-led" else pure ()) _ _ _
    rw [if_neg (by simp)]
    refine wpAny_pure (wpAny_pure ?_)
    rw [show tab (!false) ns = tab true ns from rfl, slot_below w true hr h8 hb i hi]
    unfold walkOf at h
    rw [hb] at h
    rw [if_neg Bool.false_ne_true] at h
    rcases Nat.lt_or_ge i ns.length with hlt | hge
    · have h1 : i < es.size := by omega
      have e2 : (tab true ns).place[i]? = some ns[i] := by
        show ns.toArray[i]? = _
        rw [List.getElem?_toArray, List.getElem?_eq_getElem hlt]
      rw [e2]
      rw [Array.getElem?_eq_getElem h1] at h ⊢
      have e3 : slotAt w ns (i + 1) = ns[i] + 1 := by
        show (if byText w = true then 0 else ns.getD i 0 + 1) = _
        rw [hb, if_neg Bool.false_ne_true, List.getD_eq_getElem?_getD, List.getElem?_eq_getElem hlt]
        rfl
      rw [e3] at h
      exact h
    · rw [Array.getElem?_eq_none (by omega)] at h ⊢
      exact h
theorem set_iter {Q : Value → Shared → Prop} (ho : s.heap.get? d = some (setObj es ep (tab (!byText w) ns))) (hp : Paired SEnt es.toList ns) (hr : ns.Pairwise (· < ·)) (h8 : ∀ x ∈ ns, x < 8)
    (h : Q (.ref s.heap.objs.size) { s with heap := s.heap.push (SitObj d 0 0 es.size ep) }) : wpAny (model prog w) A (pyIter (.ref d)) Q E s := by
  have hz : es.size = ns.length := by rw [← Array.length_toList, hp.length]
  have hfit : (tab (!byText w) ns).fits es.size = true := by rw [hz]; exact (tab_rises _ hr h8).1
  have hT : s.TypeIs (.ref d) "set" := ⟨_, ho, rfl⟩
  refine wpAny_pyIter_slot hT PySem.F.slot_set_iter (wpAny_call_entry PySem.F.slot_set_iter hT entry_set_iter ?_ (PySem.F.args_set_iter_1 _))
  show wpAny _ _ (Builtin.Frozenset.sizeOf d >>= _) _ _ s
  unfold Builtin.Frozenset.sizeOf setEntries
  refine wpAny_bind (wpAny_bind (wpAny_bind (wpAny_setState_of ho rfl hfit (wpAny_pure (wpAny_pure ?_)))))
  refine wpAny_bind ?_
  unfold setDrawn setsByText
  refine wpAny_bind (wpAny_setState_of ho rfl hfit (wpAny_bind (wpAny_bind (wpAny_askSetting (wpAny_pure (wpAny_pure ?_))))))
  refine wpAny_ite_split (fun hx => absurd (Bool.and_eq_true_iff.mp hx).2 (show ¬ _ from Bool.false_ne_true)) (fun _ => wpAny_bind (wpAny_pure ?_))
  unfold setEpoch
  refine wpAny_bind (wpAny_bind (wpAny_setState_of ho rfl hfit (wpAny_pure ?_)))
  refine wpAny_bind (wpAny_newObj_type (wpAny_pure ⟨_, rfl, "set_iterator", _, ⟨_, Heap.get?_push_size _ rfl, rfl⟩, slot_sit_next.lookup, ?_⟩))
  exact h
theorem set_iter_self {sl i n : Nat} {it : Addr} {Q : Value → Shared → Prop} (hit : s.heap.get? it = some (SitObj d sl i n ep)) (h : Q (.ref it) s) : wpAny (model prog w) A (pyIter (.ref it)) Q E s := by
  have hT : s.TypeIs (.ref it) "set_iterator" := ⟨_, hit, rfl⟩
  refine wpAny_pyIter_slot hT slot_sit_iter (wpAny_call_entry slot_sit_iter hT entry_sit_iter ?_ (args_sit_iter _))
  show wpAny _ _ (ret (.ref it)) _ _ s
  exact wpAny_pure ⟨_, rfl, "set_iterator", _, hT, slot_sit_next.lookup, h⟩
theorem set_step {i : Nat} {it : Addr} {Q : Option Value → Shared → Prop} (hh : A.handled = none) (ho : s.heap.get? d = some (setObj es ep (tab (!byText w) ns))) (hp : Paired SEnt es.toList ns) (hr : ns.Pairwise (· < ·)) (h8 : ∀ x ∈ ns, x < 8) (hi : i ≤ ns.length)
    (hit : s.heap.get? it = some (SitObj d (slotAt w ns i) i es.size ep))
    (h1 : ∀ e h', (walkOf w d es ep)[i]? = some e → h'.get? it = some (SitObj d (slotAt w ns (i + 1)) (i + 1) es.size ep) → Heap.SameBut it s.heap h' → Q (some e.2) { s with heap := h' })
    (h2 : ∀ h', (walkOf w d es ep)[i]? = none → Heap.ExtBut it s.heap h' → Q none { s with heap := h' }) : wpAny (model prog w) A (pyNext (.ref it)) Q E s := by
  have hz : es.size = ns.length := by rw [← Array.length_toList, hp.length]
  have hfit : (tab (!byText w) ns).fits es.size = true := by rw [hz]; exact (tab_rises _ hr h8).1
  have hT : s.TypeIs (.ref it) "set_iterator" := ⟨_, hit, rfl⟩
  unfold pyNext
  refine wpAny_bind (wpAny_attempt (wpAny_callSpecial?_slot (name := Str.ofString "__next__") hT slot_sit_next (wpAny_call_entry slot_sit_next hT entry_sit_next ?_ (args_sit_next _))))
  refine wpAny_bind (wpAny_pure (wpAny_bind (wpAny_fieldsOf hit rfl ?_)))
  dsimp only
  unfold setEntries
  refine wpAny_bind (wpAny_bind (wpAny_setState_of ho rfl hfit (wpAny_pure ?_)))
  rw [if_neg (by simp)]
  refine wpAny_bind ?_
  simp only [Int.toNat_natCast]
  refine set_next ho hp hr h8 hi ?_
  cases hw : (walkOf w d es ep)[i]? with
  | some e =>
    simp only [Option.map_some]
    refine wpAny_bind (wpAny_setField hit rfl (by simp) ?_)
    have g1 := Heap.get?_update_self (Obj.mapFields fun xs => xs.setIfInBounds 0 (rawInt (slotAt w ns (i + 1) : Int))) hit rfl
    refine wpAny_bind (wpAny_setField g1 rfl (by simp) ?_)
    have g2 := Heap.get?_update_self (Obj.mapFields fun xs => xs.setIfInBounds 1 (rawInt ((i : Int) + 1))) g1 rfl
    refine wpAny_pure ⟨_, rfl, wpAny_pure (h1 e _ hw ?_ ((Heap.SameBut.update ..).trans (Heap.SameBut.update ..)))⟩
    exact g2
  | none =>
    simp only [Option.map_none]
    refine wpAny_bind (wpAny_setField hit rfl (by simp) ?_)
    refine wpAny_bind ?_
    simp only [newExc, newTuple]
    refine wpAny_bind (wpAny_newObj_type (wpAny_bind (m := firstArgMember _ _) (wpAny_of_eq (a := Value.none) (by first | rfl | (simp only [firstArgMember]; rfl)) ?_)) (by size_fits))
    refine wpAny_newObj_type ?_ (by size_fits)
    simp only [raiseNew]
    refine wpAny_bind (wpAny_handled ?_)
    rw [show A.in1.handled = none from hh]
    refine wpAny_bind (wpAny_pure (wpAny_throw (wpAny_bind ?_)))
    refine wpAny_isInstance (T := "StopIteration") (b := true) ⟨_, Heap.get?_push_size _ rfl, rfl⟩ isSubtype_stop ?_
    exact wpAny_pure (h2 _ hw (((Heap.SameBut.update ..).extBut.push _).push _))
theorem walks_set (hh : A.handled = none) (I : Addr) (hne : d ≠ I) (hp : Paired SEnt es.toList ns) (hr : ns.Pairwise (· < ·)) (h8 : ∀ x ∈ ns, x < 8) :
    Walks prog w A I [I, d] [I] es.size (fun i v => ((walkOf w d es ep)[i]?).map (·.2) = some v) (fun i h => h.get? I = some (SitObj d (slotAt w ns i) i es.size ep) ∧ h.get? d = some (setObj es ep (tab (!byText w) ns))) where
  sub := fun b hb => by simp at hb; simp [hb]
  frame := fun _ _ _ st hk => ⟨hk I (by simp) _ st.1, hk d (by simp) _ st.2⟩
  item := fun i s Q E hi st hQ => by
    have hz : es.size = ns.length := by rw [← Array.length_toList, hp.length]
    refine set_step hh st.2 hp hr h8 (by omega) st.1 (fun e h' he g sb => ?_) fun h' he _ => ?_
    · refine hQ _ h' s.toks ?_ ⟨g, (sb.2 d hne).trans st.2⟩ fun b o hb x => (sb.2 b fun y => hb (by simp [y])).trans x
      rw [he]; rfl
    · rw [Array.getElem?_eq_none_iff, walk_size] at he
      omega
  done := fun s Q E st hQ => by
    have hz : es.size = ns.length := by rw [← Array.length_toList, hp.length]
    refine set_step hh st.2 hp hr h8 (Nat.le_of_eq hz) st.1 (fun e h' he _ _ => ?_) fun h' _ x => hQ h' s.toks fun b o hb y => x b o (fun z => hb (by simp [z])) y
    have : (walkOf w d es ep)[es.size]? = none := by rw [Array.getElem?_eq_none_iff, walk_size]; exact Nat.le_refl _
    rw [this] at he
    cases he
  self := fun _ _ _ _ st hQ => set_iter_self st.1 hQ
theorem set_hint {r : Addr} {Q : Bool → Shared → Prop} (hT : s.TypeIs (.ref r) "set") (h : Q false s) : wpAny (model prog w) A (Builtin.List.listLengthHint (.ref r)) Q E s := by
  unfold Builtin.List.listLengthHint
  refine wpAny_bind (wpAny_specialOf hT PySem.F.slot_set_len.lookup ?_)
  generalize hid : ("set.__len__" : String) = id0
  wp_delta
  rw [show splitId id0 = some ("set", "__len__") from by subst hid; decide +kernel]
  subst hid
  refine wpAny_bind (wpAny_isInstance (T := "set") (b := true) hT (by rw [isSubtype_type]; kernel_rfl) ?_)
  refine wpAny_ite_split (fun z => absurd z (by decide)) (fun _ => wpAny_ite_split (fun _ => ?_) (fun z => absurd (by decide +kernel) z))
  exact wpAny_bind (wpAny_typeOf hT (wpAny_pure h))
theorem src_set (hp : Paired SEnt es.toList ns) (hr : ns.Pairwise (· < ·)) (h8 : ∀ x ∈ ns, x < 8) :
    PySem.W.KdlSrc prog w "set" d d es.size (fun i v => ((walkOf w d es ep)[i]?).map (·.2) = some v) (fun h => h.get? d = some (setObj es ep (tab (!byText w) ns))) where
  type := fun _ g => ⟨_, g, rfl⟩
  there := fun _ g => ⟨Heap.lt_size g, Heap.lt_size g⟩
  keep := fun _ _ g hk => hk d (.inl rfl) _ g
  notList := by decide
  notTuple := by decide
  hint := fun _ _ _ _ g hq => set_hint ⟨_, g, rfl⟩ hq
  iter := fun _ _ hh g => ⟨_, _, (fun _ _ hq => set_iter g hp hr h8 hq), walks_set hh _ (Nat.ne_of_lt (Heap.lt_size g)) hp hr h8, ⟨Heap.get?_push_size _ rfl, Heap.get?_push_of_some _ g⟩⟩
end
end L2

namespace L2
open PySem PySem.Spec PyProof.Rows
theorem rise_uniq : ∀ {a b : List Int}, a.Perm b → a.Pairwise (· ≤ ·) → b.Pairwise (· ≤ ·) → a = b
  | [], b, p, _, _ => (List.Perm.nil_eq p)
  | x :: a, [], p, _, _ => by have := p.length_eq; cases this
  | x :: a, y :: b, p, ha, hb => by
    have hxy : x = y := by
      have h1 : y ∈ x :: a := p.mem_iff.mpr List.mem_cons_self
      have h2 : x ∈ y :: b := p.mem_iff.mp List.mem_cons_self
      have ha' := List.pairwise_cons.mp ha
      have hb' := List.pairwise_cons.mp hb
      rcases List.mem_cons.mp h1 with e | h1
      · exact e.symm
      · rcases List.mem_cons.mp h2 with e | h2
        · exact e
        · have := ha'.1 y h1
          have := hb'.1 x h2
          omega
    subst hxy
    rw [rise_uniq (List.Perm.cons_inv p) (List.pairwise_cons.mp ha).2 (List.pairwise_cons.mp hb).2]
/-- numbers as ints -/
def zs (ns : List Nat) : List Int := ns.map fun (k : Nat) => (k : Int)
theorem sent_ints : ∀ {l : List (Int × Value)} {ns : List Nat}, Paired SEnt l ns → IntsAre (l.map (·.2)) (zs ns)
  | _, _, .nil => .nil
  | _, _, .cons ⟨t, e⟩ r => by subst e; exact IntsAre.cons _ t (sent_ints r)
theorem ints_perm {vs us : List Value} (p : vs.Perm us) : ∀ {ns : List Int}, IntsAre us ns → ∃ ms, IntsAre vs ms ∧ ms.Perm ns := by
  induction p with
  | nil => intro ns h; exact ⟨_, h, .refl _⟩
  | cons x _ ih =>
    intro ns h
    cases h with
    | cons n t r =>
      obtain ⟨ms, a, b⟩ := ih r
      exact ⟨_, .cons n t a, .cons _ b⟩
  | swap x y l =>
    intro ns h
    cases h with
    | cons n t r =>
      cases r with
      | cons m u r => exact ⟨_, .cons m u (.cons n t r), .swap _ _ _⟩
  | trans _ _ i1 i2 =>
    intro ns h
    obtain ⟨ms, a, b⟩ := i2 h
    obtain ⟨ks, c, d⟩ := i1 a
    exact ⟨ks, c, d.trans b⟩
theorem items_map {P : Array Value} {xs : List (Int × Value)} {acc : Array Value} {n : Nat} (h : ItemsOf (fun i v => (xs[i]?).map (·.2) = some v) acc n) (hn : n = xs.length) : acc.toList = xs.map (·.2) := by
  refine List.ext_getElem? fun i => ?_
  rw [List.getElem?_map]
  rcases Nat.lt_or_ge i acc.size with hi | hi
  · rw [h.2 i acc[i] (by rw [Array.getElem?_eq_getElem hi])]
    rw [Array.getElem?_toList, Array.getElem?_eq_getElem hi]
  · rw [List.getElem?_eq_none (by simpa using hi), List.getElem?_eq_none (by rw [← hn, ← h.1]; exact hi)]
    rfl
section
variable {prog : Program} {w : World} {A : Around} {E : Value → Shared → Prop} {s : Shared} {d : Addr} {ns : List Nat}
theorem sorted_set {Q : Value → Shared → Prop} (hh : A.handled = none) (hS : SetR s.heap d (!byText w) ns) (hr : ns.Pairwise (· < ·)) (h8 : ∀ x ∈ ns, x < 8)
    (h : ∀ (l : Addr) (h1 h' : Heap) (tk e : Nat) (out : Array Value), IntsAre out.toList (zs ns) → (∀ b o, s.heap.get? b = some o → h1.get? b = some o) → h1.objs.size ≤ l → (∀ b o, h1.get? b = some o → h'.get? b = some o) → h'.get? l = some (seqObj "list" out e) → Q (.ref l) { s with heap := h', toks := tk }) :
    wpAny (model prog w) A (call (.builtin "sorted") [.ref d]) Q E s := by
  obtain ⟨es, ep, ho, hp⟩ := hS
  have hz : es.size = ns.length := by rw [← Array.length_toList, hp.length]
  have h9 : ns.length ≤ 8 := by
    have := (rise_sub 8 0 _ hr fun x hx => ⟨Nat.zero_le _, by have := h8 x hx; omega⟩).length_le
    rwa [List.length_range'] at this
  refine Calls.call_function_entry kind_sorted plain_sorted entry_sorted (args_sorted1 _) ?_
  unfold Builtin.«sorted»
  refine wpAny_bind (m := checkCount "sorted" 1 1 _) (wpAny_pure (wpAny_bind ?_))
  refine PySem.W.kdu_collect (A := A.in1) (src_set hp hr h8) hh ho (by rw [sizeLine_eq]; omega) fun h1 tk acc k1 hacc => ?_
  have ea : acc.toList = (walkOf w d es ep).toList.map (·.2) := items_map (P := #[]) (n := es.size) ⟨hacc.1, fun i v x => by show ((walkOf w d es ep).toList[i]?).map (·.2) = some v; rw [Array.getElem?_toList]; exact hacc.2 i v x⟩ (by rw [Array.length_toList, walk_size])
  obtain ⟨ms, i1, i2⟩ := ints_perm ((walk_perm w d es ep).map (·.2)) (sent_ints hp)
  rw [← ea] at i1
  have hl : acc.toList.length = ns.length := by rw [Array.length_toList, hacc.1, hz]
  refine wpAny_bind (wpAny_newList ?_ (by rw [hl, sizeLine_eq]; omega))
  have g : (h1.push (seqObj "list" acc.toList.toArray 0)).get? h1.objs.size = some (seqObj "list" acc.toList.toArray 0) := Heap.get?_push_size _ rfl
  refine wpAny_bind (wpAny_holding (wpAny_call_entry slot_list_sort ⟨_, g, rfl⟩ entry_list_sort (list_sort_tree (vs := acc.toList) g i1 (by omega) fun out ns' a1 a2 a3 => ⟨_, rfl, ?_⟩) (args_list_sort _)))
  have e1 : ns' = zs ns := rise_uniq (a2.trans i2) a3 (by
    unfold zs
    rw [List.pairwise_map]
    exact hr.imp fun hab => by omega)
  subst e1
  obtain ⟨e, he⟩ := sortedHeap_at (out := out) g
  refine wpAny_pure ⟨_, rfl, h h1.objs.size h1 _ tk e out a1 k1 (Nat.le_refl _) (fun b o x => ?_) he⟩
  have hb := Heap.lt_size x
  rw [sortedHeap_old (Nat.ne_of_lt hb) (by rw [size_push']; exact Nat.lt_succ_of_lt hb)]
  exact Heap.get?_push_of_some _ x
end
/-- what is known of a set of small rising numbers -/
def setX (w : World) (l : Addr) (ns : List Nat) : HO := .ext fun h => SetR h l (!byText w) ns
def Small8 (ns : List Nat) : Prop := ns.Pairwise (· < ·) ∧ ∀ x ∈ ns, x < 8
def rSortedX (w : World) : List V → Hp → VK → Prop := fun xs H Q => ∃ (p : Addr) (ns : List Nat), xs = [.ref p] ∧ H p = some (setX w p ns) ∧ Small8 ns ∧ ∀ l, H l = none → Q (.ref l) (upd H l (.lst ((zs ns).map V.int)))
theorem call_sortedX {X : Cx} (w : World) (hc : X.calm = true) (hw : X.w = w := by rfl) : CallR X (.builtin "sorted") (rSortedX w) := by
  subst hw
  intro pins s σ H xs us Q I r h
  obtain ⟨p, ns, rfl, hq, ⟨hr, h8⟩, q⟩ := h
  obtain ⟨u, rfl, rx⟩ := vals1 r
  cases rx
  have hx : ObjOk X.prog X.w H s.heap p (setX X.w p ns) := I.hok p _ hq
  refine sorted_set (I.ok.hd hc) hx.1 hr h8 fun l h1 h' tk e out ia k1 hl k2 he => ?_
  have I1 : Inv X pins σ H { s with heap := h1 } := I.kept (t' := s.toks) k1
  have hz : (zs ns).length ≤ sizeLine := by
    have := (rise_sub 8 0 _ hr fun x hx => ⟨Nat.zero_le _, by have := h8 x hx; omega⟩).length_le
    rw [List.length_range'] at this
    rw [sizeLine_eq]
    unfold zs
    rw [List.length_map]
    omega
  refine ⟨.ref l, _, I1.laid (t' := tk) (o := .lst ((zs ns).map V.int)) k2 hl ?_, rfl, q _ (I1.hok.fresh hl)⟩
  exact ⟨by rw [List.length_map]; exact hz, out.toList, e, vals_ints ia, by simpa using he⟩
end L2

namespace L2
open PySem PySem.Spec PyProof.Rows
/-! ### sorted(a tuple of ints) -/
section
variable {prog : Program} {w : World} {A : Around} {E : Value → Shared → Prop} {s : Shared}
end
end L2

namespace L2
open PySem PySem.Spec PyProof.Rows
open AutoSeq1 (wpAny_loadPart')
/-! ### (x,) * 1, (x,) * 0 -/
section
variable (l : Addr) (its : List Value) (n : Nat) (dd : Option Addr) (sl : Array (Option Value)) (t : Tok)
end
/-! ### t[:k], the whole of it: t itself -/
section
variable {prog : Program} {w : World} {A : Around} {E : Value → Shared → Prop} {s : Shared}
open HT in
end
end L2

namespace L2
open PySem PySem.Spec PyProof.Rows
open AutoSeq1 (wpAny_loadPart')
/-! ### tuple(range(n)) -/
section
variable {prog : Program} {w : World} {A : Around} {E : Value → Shared → Prop} {s : Shared}
end
end L2

namespace L2
open PySem PySem.Spec PyProof.Rows
/-! ### a module's dict of ints by ints, never changed -/
section
variable {X : Cx} {o i : Expr} {pos : Pos} {td ty : TE}
end
/-! ### isinstance(e, (C, ..)) -/
end L2

namespace L2
open PySem PySem.Spec PyProof.Rows
/-! ### list comprehensions with one name of their own that an inner one takes over -/
section
variable {M : Model} {A : Around} {E : Value → Shared → Prop} {s : Shared}
end
section
variable {X : Cx} {pins : List (Addr × Obj)} {σ : St} {H₁ : Hp} {s₁ : Shared}
end

section
variable {X : Cx} {elt tg iter : Expr} {ifs : List Expr} {scope : Scope} {pos spos : Pos} {wi : TI} {g : TG} {tt : TT} {te : TE}
end
end L2

namespace L2
open PySem PySem.Spec PyProof.Rows
/-! ### tuple.index of ints -/
section
variable {prog : Program} {w : World} {A : Around} {E : Value → Shared → Prop} {s : Shared}
theorem intsAre_len : ∀ {vs : List Value} {ns : List Int}, IntsAre vs ns → vs.length = ns.length
  | _, _, .nil => rfl
  | _, _, .cons _ _ r => by rw [List.length_cons, List.length_cons, intsAre_len r]
theorem intsAre_at : ∀ {vs : List Value} {ns : List Int}, IntsAre vs ns → ∀ (j : Nat) (h : j < ns.length), ∃ t, vs[j]? = some (.int ns[j] t)
  | _, _, .cons n t r, 0, _ => ⟨t, rfl⟩
  | _, _, .cons n t r, j + 1, h => intsAre_at r j (Nat.lt_of_succ_lt_succ h)
theorem idx_before {k : Int} : ∀ {ns : List Int} {j : Nat}, j < ns.idxOf k → ∀ (h2 : j < ns.length), (ns[j] == k) = false := fun h h2 => PyProof.Rows.ne_of_lt_idxOf h h2
theorem tuple_index_tree {t : Addr} {items : Array Value} {ns : List Int} {x : Int} {u : Tok} {P : Fin → Shared → Prop} (ht : IsTup s.heap t items) (hi : IntsAre items.toList ns) (hk : x ∈ ns)
    (h : P (.done (.ret (.int ((ns.idxOf x : Nat) : Int) s.toks))) { s with toks := s.toks + 1 }) : wpAny (model prog w) A (Builtin.«tuple.index» ⟨[.ref t, .int x u], []⟩) P E s := by
  have hlen : items.size = ns.length := by rw [← Array.length_toList]; exact intsAre_len hi
  have hj : ns.idxOf x < ns.length := List.idxOf_lt_length_iff.mpr hk
  show wpAny _ _ (Builtin.Tuple.tupleItemsOf (.ref t) >>= _) _ _ s
  refine wpAny_bind (tupleItemsOf_ ht ?_)
  show wpAny _ _ (forIn [0:min items.size items.size] _ _ >>= _) _ _ s
  rw [Std.Legacy.Range.forIn_eq_forIn_range']
  simp only [Std.Legacy.Range.size, Nat.sub_zero, Nat.add_sub_cancel, Nat.div_one, Nat.min_self]
  refine wpAny_bind (wpAny_forIn_list _
      (fun rest b s' => b.1 = none ∧ s' = s ∧ ∃ i, rest = List.range' i (items.size - i) ∧ i ≤ ns.idxOf x)
      _ ?_ ?_ _ _ ⟨rfl, rfl, 0, by simp, Nat.zero_le _⟩)
  · rintro y rest b s' ⟨hb, rfl, i, hr, hle⟩
    have e : items.size - i = (items.size - (i + 1)) + 1 := by omega
    rw [e, List.range'_succ] at hr
    injection hr with h1 h2
    subst h1
    obtain ⟨tk, hy⟩ := intsAre_at hi y (by omega)
    rw [Array.getElem?_toList] at hy
    simp only [hy]
    refine wpAny_bind (wpAny_eqBool_int ?_)
    cases hnx : (ns[y]'(by omega) == x) with
    | true =>
      have hyi : y = ns.idxOf x := by
        rcases Nat.lt_or_ge y (ns.idxOf x) with z | z
        · rw [idx_before z (by omega)] at hnx
          cases hnx
        · omega
      subst hyi
      exact wpAny_bind (wpAny_bind (wpAny_mkInt (wpAny_pure (wpAny_pure (wpAny_pure h)))))
    | false =>
      refine wpAny_pure ⟨rfl, rfl, y + 1, h2, ?_⟩
      rcases Nat.lt_or_ge y (ns.idxOf x) with z | z
      · exact z
      · have : y = ns.idxOf x := by omega
        subst this
        have := List.getElem_idxOf hj
        rw [this] at hnx
        simp at hnx
  · rintro ⟨b1, b2⟩ s' ⟨hb, rfl, i, hr, hle⟩
    have : items.size - i = 0 := by
      cases hz : items.size - i with
      | zero => rfl
      | succ m => rw [hz, List.range'_succ] at hr; cases hr
    omega
end
/-- t.index(k), where k is in the tuple of ints t -/
def tIdx (to : TE) (t : TA) : TE := fun σ H Q => to σ H fun x H1 => ∃ (p : Addr) (ns : List Int), x = .ref p ∧ H1 p = some (.tup (ns.map V.int)) ∧ t σ H1 fun xs H2 => ∃ k : Int, xs = [.int k] ∧ H2 p = some (.tup (ns.map V.int)) ∧ k ∈ ns ∧ Q (.int ((ns.idxOf k : Nat) : Int)) H2
section
variable {X : Cx} {o e : Expr} {to : TE} {t : TA} {apos cpos : Pos}
theorem pe_tindex (ho : PE X o to) (ha : PA X [e] t)
    (hbase : attributeBase o "index" X.env (eval o X.env) = eval o X.env := by rfl)
    (hfew : ((backTo cpos (starEach [e] X.env)).all (fun x => !x.1) && (backToKw cpos (keywordEach [] X.env)).all (fun x => x.1.isSome)
      && decide ([e].length + ([] : List Keyword).length + (if ([] : List Keyword).isEmpty then 0 else 1) < 30)) = true := by rfl)
    (hline : (apos.endLine == cpos.line) = true := by rfl) (hs : starEach [e] X.env = (false, eval e X.env) :: starEach [] X.env := by rfl) (hplain : (backTo cpos (starEach [] X.env)).any (·.1) = false := by rfl) :
    PE X (.Call (.Attribute o "index" apos) [e] [] cpos) (tIdx to t) := by
  intro pins s σ H Q I h
  refine wpAny_Call_method_late hbase hfew hline rfl (thn (ho pins s σ H _ I h) fun v s1 ⟨x, H1, I1, r1, q1⟩ => ?_)
  obtain ⟨p, ns, rfl, hp, q1⟩ := q1
  cases r1
  obtain ⟨_, its, _, pl⟩ := I1.hok p _ hp
  have pl : IsTupN s1.heap p its.toArray := pl
  refine ⟨"tuple", "tuple.index", F.plainAttrs_tuple, F.slot_tuple_index, F.type_tuple_index, pl.is.typeIs, fun a e => (by cases e; exact pl.bare), ?_⟩
  have hA := ha cpos pins s1 σ H1 _ I1 q1
  rw [hs] at hA ⊢
  refine Calls.callWith_builtin (by show (false || (backTo cpos (starEach [] X.env)).any (·.1)) = false; rw [hplain] <;> rfl) (Calls.evalArgs_plain ?_)
  refine thn hA fun us s2 ⟨vs, H2, I2, r2, q2⟩ => ?_
  obtain ⟨k, rfl, hp2, hk, q⟩ := q2
  obtain ⟨u, rfl, t, rfl⟩ := r2.one
  obtain ⟨_, its2, rv, pl2⟩ := I2.hok p _ hp2
  have pl2 : IsTupN s2.heap p its2.toArray := pl2
  exact wpAny_call_entry F.slot_tuple_index pl2.is.typeIs F.entry_tuple_index (tuple_index_tree pl2.is (intsAre_of rv) hk ⟨_, rfl, .int _, H2, I2.tok _, ⟨_, rfl⟩, q⟩) (F.args_tuple_index_2 _ _)
end
end L2

namespace My
open PySem L2
theorem pg_tupK {X : Cx} {pos : Pos} {es : List Expr} {k : Nat} {t : TGs} {n : Nat} (K : PySem.W.Frag) (hc : X.calm = true) (h : PGs X es t) (hK : X.K = K := by rfl)
    (hn : (assignEach es X.env).length = n := by rfl) (hst : (assignEach es X.env).findIdx? (·.1) = none := by rfl) : PG X (.Tuple es k pos) (gTup K n t) := by subst hK; exact pg_tup hc h hn hst
end My

namespace L2
open PySem PySem.Spec PyProof.Rows
open PySem.SeqAt
/-! ### list.index of ints -/
end L2

namespace L2
open PySem PySem.Spec PyProof.Rows
/-! ### xs[::-1] of a list -/
end L2

namespace L2
open PySem PySem.Spec PyProof.Rows PySem.W
/-! ### sorted(a list of tuples of ints, all of one length) -/
def runT {α : Type} (n : Nat) (lt : Nat → Nat → Bool) : KasT α → Option α
  | .ret a => some a
  | .ask i j k => if decide (i < n) && decide (j < n) then runT n lt (k (lt i j)) else none
theorem runT_wp {α : Type} {n : Nat} {lt : Nat → Nat → Bool} {cmp : Nat → Nat → (Bool → Shared → Prop) → Shared → Prop} {Q : α → Shared → Prop} {s : Shared} (hc : ∀ i j (C : Bool → Shared → Prop), i < n → j < n → C (lt i j) s → cmp i j C s) :
    ∀ (t : KasT α) {a : α}, runT n lt t = some a → Q a s → t.kasWp cmp Q s
  | .ret b, a, e, q => by
    have e' : b = a := Option.some.inj e
    subst e'
    exact q
  | .ask i j k, a, e, q => by
    unfold runT at e
    cases hb : (decide (i < n) && decide (j < n)) with
    | false => rw [hb] at e; cases e
    | true =>
      rw [hb] at e
      rw [Bool.and_eq_true, decide_eq_true_eq, decide_eq_true_eq] at hb
      exact hc i j _ hb.1 hb.2 (runT_wp hc (k (lt i j)) e q)
def lexB : List Int → List Int → Bool
  | x :: xs, y :: ys => if x = y then lexB xs ys else decide (x < y)
  | _, _ => false
section
variable {prog : Program} {w : World} {A : Around} {E : Value → Shared → Prop} {s : Shared}
end
end L2

namespace L2
open PySem PySem.Spec PyProof.Rows
/-! ### list(a dict) -/
section
variable {prog : Program} {w : World} {A : Around} {E : Value → Shared → Prop} {s : Shared} {κ : Type} [DecidableEq κ] {knd : KeyKind prog w κ}
end
end L2

namespace L2
open PySem PySem.Spec PyProof.Rows
/-! ### a set of small numbers, put in in any order -/
def ins (x : Nat) : List Nat → List Nat
  | [] => [x]
  | y :: l => if x < y then x :: y :: l else y :: ins x l
def posI (x : Nat) : List Nat → Nat
  | [] => 0
  | y :: l => if x < y then 0 else posI x l + 1
def tabI (led : Bool) (ns : List Nat) (n : Nat) : SetTable := { tab led ns with place := (ins n ns).toArray }
def tabAny (led : Bool) (ns : List Nat) (n : Nat) : Prop :=
  (tab led ns).freeSlot (n : Int) = some (n, false) ∧ (tab led ns).put n = (tabI led ns n, posI n ns) ∧ (tabI led ns n).fits (ns.length + 1) = true ∧ (tab led (ins n ns)).fits (ns.length + 1) = true ∧ hashInt (n : Int) = (n : Int) ∧
  (if (tabI led ns n).tooFull = true then (tabI led ns n).relaid ((ins n ns).map fun (k : Nat) => (k : Int)).toArray (SetTable.grown (ns.length + 1)) = some (tab led (ins n ns), (List.range (ns.length + 1)).toArray) else tabI led ns n = tab led (ins n ns))
instance tabAnyDec (led : Bool) (ns : List Nat) (n : Nat) : Decidable (tabAny led ns n) := by unfold tabAny; infer_instance
theorem tabAny_all : ∀ led : Bool, ∀ ns ∈ subs (List.range' 0 6), ∀ n, n < 6 → n ∉ ns → tabAny led ns n := by decide +kernel
theorem mem_ins {x y : Nat} : ∀ {l : List Nat}, y ∈ ins x l ↔ y = x ∨ y ∈ l
  | [] => by simp [ins]
  | z :: l => by
    unfold ins
    split
    · simp
    · rw [List.mem_cons, mem_ins, List.mem_cons]
      constructor
      · rintro (h | h | h)
        · exact .inr (.inl h)
        · exact .inl h
        · exact .inr (.inr h)
      · rintro (h | h | h)
        · exact .inr (.inl h)
        · exact .inl h
        · exact .inr (.inr h)
theorem ins_rise {x : Nat} : ∀ {l : List Nat}, l.Pairwise (· < ·) → x ∉ l → (ins x l).Pairwise (· < ·)
  | [], _, _ => by simp [ins]
  | z :: l, hp, hx => by
    have h := List.pairwise_cons.mp hp
    unfold ins
    split
    · next hlt =>
      refine List.pairwise_cons.mpr ⟨fun y hy => ?_, hp⟩
      rcases List.mem_cons.mp hy with rfl | hy
      · exact hlt
      · exact Nat.lt_trans hlt (h.1 y hy)
    · next hge =>
      refine List.pairwise_cons.mpr ⟨fun y hy => ?_, ins_rise h.2 fun z => hx (List.mem_cons_of_mem _ z)⟩
      rcases mem_ins.mp hy with rfl | hy
      · have : y ≠ z := fun e => hx (by rw [e]; exact List.mem_cons_self)
        omega
      · exact h.1 y hy
theorem pos_le (x : Nat) : ∀ l : List Nat, posI x l ≤ l.length
  | [] => Nat.le_refl _
  | z :: l => by
    unfold posI
    split
    · exact Nat.zero_le _
    · exact Nat.succ_le_succ (pos_le x l)
theorem sent_ins {e : Int × Value} {n : Nat} (he : SEnt e n) : ∀ {l : List (Int × Value)} {ns : List Nat}, Paired SEnt l ns → Paired SEnt (l.take (posI n ns) ++ e :: l.drop (posI n ns)) (ins n ns)
  | [], [], .nil => .cons he .nil
  | x :: l, y :: ns, .cons h t => by
    unfold posI ins
    split
    · exact .cons he (.cons h t)
    · rw [List.take_succ_cons, List.drop_succ_cons]
      exact .cons h (sent_ins he t)
theorem insertAt_list {α : Type} (xs : Array α) (p : Nat) (x : α) (h : p ≤ xs.size) : (SetTable.insertAt xs p x).toList = xs.toList.take p ++ x :: xs.toList.drop p := by
  unfold SetTable.insertAt
  have e1 : (xs.extract 0 p).toList = xs.toList.take p := by simp
  have e2 : (xs.extract p xs.size).toList = xs.toList.drop p := by
    rw [Array.toList_extract]
    simp [List.extract]
    exact List.take_of_length_le (by rw [List.length_drop, Array.length_toList]; exact Nat.le_refl _)
  rw [Array.toList_append, Array.toList_push, e1, e2, List.append_assoc]
  rfl
theorem insertAt_size {α : Type} (xs : Array α) (p : Nat) (x : α) (h : p ≤ xs.size) : (SetTable.insertAt xs p x).size = xs.size + 1 := by
  rw [← Array.length_toList, insertAt_list xs p x h, List.length_append, List.length_cons, List.length_take, List.length_drop, Array.length_toList]
  omega
theorem lay_any {led : Bool} {ns : List Nat} {n : Nat} {es : Array (Int × Value)} {x : Value} (tn : tabAny led ns n) (hs : es.size = ns.length) :
    layNew (tab led ns) es (n : Int) x = (SetTable.insertAt es (posI n ns) ((n : Int), x), tabI led ns n, false, false) := by
  obtain ⟨h1, h2, h3, _⟩ := tn
  unfold layNew
  rw [h1]
  dsimp only
  rw [h2]
  dsimp only
  have hz : (SetTable.insertAt es (posI n ns) ((n : Int), x)).size = ns.length + 1 := by rw [insertAt_size _ _ _ (by rw [hs]; exact pos_le n ns), hs]
  unfold SetTable.orStandIn
  rw [hz, h3]
  rfl
section
variable {prog : Program} {w : World} {A : Around} {E : Value → Shared → Prop} {s : Shared}
/-- what is in the set behind one more -/
def addS (ns : List Nat) (n : Nat) : List Nat := if n ∈ ns then ns else ins n ns
structure Set6 (ns : List Nat) : Prop where
  rise : ns.Pairwise (· < ·)
  lt : ∀ x ∈ ns, x < 6
theorem Set6.add {ns : List Nat} (h : Set6 ns) {n : Nat} (hn : n < 6) : Set6 (addS ns n) := by
  unfold addS
  split
  · exact h
  · next hx =>
    refine ⟨ins_rise h.rise hx, fun x hx' => ?_⟩
    rcases mem_ins.mp hx' with rfl | z
    · exact hn
    · exact h.lt x z
theorem set_any {a : Addr} {led : Bool} {ns : List Nat} {n : Nat} {tk : Tok} {Q : Bool → Shared → Prop} (hS : SetR s.heap a led ns) (h6 : Set6 ns) (hn : n < 6)
    (h : ∀ b h', Heap.SameBut a s.heap h' → SetR h' a led (addS ns n) → Q b { s with heap := h' }) :
    wpAny (model prog w) A (setAddHashed a (.int (n : Int) tk) (hashInt (n : Int))) Q E s := by
  have sub6 := rise_sub 6 0 ns h6.rise fun x hx => ⟨Nat.zero_le _, by have := h6.lt x hx; omega⟩
  have hlen : ns.length ≤ 6 := by
    have := sub6.length_le
    rw [List.length_range'] at this
    exact this
  have hash6 : ∀ m, m < 6 → hashInt ((m : Nat) : Int) = (m : Int) := by decide +kernel
  have hhash : ∀ m ∈ ns, hashInt (m : Int) = (m : Int) := fun m hm => hash6 m (h6.lt m hm)
  obtain ⟨es, ep, ho, hp⟩ := id hS
  have hz : es.size = ns.length := by rw [← Array.length_toList, hp.length]
  have hfit : (tab led ns).fits es.size = true := by
    rw [hz]
    exact (tab_rises led h6.rise fun x hx => Nat.lt_trans (h6.lt x hx) (by decide)).1
  have hel : ElemsOf (intKind prog w) es.toList := elems_sent hp hhash
  have hsb : es.size < scanBound := by
    have : scanBound = 4096 := rfl
    omega
  unfold setAddHashed setAddHashedIn
  refine wpAny_holding (wpAny_bind (wpAny_setState_of ho rfl hfit ?_))
  dsimp only
  rw [byScan_of (knd := intKind prog w) rfl hsb hel]
  simp only [↓reduceIte]
  unfold setAddByScan
  refine wpAny_bind (wpAny_bind (wpAny_rule (wpAny_bind ?_)))
  refine wpAny_setScan_of (knd := intKind prog w) (k := (n : Int)) (by simp [intKind, Value.isInt]) ho rfl hfit hel ?_
  by_cases hmem : n ∈ ns
  · have e0 : addS ns n = ns := by unfold addS; rw [if_pos hmem]
    rw [e0] at h
    cases hf : es.toList.findIdx? (fun e => (intKind prog w).is (n : Int) e.2) with
    | none =>
      rw [List.findIdx?_eq_none_iff] at hf
      obtain ⟨i, hi, e⟩ := List.getElem_of_mem hmem
      obtain ⟨x, hx, t, ex⟩ := Paired.getR hp (List.getElem?_eq_getElem hi)
      have := hf x (List.mem_of_getElem? hx)
      rw [ex, e] at this
      have t2 : (intKind prog w).is (n : Int) (Value.int (n : Int) t) = true := by simp [intKind, Value.isInt]
      rw [t2] at this
      cases this
    | some j =>
      dsimp only
      exact wpAny_pure (wpAny_pure (h false s.heap (Heap.SameBut.refl _ _) hS))
  have tn : tabAny led ns n := tabAny_all led ns (subs_of sub6) n hn hmem
  have e0 : addS ns n = ins n ns := by unfold addS; rw [if_neg hmem]
  rw [e0] at h
  have hno : es.toList.findIdx? (fun e => (intKind prog w).is (n : Int) e.2) = none := by
    rw [List.findIdx?_eq_none_iff]
    intro e he
    obtain ⟨m, hm, t, rfl⟩ := sent_mem hp e he
    have hne : n ≠ m := fun z => hmem (z ▸ hm)
    show Value.isInt (n : Int) (.int (m : Int) t) = false
    simp [Value.isInt]
    omega
  rw [hno]
  dsimp only
  rw [tn.2.2.2.2.1, lay_any tn hz]
  dsimp only
  refine wpAny_bind (wpAny_pure ?_)
  rw [show (tabI led ns n).plain = true from rfl, if_pos rfl]
  refine wpAny_bind ?_
  rw [hashByValue_scannable 8 (x := .int (n : Int) tk) rfl]
  refine wpAny_pure ?_
  rw [if_pos (show plainKind (.int (n : Int) tk) = true from rfl)]
  have hpl : posI n ns ≤ es.size := by rw [hz]; exact pos_le n ns
  have hp1 : Paired SEnt (SetTable.insertAt es (posI n ns) ((n : Int), .int (n : Int) tk)).toList (ins n ns) := by
    rw [insertAt_list _ _ _ hpl]
    exact sent_ins ⟨tk, rfl⟩ hp
  have hz1 : (SetTable.insertAt es (posI n ns) ((n : Int), Value.int (n : Int) tk)).size = ns.length + 1 := by rw [insertAt_size _ _ _ hpl, hz]
  generalize SetTable.insertAt es (posI n ns) ((n : Int), Value.int (n : Int) tk) = es1 at hp1 hz1 ⊢
  have hline : es1.size ≤ sizeLine := by rw [hz1, sizeLine_eq]; omega
  refine wpAny_bind (wpAny_storeSet_of (ep := ep) ho rfl ?_ hline)
  have upd1 : ∀ (hp0 : Heap) (e0 e1 : Array (Int × Value)) (t0 t1 : SetTable) (p0 : Nat), hp0.get? a = some (setObj e0 p0 t0) → (hp0.update a (Obj.putSet e1 t1)).get? a = some (setObj e1 (p0 + 1) t1) := by
    intro hp0 e0 e1 t0 t1 p0 hg
    have := Heap.get?_update_self (Obj.putSet e1 t1) hg (by rw [putSet_of e1 t1 rfl]; rfl)
    rw [putSet_of e1 t1 rfl] at this
    exact this
  have g1 := upd1 s.heap es es1 (tab led ns) (tabI led ns n) ep ho
  have sb1 := Heap.SameBut.update s.heap a (Obj.putSet es1 (tabI led ns n))
  have last := tn.2.2.2.2.2
  by_cases hfull : (tabI led ns n).tooFull = true
  · rw [if_pos hfull] at last
    have er : relayAll (tabI led ns n) es1 (SetTable.grown es1.size) = (es1, tab led (ins n ns), false) := by
      have hz2 : (ns.length + 1) = es1.size := hz1.symm
      refine relay_all ?_ (by rw [hz1]; exact tn.2.2.2.1)
      have : es1.map (·.1) = ((ins n ns).map fun (k : Nat) => (k : Int)).toArray := by
        apply Array.ext'
        rw [Array.toList_map, sent_fst hp1]
      rw [this, hz1]
      exact last
    rw [hfull]
    simp only [Bool.not_false, Bool.true_and, ↓reduceIte]
    rw [er]
    dsimp only
    refine wpAny_bind (wpAny_pure ?_)
    refine wpAny_bind (wpAny_storeSet_of g1 rfl ?_ hline)
    refine wpAny_pure (wpAny_pure ?_)
    exact h _ _ (sb1.trans (Heap.SameBut.update _ a _)) ⟨_, _, upd1 _ _ _ _ _ _ g1, hp1⟩
  · rw [if_neg hfull] at last
    rw [if_neg (by simpa using hfull)]
    refine wpAny_pure (wpAny_pure ?_)
    rw [last] at g1 sb1 ⊢
    exact h _ _ sb1 ⟨_, _, g1, hp1⟩
end
end L2

namespace L2
open PySem PySem.Spec PyProof.Rows
/-- what comes of putting in one by one -/
def allS (ns : List Nat) : List Nat := ns.foldl addS []
theorem allS_six {ns : List Nat} (h : ∀ x ∈ ns, x < 6) : Set6 (allS ns) := by
  have go : ∀ (l : List Nat) (acc : List Nat), Set6 acc → (∀ x ∈ l, x < 6) → Set6 (l.foldl addS acc) := by
    intro l
    induction l with
    | nil => intro acc ha _; exact ha
    | cons x l ih =>
      intro acc ha hl
      rw [List.foldl_cons]
      exact ih _ (ha.add (hl x List.mem_cons_self)) fun y hy => hl y (List.mem_cons_of_mem _ hy)
  exact go ns [] ⟨List.Pairwise.nil, fun x hx => by cases hx⟩ h
theorem mem_addS {ns : List Nat} {n x : Nat} : x ∈ addS ns n ↔ x = n ∨ x ∈ ns := by
  unfold addS
  split
  · next h => exact ⟨.inr, fun z => z.elim (fun e => e ▸ h) id⟩
  · exact mem_ins
theorem mem_allS {ns : List Nat} {x : Nat} : x ∈ allS ns ↔ x ∈ ns := by
  have go : ∀ (l : List Nat) (acc : List Nat), x ∈ l.foldl addS acc ↔ x ∈ l ∨ x ∈ acc := by
    intro l
    induction l with
    | nil => intro acc; simp
    | cons y l ih =>
      intro acc
      rw [List.foldl_cons, ih, mem_addS, List.mem_cons]
      constructor
      · rintro (h | h | h)
        · exact .inl (.inr h)
        · exact .inl (.inl h)
        · exact .inr h
      · rintro ((h | h) | h)
        · exact .inr (.inl h)
        · exact .inl h
        · exact .inr (.inr h)
  have := go ns []
  unfold allS
  rw [this]
  simp
theorem allS_take {ns : List Nat} {i : Nat} (h : i < ns.length) : allS (ns.take (i + 1)) = addS (allS (ns.take i)) ns[i] := by
  unfold allS
  rw [take_succ_rise h, List.foldl_append]
  rfl
section
variable {prog : Program} {w : World} {A : Around} {R : Result → Shared → Prop} {I : Addr} {fp wr : List Addr} {G : Array GenState → Array GenState → Prop} {P : Nat → Value → Prop} {St : Nat → Shared → Prop}
theorem set_loopG {ns : List Nat} (W : WalksS prog w A.in1 I fp wr G ns.length P St) (S : Addr) (hf : S ∉ fp) (led : Bool)
    (hv : ∀ i v, P i v → ∃ t, v = .int ((ns.getD i 0 : Nat) : Int) t) (h6 : ∀ x ∈ ns, x < 6) :
    ∀ (k i : Nat) (s : Shared), i + k = ns.length → St i s → SetR s.heap S led (allS (ns.take i)) →
      (∀ s', Moved (S :: wr) G s s' → SetR s'.heap S led (allS ns) → R (.ok (.ret .none)) s') →
      codeAny (model prog w) A (.builtin "set.update.loop" ⟨[.ref S, .ref I], []⟩) R s := by
  have hw : S ∉ wr := fun x => hf (W.sub _ x)
  have more : ∀ b ∈ wr, b ∈ S :: wr := fun b x => List.mem_cons_of_mem _ x
  intro k
  induction k with
  | zero =>
    intro i s e st hS q
    have e : i = ns.length := by omega
    subst e
    rw [List.take_length] at hS
    refine codeAny_builtin PyProof.Rows.F.entry_set_update_loop ?_
    rw [Around.under_plainId PyProof.Rows.F.plain_set_update_loop _]
    refine wpAny_bind (W.done s _ _ st fun s' m => ?_)
    exact wpAny_pure (q s' (m.mono more) (hS.at fun o e => m.heap S o hw e))
  | succ k ih =>
    intro i s e st hS q
    have hi : i < ns.length := by omega
    refine codeAny_builtin PyProof.Rows.F.entry_set_update_loop ?_
    rw [Around.under_plainId PyProof.Rows.F.plain_set_update_loop _]
    refine wpAny_bind (W.item i s _ _ hi st fun v s1 hP st1 m => ?_)
    obtain ⟨t, rfl⟩ := hv i v hP
    have en : ns.getD i 0 = ns[i] := by rw [List.getD_eq_getElem?_getD, List.getElem?_eq_getElem hi]; rfl
    rw [en]
    have hS1 : SetR s1.heap S led (allS (ns.take i)) := hS.at fun o e => m.heap S o hw e
    refine wpAny_bind (m := holding _ (setAdd S _)) (wpAny_holding ?_)
    unfold setAdd
    refine wpAny_holding (wpAny_bind (wpAny_pyHash_int ?_))
    refine set_any (s := { s1 with toks := s1.toks + 1 }) hS1 (allS_six fun x hx => h6 x (List.mem_of_mem_take hx)) (h6 _ (List.getElem_mem hi)) fun b h' sb hS2 => ?_
    rw [← allS_take hi] at hS2
    refine wpAny_pure ⟨plainId_quiet PyProof.Rows.F.plain_set_update_loop _, ih (i + 1) _ (by omega) (W.frame _ s1 _ _ st1 (Nat.le_succ _) fun b hb o e => ?_) hS2 fun s3 m3 hS3 => ?_⟩
    · rw [sb.2 b fun x : b = S => hf (x ▸ hb)]; exact e
    · refine q s3 (Moved.trans W.gtrans ((m.mono more).then_heap (Nat.le_succ _) fun b o hb e => ?_) m3) hS3
      rw [sb.2 b fun x : b = S => hb (x ▸ List.mem_cons_self)]; exact e
end
section
variable {prog : Program} {w : World} {A : Around} {E : Value → Shared → Prop} {s : Shared}
theorem call_setG {l : Addr} {items : Array Value} {ns : List Nat} {Q : Value → Shared → Prop} (hh : A.handled = none) (hl : s.heap.IsList l items) (hi : IntsAre items.toList (ns.map fun (k : Nat) => (k : Int)))
    (h6 : ∀ x ∈ ns, x < 6)
    (h : ∀ (h' : Heap) (tk : Nat), SetR h' s.heap.objs.size (!byText w) (allS ns) → (∀ b o, s.heap.get? b = some o → h'.get? b = some o) → Q (.ref s.heap.objs.size) { s with heap := h', toks := tk }) :
    wpAny (model prog w) A (call (.type "set") [.ref l]) Q E s := by
  refine set_made (Q1 := fun obj s1 => obj = .ref s.heap.objs.size ∧ s1 = { s with heap := s.heap.push (setObj #[] 0 (tab (!byText w) [])) }) (set_new _ ⟨rfl, rfl⟩) fun obj s1 e1 => ?_
  obtain ⟨rfl, rfl⟩ := e1
  have hS : (s.heap.push (setObj #[] 0 (tab (!byText w) []))).get? s.heap.objs.size = some (setObj #[] 0 (tab (!byText w) [])) := Heap.get?_push_size _ rfl
  refine ⟨⟨_, hS, rfl⟩, ?_⟩
  have hz : items.size = ns.length := by
    have := IntsAre.length hi
    simpa using this
  obtain ⟨ol, gl, cl, nl, dl⟩ := id hl
  have hlt : l < s.heap.objs.size := Heap.lt_size gl
  obtain ⟨ocls, odict, odata, oslots⟩ := ol
  simp only at cl dl
  subst cl
  subst dl
  have gl1 : (s.heap.push (setObj #[] 0 (tab (!byText w) []))).get? l = some { cls := .type "list", dict := odict, data := .seq items nl, slots := oslots } := Heap.get?_push_of_some _ gl
  have n1 := PySem.F.sub_list_set
  have n2 := PySem.F.sub_list_frozenset
  have n3 : (Value.type "list" == Value.type "dict") = false := by decide
  have hl1 : (s.heap.push (setObj #[] 0 (tab (!byText w) []))).IsList l items := ⟨_, gl1, rfl, nl, rfl⟩
  unfold Builtin.«set.__init__» noKeywords Builtin.Frozenset.updateFrom
  generalize hPI : pyIter = PI
  wp_walk
  subst hPI
  refine wpAny_pyIter_list hl1 (wpAny_bind (wpAny_runValue ?_))
  have hz2 : (s.heap.push (setObj #[] 0 (tab (!byText w) []))).objs.size = s.heap.objs.size + 1 := size_push' _ _
  have hh3 : A.in1.in1.in1.handled = none := by simp [hh]
  have hne : l ≠ (s.heap.push (setObj #[] 0 (tab (!byText w) []))).objs.size := by rw [hz2]; exact Nat.ne_of_lt (Nat.lt_succ_of_lt hlt)
  have hval : ∀ (i : Nat) (v : Value), items[i]? = some v → ∃ t, v = .int ((ns.getD i 0 : Nat) : Int) t := fun i v hv => by
    obtain ⟨t, e⟩ := IntsAre.int_at hi i v (by rw [Array.getElem?_toList]; exact hv)
    refine ⟨t, e.trans ?_⟩
    rw [List.getD_eq_getElem?_getD, List.getD_eq_getElem?_getD, List.getElem?_map]
    cases ns[i]? <;> rfl
  have W := (Walks.list (prog := prog) (w := w) hh3 _ l hne items).toS
  rw [hz] at W
  refine set_loopG (ns := ns) W s.heap.objs.size (by rw [hz2]; simp only [List.mem_cons, List.not_mem_nil, or_false, not_or]; exact ⟨Nat.ne_of_lt (Nat.lt_succ_self _), Nat.ne_of_gt hlt⟩) (!byText w) hval h6 ns.length 0 _ (by omega) ⟨⟨_, Heap.get?_push_size _ rfl, rfl, rfl⟩, hl1.push _⟩ ⟨#[], 0, Heap.get?_push_of_some _ hS, .nil⟩ fun s' m hS' => ?_
  obtain ⟨h', g', d', tk', os'⟩ := s'
  have eg : g' = s.gens := m.gens
  have ed : d' = s.drawn := m.drawn
  have eo : os' = s.os := m.os
  subst eg; subst ed; subst eo
  refine wpAny_pure (wpAny_pure ⟨rfl, h h' tk' hS' fun b o e => ?_⟩)
  have hb := Heap.lt_size e
  refine m.heap b o ?_ (Heap.get?_push_of_some _ (Heap.get?_push_of_some _ e))
  rw [hz2]
  simp only [List.mem_cons, List.not_mem_nil, or_false, not_or]
  exact ⟨Nat.ne_of_lt hb, Nat.ne_of_lt (Nat.lt_succ_of_lt hb)⟩
end
def rSetG (w : World) (K : PySem.W.Frag) : List V → Hp → VK → Prop := fun xs H Q => ∃ (p : Addr) (ns : List Nat), xs = [.ref p] ∧ SqL K H p ((zs ns).map V.int) ∧ (∀ x ∈ ns, x < 6) ∧ ∀ l, H l = none → Q (.ref l) (upd H l (setX w l (allS ns)))
theorem call_setGr {X : Cx} (w : World) (K : PySem.W.Frag) (hc : X.calm = true) (hw : X.w = w := by rfl) (hK : X.K = K := by rfl) : CallR X (.type "set") (rSetG w K) := by
  subst hw hK
  intro pins s σ H xs us Q I r h
  obtain ⟨p, ns, rfl, hq, h6, q⟩ := h
  obtain ⟨u, rfl, rx⟩ := vals1 r
  cases rx
  obtain ⟨its, rv, ht, hz⟩ := I.list hq
  refine call_setG (I.ok.hd hc) ht.isList (ns := ns) (by simpa [zs] using intsAre_of rv) h6 fun h' tk hS keep => ?_
  refine ⟨.ref s.heap.objs.size, _, I.laid (t' := tk) (o := setX X.w s.heap.objs.size (allS ns)) keep (Nat.le_refl _) ?_, rfl, q _ (I.hok.fresh (Nat.le_refl _))⟩
  refine ⟨hS, ?_, fun h1 h2 a b => a.at b⟩
  obtain ⟨es, ep, ho, _⟩ := hS
  exact ⟨_, ho⟩
theorem Set6.small {ns : List Nat} (h : Set6 ns) : Small8 ns := ⟨h.rise, fun x hx => Nat.lt_trans (h.lt x hx) (by decide)⟩
end L2

namespace L2
open PySem PySem.Spec PyProof.Rows
/-! ### max(t, default=-1), t a tuple of ints from 0 on -/
def mxl (l : List Int) : Int := l.foldl (fun a x => if x > a then x else a) (-1)
theorem mxl_app (l : List Int) (n : Int) : mxl (l ++ [n]) = if n > mxl l then n else mxl l := by
  unfold mxl
  rw [List.foldl_append]
  rfl
def Best (acc : Array Value) (l : List Int) : Prop := (l = [] ∧ acc = #[]) ∨ (l ≠ [] ∧ ∃ t u, acc = #[Value.int (mxl l) t, Value.int (mxl l) u])
abbrev lstO (acc : Array Value) (c : Nat) : Obj := { cls := .type "list", dict := none, data := .seq acc c, slots := #[] }
section
variable {prog : Program} {w : World} {A : Around} {E : Value → Shared → Prop} {s : Shared} {R : Result → Shared → Prop}
theorem maxd_loop (hh : A.in1.handled = none) {it tp S : Addr} (h1 : S ≠ it) (h2 : S ≠ tp) (h3 : tp ≠ it) {items : List Value} {ns : List Int} (hi : IntsAre items ns) (h0 : ∀ x ∈ ns, 0 ≤ x) {td : Tok} :
    ∀ (m i : Nat) (s : Shared) (acc : Array Value) (c : Nat), ns.length - i = m → i ≤ ns.length → s.heap.IsTupleIter it tp i → s.heap.IsTuple tp items.toArray → s.heap.get? S = some (lstO acc c) → Best acc (ns.take i) →
      (∀ (t : Tok) (h' : Heap) (tk : Nat), (∀ b o, b ≠ it → b ≠ S → s.heap.get? b = some o → h'.get? b = some o) → R (.ok (.ret (.int (mxl ns) t))) { s with heap := h', toks := tk }) →
      codeAny (model prog w) A (.builtin "max.loop" ⟨[.ref it, .none, .ref S], [(Str.ofString "default", .int (-1) td)]⟩) R s := by
  have nm : (toString "max" ++ toString ".loop" : String) = "max.loop" := by decide
  have hlen := intsAre_len hi
  intro m
  induction m with
  | zero =>
    intro i s acc c e hle st ht hS hB k
    have ei : i = ns.length := by omega
    rw [ei, List.take_length] at hB
    refine codeAny_builtin F.entry_max_loop ?_
    rw [Around.under_plainId F.plain_max_loop _]
    show wpAny _ A.in1 (seqItems? (.ref S) >>= _) _ _ s
    refine wpAny_bind (wpAny_seqItems hS rfl ?_)
    show wpAny _ A.in1 (tryCatch (pyNext (.ref it)) _ >>= _) _ _ s
    refine wpAny_bind (wpAny_tryCatch (wpAny_pyNext_tuple_end hh st ht (by simp; omega) fun h' eb => ?_))
    have hS' := eb S _ h1 hS
    rcases hB with ⟨hn, ha⟩ | ⟨hn, t, u, ha⟩
    · subst ha
      refine wpAny_bind (wpAny_rule (wpAny_pure ?_))
      have := k td h' s.toks (fun b o hb _ e => eb b o hb e)
      rw [hn] at this
      exact this
    · subst ha
      show wpAny _ A.in1 (updateSeq S (fun _ => #[]) >>= _) _ _ _
      refine wpAny_bind ?_
      refine wpAny_updateSeq hS' rfl (wpAny_bind (wpAny_letGo (wpAny_pure ?_)))
      exact k t _ s.toks fun b o hb hbS e => (Heap.get?_update_other _ _ (Ne.symm hbS)).trans (eb b o hb e)
  | succ m ih =>
    intro i s acc c e hle st ht hS hB k
    have hlt : i < ns.length := by omega
    obtain ⟨tk, hx⟩ := intsAre_at hi i hlt
    have hn0 := h0 _ (List.getElem_mem hlt)
    have htk : ns.take (i + 1) = ns.take i ++ [ns[i]] := (List.take_append_getElem hlt).symm
    generalize ns[i] = n at hx hn0 htk
    refine codeAny_builtin F.entry_max_loop ?_
    rw [Around.under_plainId F.plain_max_loop _]
    show wpAny _ A.in1 (seqItems? (.ref S) >>= _) _ _ s
    refine wpAny_bind (wpAny_seqItems hS rfl ?_)
    show wpAny _ A.in1 (tryCatch (pyNext (.ref it)) _ >>= _) _ _ s
    refine wpAny_bind (wpAny_tryCatch (wpAny_pyNext_tuple_item st ht (x := .int n tk) (by simpa using hx) fun h' st' sb => ?_))
    have hS' : h'.get? S = some (lstO acc c) := (sb.2 S h1).trans hS
    have ht' : h'.IsTuple tp items.toArray := let ⟨o, ho, r⟩ := ht; ⟨o, (sb.2 tp h3).trans ho, r⟩
    obtain ⟨c1, hu⟩ : ∃ c1, (h'.update S (Obj.mapSeq fun _ => #[Value.int n tk, Value.int n tk])).get? S = some (lstO #[.int n tk, .int n tk] c1) := ⟨_, get?_update_seq (c := "list") hS' fun _ => #[Value.int n tk, Value.int n tk]⟩
    have go : ∀ (acc' : Array Value) (t1 : Tok) (t2 : Tok), acc' = #[Value.int (mxl (ns.take (i + 1))) t1, Value.int (mxl (ns.take (i + 1))) t2] →
        ∀ (h2' : Heap) (c' : Nat), h2'.get? S = some (lstO acc' c') → Heap.SameBut S h' h2' → ∀ tk', codeAny (model prog w) A (.builtin "max.loop" ⟨[.ref it, .none, .ref S], [(Str.ofString "default", .int (-1) td)]⟩) R { s with heap := h2', toks := tk' } := by
      intro acc' t1 t2 ea h2' c' hS2 sb2 tk'
      
      refine ih (i + 1) _ acc' c' (by omega) hlt ?_ ?_ hS2 (.inr ⟨by rw [htk]; simp, t1, t2, ea⟩) fun t h3' tk3 kp => ?_
      · obtain ⟨o, ho, r⟩ := st'
        exact ⟨o, (sb2.2 it (Ne.symm h1)).trans ho, r⟩
      · obtain ⟨o, ho, r⟩ := ht'
        exact ⟨o, (sb2.2 tp (Ne.symm h2)).trans ho, r⟩
      · exact k t h3' tk3 fun b o hb hbS e => kp b o hb hbS ((sb2.2 b hbS).trans ((sb.2 b hb).trans e))
    rcases hB with ⟨hn, ha⟩ | ⟨hn, t, u, ha⟩
    · subst ha
      have em : mxl (ns.take (i + 1)) = n := by
        rw [htk, hn]
        show (if n > -1 then n else -1) = n
        rw [if_pos (by omega)]
      show wpAny _ A.in1 (updateSeq S (fun _ => #[Value.int n tk, Value.int n tk]) >>= _) _ _ _
      refine wpAny_bind ?_
      refine wpAny_updateSeq hS' rfl ?_
      rw [nm]
      refine wpAny_pure ⟨plainId_quiet F.plain_max_loop _, go #[.int n tk, .int n tk] tk tk (by rw [em]) _ c1 hu (Heap.SameBut.update _ _ _) _⟩
    · subst ha
      show wpAny _ A.in1 (tryCatch (holding [Value.int n tk, Value.int n tk] (richCompare .Gt (.int n tk) (.int (mxl (ns.take i)) u) >>= _)) _ >>= _) _ _ _
      refine wpAny_bind (wpAny_tryCatch (wpAny_holding (wpAny_bind (gt_int (a := n) (b := mxl (ns.take i)) ?_))))
      refine wpAny_bind (wpAny_holding (wpAny_truthy_bool ?_))
      refine wpAny_bind (wpAny_letGo (wpAny_pure ?_))
      have em := mxl_app (ns.take i) n
      rw [← htk] at em
      by_cases hb : n > mxl (ns.take i)
      · rw [if_pos hb] at em
        rw [decide_eq_true hb]
        simp only [if_true]
        refine wpAny_bind ?_
        refine wpAny_updateSeq hS' rfl (wpAny_bind (wpAny_letGo ?_))
        rw [nm]
        refine wpAny_pure ⟨plainId_quiet F.plain_max_loop _, go #[.int n tk, .int n tk] tk tk (by rw [em]) _ c1 hu (Heap.SameBut.update _ _ _) _⟩
      · rw [if_neg hb] at em
        rw [decide_eq_false hb]
        simp only [Bool.false_eq_true, if_false]
        refine wpAny_bind (wpAny_letGo ?_)
        rw [nm]
        exact wpAny_pure ⟨plainId_quiet F.plain_max_loop _, go _ t u (by rw [em]) _ _ hS' (Heap.SameBut.refl _ _) _⟩
theorem call_maxd {t : Addr} {items : List Value} {ns : List Int} {td : Tok} {Q : Value → Shared → Prop} (hh : A.handled = none) (ht : s.heap.IsTuple t items.toArray) (hi : IntsAre items ns) (h0 : ∀ x ∈ ns, 0 ≤ x)
    (h : ∀ (tk1 : Tok) (h' : Heap) (tk : Nat), (∀ b o, s.heap.get? b = some o → h'.get? b = some o) → Q (.int (mxl ns) tk1) { s with heap := h', toks := tk }) :
    wpAny (model prog w) A (call (.builtin "max") [.ref t] [(Str.ofString "default", .int (-1) td)]) Q E s := by
  have nm : (toString "max" ++ toString ".loop" : String) = "max.loop" := by decide
  refine kmk_tree F.kind_max F.plain_max F.entry_max (by unfold argsOk; kernel_rfl) ?_
  show wpAny _ A.in1 (Builtin.Builtins.bindParams "max" ["key", "default"] 0 ⟨[], [(Str.ofString "default", .int (-1) td)]⟩ >>= _) _ _ s
  refine wpAny_bind (wpAny_of_eq (show Builtin.Builtins.bindParams "max" ["key", "default"] 0 ⟨[], [(Str.ofString "default", .int (-1) td)]⟩ = pure [none, some (.int (-1) td)] from rfl) ?_)
  refine wpAny_bind (wpAny_pure ?_)
  refine wpAny_bind (wpAny_pyIter_tuple ht ?_)
  refine wpAny_bind (wpAny_newList ?_ (Nat.zero_le _))
  rw [nm]
  have htl : t < s.heap.objs.size := let ⟨o, ho, _⟩ := ht; Heap.lt_size ho
  have hz : (s.heap.push { cls := .type "tuple_iterator", data := .fields #[.ref t, .int 0 0] }).objs.size = s.heap.objs.size + 1 := Heap.size_push ..
  have keep : ∀ b o, s.heap.get? b = some o → ((s.heap.push { cls := .type "tuple_iterator", data := .fields #[.ref t, .int 0 0] }).push (lstO #[] 0)).get? b = some o := fun b o e => Heap.get?_push_of_some _ (Heap.get?_push_of_some _ e)
  have hS : ((s.heap.push { cls := .type "tuple_iterator", data := .fields #[.ref t, .int 0 0] }).push (lstO #[] 0)).get? (s.heap.objs.size + 1) = some (lstO #[] 0) := by
    rw [← hz]
    exact Heap.get?_push_size _ rfl
  refine wpAny_pure ⟨plainId_quiet F.plain_max_loop _, ?_⟩
  rw [hz]
  refine maxd_loop (s := { s with heap := (s.heap.push { cls := .type "tuple_iterator", data := .fields #[.ref t, .int 0 0] }).push (lstO #[] 0) }) (by simpa using hh) (Nat.succ_ne_self _) (Nat.ne_of_gt (Nat.lt_succ_of_lt htl)) (Nat.ne_of_lt htl) hi h0 ns.length 0 #[] 0 (by omega) (Nat.zero_le _)
    ⟨_, Heap.get?_push_of_some _ (Heap.get?_push_size _ rfl), rfl, rfl⟩ (let ⟨o, ho, r⟩ := ht; ⟨o, keep _ _ ho, r⟩) hS (.inl ⟨rfl, rfl⟩) fun tk1 h' tk kp => ?_
  exact h tk1 h' tk fun b o e => kp b o (Nat.ne_of_lt (Heap.lt_size e)) (Nat.ne_of_lt (Nat.lt_succ_of_lt (Heap.lt_size e))) (keep b o e)
end
/-- max(e, default=d) -/
def tMaxD (t tk : TA) : TE := fun σ H Q => t σ H fun xs H1 => tk σ H1 fun ys H2 => ∃ (p : Addr) (ns : List Int), xs = [.ref p] ∧ ys = [.int (-1)] ∧ H2 p = some (.tup (ns.map V.int)) ∧ (∀ z ∈ ns, 0 ≤ z) ∧ Q (.int (mxl ns)) H2
theorem pe_maxd {X : Cx} {e d : Expr} {t tk : TA} {p pos kpos : Pos} (hc : X.calm = true) (hg : Gl X "max") (hm : X.mg "max" = none) (ha : PA X [e] t) (hd : PK X [⟨some "default", d, kpos⟩] tk)
    (h1 : backTo pos (starEach [e] X.env) = (false, eval e X.env) :: backTo pos (starEach [] X.env) := by rfl) (hpl : (backTo pos (starEach [e] X.env)).any (·.1) = false := by rfl) :
    PE X (.Call (.Name "max" p) [e] [⟨some "default", d, kpos⟩] pos) (tMaxD t tk) := by
  intro pins s σ H Q I h
  refine wpAny_Call_Name_kw (ld_blt I hg hm boot_max ?_ (by decide) (by decide))
  refine callWith_kw ?_ h1 hpl
  refine thn (ha pos pins s σ H _ I h) fun us s1 ⟨xs, H1, I1, r1, q1⟩ => ?_
  refine thn (hd pos pins s1 σ H1 _ I1 q1) fun ws s2 ⟨ys, H2, I2, r2, q2⟩ => ?_
  obtain ⟨a, ns, rfl, rfl, ha2, h0, q⟩ := q2
  obtain ⟨u, rfl, ru⟩ := r1.one
  obtain ⟨w', rfl, t, rfl⟩ := r2.one
  cases ru
  obtain ⟨z, its, rv, pl⟩ := I2.hok a _ ha2
  have pl : IsTupN s2.heap a its.toArray := pl
  show wpAny (model X.prog X.w) X.A (call (.builtin "max") [.ref a] [(Str.ofString "default", .int (-1) t)]) _ _ s2
  refine call_maxd (I2.ok.hd hc) pl.is (intsAre_of rv) h0 fun tk1 h' tk' kp => ?_
  exact ⟨.int (mxl ns), H2, I2.kept (t' := tk') kp, ⟨tk1, rfl⟩, q⟩
end L2

namespace L2
open PySem PySem.Spec PyProof.Rows PySem.W SeqAt
/-! ### a tuple of ints below another of the same length -/
theorem tuple_ltAt (l b : Addr) (items items2 : List Value) (n n2 : Nat) (dd dd2 : Option Addr) (sl sl2 : Array (Option Value)) (xs ys : List Int) (hi : IntsAre items xs) (hi2 : IntsAre items2 ys) (hlen : xs.length = ys.length) :
    Meets (Builtin.«tuple.__lt__» ⟨[.ref l, .ref b], []⟩)
      (fun A R s => s.heap.get? l = some { cls := .type "tuple", dict := dd, data := .seq items.toArray n, slots := sl } ∧ s.heap.get? b = some { cls := .type "tuple", dict := dd2, data := .seq items2.toArray n2, slots := sl2 } ∧
        R (.ok (.ret (.bool (lexB xs ys)))) s) :=
  .of_wp fun prog w A R s h => by
    obtain ⟨hp, g, d, tk, os⟩ := s; obtain ⟨hl, hb, h⟩ := h
    have f2 := AutoSeq1.sub_tuple_tuple
    have hl1 := intsAre_len hi
    have hl2 := intsAre_len hi2
    have hZ : (items.zip items2).length = xs.length := by simp; omega
    wp_walk using wpAny_loadPart' hl, wpAny_loadPart' hb, wpAny_forIn_list _ (fun rest b s' => b.1 = none ∧ s' = ⟨hp, g, d, tk, os⟩ ∧ ∃ i, rest = (items.zip items2).drop i ∧
      R (.ok (.ret (.bool (lexB (xs.drop i) (ys.drop i))))) ⟨hp, g, d, tk, os⟩) _
    case turn =>
      rintro ⟨y, x⟩ rest b s' ⟨hb', rfl, i, hz, hR⟩
      have hlt : i < (items.zip items2).length := by
        rcases Nat.lt_or_ge i (items.zip items2).length with h' | h'
        · exact h'
        · rw [List.drop_of_length_le h'] at hz; cases hz
      have hix : i < xs.length := hZ ▸ hlt
      have hiy : i < ys.length := by omega
      rw [List.drop_eq_getElem_cons hlt] at hz
      injection hz with hyx hrest
      obtain ⟨t1, h1⟩ := intsAre_at hi i hix
      obtain ⟨t2, h2⟩ := intsAre_at hi2 i hiy
      have hy : y = .int xs[i] t1 := by
        have e := congrArg Prod.fst hyx
        rw [List.getElem_zip] at e
        rw [List.getElem?_eq_getElem (by omega)] at h1
        exact e.trans (Option.some.inj h1)
      have hx : x = .int ys[i] t2 := by
        have e := congrArg Prod.snd hyx
        rw [List.getElem_zip] at e
        rw [List.getElem?_eq_getElem (by omega)] at h2
        exact e.trans (Option.some.inj h2)
      subst hy hx
      rw [List.drop_eq_getElem_cons hix, List.drop_eq_getElem_cons hiy] at hR
      unfold lexB at hR
      refine wpAny_bind (wpAny_eqBool_int ?_)
      by_cases he : xs[i] = ys[i]
      · rw [if_pos he] at hR
        have hb : (xs[i] == ys[i]) = true := by simpa using he
        rw [hb]
        wp_walk
        exact ⟨rfl, rfl, i + 1, hrest, hR⟩
      · rw [if_neg he] at hR
        have hb : (xs[i] == ys[i]) = false := by simpa using he
        rw [hb]
        generalize hRC : richCompare = RC
        wp_walk
        subst hRC
        refine PyProof.Rows.lt_int (a := xs[i]) (b := ys[i]) ?_
        wp_walk
        exact ⟨_, rfl, hR⟩
    case fin =>
      rintro ⟨b1, b2⟩ s' ⟨hb', rfl, i, hz, hR⟩
      simp only at hb'
      subst hb'
      have hge : xs.length ≤ i := by
        rcases Nat.lt_or_ge i (items.zip items2).length with h' | h'
        · rw [List.drop_eq_getElem_cons h'] at hz; cases hz
        · exact hZ ▸ h'
      rw [List.drop_of_length_le hge] at hR
      have hsz : items.length = items2.length := by omega
      wp_walk
      refine ⟨_, rfl, ?_⟩
      simpa [Builtin.Tuple.tupleCompareSizes, lexB, hsz] using hR
    case h =>
      exact ⟨rfl, rfl, 0, by simp, by simpa using h⟩
section
variable {A : Around} {s : Shared}
theorem lt_tups {prog : Program} {w : World} {E : Value → Shared → Prop} {Q : Value → Shared → Prop} {l b : Addr} {items items2 : List Value} {xs ys : List Int} (hl : s.heap.IsTuple l items.toArray) (hb : s.heap.IsTuple b items2.toArray) (hi : IntsAre items xs) (hi2 : IntsAre items2 ys) (hlen : xs.length = ys.length) (hu : A.units < cLine) (h : Q (.bool (lexB xs ys)) s) :
    wpAny (model prog w) A (compareOp .Lt (.ref l) (.ref b)) Q E s := by
  obtain ⟨⟨cls, dd, data, sl⟩, ho, hc, n, hd⟩ := id hl
  obtain ⟨⟨cls2, dd2, data2, sl2⟩, ho2, hc2, n2, hd2⟩ := id hb
  simp only at hc hd hc2 hd2
  subst hc hd hc2 hd2
  exact richCompare_meets_room (op := .Lt) ⟨_, ho, rfl⟩ ⟨_, ho2, rfl⟩ F.slot_tuple_lt F.entry_tuple_lt (F.args_tuple_lt_2 _ _) (tuple_ltAt l b items items2 n n2 dd dd2 sl sl2 xs ys hi hi2 hlen)
    ⟨ho, ho2, show Value.bool (lexB xs ys) ≠ Value.notImplemented ∧ Q (.bool (lexB xs ys)) s from ⟨(fun x => nomatch x), h⟩⟩ hu
theorem eq_tups {l b : Addr} {items items2 : List Value} {xs ys : List Int} (hl : s.heap.IsTuple l items.toArray) (hb : s.heap.IsTuple b items2.toArray) (hi : IntsAre items xs) (hi2 : IntsAre items2 ys) (hlen : xs.length = ys.length) (hu : A.units < cLine) : EqAt A s (.ref l) (.ref b) (decide (xs = ys)) := by
  have z1 := intsAre_len hi
  have z2 := intsAre_len hi2
  by_cases hne : l = b
  · subst hne
    have e : items = items2 := by
      obtain ⟨o, ho, _, n, hd⟩ := id hl
      obtain ⟨o2, ho2, _, n2, hd2⟩ := id hb
      rw [ho] at ho2
      cases ho2
      rw [hd] at hd2
      injection hd2 with h1 h2
      have := congrArg Array.toList h1
      simpa using this
    subst e
    have e2 : xs = ys := by
      refine List.ext_getElem hlen fun j h1 h2 => ?_
      obtain ⟨t1, g1⟩ := intsAre_at hi j h1
      obtain ⟨t2, g2⟩ := intsAre_at hi2 j h2
      rw [g1] at g2
      have := Option.some.inj g2
      injection this
    rw [decide_eq_true e2]
    exact EqAt.same _
  · have hr := RcAt.tuples (A := A) (s := s) (e := fun j => decide (xs.getD j 0 = ys.getD j 0)) hl hb hu fun j h1 h2 => by
      have j1 : j < xs.length := by simpa [z1] using h1
      have j2 : j < ys.length := by omega
      obtain ⟨t1, g1⟩ := intsAre_at hi j j1
      obtain ⟨t2, g2⟩ := intsAre_at hi2 j j2
      have e1 : items.toArray[j] = .int xs[j] t1 := by
        rw [List.getElem?_eq_getElem (by omega)] at g1
        simpa using Option.some.inj g1
      have e2 : items2.toArray[j] = .int ys[j] t2 := by
        rw [List.getElem?_eq_getElem (by omega)] at g2
        simpa using Option.some.inj g2
      rw [e1, e2]
      intro prog w E Q hq
      refine wpAny_eqBool_int ?_
      have e3 : (xs[j] == ys[j]) = decide (xs.getD j 0 = ys.getD j 0) := by
        rw [List.getD_eq_getElem?_getD, List.getD_eq_getElem?_getD, List.getElem?_eq_getElem j1, List.getElem?_eq_getElem j2]
        show (xs[j] == ys[j]) = decide (xs[j] = ys[j])
        rw [Bool.eq_iff_iff]
        simp
      rw [e3]
      exact hq
    have e : ((List.range (min items.toArray.size items2.toArray.size)).all (fun j => decide (xs.getD j 0 = ys.getD j 0)) && items.toArray.size == items2.toArray.size) = decide (xs = ys) := by
      have s1 : items.toArray.size = xs.length := by simp [z1]
      have s2 : items2.toArray.size = xs.length := by simp [z2, hlen]
      rw [s1, s2, Nat.min_self, beq_self_eq_true, Bool.and_true, Bool.eq_iff_iff, List.all_eq_true, decide_eq_true_eq]
      constructor
      · intro h
        refine List.ext_getElem hlen fun j h1 h2 => ?_
        have := of_decide_eq_true (h j (List.mem_range.mpr h1))
        rw [List.getD_eq_getElem?_getD, List.getD_eq_getElem?_getD, List.getElem?_eq_getElem h1, List.getElem?_eq_getElem h2] at this
        exact this
      · intro h j _
        rw [h]
        exact decide_eq_true rfl
    rw [← e]
    exact EqAt.of_refs hne hr
end
end L2

namespace L2
open PySem PySem.Spec PyProof.Rows PySem.W SeqAt
section
variable {prog : Program} {w : World} {A : Around} {E : Value → Shared → Prop} {s : Shared}
/-- a pair of tuples of two ints -/
def PrAt (h : Heap) (us : List Value) (r : List Int × List Int) : Prop := ∃ a1 a2 u1 u2, us = [Value.ref a1, Value.ref a2] ∧ h.IsTuple a1 (List.toArray u1) ∧ IntsAre u1 r.1 ∧ h.IsTuple a2 (List.toArray u2) ∧ IntsAre u2 r.2
theorem PrAt.keep {h h' : Heap} {us : List Value} {r : List Int × List Int} (x : PrAt h us r) (k : ∀ b o, o.cls = .type "tuple" → h.get? b = some o → h'.get? b = some o) : PrAt h' us r := by
  obtain ⟨a1, a2, u1, u2, e, ⟨o1, g1, c1, d1⟩, i1, ⟨o2, g2, c2, d2⟩, i2⟩ := x
  exact ⟨a1, a2, u1, u2, e, ⟨o1, k _ _ c1 g1, c1, d1⟩, i1, ⟨o2, k _ _ c2 g2, c2, d2⟩, i2⟩
def lexP (p q : List Int × List Int) : Bool := if p.1 = q.1 then lexB p.2 q.2 else lexB p.1 q.1
theorem lexB_self : ∀ l : List Int, lexB l l = false
  | [] => rfl
  | x :: l => by unfold lexB; rw [if_pos rfl]; exact lexB_self l
theorem lexP_kat {Q : Bool → Shared → Prop} {us vs : List Value} {p q : List Int × List Int} (hp : PrAt s.heap us p) (hq : PrAt s.heap vs q) (l1 : p.1.length = q.1.length) (l2 : p.2.length = q.2.length) (hu : A.units < cLine) (h : Q (lexP p q) s) : KatLex prog w A false false Q (us.zip vs) 0 s := by
  obtain ⟨a1, a2, u1, u2, rfl, t1, i1, t2, i2⟩ := hp
  obtain ⟨b1, b2, v1, v2, rfl, w1, j1, w2, j2⟩ := hq
  unfold lexP at h
  refine kat_cons (eq_tups t1 w1 i1 j1 l1 hu prog w _ _ ?_)
  by_cases e : p.1 = q.1
  · rw [decide_eq_true e]
    rw [if_pos e] at h
    refine kat_yes (kat_cons (eq_tups t2 w2 i2 j2 l2 hu prog w _ _ ?_))
    by_cases e2 : p.2 = q.2
    · rw [decide_eq_true e2]
      rw [e2, lexB_self] at h
      exact kat_yes h
    · rw [decide_eq_false e2]
      exact kat_no (kat_one _ _ (lt_tups t2 w2 i2 j2 l2 hu h))
  · rw [decide_eq_false e]
    rw [if_neg e] at h
    exact kat_no (kat_one _ _ (lt_tups t1 w1 i1 j1 l1 hu h))
def Prs (h : Heap) : List Value → List (List Int × List Int) → Prop := Paired fun v r => ∃ a o us n, v = Value.ref a ∧ h.get? a = some o ∧ o.cls = .type "tuple" ∧ o.data = .seq (List.toArray us) n ∧ PrAt h us r
theorem prs_firsts {h : Heap} {M : Model} : ∀ {vs : List Value} {S : List (List Int × List Int)}, Prs h vs S → ∃ fs, KatTups h vs fs ∧ fs.length = vs.length ∧ ∀ v ∈ fs, Looks M h (typeOf v) (.type "tuple")
  | _, _, .nil => ⟨[], .nil, rfl, fun v hv => by cases hv⟩
  | _, _, .cons ⟨a, o, us, n, e, g, c, d, a1, a2, u1, u2, e2, ⟨o1, g1, c1, d1⟩, _⟩ t => by
    subst e
    subst e2
    obtain ⟨fs, k, hl, hT⟩ := prs_firsts (M := M) t
    refine ⟨.ref a1 :: fs, KatTups.cons g c d rfl k, by rw [List.length_cons, List.length_cons, hl], fun v hv => ?_⟩
    rcases List.mem_cons.mp hv with e | hv
    · subst e
      exact fun A Q E s k q => wpAny_typeOf_ref (k _ _ g1) (by rw [c1]; exact q)
    · exact hT v hv
theorem list_sort_prs {a : Addr} {vs : List Value} {S : List (List Int × List Int)} {n k : Nat} {p : Array Nat} {P : PySem.Fin → Shared → Prop} (ho : s.heap.get? a = some (seqObj "list" vs.toArray n)) (ht : Prs s.heap vs S) (hk : ∀ r ∈ S, r.1.length = k ∧ r.2.length = k) (hu : A.units + 3 < cLine)
    (h2 : 2 ≤ vs.length) (h64 : vs.length < 64) (hp : runT vs.length (fun i j => lexP (S.getD i ([], [])) (S.getD j ([], []))) (kas_sort vs.length) = some p)
    (h : P (.done (.ret .none)) { s with heap := sortedHeap s.heap a vs (List.toArray (p.toList.map fun i => vs.getD i Value.none)) }) :
    wpAny (model prog w) A (Builtin.«list.sort» ⟨[.ref a], []⟩) P E s := by
  have ha : a < s.heap.objs.size := Heap.lt_size ho
  obtain ⟨e1, ho1⟩ : ∃ e1, (s.heap.update a (Obj.mapSeq fun _ => (#[] : Array Value))).get? a = some (seqObj "list" #[] e1) := ⟨_, get?_update_seq ho fun _ => #[]⟩
  have keep : ∀ b o, b ≠ a → s.heap.get? b = some o → (((s.heap.update a (Obj.mapSeq fun _ => (#[] : Array Value))).push (seqObj "tuple" vs.toArray 0)).push (seqObj "list" #[] 0)).get? b = some o := fun b o hb e => by
    refine Heap.get?_push_of_some _ (Heap.get?_push_of_some _ ?_)
    rw [Heap.get?_update_ne _ _ _ _ hb]
    exact e
  have ho6 : (((s.heap.update a (Obj.mapSeq fun _ => (#[] : Array Value))).push (seqObj "tuple" vs.toArray 0)).push (seqObj "list" #[] 0)).get? a = some (seqObj "list" #[] e1) := Heap.get?_push_of_some _ (Heap.get?_push_of_some _ ho1)
  have ht3 : Prs (((s.heap.update a (Obj.mapSeq fun _ => (#[] : Array Value))).push (seqObj "tuple" vs.toArray 0)).push (seqObj "list" #[] 0)) vs S := Paired.mapP ht fun v r ⟨b, o, us, m, e, g, c, d, iu⟩ => by
    have kt : ∀ b o, o.cls = .type "tuple" → s.heap.get? b = some o → (((s.heap.update a (Obj.mapSeq fun _ => (#[] : Array Value))).push (seqObj "tuple" vs.toArray 0)).push (seqObj "list" #[] 0)).get? b = some o := fun b o c g => keep b o (fun z => by
      rw [z, ho] at g
      cases g
      exact absurd c (by simp [seqObj])) g
    exact ⟨b, o, us, m, e, kt b o c g, c, d, iu.keep kt⟩
  rw [list_sort_plain]
  refine wpAny_bind (listItems_at ho rfl ?_)
  refine wpAny_bind (listUpdate_at ho rfl ?_ (by rw [List.size_toArray, sizeLine_eq]; omega) (Nat.zero_le _))
  refine wpAny_bind (seqEpoch_at ho1 rfl ?_)
  refine wpAny_bind (wpAny_newTuple ?_ (by show vs.length ≤ _; rw [sizeLine_eq]; omega))
  refine wpAny_bind (wpAny_newList ?_ (Nat.zero_le _))
  refine wpAny_holding ?_
  show wpAny (model prog w) A _ P E { s with heap := ((s.heap.update a (Obj.mapSeq fun _ => (#[] : Array Value))).push (seqObj "tuple" vs.toArray 0)).push (seqObj "list" #[] 0) }
  dsimp only
  have hn2 : ¬ vs.toArray.size < 2 := by rw [List.size_toArray]; omega
  rw [if_neg hn2, if_neg hn2]
  obtain ⟨fs, kt, hfl, hT⟩ := prs_firsts (M := model prog w) ht3
  refine wpAny_bind (kat_kind kt (by omega) hT rfl ?_)
  have hlen : vs.length = S.length := Paired.length ht3
  have hk3 : (kas_sort vs.length).kasWp (kas_ask prog w A (tuples' (Value.type "tuple" != Value.type "tuple")) vs) (fun p' s' => p' = p ∧ s' = { s with heap := ((s.heap.update a (Obj.mapSeq fun _ => (#[] : Array Value))).push (seqObj "tuple" vs.toArray 0)).push (seqObj "list" #[] 0) }) { s with heap := ((s.heap.update a (Obj.mapSeq fun _ => (#[] : Array Value))).push (seqObj "tuple" vs.toArray 0)).push (seqObj "list" #[] 0) } := by
    refine runT_wp (fun i j C hi hj hC => ?_) _ hp ⟨rfl, rfl⟩
    obtain ⟨ri, hri, bi, oi, ui, mi, ei, gi, ci, di, ii⟩ := Paired.getL ht3 (List.getElem?_eq_getElem hi)
    obtain ⟨rj, hrj, bj, oj, uj, mj, ej, gj, cj, dj, ij⟩ := Paired.getL ht3 (List.getElem?_eq_getElem hj)
    have e1 : vs.getD i Value.none = .ref bi := by rw [List.getD_eq_getElem?_getD, List.getElem?_eq_getElem hi, ei]; rfl
    have e2 : vs.getD j Value.none = .ref bj := by rw [List.getD_eq_getElem?_getD, List.getElem?_eq_getElem hj, ej]; rfl
    have e3 : S.getD i ([], []) = ri := by rw [List.getD_eq_getElem?_getD, hri]; rfl
    have e4 : S.getD j ([], []) = rj := by rw [List.getD_eq_getElem?_getD, hrj]; rfl
    have l1 := hk ri (List.mem_of_getElem? hri)
    have l2 := hk rj (List.mem_of_getElem? hrj)
    rw [e3, e4] at hC
    show wpAny (model prog w) A (keyLt' _ (vs.getD i Value.none) (vs.getD j Value.none)) C _ _
    rw [e1, e2]
    have hsz : decide ((List.toArray ui).size < (List.toArray uj).size) = false := by
      obtain ⟨_, _, _, _, rfl, _⟩ := ii
      obtain ⟨_, _, _, _, rfl, _⟩ := ij
      rfl
    refine kat_lt gi di gj dj ?_
    rw [hsz]
    exact lexP_kat ii ij (l1.1.trans l2.1.symm) (l1.2.trans l2.2.symm) (by omega) hC
  refine wpAny_bind (wpAny_mono (kat_run (ks := vs) (Q := fun st' s' => ∃ p' : Array Nat, p'.size = vs.length ∧ arrOf st' = p'.map (kas_item (vs.toArray.zip vs.toArray)) ∧ failedOf st' = none ∧ p' = p ∧ s' = { s with heap := ((s.heap.update a (Obj.mapSeq fun _ => (#[] : Array Value))).push (seqObj "tuple" vs.toArray 0)).push (seqObj "list" #[] 0) })
    rfl h2 h64 (fun p' st' s' a1 a2 a3 a4 => ⟨p', a1, a2, a3, a4⟩) hk3) ?_ fun _ _ e => e)
  rintro ⟨⟨⟩, st'⟩ s' ⟨p', hpz, har, hf, rfl, rfl⟩
  dsimp only
  have hout := kat_snds rfl har
  have hsz : (List.toArray (p'.toList.map fun i => vs.getD i Value.none)).size = vs.length := by rw [List.size_toArray, List.length_map, Array.length_toList, hpz]
  rw [hout]
  refine wpAny_bind (seqEpoch_at ho6 rfl ?_)
  refine wpAny_bind (listUpdate_at ho6 rfl ?_ (Nat.zero_le _) (Nat.le_trans (Nat.le_of_eq hsz) (by rw [sizeLine_eq]; omega)))
  rw [hf]
  simp only [bne_self_eq_false, Bool.false_eq_true, if_false]
  exact wpAny_pure h
theorem sorted_prs {d : Addr} {vs : List Value} {S : List (List Int × List Int)} {k : Nat} {p : Array Nat} {Q : Value → Shared → Prop} (hl : s.heap.IsList d vs.toArray) (ht : Prs s.heap vs S) (hk : ∀ r ∈ S, r.1.length = k ∧ r.2.length = k) (hu : A.units + 6 < cLine)
    (h2 : 2 ≤ vs.length) (h64 : vs.length < 64) (hp : runT vs.length (fun i j => lexP (S.getD i ([], [])) (S.getD j ([], []))) (kas_sort vs.length) = some p)
    (h : ∀ (l : Addr) (h1 h' : Heap) (e : Nat), (∀ b o, s.heap.get? b = some o → h1.get? b = some o) → h1.objs.size ≤ l → (∀ b o, h1.get? b = some o → h'.get? b = some o) → h'.get? l = some (seqObj "list" (List.toArray (p.toList.map fun i => vs.getD i Value.none)) e) → Q (.ref l) { s with heap := h' }) :
    wpAny (model prog w) A (call (.builtin "sorted") [.ref d]) Q E s := by
  obtain ⟨o, ho, hc, n, hd⟩ := id hl
  refine Calls.call_function_entry kind_sorted plain_sorted entry_sorted (args_sorted1 _) ?_
  unfold Builtin.«sorted»
  refine wpAny_bind (m := checkCount "sorted" 1 1 _) (wpAny_pure (wpAny_bind ?_))
  have hz : vs.toArray.size ≤ sizeLine := by rw [List.size_toArray, sizeLine_eq]; omega
  refine wpAny_collect_seq (hsz := hz) d (.inl rfl) ho hc hd fun h1 k1 => ?_
  rw [List.toList_toArray]
  refine wpAny_bind (wpAny_newList ?_ (by rw [sizeLine_eq]; omega))
  have g : (h1.push (seqObj "list" vs.toArray 0)).get? h1.objs.size = some (seqObj "list" vs.toArray 0) := Heap.get?_push_size _ rfl
  have ht1 : Prs (h1.push (seqObj "list" vs.toArray 0)) vs S := Paired.mapP ht fun v r ⟨b, o, us, m, e, g, c, d, iu⟩ => ⟨b, o, us, m, e, Heap.get?_push_of_some _ (k1 _ _ g), c, d, iu.keep fun b o _ g => Heap.get?_push_of_some _ (k1 _ _ g)⟩
  refine wpAny_bind (wpAny_holding (wpAny_call_entry slot_list_sort ⟨_, g, rfl⟩ entry_list_sort (list_sort_prs g ht1 hk (by show A.units + 1 + 1 + 3 < cLine; omega) h2 h64 hp ⟨_, rfl, ?_⟩) (args_list_sort _)))
  obtain ⟨e, he⟩ := sortedHeap_at (out := List.toArray (p.toList.map fun i => vs.getD i Value.none)) g
  refine wpAny_pure ⟨_, rfl, h h1.objs.size h1 _ e k1 (Nat.le_refl _) (fun b o x => ?_) he⟩
  have hb := Heap.lt_size x
  rw [sortedHeap_old (Nat.ne_of_lt hb) (by rw [size_push']; exact Nat.lt_succ_of_lt hb)]
  exact Heap.get?_push_of_some _ x
end
end L2

namespace L2
open PySem PySem.Spec PyProof.Rows PySem.W SeqAt
/-! ### sorted(xs), xs a list of pairs of tuples of ints, in order already -/
theorem runT_congr {α : Type} {n : Nat} {lt lt' : Nat → Nat → Bool} (h : ∀ i j, i < n → j < n → lt i j = lt' i j) : ∀ t : KasT α, runT n lt t = runT n lt' t
  | .ret a => rfl
  | .ask i j k => by
    unfold runT
    cases hb : (decide (i < n) && decide (j < n)) with
    | false => rfl
    | true =>
      rw [Bool.and_eq_true, decide_eq_true_eq, decide_eq_true_eq] at hb
      rw [if_pos rfl, if_pos rfl, h i j hb.1 hb.2]
      exact runT_congr h _
theorem srt : ∀ n, n < 64 → 2 ≤ n → (match runT n (fun i j => decide (i < j)) (kas_sort n) with | some p => decide (p = Array.range n) | none => false) = true := by decide +kernel
theorem srt_some {n : Nat} (h64 : n < 64) (h2 : 2 ≤ n) : runT n (fun i j => decide (i < j)) (kas_sort n) = some (Array.range n) := by
  have h := srt n h64 h2
  split at h
  · next p hp => rw [hp, of_decide_eq_true h]
  · cases h
section
variable {prog : Program} {w : World} {A : Around} {E : Value → Shared → Prop} {s : Shared}
/-- none or one -/
theorem list_sort_few {a : Addr} {vs : List Value} {n : Nat} {P : PySem.Fin → Shared → Prop} (ho : s.heap.get? a = some (seqObj "list" vs.toArray n)) (h2 : vs.length < 2)
    (h : ∀ h' e, (∀ b o, b ≠ a → s.heap.get? b = some o → h'.get? b = some o) → h'.get? a = some (seqObj "list" vs.toArray e) → P (.done (.ret .none)) { s with heap := h' }) :
    wpAny (model prog w) A (Builtin.«list.sort» ⟨[.ref a], []⟩) P E s := by
  obtain ⟨e1, ho1⟩ : ∃ e1, (s.heap.update a (Obj.mapSeq fun _ => (#[] : Array Value))).get? a = some (seqObj "list" #[] e1) := ⟨_, get?_update_seq ho fun _ => #[]⟩
  have keep : ∀ b o, b ≠ a → s.heap.get? b = some o → (((s.heap.update a (Obj.mapSeq fun _ => (#[] : Array Value))).push (seqObj "tuple" vs.toArray 0)).push (seqObj "list" #[] 0)).get? b = some o := fun b o hb e => by
    refine Heap.get?_push_of_some _ (Heap.get?_push_of_some _ ?_)
    rw [Heap.get?_update_ne _ _ _ _ hb]
    exact e
  have ho6 : (((s.heap.update a (Obj.mapSeq fun _ => (#[] : Array Value))).push (seqObj "tuple" vs.toArray 0)).push (seqObj "list" #[] 0)).get? a = some (seqObj "list" #[] e1) := Heap.get?_push_of_some _ (Heap.get?_push_of_some _ ho1)
  rw [list_sort_plain]
  refine wpAny_bind (listItems_at ho rfl ?_)
  refine wpAny_bind (listUpdate_at ho rfl ?_ (by rw [List.size_toArray, sizeLine_eq]; omega) (Nat.zero_le _))
  refine wpAny_bind (seqEpoch_at ho1 rfl ?_)
  refine wpAny_bind (wpAny_newTuple ?_ (by show vs.length ≤ _; rw [sizeLine_eq]; omega))
  refine wpAny_bind (wpAny_newList ?_ (Nat.zero_le _))
  refine wpAny_holding ?_
  show wpAny (model prog w) A _ P E { s with heap := ((s.heap.update a (Obj.mapSeq fun _ => (#[] : Array Value))).push (seqObj "tuple" vs.toArray 0)).push (seqObj "list" #[] 0) }
  dsimp only
  have hn2 : vs.toArray.size < 2 := by rw [List.size_toArray]; omega
  rw [if_pos hn2, if_pos hn2]
  refine wpAny_bind (wpAny_pure ?_)
  refine wpAny_bind (wpAny_pure ?_)
  have hout : Array.map (fun x : Value × Value => x.snd) (arrOf (SortSt.mk' general' (vs.toArray.zip vs.toArray) #[] 7 none)) = vs.toArray := by
    show Array.map (fun x : Value × Value => x.snd) (vs.toArray.zip vs.toArray) = vs.toArray
    refine Array.ext (by simp) fun i h1 h2 => ?_
    simp
  refine wpAny_bind (seqEpoch_at ho6 rfl ?_)
  dsimp only
  rw [hout]
  refine wpAny_bind (listUpdate_at ho6 rfl ?_ (Nat.zero_le _) (by rw [List.size_toArray, sizeLine_eq]; omega))
  show wpAny (model prog w) A (if (e1 != e1) = true then _ else ret Value.none) P E _
  rw [if_neg (by simp)]
  obtain ⟨e2, ho7⟩ : ∃ e2, ((((s.heap.update a (Obj.mapSeq fun _ => (#[] : Array Value))).push (seqObj "tuple" vs.toArray 0)).push (seqObj "list" #[] 0)).update a (Obj.mapSeq fun _ => vs.toArray)).get? a = some (seqObj "list" vs.toArray e2) := ⟨_, get?_update_seq ho6 fun _ => vs.toArray⟩
  refine wpAny_pure (h _ e2 (fun b o hb e => ?_) ho7)
  rw [Heap.get?_update_ne _ _ _ _ hb]
  exact keep b o hb e
end
end L2

namespace L2
open PySem PySem.Spec PyProof.Rows PySem.W SeqAt
section
variable {prog : Program} {w : World} {A : Around} {E : Value → Shared → Prop} {s : Shared}
theorem sorted_few {d : Addr} {vs : List Value} {Q : Value → Shared → Prop} (hl : s.heap.IsList d vs.toArray) (h2 : vs.length < 2)
    (h : ∀ (l : Addr) (h1 h' : Heap) (e : Nat), (∀ b o, s.heap.get? b = some o → h1.get? b = some o) → h1.objs.size ≤ l → (∀ b o, h1.get? b = some o → h'.get? b = some o) → h'.get? l = some (seqObj "list" vs.toArray e) → Q (.ref l) { s with heap := h' }) :
    wpAny (model prog w) A (call (.builtin "sorted") [.ref d]) Q E s := by
  obtain ⟨o, ho, hc, n, hd⟩ := id hl
  refine Calls.call_function_entry kind_sorted plain_sorted entry_sorted (args_sorted1 _) ?_
  unfold Builtin.«sorted»
  refine wpAny_bind (m := checkCount "sorted" 1 1 _) (wpAny_pure (wpAny_bind ?_))
  have hz : vs.toArray.size ≤ sizeLine := by rw [List.size_toArray, sizeLine_eq]; omega
  refine wpAny_collect_seq (hsz := hz) d (.inl rfl) ho hc hd fun h1 k1 => ?_
  rw [List.toList_toArray]
  refine wpAny_bind (wpAny_newList ?_ (by rw [sizeLine_eq]; omega))
  have g : (h1.push (seqObj "list" vs.toArray 0)).get? h1.objs.size = some (seqObj "list" vs.toArray 0) := Heap.get?_push_size _ rfl
  refine wpAny_bind (wpAny_holding (wpAny_call_entry slot_list_sort ⟨_, g, rfl⟩ entry_list_sort (list_sort_few g h2 fun h' e kp he => ⟨_, rfl, ?_⟩) (args_list_sort _)))
  refine wpAny_pure ⟨_, rfl, h h1.objs.size h1 h' e k1 (Nat.le_refl _) (fun b o x => ?_) he⟩
  have hb := Heap.lt_size x
  exact kp b o (Nat.ne_of_lt hb) (Heap.get?_push_of_some _ x)
end
/-- in order: each is ahead of those behind it, and of no other -/
def Rises (S : List (List Int × List Int)) : Prop := ∀ i j, i < S.length → j < S.length → lexP (S.getD i ([], [])) (S.getD j ([], [])) = decide (i < j)
def rSortedPs : List V → Hp → VK → Prop := fun xs H Q => ∃ (d : Addr) (ps : List Addr) (S : List (List Int × List Int)) (k : Nat), xs = [.ref d] ∧ H d = some (.lst (ps.map V.ref)) ∧ Paired (fun q (r : List Int × List Int) => ∃ a b : Addr, H q = some (.tup [.ref a, .ref b]) ∧ H a = some (.tup (r.1.map V.int)) ∧ H b = some (.tup (r.2.map V.int))) ps S ∧ (∀ r ∈ S, r.1.length = k ∧ r.2.length = k) ∧ S.length < 64 ∧ Rises S ∧ ∀ l, H l = none → Q (.ref l) (upd H l (.lst (ps.map V.ref)))
theorem call_sortedPs {X : Cx} (hu : X.A.units + 6 < cLine) : CallR X (.builtin "sorted") rSortedPs := by
  intro pins s σ H xs us Q I r h
  obtain ⟨d, ps, S, k, rfl, hd, hP, hk, h64, hR, q⟩ := h
  obtain ⟨u, rfl, rx⟩ := vals1 r
  cases rx
  obtain ⟨z, its, n, rv, hl, e⟩ := I.lstM hd
  have tup : ∀ {ps : List Addr} {S : List (List Int × List Int)} {its : List Value}, Paired (fun q (r : List Int × List Int) => ∃ a b : Addr, H q = some (.tup [.ref a, .ref b]) ∧ H a = some (.tup (r.1.map V.int)) ∧ H b = some (.tup (r.2.map V.int))) ps S → Vals (ps.map V.ref) its → Prs s.heap its S := by
    intro ps S its hP
    induction hP generalizing its with
    | nil => intro rv; cases rv; exact .nil
    | @cons q r ps S hq _ ih =>
      intro rv
      rw [List.map_cons] at rv
      cases rv with
      | cons r1 r2 =>
        cases r1
        refine .cons ?_ (ih r2)
        obtain ⟨a, b, hq, ha, hb⟩ := hq
        obtain ⟨_, us, ru, o, g, c, m, e⟩ := I.hok q _ hq
        obtain ⟨_, u1, ru1, p1⟩ := I.hok a _ ha
        obtain ⟨_, u2, ru2, p2⟩ := I.hok b _ hb
        have p1 : IsTupN s.heap a u1.toArray := p1
        have p2 : IsTupN s.heap b u2.toArray := p2
        refine ⟨q, o, us, m, rfl, g, c, congrArg Prod.fst e, a, b, u1, u2, ?_, p1.is, intsAre_of ru1, p2.is, intsAre_of ru2⟩
        cases ru with
        | cons x1 y1 =>
          cases y1 with
          | cons x2 y2 =>
            cases y2
            cases x1
            cases x2
            rfl
  have ht := tup hP rv
  have hlen : its.length = S.length := Paired.length ht
  have hpl : ps.length = S.length := hP.length
  have fin : ∀ (l : Addr) (h1 h' : Heap) (e : Nat), (∀ b o, s.heap.get? b = some o → h1.get? b = some o) → h1.objs.size ≤ l → (∀ b o, h1.get? b = some o → h'.get? b = some o) → h'.get? l = some (seqObj "list" its.toArray e) → (fun v s' => ∃ x H', Inv X pins σ H' s' ∧ RelV x v ∧ Q x H') (.ref l) { s with heap := h' } := fun l h1 h' e' k1 hl1 k2 he => by
    have I1 : Inv X pins σ H { s with heap := h1 } := I.kept (t' := s.toks) k1
    refine ⟨.ref l, _, I1.laid (t' := s.toks) (o := .lst (ps.map V.ref)) k2 hl1 ?_, rfl, q _ (I1.hok.fresh hl1)⟩
    exact ⟨by rw [List.length_map, hpl, sizeLine_eq]; omega, its, e', rv, by simpa using he⟩
  by_cases h2 : its.length < 2
  · exact sorted_few (d := d) (vs := its) ⟨_, e, rfl, n, rfl⟩ h2 fin
  · have hp : runT its.length (fun i j => lexP (S.getD i ([], [])) (S.getD j ([], []))) (kas_sort its.length) = some (Array.range its.length) := by
      rw [← srt_some (by omega) (show 2 ≤ its.length by omega)]
      exact runT_congr (fun i j hi hj => hR i j (by omega) (by omega)) _
    refine sorted_prs (d := d) (vs := its) ⟨_, e, rfl, n, rfl⟩ ht hk hu (by omega) (by omega) hp fun l h1 h' e' k1 hl1 k2 he => ?_
    refine fin l h1 h' e' k1 hl1 k2 ?_
    rw [he]
    have : ((Array.range its.length).toList.map fun i => its.getD i Value.none) = its := by
      rw [Array.toList_range]
      refine List.ext_getElem (by simp) fun i g1 g2 => ?_
      simp [List.getD_eq_getElem?_getD, g2]
    rw [this]
end L2

namespace My
/-! ### pairings: what the program does, told by functions; that it is right -/
abbrev HS := List (Int × Nat)
def look (hs : HS) (x : Int) : Option Nat := (hs.find? fun p => decide (p.1 = x)).map (·.2)
def putH (hs : HS) (x : Int) (w : Nat) : HS := if (hs.any fun p => decide (p.1 = x)) = true then hs.map (fun p => if p.1 = x then (p.1, w) else p) else hs ++ [(x, w)]
def keysH (hs : HS) : List Int := hs.map (·.1)
theorem look_nil (x : Int) : look [] x = none := rfl
theorem look_pos {p : Int × Nat} {r : HS} {x : Int} (e : p.1 = x) : look (p :: r) x = some p.2 := by simp [look, List.find?_cons, e]
theorem look_neg {p : Int × Nat} {r : HS} {x : Int} (e : ¬ p.1 = x) : look (p :: r) x = look r x := by simp [look, List.find?_cons, e]
theorem look_none {x : Int} : ∀ {hs : HS}, look hs x = none ↔ x ∉ keysH hs
  | [] => by simp [look_nil, keysH]
  | p :: r => by
    by_cases e : p.1 = x
    · rw [look_pos e]
      simp [keysH, e]
    · rw [look_neg e, look_none]
      simp only [keysH, List.map_cons, List.mem_cons, not_or]
      exact ⟨fun h => ⟨fun z => e z.symm, h⟩, fun h => h.2⟩
theorem look_mem {x : Int} {v : Nat} : ∀ {hs : HS}, look hs x = some v → (x, v) ∈ hs
  | [], h => by cases h
  | p :: r, h => by
    by_cases e : p.1 = x
    · rw [look_pos e] at h
      cases h
      rw [← e]
      exact List.mem_cons_self
    · rw [look_neg e] at h
      exact List.mem_cons_of_mem _ (look_mem h)
theorem look_of_mem {x : Int} {v : Nat} : ∀ {hs : HS}, (keysH hs).Nodup → (x, v) ∈ hs → look hs x = some v
  | [], _, h => by cases h
  | p :: r, nd, h => by
    rcases List.mem_cons.mp h with z | z
    · rw [look_pos (by rw [← z])]
      rw [← z]
    · have hn : p.1 ∉ keysH r := (List.nodup_cons.mp nd).1
      have : ¬ p.1 = x := fun e => hn (by rw [e]; exact List.mem_map.mpr ⟨_, z, rfl⟩)
      rw [look_neg this]
      exact look_of_mem (List.nodup_cons.mp nd).2 z
theorem any_look (x : Int) : ∀ hs : HS, (hs.any fun p => decide (p.1 = x)) = (look hs x).isSome
  | [] => rfl
  | p :: r => by
    rw [List.any_cons]
    by_cases e : p.1 = x
    · simp only [look_pos e, decide_eq_true e, Bool.true_or, Option.isSome_some]
    · rw [look_neg e, decide_eq_false e, Bool.false_or]
      exact any_look x r
theorem look_map (x y : Int) (w : Nat) : ∀ hs : HS, look (hs.map fun p => if p.1 = x then (p.1, w) else p) y = (look hs y).map fun v => if y = x then w else v
  | [] => rfl
  | p :: r => by
    rw [List.map_cons]
    by_cases h : p.1 = x
    · rw [if_pos h]
      by_cases e : p.1 = y
      · rw [look_pos (p := (p.1, w)) e, look_pos e, Option.map_some, if_pos (e.symm.trans h)]
      · rw [look_neg (p := (p.1, w)) e, look_neg e, look_map x y w r]
    · rw [if_neg h]
      by_cases e : p.1 = y
      · rw [look_pos e, look_pos e, Option.map_some, if_neg (fun z => h (e.trans z))]
      · rw [look_neg e, look_neg e, look_map x y w r]
theorem look_snoc (x y : Int) (w : Nat) : ∀ hs : HS, look hs x = none → look (hs ++ [(x, w)]) y = if y = x then some w else look hs y
  | [], _ => by
    by_cases e : x = y
    · rw [if_pos e.symm]; exact look_pos (p := (x, w)) e
    · rw [if_neg (fun z => e z.symm)]; exact look_neg (p := (x, w)) e
  | p :: r, hn => by
    rw [List.cons_append]
    have hk : ¬ p.1 = x := fun z => by rw [look_pos z] at hn; cases hn
    rw [look_neg hk] at hn
    by_cases e : p.1 = y
    · rw [look_pos e, look_pos e, if_neg (fun z => hk (e.trans z))]
    · rw [look_neg e, look_neg e, look_snoc x y w r hn]
theorem look_put (hs : HS) (x y : Int) (w : Nat) : look (putH hs x w) y = if y = x then some w else look hs y := by
  unfold putH
  rw [any_look]
  cases q : look hs x with
  | none =>
    rw [if_neg (by decide)]
    exact look_snoc x y w hs q
  | some v =>
    rw [if_pos (show (some v).isSome = true from rfl), look_map]
    by_cases e : y = x
    · rw [if_pos e, e, q, Option.map_some, if_pos rfl]
    · rw [if_neg e]
      cases look hs y with
      | none => rfl
      | some u => rw [Option.map_some, if_neg e]
theorem keys_map (x : Int) (w : Nat) (hs : HS) : keysH (hs.map fun p => if p.1 = x then (p.1, w) else p) = keysH hs := by
  unfold keysH
  rw [List.map_map]
  refine List.map_congr_left fun p _ => ?_
  show (if p.1 = x then (p.1, w) else p).1 = p.1
  split <;> rfl
theorem nodup_put {hs : HS} (x : Int) (w : Nat) (h : (keysH hs).Nodup) : (keysH (putH hs x w)).Nodup := by
  unfold putH
  rw [any_look]
  cases q : look hs x with
  | none =>
    rw [if_neg (by decide)]
    unfold keysH
    rw [List.map_append]
    refine List.nodup_append.mpr ⟨h, by simp, fun a ha b hb => ?_⟩
    rw [List.map_cons, List.map_nil, List.mem_singleton] at hb
    rintro rfl
    have hb' : a = x := hb
    exact look_none.mp q (hb' ▸ ha)
  | some v =>
    rw [if_pos (show (some v).isSome = true from rfl), keys_map]
    exact h
theorem mem_put {hs : HS} {x : Int} {w : Nat} {p : Int × Nat} (h : p ∈ putH hs x w) : p ∈ hs ∨ p = (x, w) := by
  unfold putH at h
  split at h
  · obtain ⟨q, hq, e⟩ := List.mem_map.mp h
    split at e
    · next z => rw [← e, z]; exact .inr rfl
    · rw [← e]; exact .inl hq
  · rcases List.mem_append.mp h with z | z
    · exact .inl z
    · exact .inr (List.mem_singleton.mp z)
/-- how many numbers outside ts does v hold -/
def cnt (hs : HS) (ts : List Int) (v : Nat) : Nat := hs.countP fun p => decide (p.1 ∉ ts) && decide (p.2 = v)
theorem cnt_one {y : Int} {ts : List Int} (hy : y ∉ ts) (v : Nat) : ∀ {hs : HS}, (keysH hs).Nodup → cnt hs ts v = cnt hs (ts ++ [y]) v + if look hs y = some v then 1 else 0
  | [], _ => by
    rw [look_nil, if_neg (by intro z; cases z)]
    rfl
  | p :: r, nd => by
    have ih := cnt_one hy v (List.nodup_cons.mp nd).2
    unfold cnt at ih ⊢
    rw [List.countP_cons, List.countP_cons]
    by_cases e : p.1 = y
    · have hn : look r y = none := look_none.mpr (e ▸ (List.nodup_cons.mp nd).1)
      rw [hn, if_neg (by intro z; cases z), Nat.add_zero] at ih
      rw [look_pos e, ih]
      have h1 : (decide (p.1 ∉ ts ++ [y]) && decide (p.2 = v)) = false := by
        rw [decide_eq_false (by rw [e]; simp), Bool.false_and]
      have h2 : decide (p.1 ∉ ts) = true := decide_eq_true (by rw [e]; exact hy)
      rw [h1, h2, Bool.true_and, if_neg Bool.false_ne_true, Nat.add_zero]
      by_cases z : p.2 = v
      · rw [if_pos (decide_eq_true z), if_pos (by rw [z])]
      · rw [if_neg (by rw [decide_eq_false z]; exact Bool.false_ne_true), if_neg (fun q => z (Option.some.inj q))]
    · rw [look_neg e, ih]
      have h1 : (decide (p.1 ∉ ts ++ [y]) && decide (p.2 = v)) = (decide (p.1 ∉ ts) && decide (p.2 = v)) := by
        congr 1
        refine decide_eq_decide.mpr ⟨fun h z => h (List.mem_append_left _ z), fun h z => ?_⟩
        rcases List.mem_append.mp z with z | z
        · exact h z
        · exact e (List.mem_singleton.mp z)
      rw [h1]
      omega
theorem cnt_many {v : Nat} {hs : HS} (nd : (keysH hs).Nodup) : ∀ {new ts : List Int}, (ts ++ new).Nodup → cnt hs ts v = cnt hs (ts ++ new) v + new.countP fun y => decide (look hs y = some v)
  | [], ts, _ => by rw [List.append_nil]; rfl
  | y :: new, ts, h => by
    have e : ts ++ y :: new = (ts ++ [y]) ++ new := by rw [List.append_assoc]; rfl
    rw [e] at h ⊢
    have hy : y ∉ ts := fun z => by
      have := (List.nodup_append.mp (List.nodup_append.mp h).1).2.2 y z y (by simp)
      exact this rfl
    rw [cnt_one hy v nd, cnt_many nd h, List.countP_cons]
    by_cases q : look hs y = some v
    · rw [if_pos q, if_pos (decide_eq_true q)]
      omega
    · rw [if_neg q, if_neg (by rw [decide_eq_false q]; exact Bool.false_ne_true)]
      omega
theorem cnt_put {y : Int} {ts : List Int} (hy : y ∉ ts) {hs : HS} (nd : (keysH hs).Nodup) (w v : Nat) : cnt (putH hs y w) ts v = cnt hs (ts ++ [y]) v + if v = w then 1 else 0 := by
  rw [cnt_one hy v (nodup_put y w nd), look_put, if_pos rfl]
  have h2 : cnt (putH hs y w) (ts ++ [y]) v = cnt hs (ts ++ [y]) v := by
    unfold putH cnt
    split
    · rw [List.countP_map]
      refine List.countP_congr fun p _ => ?_
      show ((decide ((if p.1 = y then (p.1, w) else p).1 ∉ ts ++ [y]) && decide ((if p.1 = y then (p.1, w) else p).2 = v)) = true ↔ _)
      by_cases e : p.1 = y
      · rw [if_pos e]
        have : decide (p.1 ∉ ts ++ [y]) = false := decide_eq_false (by rw [e]; simp)
        show ((decide (p.1 ∉ ts ++ [y]) && _) = true ↔ (decide (p.1 ∉ ts ++ [y]) && _) = true)
        rw [this, Bool.false_and, Bool.false_and]
      · rw [if_neg e]
    · rw [List.countP_append, List.countP_cons, List.countP_nil]
      have : (decide ((y, w).1 ∉ ts ++ [y]) && decide ((y, w).2 = v)) = false := by
        rw [decide_eq_false (by simp), Bool.false_and]
      rw [this, if_neg Bool.false_ne_true]
      rfl
  rw [h2]
  congr 1
  by_cases z : v = w
  · rw [if_pos z, if_pos (by rw [z])]
  · rw [if_neg z, if_neg (fun q => z (Option.some.inj q).symm)]

/-! ### takes -/
abbrev Res := Bool × HS × List Int
def loopF (rc : Nat → HS → List Int → Res) (w : Nat) : List Int → HS → List Int → Res
  | [], hs, ts => (false, hs, ts)
  | x :: xs, hs, ts => if x ∈ ts then loopF rc w xs hs ts else
    match look hs x with
    | none => (true, putH hs x w, ts ++ [x])
    | some v =>
      match rc v hs (ts ++ [x]) with
      | (true, hs', ts') => (true, putH hs' x w, ts')
      | (false, hs', ts') => loopF rc w xs hs' ts'
def takesF (L : List (List Int)) : Nat → Nat → HS → List Int → Res
  | 0, _, hs, ts => (false, hs, ts)
  | k + 1, w, hs, ts => loopF (takesF L k) w (L.getD w []) hs ts
/-- every number with its holder stands in the holder's list -/
structure OkH (L : List (List Int)) (hs : HS) : Prop where
  nd : (keysH hs).Nodup
  ed : ∀ p ∈ hs, p.2 < L.length ∧ p.1 ∈ L.getD p.2 []
structure Good (L : List (List Int)) (U : List Int) (w : Nat) (xs : List Int) (hs : HS) (ts : List Int) (r : Res) where
  new : List Int
  pre : r.2.2 = ts ++ new
  nd : r.2.2.Nodup
  sub : ∀ y ∈ new, y ∈ U
  keep : ∀ y ∈ ts, look r.2.1 y = look hs y
  ok : OkH L r.2.1
  yes : r.1 = true → ∀ v, cnt r.2.1 ts v = cnt hs ts v + if v = w then 1 else 0
  no : r.1 = false → r.2.1 = hs ∧ (∀ x ∈ xs, x ∈ r.2.2) ∧ ∀ y ∈ r.2.2, y ∉ ts → ∃ v, look hs y = some v ∧ ∀ x ∈ L.getD v [], x ∈ r.2.2
/-- the numbers that are not tried -/
def free (U ts : List Int) : Nat := U.countP fun y => decide (y ∉ ts)
theorem free_lt {U ts : List Int} {x : Int} (hx : x ∈ U) (hn : x ∉ ts) : free U (ts ++ [x]) < free U ts := by
  unfold free
  induction U with
  | nil => cases hx
  | cons y U ih =>
    rw [List.countP_cons, List.countP_cons]
    have mono : ∀ U : List Int, U.countP (fun y => decide (y ∉ ts ++ [x])) ≤ U.countP fun y => decide (y ∉ ts) := fun U => List.countP_mono_left fun y _ h => by
      simp only [List.mem_append, List.mem_singleton, not_or, decide_eq_true_eq] at h ⊢
      exact h.1
    by_cases e : y = x
    · subst e
      rw [if_neg (by simp), if_pos (decide_eq_true hn)]
      have := mono U
      omega
    · rcases List.mem_cons.mp hx with z | z
      · exact (e z.symm).elim
      · have h1 : decide (y ∉ ts ++ [x]) = decide (y ∉ ts) := by
          refine decide_eq_decide.mpr ⟨fun h q => h (List.mem_append_left _ q), fun h q => ?_⟩
          rcases List.mem_append.mp q with q | q
          · exact h q
          · exact e (List.mem_singleton.mp q)
        rw [h1]
        have := ih z
        omega
theorem free_le {U ts new : List Int} : free U (ts ++ new) ≤ free U ts := List.countP_mono_left fun y _ h => by
  simp only [List.mem_append, not_or, decide_eq_true_eq] at h ⊢
  exact h.1
theorem OkH.put {L : List (List Int)} {hs : HS} (o : OkH L hs) {x : Int} {w : Nat} (hw : w < L.length) (hx : x ∈ L.getD w []) : OkH L (putH hs x w) :=
  ⟨nodup_put x w o.nd, fun p hp => (mem_put hp).elim (o.ed p) fun e => by rw [e]; exact ⟨hw, hx⟩⟩
theorem loop_good {L : List (List Int)} {U : List Int} (hU : ∀ l ∈ L, ∀ x ∈ l, x ∈ U) {k : Nat} (ih : ∀ v hs ts, v < L.length → OkH L hs → ts.Nodup → free U ts < k → Nonempty (Good L U v (L.getD v []) hs ts (takesF L k v hs ts)))
    {w : Nat} (hw : w < L.length) : ∀ (xs : List Int) (hs : HS) (ts : List Int), (∀ x ∈ xs, x ∈ L.getD w []) → OkH L hs → ts.Nodup → free U ts ≤ k → Nonempty (Good L U w xs hs ts (loopF (takesF L k) w xs hs ts))
  | [], hs, ts, _, o, nt, _ => ⟨⟨[], (List.append_nil _).symm, nt, fun y h => (by cases h), fun _ _ => rfl, o, fun h => (by cases h), fun _ => ⟨rfl, fun x h => (by cases h), fun y h h' => (h' h).elim⟩⟩⟩
  | x :: xs, hs, ts, hxs, o, nt, hf => by
    have hxw : x ∈ L.getD w [] := hxs x List.mem_cons_self
    have hxs' : ∀ x ∈ xs, x ∈ L.getD w [] := fun y h => hxs y (List.mem_cons_of_mem _ h)
    have hxU : x ∈ U := by
      rw [List.getD_eq_getElem?_getD, List.getElem?_eq_getElem hw] at hxw
      exact hU _ (List.getElem_mem hw) x hxw
    by_cases e : x ∈ ts
    · have hl : loopF (takesF L k) w (x :: xs) hs ts = loopF (takesF L k) w xs hs ts := by
        rw [loopF, if_pos e]
      rw [hl]
      obtain ⟨g⟩ := loop_good hU ih hw xs hs ts hxs' o nt hf
      refine ⟨⟨g.new, g.pre, g.nd, g.sub, g.keep, g.ok, g.yes, fun h => ⟨(g.no h).1, fun y hy => ?_, (g.no h).2.2⟩⟩⟩
      rcases List.mem_cons.mp hy with z | z
      · rw [z, g.pre]; exact List.mem_append_left _ e
      · exact (g.no h).2.1 y z
    · have nt1 : (ts ++ [x]).Nodup := List.nodup_append.mpr ⟨nt, by simp, fun a ha b hb => by
        rw [List.mem_singleton] at hb
        rintro rfl
        exact e (hb ▸ ha)⟩
      cases q : look hs x with
      | none =>
        have hl : loopF (takesF L k) w (x :: xs) hs ts = (true, putH hs x w, ts ++ [x]) := by
          rw [loopF, if_neg e, q]
        rw [hl]
        refine ⟨⟨[x], rfl, nt1, fun y h => by rw [List.mem_singleton.mp h]; exact hxU, fun y hy => ?_, o.put hw hxw, fun _ v => ?_, fun h => (by cases h)⟩⟩
        · show look (putH hs x w) y = look hs y
          rw [look_put, if_neg (fun z : y = x => e (z ▸ hy))]
        · show cnt (putH hs x w) ts v = _
          rw [cnt_put e o.nd, cnt_one e v o.nd, q, if_neg (show ¬ (none : Option Nat) = some v from fun z => by cases z)]
          rfl
      | some v =>
        have hv : v < L.length := (o.ed _ (look_mem q)).1
        obtain ⟨g⟩ := ih v hs (ts ++ [x]) hv o nt1 (Nat.lt_of_lt_of_le (free_lt hxU e) hf)
        cases hr : takesF L k v hs (ts ++ [x]) with
        | mk b r =>
          obtain ⟨hs', ts'⟩ := r
          rw [hr] at g
          cases b with
          | true =>
            have hl : loopF (takesF L k) w (x :: xs) hs ts = (true, putH hs' x w, ts') := by
              rw [loopF, if_neg e, q]
              simp only [hr]
            rw [hl]
            have gp : ts' = ts ++ [x] ++ g.new := g.pre
            refine ⟨⟨[x] ++ g.new, by rw [← List.append_assoc]; exact gp, g.nd, fun y h => ?_, fun y hy => ?_, g.ok.put hw hxw, fun _ u => ?_, fun h => (by cases h)⟩⟩
            · rcases List.mem_append.mp h with z | z
              · rw [List.mem_singleton.mp z]; exact hxU
              · exact g.sub y z
            · show look (putH hs' x w) y = look hs y
              rw [look_put, if_neg (fun z : y = x => e (z ▸ hy))]
              exact g.keep y (List.mem_append_left _ hy)
            · show cnt (putH hs' x w) ts u = _
              have h1 : cnt hs' (ts ++ [x]) u = cnt hs (ts ++ [x]) u + if u = v then 1 else 0 := g.yes rfl u
              rw [cnt_put e g.ok.nd, h1, cnt_one e u o.nd, q]
              congr 2
              by_cases z : u = v
              · rw [if_pos z, if_pos (by rw [z])]
              · rw [if_neg z, if_neg (fun y => z (Option.some.inj y).symm)]
          | false =>
            have hl : loopF (takesF L k) w (x :: xs) hs ts = loopF (takesF L k) w xs hs' ts' := by
              rw [loopF, if_neg e, q]
              simp only [hr]
            rw [hl]
            obtain ⟨n1, n2, n3⟩ := g.no rfl
            have n1' : hs' = hs := n1
            subst n1'
            have gp : ts' = ts ++ [x] ++ g.new := g.pre
            have hf' : free U ts' ≤ k := by
              rw [gp, List.append_assoc]
              exact Nat.le_trans free_le hf
            obtain ⟨g2⟩ := loop_good hU ih hw xs hs' ts' hxs' o g.nd hf'
            have gp2 := g2.pre
            have hsub : ∀ y ∈ ts', y ∈ (loopF (takesF L k) w xs hs' ts').2.2 := fun y hy => by rw [gp2]; exact List.mem_append_left _ hy
            refine ⟨⟨[x] ++ g.new ++ g2.new, gp2.trans ((congrArg (· ++ g2.new) gp).trans (by simp only [List.append_assoc])), g2.nd, fun y h => ?_, fun y hy => ?_, g2.ok, fun h u => ?_, fun h => ⟨(g2.no h).1, fun y hy => ?_, fun y hy hn => ?_⟩⟩⟩
            · rcases List.mem_append.mp h with h | h
              · rcases List.mem_append.mp h with z | z
                · rw [List.mem_singleton.mp z]; exact hxU
                · exact g.sub y z
              · exact g2.sub y h
            · exact g2.keep y (by rw [gp]; exact List.mem_append_left _ (List.mem_append_left _ hy))
            · have h2 := g2.yes h u
              have hnd : (ts ++ ([x] ++ g.new)).Nodup := by rw [← List.append_assoc, ← gp]; exact g.nd
              have e1 := cnt_many (v := u) g2.ok.nd hnd
              have e2 := cnt_many (v := u) o.nd hnd
              rw [← List.append_assoc, ← gp] at e1 e2
              have e3 : ([x] ++ g.new).countP (fun y => decide (look (loopF (takesF L k) w xs hs' ts').2.1 y = some u)) = ([x] ++ g.new).countP fun y => decide (look hs' y = some u) := by
                refine List.countP_congr fun y hy => ?_
                rw [g2.keep y (by rw [gp, List.append_assoc]; exact List.mem_append_right _ hy)]
              rw [e3] at e1
              omega
            · rcases List.mem_cons.mp hy with z | z
              · rw [z]
                exact hsub _ (by rw [gp]; exact List.mem_append_left _ (List.mem_append_right _ (List.mem_singleton.mpr rfl)))
              · exact (g2.no h).2.1 y z
            · by_cases hy' : y ∈ ts'
              · by_cases z : y = x
                · exact ⟨v, by rw [z]; exact q, fun a ha => hsub a (n2 a ha)⟩
                · obtain ⟨u, hu, hc⟩ := n3 y hy' (fun m => (List.mem_append.mp m).elim hn fun m => z (List.mem_singleton.mp m))
                  exact ⟨u, hu, fun a ha => hsub a (hc a ha)⟩
              · exact (g2.no h).2.2 y hy hy'
theorem takes_good {L : List (List Int)} {U : List Int} (hU : ∀ l ∈ L, ∀ x ∈ l, x ∈ U) : ∀ (k v : Nat) (hs : HS) (ts : List Int), v < L.length → OkH L hs → ts.Nodup → free U ts < k → Nonempty (Good L U v (L.getD v []) hs ts (takesF L k v hs ts))
  | 0, _, _, _, _, _, _, h => absurd h (Nat.not_lt_zero _)
  | k + 1, v, hs, ts, hv, o, nt, h => loop_good hU (takes_good hU k) hv _ hs ts (fun _ h => h) o nt (Nat.le_of_lt_succ h)
end My

namespace My
/-! ### stuck, and what it tells -/
def stuckF (L : List (List Int)) (k : Nat) : List Nat → HS → Option (Nat × List Int) × HS
  | [], hs => (none, hs)
  | w :: ws, hs => match takesF L k w hs [] with
    | (true, hs', _) => stuckF L k ws hs'
    | (false, hs', ts) => (some (w, ts), hs')
def valH (hs : HS) (y : Int) : Nat := (look hs y).getD 0
structure Paper (L : List (List Int)) (hs : HS) (u : Nat) (ts : List Int) : Prop where
  hu : u < L.length
  nd : ts.Nodup
  held : ∀ y ∈ ts, ∃ v, look hs y = some v ∧ v < L.length ∧ v ≠ u ∧ ∀ x ∈ L.getD v [], x ∈ ts
  inj : ∀ y ∈ ts, ∀ z ∈ ts, look hs y = look hs z → y = z
  own : ∀ x ∈ L.getD u [], x ∈ ts
theorem cnt_pos {hs : HS} (nd : (keysH hs).Nodup) {y : Int} {v : Nat} (h : look hs y = some v) : 1 ≤ cnt hs [] v := by
  rw [cnt_one (y := y) (ts := []) (by simp) v nd, if_pos h]
  omega
theorem cnt_two {hs : HS} (nd : (keysH hs).Nodup) {y z : Int} {v : Nat} (h : look hs y = some v) (h' : look hs z = some v) (ne : y ≠ z) : 2 ≤ cnt hs [] v := by
  rw [cnt_one (y := y) (ts := []) (by simp) v nd, if_pos h, cnt_one (y := z) (ts := [] ++ [y]) (by simpa using fun e => ne e.symm) v nd, if_pos h']
  omega
/-- each below w holds one number, no other holds any -/
structure Held (L : List (List Int)) (hs : HS) (w : Nat) : Prop where
  ok : OkH L hs
  one : ∀ v, cnt hs [] v = if v < w then 1 else 0
theorem Held.inj {L : List (List Int)} {hs : HS} {w : Nat} (h : Held L hs w) {y z : Int} {v : Nat} (hy : look hs y = some v) (hz : look hs z = some v) : y = z := by
  by_cases e : y = z
  · exact e
  · have h2 := cnt_two h.ok.nd hy hz e
    rw [h.one v] at h2
    split at h2 <;> omega
theorem Held.lt {L : List (List Int)} {hs : HS} {w : Nat} (h : Held L hs w) {y : Int} {v : Nat} (hy : look hs y = some v) : v < w := by
  have h2 := cnt_pos h.ok.nd hy
  rw [h.one v] at h2
  split at h2
  · assumption
  · omega
theorem stuck_ok {L : List (List Int)} {U : List Int} (hU : ∀ l ∈ L, ∀ x ∈ l, x ∈ U) {k : Nat} (hk : U.length < k) : ∀ (m w : Nat) (hs : HS), w + m = L.length → Held L hs w →
    ((stuckF L k (List.range' w m) hs).1 = none → Held L (stuckF L k (List.range' w m) hs).2 L.length) ∧
      ∀ u ts, (stuckF L k (List.range' w m) hs).1 = some (u, ts) → Paper L (stuckF L k (List.range' w m) hs).2 u ts
  | 0, w, hs, hw, h => ⟨fun _ => by rw [← hw]; exact h, fun u ts e => by cases e⟩
  | m + 1, w, hs, hw, h => by
    have hwl : w < L.length := by omega
    have hfr : free U [] < k := Nat.lt_of_le_of_lt List.countP_le_length hk
    obtain ⟨g⟩ := takes_good hU k w hs [] hwl h.ok List.nodup_nil hfr
    rw [List.range'_succ]
    cases hr : takesF L k w hs [] with
    | mk b r =>
      obtain ⟨hs', ts'⟩ := r
      rw [hr] at g
      cases b with
      | true =>
        have e : stuckF L k (w :: List.range' (w + 1) m) hs = stuckF L k (List.range' (w + 1) m) hs' := by
          rw [stuckF]
          simp only [hr]
        rw [e]
        refine stuck_ok hU hk m (w + 1) hs' (by omega) ⟨g.ok, fun v => ?_⟩
        have := g.yes rfl v
        rw [show cnt hs' [] v = _ from this, h.one v]
        by_cases a : v < w
        · rw [if_pos a, if_neg (by omega), if_pos (by omega)]
        · rw [if_neg a]
          by_cases b : v = w
          · rw [if_pos b, if_pos (by omega)]
          · rw [if_neg b, if_neg (by omega)]
      | false =>
        have e : stuckF L k (w :: List.range' (w + 1) m) hs = (some (w, ts'), hs') := by
          rw [stuckF]
          simp only [hr]
        rw [e]
        obtain ⟨n1, n2, n3⟩ := g.no rfl
        have n1' : hs' = hs := n1
        subst n1'
        refine ⟨fun z => (by cases z), fun u ts z => ?_⟩
        cases z
        refine ⟨hwl, g.nd, fun y hy => ?_, fun y hy z hz q => ?_, n2⟩
        · obtain ⟨v, hv, hc⟩ := n3 y hy (by simp)
          have := h.lt hv
          exact ⟨v, hv, by omega, by omega, hc⟩
        · obtain ⟨v, hv, _⟩ := n3 y hy (by simp)
          exact h.inj hv (q ▸ hv)
theorem held_nil (L : List (List Int)) : Held L [] 0 := ⟨⟨List.nodup_nil, fun p h => by cases h⟩, fun v => by rw [if_neg (by omega)]; rfl⟩
/-! ### the paper -/
theorem len_le : ∀ {T S : List Int}, T.Nodup → (∀ x ∈ T, x ∈ S) → T.length ≤ S.length
  | [], _, _, _ => Nat.zero_le _
  | x :: T, S, nd, h => by
    have hx : x ∈ S := h x List.mem_cons_self
    have ih := len_le (T := T) (S := S.erase x) (List.nodup_cons.mp nd).2 fun y hy => by
      have : y ≠ x := fun e => (List.nodup_cons.mp nd).1 (e ▸ hy)
      exact (List.mem_erase_of_ne this).mpr (h y (List.mem_cons_of_mem _ hy))
    rw [List.length_erase_of_mem hx] at ih
    have : 0 < S.length := List.length_pos_of_mem hx
    rw [List.length_cons]
    omega
def paperOf (hs : HS) (u : Nat) (ts : List Int) : List Int := (u : Int) :: ts.map fun y => ((valH hs y : Nat) : Int)
theorem Paper.val {L : List (List Int)} {hs : HS} {u : Nat} {ts : List Int} (p : Paper L hs u ts) {y : Int} (hy : y ∈ ts) : look hs y = some (valH hs y) := by
  obtain ⟨v, hv, _⟩ := p.held y hy
  unfold valH
  rw [hv]
  rfl
theorem Paper.nodup {L : List (List Int)} {hs : HS} {u : Nat} {ts : List Int} (p : Paper L hs u ts) : (paperOf hs u ts).Nodup := by
  refine List.nodup_cons.mpr ⟨fun h => ?_, ?_⟩
  · obtain ⟨y, hy, e⟩ := List.mem_map.mp h
    obtain ⟨v, hv, _, hne, _⟩ := p.held y hy
    rw [p.val hy] at hv
    have := Option.some.inj hv
    omega
  · refine List.nodup_iff_pairwise_ne.mpr (List.pairwise_map.mpr ?_)
    have nd := p.nd
    have go : ∀ {l : List Int}, (∀ x ∈ l, x ∈ ts) → l.Nodup → l.Pairwise fun a b => ((valH hs a : Nat) : Int) ≠ ((valH hs b : Nat) : Int) := by
      intro l
      induction l with
      | nil => intro _ _; exact .nil
      | cons a l ih =>
        intro hs' nd
        refine .cons (fun b hb e => ?_) (ih (fun x hx => hs' x (List.mem_cons_of_mem _ hx)) (List.nodup_cons.mp nd).2)
        have ha := hs' a List.mem_cons_self
        have hb' := hs' b (List.mem_cons_of_mem _ hb)
        have : a = b := p.inj a ha b hb' (by rw [p.val ha, p.val hb']; congr 1; omega)
        exact (List.nodup_cons.mp nd).1 (this ▸ hb)
    exact go (fun _ h => h) nd
theorem Paper.mem {L : List (List Int)} {hs : HS} {u : Nat} {ts : List Int} (p : Paper L hs u ts) {z : Int} (h : z ∈ paperOf hs u ts) : ∃ v : Nat, z = (v : Int) ∧ v < L.length ∧ ∀ x ∈ L.getD v [], x ∈ ts := by
  rcases List.mem_cons.mp h with e | e
  · exact ⟨u, e, p.hu, p.own⟩
  · obtain ⟨y, hy, e⟩ := List.mem_map.mp e
    obtain ⟨v, hv, hl, _, hc⟩ := p.held y hy
    rw [p.val hy] at hv
    exact ⟨v, by rw [← e, Option.some.inj hv], hl, hc⟩
end My

namespace My
/-! ### rows from above: a further row is always there -/
def colL (R : List (List Int)) (c : Nat) : List Int := R.map fun r => r.getD c 0
def rngI (n : Nat) : List Int := (List.range n).map fun (k : Nat) => (k : Int)
structure OkRows (n : Nat) (R : List (List Int)) : Prop where
  len : R.length ≤ n
  row : ∀ r ∈ R, r.length = n ∧ r.Nodup ∧ ∀ x ∈ r, 0 ≤ x ∧ x < (n : Int)
  col : ∀ c, c < n → (colL R c).Nodup
def lackL (n : Nat) (R : List (List Int)) (c : Nat) : List Int := (rngI n).filter fun t => decide (t ∉ colL R c)
def lacks (n : Nat) (R : List (List Int)) : List (List Int) := (List.range n).map (lackL n R)
theorem mem_rngI {n : Nat} {x : Int} : x ∈ rngI n ↔ 0 ≤ x ∧ x < (n : Int) := by
  unfold rngI
  rw [List.mem_map]
  constructor
  · rintro ⟨k, hk, rfl⟩
    have := List.mem_range.mp hk
    omega
  · intro h
    exact ⟨x.toNat, List.mem_range.mpr (by omega), by omega⟩
theorem rngI_nodup (n : Nat) : (rngI n).Nodup := by
  unfold rngI
  refine List.nodup_iff_pairwise_ne.mpr (List.pairwise_map.mpr ?_)
  exact (List.nodup_iff_pairwise_ne.mp List.nodup_range).imp fun h e => h (by omega)
theorem rngI_len (n : Nat) : (rngI n).length = n := by rw [rngI, List.length_map, List.length_range]
/-- a nodup list of n numbers out of a nodup list of n numbers has them all -/
theorem all_of_len {A B : List Int} (na : A.Nodup) (h : ∀ x ∈ A, x ∈ B) (hl : B.length ≤ A.length) : ∀ x ∈ B, x ∈ A := by
  intro x hx
  by_cases e : x ∈ A
  · exact e
  · exfalso
    have := len_le (T := A) (S := B.erase x) na fun y hy => by
      have : y ≠ x := fun z => e (z ▸ hy)
      exact (List.mem_erase_of_ne this).mpr (h y hy)
    rw [List.length_erase_of_mem hx] at this
    have : 0 < B.length := List.length_pos_of_mem hx
    omega
theorem row_has {n : Nat} {r : List Int} (hl : r.length = n) (nd : r.Nodup) (hr : ∀ x ∈ r, 0 ≤ x ∧ x < (n : Int)) {t : Int} (ht : 0 ≤ t ∧ t < (n : Int)) : t ∈ r :=
  all_of_len nd (fun x hx => mem_rngI.mpr (hr x hx)) (by rw [rngI_len, hl]; exact Nat.le_refl _) t (mem_rngI.mpr ht)
/-- the columns in which a thing stands are as many as the rows, at least -/
theorem stands_many {n : Nat} {t : Int} (ht : 0 ≤ t ∧ t < (n : Int)) : ∀ {R : List (List Int)}, (∀ r ∈ R, r.length = n ∧ r.Nodup ∧ ∀ x ∈ r, 0 ≤ x ∧ x < (n : Int)) → (∀ c, c < n → (colL R c).Nodup) → R.length ≤ (List.range n).countP fun c => decide (t ∈ colL R c)
  | [], _, _ => Nat.zero_le _
  | r :: R, hr, hc => by
    have ih := stands_many ht (R := R) (fun r' h => hr r' (by simp [h])) fun c h => by
      have := hc c h
      exact (List.nodup_cons.mp this).2
    obtain ⟨hl, nd, hb⟩ := hr r (by simp)
    have hmem := row_has hl nd hb ht
    obtain ⟨i, hi, e⟩ := List.getElem_of_mem hmem
    have hin : i < n := by omega
    have hg : r.getD i 0 = t := by rw [List.getD_eq_getElem?_getD, List.getElem?_eq_getElem hi]; exact e
    have hni : t ∉ colL R i := by
      have : r.getD i 0 ∉ colL R i := (List.nodup_cons.mp (hc i hin)).1
      rw [hg] at this
      exact this
    have key : ∀ (l : List Nat), l.Nodup → i ∈ l → l.countP (fun c => decide (t ∈ colL R c)) + 1 ≤ l.countP fun c => decide (t ∈ colL (r :: R) c) := by
      intro l
      induction l with
      | nil => intro _ h; cases h
      | cons c l ih =>
        intro nd h
        have hsub : ∀ l : List Nat, l.countP (fun c => decide (t ∈ colL R c)) ≤ l.countP fun c => decide (t ∈ colL (r :: R) c) := fun l => by
          refine List.countP_mono_left fun c _ hc => ?_
          exact decide_eq_true (List.mem_cons_of_mem _ (of_decide_eq_true hc))
        rw [List.countP_cons, List.countP_cons]
        by_cases e : c = i
        · subst e
          rw [decide_eq_false hni, decide_eq_true (show t ∈ colL (r :: R) c by show t ∈ r.getD c 0 :: _; rw [hg]; exact List.mem_cons_self)]
          have := hsub l
          simp
          omega
        · have hin : i ∈ l := by
            rcases List.mem_cons.mp h with z | z
            · exact absurd z.symm e
            · exact z
          have := ih (List.nodup_cons.mp nd).2 hin
          by_cases q : t ∈ colL R c
          · rw [decide_eq_true q, decide_eq_true (show t ∈ colL (r :: R) c from List.mem_cons_of_mem _ q)]
            simp
            omega
          · rw [decide_eq_false q]
            simp
            omega
    have := key (List.range n) List.nodup_range (List.mem_range.mpr hin)
    rw [List.length_cons]
    omega
theorem countP_neg (l : List Nat) (p : Nat → Bool) : l.countP (fun c => !p c) + l.countP p = l.length := by
  induction l with
  | nil => rfl
  | cons a l ih =>
    rw [List.countP_cons, List.countP_cons, List.length_cons]
    cases p a <;> simp <;> omega
theorem lack_len {n : Nat} {R : List (List Int)} (c : Nat) : n - R.length ≤ (lackL n R c).length := by
  have h : (rngI n).length ≤ (lackL n R c).length + (colL R c).length := by
    have := len_le (T := rngI n) (S := lackL n R c ++ colL R c) (rngI_nodup n) fun x hx => by
      by_cases e : x ∈ colL R c
      · exact List.mem_append_right _ e
      · exact List.mem_append_left _ (List.mem_filter.mpr ⟨hx, decide_eq_true e⟩)
    rwa [List.length_append] at this
  rw [rngI_len] at h
  unfold colL at h
  rw [List.length_map] at h
  omega
theorem dbl (T : List Int) (m : Nat → Int → Bool) : ∀ P : List Nat, (P.map fun p => T.countP fun t => m p t).sum = (T.map fun t => P.countP fun p => m p t).sum
  | [] => by
    induction T with
    | nil => rfl
    | cons t T ih => simpa using ih
  | p :: P => by
    rw [List.map_cons, List.sum_cons, dbl T m P]
    clear dbl
    induction T with
    | nil => rfl
    | cons t T ih =>
      rw [List.map_cons, List.map_cons, List.sum_cons, List.sum_cons, List.countP_cons, List.countP_cons]
      omega
theorem sum_ge {α : Type} {f : α → Nat} {d : Nat} : ∀ {l : List α}, (∀ x ∈ l, d ≤ f x) → l.length * d ≤ (l.map f).sum
  | [], _ => by simp
  | x :: l, h => by
    have := sum_ge (l := l) fun y hy => h y (by simp [hy])
    have := h x (by simp)
    rw [List.map_cons, List.sum_cons, List.length_cons, Nat.succ_mul]
    omega
theorem sum_le {α : Type} {f : α → Nat} {d : Nat} : ∀ {l : List α}, (∀ x ∈ l, f x ≤ d) → (l.map f).sum ≤ l.length * d
  | [], _ => by simp
  | x :: l, h => by
    have := sum_le (l := l) fun y hy => h y (by simp [hy])
    have := h x (by simp)
    rw [List.map_cons, List.sum_cons, List.length_cons, Nat.succ_mul]
    omega
theorem lacks_get {n : Nat} {R : List (List Int)} {c : Nat} (h : c < n) : (lacks n R).getD c [] = lackL n R c := by
  unfold lacks
  rw [List.getD_eq_getElem?_getD, List.getElem?_map, List.getElem?_range h]
  rfl
theorem lacks_len (n : Nat) (R : List (List Int)) : (lacks n R).length = n := by rw [lacks, List.length_map, List.length_range]
theorem filt_len {A B : List Int} (na : A.Nodup) (h : ∀ x ∈ A, x ∈ B) : A.length ≤ B.countP fun t => decide (t ∈ A) := by
  rw [List.countP_eq_length_filter]
  exact len_le na fun x hx => List.mem_filter.mpr ⟨h x hx, decide_eq_true hx⟩
theorem countP_sub : ∀ {A B : List Nat} (p : Nat → Bool), A.Nodup → (∀ x ∈ A, x ∈ B) → A.countP p ≤ B.countP p
  | [], B, p, _, _ => by simp
  | a :: A, B, p, nd, h => by
    have ha := h a (by simp)
    have ih := countP_sub (A := A) (B := B.erase a) p (List.nodup_cons.mp nd).2 fun x hx => by
      have : x ≠ a := fun e => (List.nodup_cons.mp nd).1 (e ▸ hx)
      exact (List.mem_erase_of_ne this).mpr (h x (by simp [hx]))
    have e : B.countP p = (B.erase a).countP p + if p a then 1 else 0 := by
      have := (List.perm_cons_erase ha).countP_eq p
      rw [this, List.countP_cons]
    rw [List.countP_cons, e]
    omega
/-- no paper: each further row is there -/
theorem no_paper {n : Nat} {R : List (List Int)} (ok : OkRows n R) (hlt : R.length < n) {hs : HS} {u : Nat} {ts : List Int} (pa : Paper (lacks n R) hs u ts) : False := by
  let P : List Nat := u :: ts.map (valH hs)
  have eP : paperOf hs u ts = P.map fun (k : Nat) => (k : Int) := by
    show _ = (u : Int) :: (ts.map (valH hs)).map _
    rw [List.map_map]
    rfl
  have ndP : P.Nodup := by
    have := pa.nodup
    rw [eP] at this
    exact List.nodup_iff_pairwise_ne.mpr ((List.pairwise_map.mp (List.nodup_iff_pairwise_ne.mp this)).imp fun h e => h (by rw [e]))
  have hP : ∀ p ∈ P, p < n ∧ ∀ x ∈ lackL n R p, x ∈ ts := fun p hp => by
    obtain ⟨v, e, hv, hx⟩ := pa.mem (z := (p : Int)) (by rw [eP]; exact List.mem_map.mpr ⟨p, hp, rfl⟩)
    have : v = p := by omega
    subst this
    rw [lacks_len] at hv
    rw [lacks_get hv] at hx
    exact ⟨hv, hx⟩
  have h1 := sum_ge (l := P) (f := fun p => ts.countP fun t => decide (t ∈ lackL n R p)) (d := n - R.length) fun p hp => by
    have nd : (lackL n R p).Nodup := (rngI_nodup n).sublist List.filter_sublist
    exact Nat.le_trans (lack_len p) (filt_len nd (hP p hp).2)
  rw [dbl ts (fun p t => decide (t ∈ lackL n R p)) P] at h1
  have h2 := sum_le (l := ts) (f := fun t => P.countP fun p => decide (t ∈ lackL n R p)) (d := n - R.length) fun t _ => by
    by_cases ht : 0 ≤ t ∧ t < (n : Int)
    · have hs := stands_many ht ok.row ok.col
      have hn := countP_neg (List.range n) fun c => decide (t ∈ colL R c)
      rw [List.length_range] at hn
      have hle : P.countP (fun p => decide (t ∈ lackL n R p)) ≤ (List.range n).countP fun c => !decide (t ∈ colL R c) := by
        refine Nat.le_trans (countP_sub (B := List.range n) _ ndP fun x hx => List.mem_range.mpr (hP x hx).1) (List.countP_mono_left fun c _ hc => ?_)
        have := (List.mem_filter.mp (of_decide_eq_true hc)).2
        simpa using this
      omega
    · have : P.countP (fun p => decide (t ∈ lackL n R p)) = 0 := by
        rw [List.countP_eq_zero]
        intro p _ hc
        exact ht (mem_rngI.mp (List.mem_filter.mp (of_decide_eq_true hc)).1)
      omega
  have hl : P.length = ts.length + 1 := by show (u :: ts.map (valH hs)).length = _; rw [List.length_cons, List.length_map]
  rw [hl, Nat.succ_mul] at h1
  have h3 : 0 < n - R.length := by omega
  omega
/-- with a further row they are such rows again -/
theorem OkRows.more {n : Nat} {R : List (List Int)} (ok : OkRows n R) (hlt : R.length < n) {r : List Int} (hl : r.length = n) (nd : r.Nodup) (hm : ∀ c, c < n → r.getD c 0 ∈ lackL n R c) : OkRows n (R ++ [r]) := by
  have hb : ∀ x ∈ r, 0 ≤ x ∧ x < (n : Int) := fun x hx => by
    obtain ⟨i, hi, e⟩ := List.getElem_of_mem hx
    have := hm i (by omega)
    rw [List.getD_eq_getElem?_getD, List.getElem?_eq_getElem hi] at this
    have := (List.mem_filter.mp this).1
    have h2 := mem_rngI.mp this
    rw [← e]
    exact h2
  refine ⟨by rw [List.length_append]; exact hlt, fun r' h => ?_, fun c hc => ?_⟩
  · rcases List.mem_append.mp h with h | h
    · exact ok.row r' h
    · rw [List.mem_singleton.mp h]
      exact ⟨hl, nd, hb⟩
  · unfold colL
    rw [List.map_append]
    refine List.nodup_append.mpr ⟨ok.col c hc, by simp, fun a ha b hb' e => ?_⟩
    have hb2 : b = r.getD c 0 := by simpa using hb'
    have h2 := (List.mem_filter.mp (hm c hc)).2
    have h3 : r.getD c 0 ∉ colL R c := by simpa using h2
    exact h3 (by rw [← hb2, ← e]; exact ha)
end My

namespace My
/-! ### a further row of a square, tried thing by thing -/
theorem Held.has {L : List (List Int)} {hs : HS} {n v : Nat} (h : Held L hs n) (hv : v < n) : ∃ y, look hs y = some v := by
  have h1 := h.one v
  rw [if_pos hv] at h1
  unfold cnt at h1
  have h2 : 0 < hs.countP fun p => decide (p.1 ∉ ([] : List Int)) && decide (p.2 = v) := by omega
  obtain ⟨p, hp, hq⟩ := List.countP_pos_iff.mp h2
  simp only [Bool.and_eq_true, decide_eq_true_eq] at hq
  exact ⟨p.1, look_of_mem h.ok.nd (by rw [← hq.2]; exact hp)⟩
/-- a row of all things that stands well below the rows -/
structure OkRow (n : Nat) (A : List (List Int)) (r : List Int) : Prop where
  len : r.length = n
  nd : r.Nodup
  at_ : ∀ c, c < n → r.getD c 0 ∈ lackL n A c
theorem row_exists {n : Nat} {R : List (List Int)} (ok : OkRows n R) (hlt : R.length < n) : ∃ r, OkRow n R r := by
  have hU : ∀ l ∈ lacks n R, ∀ x ∈ l, x ∈ rngI n := fun l hl x hx => by
    obtain ⟨c, _, rfl⟩ := List.mem_map.mp hl
    exact (List.mem_filter.mp hx).1
  have g := stuck_ok (L := lacks n R) (U := rngI n) hU (k := n + 1) (by rw [rngI_len]; omega) (lacks n R).length 0 [] (by omega) (held_nil _)
  generalize stuckF (lacks n R) (n + 1) (List.range' 0 (lacks n R).length) [] = z at g
  obtain ⟨o, hs⟩ := z
  cases o with
  | some p => exact (no_paper ok hlt (g.2 p.1 p.2 rfl)).elim
  | none =>
    have hd := g.1 rfl
    rw [lacks_len] at hd
    let pick : Nat → Int := fun v => if h : v < n then Classical.choose (hd.has h) else 0
    have hp : ∀ v, v < n → look hs (pick v) = some v := fun v hv => by
      show look hs (if h : v < n then Classical.choose (hd.has h) else 0) = some v
      rw [dif_pos hv]
      exact Classical.choose_spec (hd.has hv)
    refine ⟨(List.range n).map pick, by rw [List.length_map, List.length_range], ?_, fun c hc => ?_⟩
    · refine List.nodup_iff_pairwise_ne.mpr (List.pairwise_map.mpr ?_)
      refine List.Pairwise.imp_of_mem ?_ (List.nodup_iff_pairwise_ne.mp List.nodup_range)
      intro a b ha hb hne e
      have h1 := hp a (List.mem_range.mp ha)
      rw [e, hp b (List.mem_range.mp hb)] at h1
      exact hne (Option.some.inj h1).symm
    · have e : ((List.range n).map pick).getD c 0 = pick c := by
        rw [List.getD_eq_getElem?_getD, List.getElem?_map, List.getElem?_range hc]
        rfl
      rw [e]
      have h2 := (hd.ok.ed _ (look_mem (hp c hc))).2
      rw [lacks_get hc] at h2
      exact h2
theorem OkRow.more {n : Nat} {R : List (List Int)} {r : List Int} (h : OkRow n R r) (ok : OkRows n R) (hlt : R.length < n) : OkRows n (R ++ [r]) := ok.more hlt h.len h.nd h.at_
/-- the things that may come next -/
def nextT (n : Nat) (A : List (List Int)) (row : List Int) : List Int := (rngI n).filter fun t => decide (t ∉ row) && decide (t ∉ colL A row.length)
/-- a beginning of a row -/
structure PRow (n : Nat) (A : List (List Int)) (row : List Int) : Prop where
  len : row.length ≤ n
  nd : row.Nodup
  at_ : ∀ c, c < row.length → row.getD c 0 ∈ lackL n A c
theorem PRow.nil (n : Nat) (A : List (List Int)) : PRow n A [] := ⟨Nat.zero_le _, List.nodup_nil, fun c h => absurd h (Nat.not_lt_zero _)⟩
theorem PRow.full {n : Nat} {A : List (List Int)} {row : List Int} (p : PRow n A row) (h : row.length = n) : OkRow n A row := ⟨h, p.nd, fun c hc => p.at_ c (by omega)⟩
theorem PRow.next {n : Nat} {A : List (List Int)} {row : List Int} (p : PRow n A row) (h : row.length < n) {t : Int} (ht : t ∈ nextT n A row) : PRow n A (row ++ [t]) := by
  obtain ⟨h1, h2⟩ := List.mem_filter.mp ht
  simp only [Bool.and_eq_true, decide_eq_true_eq] at h2
  refine ⟨by rw [List.length_append]; exact h, List.nodup_append.mpr ⟨p.nd, by simp, fun a ha b hb => by
    rw [List.mem_singleton] at hb
    rintro rfl
    exact h2.1 (hb ▸ ha)⟩, fun c hc => ?_⟩
  rw [List.length_append] at hc
  have hc' : c < row.length + 1 := hc
  by_cases e : c < row.length
  · have := p.at_ c e
    rw [List.getD_eq_getElem?_getD, List.getElem?_append_left e, ← List.getD_eq_getElem?_getD]
    exact this
  · have ec : c = row.length := by omega
    subst ec
    rw [List.getD_eq_getElem?_getD, List.getElem?_append_right (Nat.le_refl _), Nat.sub_self]
    exact List.mem_filter.mpr ⟨h1, decide_eq_true h2.2⟩
/-- a full row that goes on from row goes on with one of the next things -/
theorem next_of {n : Nat} {A : List (List Int)} {row r : List Int} (h : row.length < n) (o : OkRow n A r) (hp : row <+: r) : ∃ t ∈ nextT n A row, row ++ [t] <+: r := by
  obtain ⟨tl, rfl⟩ := hp
  have hl := o.len
  rw [List.length_append] at hl
  cases tl with
  | nil => simp at hl; omega
  | cons t tl =>
    refine ⟨t, ?_, ⟨tl, by simp⟩⟩
    have h1 := o.at_ row.length (by omega)
    rw [List.getD_eq_getElem?_getD, List.getElem?_append_right (Nat.le_refl _), Nat.sub_self] at h1
    obtain ⟨h2, h3⟩ := List.mem_filter.mp h1
    refine List.mem_filter.mpr ⟨h2, ?_⟩
    have h4 := List.nodup_append.mp o.nd
    simp only [Bool.and_eq_true]
    exact ⟨decide_eq_true fun z => h4.2.2 t z t List.mem_cons_self rfl, h3⟩
theorem turn_at {len : Nat} (h : 0 < len) (t : Int) {i : Nat} (hi : i < len) : ∃ j : Nat, j < len ∧ (t + (j : Int)) % (len : Int) = (i : Int) := by
  have hl : (0 : Int) < (len : Int) := by omega
  have h1 := Int.emod_nonneg ((i : Int) - t) (by omega : (len : Int) ≠ 0)
  have h2 := Int.emod_lt_of_pos ((i : Int) - t) hl
  refine ⟨(((i : Int) - t) % (len : Int)).toNat, by omega, ?_⟩
  rw [Int.toNat_of_nonneg h1, Int.add_emod, Int.emod_emod_of_dvd _ (Int.dvd_refl _), ← Int.add_emod]
  rw [show t + ((i : Int) - t) = (i : Int) by omega]
  exact Int.emod_eq_of_lt (by omega) (by omega)
end My

namespace My
/-! ### rings -/
/-- s leads the numbers below n to each other, one to one -/
structure One (n : Nat) (s : Nat → Nat) : Prop where
  lt : ∀ c, c < n → s c < n
  inj : ∀ c d, c < n → d < n → s c = s d → c = d
def lastN (acc : List Nat) : Nat := acc.getLast?.getD 0
theorem lastN_app (acc : List Nat) (x : Nat) : lastN (acc ++ [x]) = x := by simp [lastN]
/-- from c on, each behind the one that leads to it -/
inductive Path (n : Nat) (s : Nat → Nat) (c : Nat) : List Nat → Prop
  | one : c < n → Path n s c [c]
  | more {acc : List Nat} : Path n s c acc → s (lastN acc) ∉ acc → Path n s c (acc ++ [s (lastN acc)])
theorem Path.lt {n : Nat} {s : Nat → Nat} {c : Nat} (o : One n s) {acc : List Nat} (p : Path n s c acc) : ∀ x ∈ acc, x < n := by
  induction p with
  | one h => intro x hx; rw [List.mem_singleton.mp hx]; exact h
  | @more acc p _ ih =>
    have hl : lastN acc < n := by
      cases p with
      | one h => exact h
      | @more acc' p' _ => rw [lastN_app]; exact ih _ (by simp)
    intro x hx
    rcases List.mem_append.mp hx with hx | hx
    · exact ih x hx
    · rw [List.mem_singleton.mp hx]
      exact o.lt _ hl
theorem Path.last_mem {n : Nat} {s : Nat → Nat} {c : Nat} {acc : List Nat} (p : Path n s c acc) : lastN acc ∈ acc := by
  cases p with
  | one _ => exact List.mem_singleton.mpr rfl
  | more _ _ => rw [lastN_app]; simp
theorem Path.nodup {n : Nat} {s : Nat → Nat} {c : Nat} {acc : List Nat} (p : Path n s c acc) : acc.Nodup := by
  induction p with
  | one _ => simp
  | more p h ih => exact List.nodup_append.mpr ⟨ih, by simp, fun a ha b hb e => h (by rw [← List.mem_singleton.mp hb, ← e]; exact ha)⟩
theorem Path.head_mem {n : Nat} {s : Nat → Nat} {c : Nat} {acc : List Nat} (p : Path n s c acc) : c ∈ acc := by
  induction p with
  | one _ => exact List.mem_singleton.mpr rfl
  | more _ _ ih => exact List.mem_append_left _ ih
/-- each one but the first has one ahead that leads to it -/
theorem Path.pred {n : Nat} {s : Nat → Nat} {c : Nat} {acc : List Nat} (p : Path n s c acc) : ∀ x ∈ acc, x ≠ c → ∃ y ∈ acc, y ≠ lastN acc ∧ s y = x := by
  induction p with
  | one _ => intro x hx hne; exact absurd (List.mem_singleton.mp hx) hne
  | @more acc p h ih =>
    intro x hx hne
    rw [lastN_app]
    rcases List.mem_append.mp hx with hx | hx
    · obtain ⟨y, hy, _, e⟩ := ih x hx hne
      exact ⟨y, List.mem_append_left _ hy, fun z => h (z ▸ hy), e⟩
    · exact ⟨lastN acc, List.mem_append_left _ p.last_mem, fun z => h (z ▸ p.last_mem), (List.mem_singleton.mp hx).symm⟩
theorem Path.back {n : Nat} {s : Nat → Nat} {c : Nat} (o : One n s) {acc : List Nat} (p : Path n s c acc) (h : s (lastN acc) ∈ acc) : s (lastN acc) = c := by
  by_cases e : s (lastN acc) = c
  · exact e
  · obtain ⟨y, hy, hne, hs⟩ := p.pred _ h e
    exact absurd (o.inj _ _ (p.lt o _ hy) (p.lt o _ p.last_mem) hs) hne
theorem nat_len {l : List Nat} {n : Nat} (nd : l.Nodup) (h : ∀ x ∈ l, x < n) : l.length ≤ n := by
  have nd' : (l.map fun (c : Nat) => (c : Int)).Nodup := List.nodup_iff_pairwise_ne.mpr (List.pairwise_map.mpr ((List.nodup_iff_pairwise_ne.mp nd).imp fun h e => h (by omega)))
  have := len_le nd' (S := rngI n) fun x hx => by
    obtain ⟨c, hc, rfl⟩ := List.mem_map.mp hx
    have := h c hc
    exact mem_rngI.mpr ⟨by omega, by omega⟩
  rwa [List.length_map, rngI_len] at this
def ringF (s : Nat → Nat) (c : Nat) : Nat → List Nat → List Nat
  | 0, acc => acc
  | m + 1, acc => if s (lastN acc) = c then acc else ringF s c m (acc ++ [s (lastN acc)])
def ringL (s : Nat → Nat) (n c : Nat) : List Nat := ringF s c n [c]
theorem Path.next {n : Nat} {s : Nat → Nat} {c : Nat} (o : One n s) {acc : List Nat} (p : Path n s c acc) (h : s (lastN acc) ≠ c) : Path n s c (acc ++ [s (lastN acc)]) ∧ acc.length < n := by
  have p' : Path n s c (acc ++ [s (lastN acc)]) := .more p fun z => h (p.back o z)
  refine ⟨p', ?_⟩
  have := nat_len p'.nodup (p'.lt o)
  rw [List.length_append] at this
  exact this
theorem ringF_ok {n : Nat} {s : Nat → Nat} {c : Nat} (o : One n s) : ∀ (m : Nat) (acc : List Nat), Path n s c acc → n < m + acc.length + 1 → Path n s c (ringF s c m acc) ∧ s (lastN (ringF s c m acc)) = c
  | 0, acc, p, h => by
    refine ⟨p, ?_⟩
    by_cases e : s (lastN acc) = c
    · exact e
    · have := (p.next o e).2
      omega
  | m + 1, acc, p, h => by
    rw [ringF]
    by_cases e : s (lastN acc) = c
    · rw [if_pos e]
      exact ⟨p, e⟩
    · rw [if_neg e]
      exact ringF_ok o m _ (p.next o e).1 (by rw [List.length_append]; show n < m + (acc.length + 1) + 1; omega)
theorem ring_ok {n : Nat} {s : Nat → Nat} {c : Nat} (o : One n s) (hc : c < n) : Path n s c (ringL s n c) ∧ s (lastN (ringL s n c)) = c := ringF_ok o n [c] (.one hc) (by simp; omega)
/-- closed either way -/
theorem ring_closed {n : Nat} {s : Nat → Nat} {c : Nat} (o : One n s) (hc : c < n) {x : Nat} (hx : x ∈ ringL s n c) : s x ∈ ringL s n c ∧ ∃ y ∈ ringL s n c, s y = x := by
  obtain ⟨p, e⟩ := ring_ok o hc
  constructor
  · generalize ringL s n c = acc at p e hx
    have go : ∀ {acc : List Nat}, Path n s c acc → ∀ x ∈ acc, x = lastN acc ∨ s x ∈ acc := by
      intro acc p
      induction p with
      | one _ => intro x hx; exact .inl (List.mem_singleton.mp hx)
      | @more acc p h ih =>
        intro x hx
        rw [lastN_app]
        rcases List.mem_append.mp hx with hx | hx
        · rcases ih x hx with z | z
          · exact .inr (by rw [z]; simp)
          · exact .inr (List.mem_append_left _ z)
        · exact .inl (List.mem_singleton.mp hx)
    rcases go p x hx with z | z
    · rw [z, e]
      exact p.head_mem
    · exact z
  · by_cases h : x = c
    · exact ⟨_, p.last_mem, e.trans h.symm⟩
    · obtain ⟨y, hy, _, hs⟩ := p.pred x hx h
      exact ⟨y, hy, hs⟩
/-- the rings of the columns below i -/
def ringsTo (s : Nat → Nat) (n : Nat) : Nat → List (List Nat)
  | 0 => []
  | i + 1 => if (ringsTo s n i).all (fun r => decide (i ∉ r)) = true then ringsTo s n i ++ [ringL s n i] else ringsTo s n i
end My

namespace My
open PySem L2 PySem.W
/-! ### picks, sorted; parts -/
def mxP (p : List Nat) : Nat := match p with
  | [] => 0
  | x :: r => (x :: r).foldl Nat.max 0 + 1
def rp (n : Nat) : Nat → List (List Nat)
  | 0 => [[]]
  | k + 1 => (rp n k).flatMap fun p => (List.range' (mxP p) (n - mxP p)).map fun x => p ++ [x]
def toZ (l : List Nat) : List Int := l.map fun (c : Nat) => (c : Int)
theorem rp_ok : ∀ n, n < 7 → ∀ k, k < 7 → ((rp n k).all fun p => decide (p.length = k) && decide (p.Nodup) && p.all fun x => decide (x < n)) = true := by decide +kernel
structure Pick (n k : Nat) (p : List Nat) : Prop where
  len : p.length = k
  nd : p.Nodup
  lt : ∀ x ∈ p, x < n
theorem rp_pick {n k : Nat} (h6 : n ≤ 6) (hk : k ≤ 6) {p : List Nat} (hp : p ∈ rp n k) : Pick n k p := by
  have h := rp_ok n (by omega) k (by omega)
  rw [List.all_eq_true] at h
  have h1 := h p hp
  rw [Bool.and_eq_true, Bool.and_eq_true, decide_eq_true_eq, decide_eq_true_eq, List.all_eq_true] at h1
  exact ⟨h1.1.1, h1.1.2, fun x hx => of_decide_eq_true (h1.2 x hx)⟩
theorem rp_few : ∀ n, n < 7 → ∀ k, k < 7 → decide ((rp n k).length ≤ 20) = true := by decide +kernel
end My

namespace My
open PySem L2
def top (i : Nat) : Stmt := PySem.Challenge.pw_latinclose_k35_whole_rings_of_two.main.body.getD i (.Pass ⟨0, 0, 0, 0⟩)
abbrev sWith : Stmt := top 5
abbrev sRising : Stmt := top 7
abbrev sThingsIn : Stmt := top 8
abbrev sParts : Stmt := top 9
abbrev sIsPick : Stmt := top 10
abbrev sIsPart : Stmt := top 11
abbrev sPutIn : Stmt := top 12
abbrev sRingFrom : Stmt := top 14
abbrev sRingsP : Stmt := top 15
abbrev sTaken : Stmt := top 16
abbrev sExP : Stmt := top 17
abbrev sCell : Stmt := top 19
abbrev sDigits : Stmt := top 20
abbrev sRowOn : Stmt := top 21
abbrev sSquare : Stmt := top 22
abbrev sTable : Stmt := top 23
abbrev sRing : Stmt := top 24
abbrev sExchanged : Stmt := top 25
abbrev sMade : Stmt := top 26
abbrev sPairs : Stmt := top 27
abbrev sLaw : Stmt := top 28
/-- the built-ins stand under their names -/
structure Blt (mg : Str → Option Value) : Prop where
  len : mg "len" = none
  range : mg "range" = none
  tuple : mg "tuple" = none
  list : mg "list" = none
  int : mg "int" = none
  sorted : mg "sorted" = none
  set : mg "set" = none
  max : mg "max" = none
  zip : mg "zip" = none
  min : mg "min" = none
end My

namespace My
open PySem L2
/-! ### cells, digits -/
def spCell (K : PySem.W.Frag) : Sp := fun vs H Q _ => ∃ (a : Addr) (ns : List Int) (k : Nat), vs = [.ref a, .int k] ∧ SqL K H a (ns.map V.int) ∧ ∀ z : Int, Q (.int z) H
def spDigits : Sp := fun vs H Q _ => ∃ (cell : Int) (m : Nat) (z : Int), vs = [.int cell, .int (m : Int), .int z] ∧ m ≤ 1000 ∧ 0 < z ∧ z < 1073741824 ∧
  ∀ l H' (ns : List Int), H l = none → Same H H' → H' l = some (.lst (ns.map V.int)) → ns.length = m → (∀ x ∈ ns, 0 ≤ x ∧ x < z) → Q (.ref l) H'
section
variable {P : Program} {w : World} {K : PySem.W.Frag} {mg : Str → Option Value} {base : Heap}
theorem scCell : FnScope ["_law_script", "_law_k"] ["_law_script", "_law_k"] (defScope sCell) := ⟨rfl, rfl, rfl, by decide +kernel, rfl, by decide +kernel, by decide +kernel⟩
theorem ok_cell {f : Addr} {fd : FuncData} (F : Fun K "_law_cell_at" "_law_cell_at" sCell f fd) (T : Blt mg) : FnOk P w K mg base CX0 1 f fd ["_law_script", "_law_k"] (spCell K) := by
  refine F.ok scCell (fun vs H Q E h => ?_) (fun cdv A outer s H vs Q E hr h => ?_)
  · obtain ⟨a, ns, k, rfl, _⟩ := h
    rfl
  · obtain ⟨a, ns, k, rfl, hS, q⟩ := h
    refine ⟨_, pss_cons (ps_if (pt_cmpR op_lt (pv 1) (pe_callB (call_lenK K) rfl T.len PySem.boot_len (pa_cons (pv 0) pa_nil)) (nomark _)) (pss_one (ps_ret (pe_ix ix_list (pv 0) (pv 1) (fun _ _ => rfl)))) pss_nil)
      (pss_one (ps_ret pe_int)), ?_⟩
    refine ⟨_, rfl, _, rfl, a, _, rfl, .inl hS, _, _, rfl, rfl, _, rfl, ?_⟩
    refine ite2 (fun hc => ?_) (fun _ => q 0)
    have hlt : k < ns.length := by
      have := of_decide_eq_true hc
      rw [List.length_map] at this
      omega
    have hat : (ns.map V.int)[k]? = some (.int ns[k]) := by rw [List.getElem?_map]; simp [hlt]
    exact ⟨_, rfl, _, rfl, a, _, _, _, rfl, rfl, hS, atI_of hat, q _⟩
theorem mod31 (x : Int) : -(2 ^ 64) < x % 2147483647 ∧ x % 2147483647 < 2 ^ 64 :=
  ⟨Int.lt_of_lt_of_le (by decide) (Int.emod_nonneg _ (by decide)), Int.lt_trans (Int.emod_lt_of_pos _ (by decide)) (by decide)⟩
theorem scDigits : FnScope ["_law_cell", "_law_many", "_law_most", "_law_found", "_law_number", "_law_k", "_law_mixed"] ["_law_cell", "_law_many", "_law_most"] (defScope sDigits) := ⟨rfl, rfl, rfl, by decide +kernel, rfl, by decide +kernel, by decide +kernel⟩
theorem ok_digits {f : Addr} {fd : FuncData} (F : Fun K "_law_digits" "_law_digits" sDigits f fd) (T : Blt mg) : FnOk P w K mg base CX0 1 f fd ["_law_cell", "_law_many", "_law_most"] spDigits := by
  refine F.ok scDigits (fun vs H Q E h => ?_) (fun cdv A outer s H vs Q E hr h => ?_)
  · obtain ⟨_, _, _, rfl, _⟩ := h
    rfl
  · obtain ⟨cell, m, z, rfl, hm, hz, hz2, k⟩ := h
    refine' ⟨_, pss_cons (ps_set (i := 3) scDigits.nd rfl (Or.inl rfl) (pe_lst pa_nil)) (pss_cons (ps_set (i := 4) scDigits.nd rfl (Or.inl rfl) (pe_op op_fdiv (pv 0) pe_int))
      (pss_cons (ps_for PassesOwn.never rfl (pi_range1 rfl T.range (pa_cons (pv 1) pa_nil)) (pg_name (i := 5) scDigits.nd rfl (Or.inl rfl)) (pss_one (ps_if (pt_cmpR op_eq (pe_op op_mod (pv 0) pe_int) pe_int (nomark _)) (pss_cons ?a0 (pss_one ?a1)) (pss_cons ?b0 (pss_cons ?b1 (pss_one ?b2))))))
      (pss_one (ps_ret (pv 3))))), ?rd⟩
    case a0 => exact ps_expr (pe_bm PySem.F.plainAttrs_list PySem.F.slot_list_append PySem.F.type_list_append mt_append (pv 3) (pa_cons (pe_op op_mod (pv 4) (pv 2)) pa_nil))
    case a1 => exact ps_set (i := 4) scDigits.nd rfl (Or.inl rfl) (pe_op op_fdiv (pv 4) (pv 2))
    case b0 => exact ps_set (i := 6) scDigits.nd rfl (Or.inl rfl) (pe_op op_mod (pe_op op_mul (pe_op op_add (pe_op op_add (pe_op op_mod (pv 4) pe_int) (pe_op op_mul pe_int (pv 5))) pe_int) pe_int) pe_int)
    case b1 => exact ps_set (i := 6) scDigits.nd rfl (Or.inl rfl) (pe_op op_mod (pe_op op_add (pe_op op_add (pe_op op_mul (pv 6) (pv 6)) (pe_op op_mul pe_int (pv 5))) pe_int) pe_int)
    case b2 => exact ps_expr (pe_bm PySem.F.plainAttrs_list PySem.F.slot_list_append PySem.F.type_list_append mt_append (pv 3) (pa_cons (pe_op op_mod (pe_op op_fdiv (pe_op op_mod (pe_op op_mul (pv 6) pe_int) pe_int) pe_int) (pv 2)) pa_nil))
    case rd =>
      refine ⟨Nat.zero_le _, fun l hl => ?_⟩
      have sm1 : Same H (upd H l (.lst [])) := Same.new hl
      refine ⟨_, rfl, _, _, rfl, rfl, ⟨by decide, by decide⟩, ?_⟩
      refine ⟨_, rfl, (m : Int), rfl, by omega, by omega, ?_⟩
      rw [Int.toNat_natCast]
      refine for_range (lo := 0) (n := m) (fun i σ H2 => ∃ (num : Int) (kk mx : Option V) (ns : List Int), σ = [some (.int cell), some (.int (m : Int)), some (.int z), some (.ref l), some (.int num), kk, mx] ∧ H2 l = some (.lst (ns.map V.int)) ∧ Same H H2 ∧ ns.length = i ∧ ∀ x ∈ ns, 0 ≤ x ∧ x < z)
        ⟨cell / 2, none, none, [], rfl, upd_same, sm1, rfl, fun x hx => by cases hx⟩ ?_ ?_
      · rintro i σ H2 hi ⟨num, kk, mx, ns, rfl, hl2, sm2, hlen, hb⟩
        rw [Int.zero_add]
        have hls : (ns.map V.int).length < sizeLine := by rw [List.length_map]; exact small1000 (by omega)
        have fin : ∀ (y : Int), 0 ≤ y → y < z → ∀ (num' : Int) (mx' : Option V), ∃ (num : Int) (kk mx : Option V) (ns_1 : List Int), [some (V.int cell), some (.int (m : Int)), some (.int z), some (.ref l), some (.int num'), some (.int (i : Int)), mx'] = [some (.int cell), some (.int (m : Int)), some (.int z), some (.ref l), some (.int num), kk, mx] ∧
            (upd H2 l (.lst (ns.map V.int ++ [.int y]))) l = some (.lst (ns_1.map V.int)) ∧ Same H (upd H2 l (.lst (ns.map V.int ++ [.int y]))) ∧ ns_1.length = i + 1 ∧ ∀ x ∈ ns_1, 0 ≤ x ∧ x < z := fun y h0 h1 num' mx' => by
          refine ⟨num', _, mx', ns ++ [y], rfl, ?_, sm2.upd_new hl, by rw [List.length_append, hlen]; rfl, fun x hx => ?_⟩
          · rw [upd_same, List.map_append]
            rfl
          · rcases List.mem_append.mp hx with hx | hx
            · exact hb x hx
            · rw [List.mem_singleton.mp hx]
              exact ⟨h0, h1⟩
        refine ⟨_, rfl, _, _, rfl, rfl, (by show (0 : Int) < 2; decide), rfl, _, rfl, ?_⟩
        refine ite2 (fun _ => ?_) (fun _ => ?_)
        · refine ⟨_, rfl, .inl ⟨rfl, _, SqL.of hl2⟩, _, rfl, _, rfl, _, _, rfl, rfl, hz, l, _, _, rfl, rfl, hl2, hls, ?_⟩
          refine ⟨_, rfl, _, rfl, _, _, rfl, rfl, ⟨hz, hz2⟩, ?_⟩
          exact fin _ (Int.emod_nonneg _ (by omega)) (Int.emod_lt_of_pos _ hz) _ _
        · refine ⟨_, rfl, _, _, rfl, rfl, (by show (0 : Int) < 2147483629; decide), _, rfl, _, _, rfl, rfl, .inl ⟨by decide, by decide⟩, _, _, rfl, rfl, _, _, rfl, rfl, _, _, rfl, rfl, .inr ⟨by decide, by decide⟩, _, _, rfl, rfl, (by show (0 : Int) < 2147483647; decide), ?_⟩
          refine ⟨_, rfl, _, rfl, _, _, rfl, rfl, .inl (mod31 _), _, rfl, _, _, rfl, rfl, .inl ⟨by decide, by decide⟩, _, _, rfl, rfl, _, _, rfl, rfl, _, _, rfl, rfl, (by show (0 : Int) < 2147483629; decide), ?_⟩
          refine ⟨_, rfl, .inl ⟨rfl, _, SqL.of hl2⟩, _, rfl, _, _, rfl, rfl, .inr ⟨by decide, by decide⟩, _, _, rfl, rfl, (by show (0 : Int) < 2147483587; decide), _, _, rfl, rfl, ⟨by decide, by decide⟩, _, rfl, _, _, rfl, rfl, hz, l, _, _, rfl, rfl, hl2, hls, ?_⟩
          exact fin _ (Int.emod_nonneg _ (by omega)) (Int.emod_lt_of_pos _ hz) _ _
      · rintro σ H2 ⟨num, kk, mx, ns, rfl, hl2, sm2, hlen, hb⟩
        exact ⟨_, rfl, k l H2 ns hl sm2 hl2 hlen hb⟩
end
end My

namespace My
open PySem L2
/-! ### a row gone through, a square -/
def LLs (H : Hp) (a : Addr) (L : List (List Int)) : Prop := ∃ ps : List Addr, H a = some (.lst (ps.map V.ref)) ∧ Paired (fun p l => H p = some (.lst (l.map V.int))) ps L
theorem LLs.same {c : Addr} {H H1 : Hp} {L : List (List Int)} (g : LLs H c L) (x : Same H H1) : LLs H1 c L :=
  let ⟨ps, h, r⟩ := g
  ⟨ps, x _ _ h, Paired.mapP r fun _ _ z => x _ _ z⟩
theorem inV_ints (t : Int) : ∀ xs : List Int, inV (.int t) (xs.map V.int) = decide (t ∈ xs)
  | [] => rfl
  | x :: xs => by
    have ih := inV_ints t xs
    unfold inV at ih ⊢
    rw [List.map_cons, List.any_cons, ih]
    show ((x == t) || _) = _
    rw [Bool.eq_iff_iff]
    simp only [Bool.or_eq_true, beq_iff_eq, decide_eq_true_eq, List.mem_cons]
    exact ⟨fun h => h.elim (fun e => .inl e.symm) .inr, fun h => h.elim (fun e => .inl e.symm) .inr⟩
theorem col_of {R : List (List Int)} {c : Nat} : ((List.range R.length).map fun i => V.int ((R.getD i []).getD c 0)) = (colL R c).map V.int := by
  unfold colL
  refine List.ext_getElem? fun i => ?_
  rw [List.map_map, List.getElem?_map, List.getElem?_map]
  by_cases h : i < R.length
  · rw [List.getElem?_range h, List.getElem?_eq_getElem h]
    simp [List.getD_eq_getElem?_getD, List.getElem?_eq_getElem h]
  · rw [List.getElem?_eq_none (by simpa using h), List.getElem?_eq_none (by simpa using h)]
    rfl
theorem filt_next {n : Nat} {A : List (List Int)} {row : List Int} : ((List.range n).filterMap fun j => if (decide (((j : Nat) : Int) ∉ row) && decide (((j : Nat) : Int) ∉ colL A row.length)) = true then some (V.int ((j : Nat) : Int)) else none) = (nextT n A row).map V.int := by
  unfold nextT rngI
  induction List.range n with
  | nil => rfl
  | cons j l ih =>
    rw [List.filterMap_cons, List.map_cons, List.filter_cons]
    cases h : (decide (((j : Nat) : Int) ∉ row) && decide (((j : Nat) : Int) ∉ colL A row.length)) with
    | true => rw [if_pos rfl, if_pos rfl, List.map_cons, ih]
    | false => rw [if_neg Bool.false_ne_true, if_neg Bool.false_ne_true, ih]
def spRowOn (k : Nat) : Sp := fun vs H Q _ => ∃ (aA ar at_ : Addr) (n : Nat) (A : List (List Int)) (row ts : List Int), vs = [.ref aA, .ref ar, .int (n : Int), .ref at_] ∧ LLs H aA A ∧ (∀ o ∈ A, o.length = n) ∧ A.length ≤ 8 ∧ H ar = some (.lst (row.map V.int)) ∧ PRow n A row ∧ n ≤ 8 ∧
  H at_ = some (.lst (ts.map V.int)) ∧ ts.length = n ∧ n - row.length < k ∧
  (∀ (p : Addr) (H' : Hp) (r : List Int), Same H H' → H' p = some (.lst (r.map V.int)) → OkRow n A r → row <+: r → Q (.ref p) H') ∧ (∀ H', Same H H' → (∀ r, OkRow n A r → row <+: r → False) → Q .non H')
section
variable {P : Program} {w : World} {K : PySem.W.Frag} {mg : Str → Option Value} {base : Heap}
theorem scRowOn : FnScope ["_law_above", "_law_row", "_law_size", "_law_turns", "_law_ahead", "_law_some", "_law_k", "_law_found"] ["_law_above", "_law_row", "_law_size", "_law_turns"] (defScope sRowOn) := ⟨rfl, rfl, rfl, by decide +kernel, rfl, by decide +kernel, by decide +kernel⟩
theorem ok_rowOn {f : Addr} {fd : FuncData} (D : Dfn K mg "_law_row_on" sRowOn ["_law_above", "_law_row", "_law_size", "_law_turns"] f fd) (T : Blt mg) : ∀ k : Nat, FnOk P w K mg base CX0 k f fd ["_law_above", "_law_row", "_law_size", "_law_turns"] (spRowOn k)
  | 0 => ⟨fun vs H Q E h => by obtain ⟨_, _, _, _, _, _, _, rfl, _⟩ := h; rfl, fun A outer s H args us vs Q E _ _ _ _ h => by obtain ⟨_, _, _, _, _, _, _, rfl, _, _, _, _, _, _, _, _, z, _⟩ := h; exact absurd z (Nat.not_lt_zero _)⟩
  | k + 1 => by
    have G := ok_rowOn D T k
    refine D.F.ok scRowOn (fun vs H Q E h => ?_) (fun cdv A0 outer s H vs Q E hr h => ?_)
    · obtain ⟨_, _, _, _, _, _, _, rfl, _⟩ := h
      rfl
    · obtain ⟨aA, ar, at_, n, A, row, ts, rfl, hA, hAn, hA8, hrow, pr, h8, hts, htl, hk, q1, q2⟩ := h
      refine' ⟨_, pss_cons ?s0 (pss_cons ?s1 (pss_cons ?s2 (pss_cons (ps_for PassesOwn.never rfl ?i (pg_name (i := 6) scRowOn.nd rfl (Or.inl rfl)) (pss_cons ?b0 (pss_one ?b1))) (pss_one (ps_ret pe_non))))), ?rd⟩
      case s0 => exact ps_if (pt_cmpR op_eq (pe_callB (call_lenK K) rfl T.len PySem.boot_len (pa_cons (pv 1) pa_nil)) (pv 2) (nomark _)) (pss_one (ps_ret (pv 1))) pss_nil
      case s1 => exact ps_set (i := 4) scRowOn.nd rfl (Or.inr rfl) (pe_lc ["_law_one", "_law_row"] [none, some 1] rfl rfl (pi_listK K (pv 0)) (fun _ _ _ _ _ => pg_c 0) (fun _ _ _ _ _ => pts_nil) (fun _ _ _ _ _ => pe_ix (ix_listK K) (pv 0) (pe_callB (call_lenK K) rfl T.len PySem.boot_len (pa_cons (pv 1) pa_nil)) (fun _ _ => rfl)))
      case s2 => exact ps_lc (i := 5) ["_law_thing", "_law_row", "_law_ahead"] [none, some 1, some 4] scRowOn.nd rfl (Or.inl rfl) rfl rfl (pi_range1 rfl T.range (pa_cons (pv 2) pa_nil)) (fun _ _ _ _ _ => pg_c 0) (fun _ _ _ _ _ => pts_one (PW.pt (pw_and (pt_cmpR (op_notInK K) (pv 0) (pv 1) rfl) (pw_and1 (pt_cmpR (op_notInK K) (pv 0) (pv 2) rfl))))) (fun _ _ _ _ _ => pv 0)
      case i => exact pi_range1 rfl T.range (pa_cons (pe_callB (call_lenK K) rfl T.len PySem.boot_len (pa_cons (pv 5) pa_nil)) pa_nil)
      case b0 => exact ps_set (i := 7) scRowOn.nd rfl (Or.inl rfl) (pe_call G hr rfl D.m D.F.kp D.b .nil pass0 (pa_cons (pv 0) (pa_cons (pe_op op_cat (pv 1) (pe_lst (pa_cons (pe_ix ix_list (pv 5) (pe_op op_mod (pe_op op_add (pe_ix ix_list (pv 3) (pe_callB (call_lenK K) rfl T.len PySem.boot_len (pa_cons (pv 1) pa_nil)) (fun _ _ => rfl)) (pv 6)) (pe_callB (call_lenK K) rfl T.len PySem.boot_len (pa_cons (pv 5) pa_nil))) (fun _ _ => rfl)) pa_nil))) (pa_cons (pv 2) (pa_cons (pv 3) pa_nil)))))
      case b1 => exact ps_if (pt_cmp (pc_notN (pv 7))) (pss_one (ps_ret (pv 7))) pss_nil
      case rd =>
        have hrl : (row.map V.int).length = row.length := List.length_map _
        refine ⟨_, rfl, ar, _, rfl, .inl (SqL.of hrow), _, rfl, rfl, _, rfl, ?_⟩
        rw [hrl]
        refine ite2 (fun hc => ?_) (fun hc => ?_)
        · have e : row.length = n := by
            have e := of_decide_eq_true hc
            injection e with e
            omega
          exact ⟨_, rfl, q1 ar H row (Same.refl H) hrow (pr.full e) (List.prefix_refl _)⟩
        have hlt : row.length < n := by
          have h1 : row.length ≠ n := fun e => hc (decide_eq_true (by rw [e]))
          have := pr.len
          omega
        obtain ⟨ps, hps, hPs⟩ := id hA
        have hpl : (ps.map V.ref).length = A.length := by rw [List.length_map, hPs.length]
        refine ⟨_, rfl, aA, rfl, ⟨_, SqL.of hps⟩, fun l5 hl5 => comp_pure (fun i => some (V.int ((A.getD i []).getD row.length 0))) (fun σ => ∃ v, σ = [v, some (.ref ar)]) (wlk_list (xs := ps.map V.ref)) (by rw [hpl]; exact small6 (by omega)) hl5 (fun H' sm => SqL.of (sm _ _ hps)) ⟨none, rfl⟩ ?_ ?_⟩
        · rintro i x σ H' R' hi ⟨v, rfl⟩ sm kk
          rw [List.getElem?_map] at hi
          cases hpi : ps[i]? with
          | none => rw [hpi] at hi; cases hi
          | some p =>
            rw [hpi] at hi
            cases hi
            obtain ⟨o, ho, hp⟩ := Paired.getL hPs hpi
            have hol : o.length = n := hAn o (List.mem_of_getElem? ho)
            have hat : (o.map V.int)[row.length]? = some (.int ((A.getD i []).getD row.length 0)) := by
              rw [List.getElem?_map, List.getElem?_eq_getElem (by omega)]
              simp [List.getD_eq_getElem?_getD, ho, List.getElem?_eq_getElem (show row.length < o.length by omega)]
            exact ⟨_, rfl, _, rfl, ar, row.map V.int, rfl, .inl (SqL.of (sm _ _ hrow)), p, o.map V.int, (row.length : Int), _, rfl, by rw [hrl], SqL.of (sm _ _ hp), atI_of hat, kk _ _ ⟨_, rfl⟩ (Same.refl _)⟩
        intro H5 s5 hl5'
        rw [filterMap_some, hpl, col_of] at hl5'
        have hrow5 := s5 _ _ hrow
        refine ⟨_, rfl, (n : Int), rfl, by omega, by omega, fun l6 hl6 => ?_⟩
        rw [Int.toNat_natCast]
        refine comp_pure (fun j => if (decide (((j : Nat) : Int) ∉ row) && decide (((j : Nat) : Int) ∉ colL A row.length)) = true then some (V.int ((j : Nat) : Int)) else none) (fun σ => ∃ v, σ = [v, some (.ref ar), some (.ref l5)]) (wlk_range (n := n)) (by rw [rng_len]; exact small6 (by omega)) hl6 (fun _ _ => trivial) ⟨none, rfl⟩ ?_ ?_
        · rintro i x σ H' R' hi ⟨v, rfl⟩ sm kk
          obtain ⟨hin, rfl⟩ := rng_get hi
          have kk' := fun v' => kk [v', some (.ref ar), some (.ref l5)] H' ⟨v', rfl⟩ (Same.refl _)
          refine ⟨_, rfl, _, rfl, ar, row.map V.int, rfl, .inl (SqL.of (sm _ _ hrow5)), rfl, map_ints_flat row, _, rfl, ?_⟩
          have e1 : (if true = true then !inV (.int (i : Int)) (row.map V.int) else inV (.int (i : Int)) (row.map V.int)) = decide ((i : Int) ∉ row) := by rw [if_pos rfl, inV_ints]; simp
          rw [e1]
          refine ite2 (fun hc3 => ?_) (fun hc3 => ?_)
          rotate_left
          · rw [Bool.not_eq_true] at hc3
            rw [hc3, Bool.false_and, if_neg Bool.false_ne_true] at kk'
            exact iteF (kk' _)
          refine ⟨_, rfl, _, rfl, l5, (colL A row.length).map V.int, rfl, .inl (SqL.of (sm _ _ hl5')), rfl, map_ints_flat _, _, rfl, ?_⟩
          have e2 : (if true = true then !inV (.int (i : Int)) ((colL A row.length).map V.int) else inV (.int (i : Int)) ((colL A row.length).map V.int)) = decide ((i : Int) ∉ colL A row.length) := by rw [if_pos rfl, inV_ints]; simp
          rw [e2]
          rw [hc3, Bool.true_and] at kk'
          refine ite2 (fun hc4 => ?_) (fun hc4 => ?_)
          · rw [if_pos hc4] at kk'
            exact ⟨_, rfl, kk' _⟩
          · rw [if_neg hc4] at kk'
            exact kk' _
        intro H6 s6 hl6'
        rw [rng_len, filt_next] at hl6'
        have sH6 := s5.trans s6
        have hsl : ((nextT n A row).map V.int).length = (nextT n A row).length := List.length_map _
        refine ⟨_, rfl, l6, _, rfl, .inl (SqL.of hl6'), _, rfl, by omega, ?_, ?_⟩
        · rw [hsl]
          have : (nextT n A row).length ≤ n := by
            unfold nextT
            refine Nat.le_trans (List.length_filter_le _ _) ?_
            rw [rngI_len]
            exact Nat.le_refl _
          omega
        rw [hsl, Int.toNat_natCast]
        have hts6 := sH6 _ _ hts
        have htat : (ts.map V.int)[row.length]? = some (.int (ts.getD row.length 0)) := by
          rw [List.getElem?_map, List.getElem?_eq_getElem (by omega)]
          simp [List.getD_eq_getElem?_getD, List.getElem?_eq_getElem (show row.length < ts.length by omega)]
        generalize ts.getD row.length 0 = t at htat
        refine for_range (lo := 0) (n := (nextT n A row).length) (fun i σ H7 => ∃ v6 v7 : Option V, σ = [some (.ref aA), some (.ref ar), some (.int (n : Int)), some (.ref at_), some (.ref l5), some (.ref l6), v6, v7] ∧ Same H6 H7 ∧ ∀ j : Nat, j < i → ∀ x, (nextT n A row)[((t + (j : Int)) % ((nextT n A row).length : Int)).toNat]? = some x → ∀ r, OkRow n A r → row ++ [x] <+: r → False)
          ⟨none, none, rfl, Same.refl _, fun j h => absurd h (Nat.not_lt_zero _)⟩ ?_ ?_
        · rintro i σ H7 hi ⟨v6, v7, rfl, s7, hno⟩
          rw [Int.zero_add]
          have hlen0 : (0 : Int) < ((nextT n A row).length : Int) := by omega
          obtain ⟨m, hm, hml⟩ : ∃ m : Nat, (t + (i : Int)) % ((nextT n A row).length : Int) = (m : Int) ∧ m < (nextT n A row).length := by
            have h1 := Int.emod_nonneg (t + (i : Int)) (show ((nextT n A row).length : Int) ≠ 0 by omega)
            have h2 := Int.emod_lt_of_pos (t + (i : Int)) hlen0
            exact ⟨((t + (i : Int)) % ((nextT n A row).length : Int)).toNat, by omega, by omega⟩
          have hx : (nextT n A row)[m]? = some (nextT n A row)[m] := List.getElem?_eq_getElem hml
          have hxm : (nextT n A row)[m] ∈ nextT n A row := List.getElem_mem hml
          generalize (nextT n A row)[m] = x at hx hxm
          have hx' : ((nextT n A row).map V.int)[m]? = some (.int x) := by rw [List.getElem?_map, hx]; rfl
          have sH7 := sH6.trans s7
          refine ⟨_, rfl, _, rfl, _, rfl, _, rfl, _, rfl, ar, _, rfl, .inl (SqL.of (sH7 _ _ hrow)), at_, _, _, _, rfl, rfl, SqL.of (sH7 _ _ hts), by rw [hrl]; exact atI_of htat, _, rfl, _, _, rfl, rfl, _, rfl, l6, _, rfl, .inl (SqL.of (s7 _ _ hl6')), _, _, rfl, rfl, by rw [hsl]; exact hlen0, l6, _, _, .int x, rfl, rfl, SqL.of (s7 _ _ hl6'), ?_, (show 1 ≤ sizeLine from small6 (by decide)), fun l8 hl8 => ?_⟩
          · show atI _ ((t + (i : Int)) % (((nextT n A row).map V.int).length : Int)) = _
            rw [hsl, hm]
            exact atI_of hx'
          have s8 : Same H7 (upd H7 l8 (.lst [.int x])) := Same.new hl8
          refine ⟨ar, l8, _, _, rfl, rfl, s8 _ _ (sH7 _ _ hrow), upd_same, by rw [hrl]; exact small6 (by simp; omega), fun l9 hl9 => ?_⟩
          have s9 : Same (upd H7 l8 (.lst [.int x])) (upd (upd H7 l8 (.lst [.int x])) l9 (.lst (row.map V.int ++ [.int x]))) := Same.new hl9
          have s79 := s8.trans s9
          refine ⟨_, rfl, _, rfl, aA, l9, at_, n, A, row ++ [x], ts, rfl, hA.same (sH7.trans s79), hAn, hA8, by rw [upd_same, List.map_append]; rfl, pr.next hlt hxm, h8, s79 _ _ (sH7 _ _ hts), htl, by rw [List.length_append]; simp; omega, fun p H8 r sA hp o pf => ?_, fun H8 sA hnone => ?_⟩
          · refine ⟨_, rfl, _, rfl, iteT ⟨_, rfl, ?_⟩⟩
            exact q1 p H8 r (sH7.trans (s79.trans sA)) hp o (List.IsPrefix.trans (List.prefix_append _ _) pf)
          · refine ⟨_, rfl, _, rfl, iteF ⟨_, _, rfl, s7.trans (s79.trans sA), fun j hj y hy r o pf => ?_⟩⟩
            by_cases e : j < i
            · exact hno j e y hy r o pf
            · have ej : j = i := by omega
              subst ej
              rw [hm, Int.toNat_natCast, hx] at hy
              cases hy
              exact hnone r o pf
        · rintro σ H7 ⟨v6, v7, rfl, s7, hno⟩
          refine q2 H7 (sH6.trans s7) fun r o pf => ?_
          obtain ⟨x, hx, pf2⟩ := next_of hlt o pf
          obtain ⟨i, hi, hxi⟩ := List.getElem_of_mem hx
          obtain ⟨j, hj, hje⟩ := turn_at (by omega) t hi
          refine hno j hj x ?_ r o pf2
          rw [hje, Int.toNat_natCast, List.getElem?_eq_getElem hi, hxi]
end
end My

namespace My
open PySem L2
theorem ints_refs {r : List Int} {ps : List Addr} (h : r ≠ []) : r.map V.int ≠ ps.map V.ref := by
  cases r with
  | nil => exact absurd rfl h
  | cons x r => cases ps <;> intro e <;> cases e
theorem LLs.push {a t : Addr} {H : Hp} {R : List (List Int)} {r : List Int} {ps : List Addr} (h : H a = some (.lst (ps.map V.ref))) (hp : Paired (fun p (r : List Int) => H p = some (.lst (r.map V.int))) ps R) (hR : ∀ r ∈ R, r ≠ []) (hr : r ≠ []) (ht : H t = some (.lst (r.map V.int))) : LLs (upd H a (.lst (ps.map V.ref ++ [.ref t]))) a (R ++ [r]) := by
  have ne : ∀ (b : Addr) (x : List Int), x ≠ [] → H b = some (.lst (x.map V.int)) → b ≠ a := fun b x hx e c => by
    rw [c, h] at e
    injection e with e
    injection e with e
    exact ints_refs hx e.symm
  refine ⟨ps ++ [t], by rw [upd_same, List.map_append]; rfl, Paired.snoc ?_ ?_⟩
  · have go : ∀ (qs : List Addr) (S : List (List Int)), Paired (fun p (r : List Int) => H p = some (.lst (r.map V.int))) qs S → (∀ r ∈ S, r ≠ []) → Paired (fun p (r : List Int) => upd H a (.lst (ps.map V.ref ++ [.ref t])) p = some (.lst (r.map V.int))) qs S := by
      intro qs S x
      induction x with
      | nil => intro _; exact .nil
      | cons e _ ih =>
        intro hS
        refine .cons ?_ (ih fun r hr => hS r (List.mem_cons_of_mem _ hr))
        rw [upd_ne (ne _ _ (hS _ List.mem_cons_self) e)]
        exact e
    exact go _ _ hp hR
  · rw [upd_ne (ne _ _ hr ht)]
    exact ht
theorem cut_turns {ts : List Int} {n k : Nat} (hl : ts.length = n * n) (hk : k < n) : ∃ us : List Int, cutV (ts.map V.int) (some ((k : Int) * (n : Int))) (some (((k : Int) + 1) * (n : Int))) = us.map V.int ∧ us.length = n := by
  have e1 : (k : Int) * (n : Int) = ((k * n : Nat) : Int) := by rw [Int.natCast_mul]
  have e2 : ((k : Int) + 1) * (n : Int) = (((k + 1) * n : Nat) : Int) := by rw [Int.natCast_mul]; rfl
  have h1 : (k + 1) * n ≤ n * n := Nat.mul_le_mul_right n hk
  have h2 : (k + 1) * n = k * n + n := Nat.succ_mul k n
  refine ⟨(ts.drop (k * n)).take n, ?_, ?_⟩
  · unfold cutV
    rw [e1, e2, HT.sIx_nat, HT.sIx_nat, List.length_map, hl, Nat.min_eq_left h1, Nat.min_eq_left (show k * n ≤ n * n by omega), show (k + 1) * n - k * n = n by omega, ← List.map_drop, ← List.map_take]
  · rw [List.length_take, List.length_drop, hl]
    omega
def spSquare : Sp := fun vs H Q _ => ∃ (cell : Int) (n : Nat), vs = [.int cell, .int (n : Int)] ∧ 1 ≤ n ∧ n ≤ 8 ∧ ∀ (t : Addr) (H' : Hp) (R : List (List Int)), Same H H' → GridT H' t (R.map fun r => r.map V.int) → OkRows n R → R.length = n → Q (.ref t) H'
section
variable {P : Program} {w : World} {K : PySem.W.Frag} {mg : Str → Option Value} {base : Heap}
theorem scSquare : FnScope ["_law_cell", "_law_size", "_law_turns", "_law_rows", "_law_k"] ["_law_cell", "_law_size"] (defScope sSquare) := ⟨rfl, rfl, rfl, by decide +kernel, rfl, by decide +kernel, by decide +kernel⟩
theorem ok_square {f fD fR : Addr} {fd dD dR : FuncData} (F : Fun K "_law_square" "_law_square" sSquare f fd) (T : Blt mg) (DD : Dfn K mg "_law_digits" sDigits ["_law_cell", "_law_many", "_law_most"] fD dD) (DR : Dfn K mg "_law_row_on" sRowOn ["_law_above", "_law_row", "_law_size", "_law_turns"] fR dR) :
    FnOk P w K mg base CX0 10 f fd ["_law_cell", "_law_size"] spSquare := by
  have GD : FnOk P w K mg base CX0 9 fD dD ["_law_cell", "_law_many", "_law_most"] spDigits := (ok_digits DD.F T).mono (by decide)
  have GR : FnOk P w K mg base CX0 9 fR dR ["_law_above", "_law_row", "_law_size", "_law_turns"] (spRowOn 9) := ok_rowOn DR T 9
  refine F.ok scSquare (fun vs H Q E h => ?_) (fun cdv A outer s H vs Q E hr h => ?_)
  · obtain ⟨_, _, rfl, _⟩ := h
    rfl
  · obtain ⟨cell, n, rfl, h1, h8, q⟩ := h
    refine' ⟨_, pss_cons ?s0 (pss_cons (ps_set (i := 3) scSquare.nd rfl (Or.inl rfl) (pe_lst pa_nil)) (pss_cons (ps_for PassesOwn.never rfl (pi_range1 rfl T.range (pa_cons (pv 1) pa_nil)) (pg_name (i := 4) scSquare.nd rfl (Or.inl rfl)) (pss_one ?b)) (pss_one ?r))), ?rd⟩
    case s0 => exact ps_set (i := 2) scSquare.nd rfl (Or.inl rfl) (pe_call GD hr rfl DD.m DD.F.kp DD.b .nil pass0 (pa_cons (pv 0) (pa_cons (pe_op op_mul (pv 1) (pv 1)) (pa_cons (pv 1) pa_nil))))
    case b => exact ps_expr (pe_bm PySem.F.plainAttrs_list PySem.F.slot_list_append PySem.F.type_list_append mt_append (pv 3) (pa_cons (pe_call GR hr rfl DR.m DR.F.kp DR.b .nil pass0 (pa_cons (pv 3) (pa_cons (pe_lst pa_nil) (pa_cons (pv 1) (pa_cons (pe_slice sl_list (pv 2) (po_some (pe_op op_mul (pv 4) (pv 1))) (po_some (pe_op op_mul (pe_op op_add (pv 4) pe_int) (pv 1)))) pa_nil))))) pa_nil))
    case r => exact ps_ret (pe_callTy (call_tupleK K) rfl T.tuple bt_tuple (pa_cons (pe_lc ["_law_row"] [none] rfl rfl (pi_listK K (pv 3)) (fun _ _ _ _ _ => pg_c 0) (fun _ _ _ _ _ => pts_nil) (fun _ _ _ _ _ => pe_callTy (call_tupleK K) rfl T.tuple bt_tuple (pa_cons (pv 0) pa_nil))) pa_nil))
    case rd =>
      have hnn : (n : Int) * (n : Int) = ((n * n : Nat) : Int) := by rw [Int.natCast_mul]
      have hnn64 : n * n ≤ 64 := Nat.mul_le_mul h8 h8
      refine ⟨_, rfl, _, rfl, _, rfl, _, _, rfl, rfl, .inl ⟨by omega, by omega⟩, _, rfl, cell, n * n, (n : Int), ?_, by omega, by omega, by omega, fun lt H1 ts hlt s1 ht1 htl htz => ?_⟩
      · rw [← hnn]
        rfl
      refine ⟨Nat.zero_le _, fun lr hlr => ?_⟩
      have s2 : Same H1 (upd H1 lr (.lst [])) := Same.new hlr
      refine ⟨_, rfl, (n : Int), rfl, by omega, by omega, ?_⟩
      rw [Int.toNat_natCast]
      refine for_range (lo := 0) (n := n) (fun i σ H2 => ∃ (kk : Option V) (R : List (List Int)), σ = [some (.int cell), some (.int (n : Int)), some (.ref lt), some (.ref lr), kk] ∧ Same H1 H2 ∧ LLs H2 lr R ∧ OkRows n R ∧ R.length = i)
        ⟨none, [], rfl, s2, ⟨[], upd_same, .nil⟩, ⟨Nat.zero_le _, (fun r h => by cases h), fun c _ => List.nodup_nil⟩, rfl⟩ ?_ ?_
      · rintro i σ H2 hi ⟨kk, R, rfl, sH2, hL, ok, hRl⟩
        rw [Int.zero_add]
        obtain ⟨ps, hps, hPs⟩ := id hL
        have hpl : (ps.map V.ref).length = R.length := by rw [List.length_map, hPs.length]
        obtain ⟨us, hus, hul⟩ := cut_turns (ts := ts) htl hi
        refine ⟨_, rfl, .inl ⟨rfl, _, SqL.of hps⟩, _, rfl, Nat.zero_le _, fun l5 hl5 => ?_⟩
        have s5 : Same H2 (upd H2 l5 (.lst [])) := Same.new hl5
        refine ⟨_, rfl, _, rfl, _, rfl, _, rfl, _, _, rfl, rfl, .inr ⟨by omega, by omega⟩, _, rfl, _, rfl, _, _, rfl, rfl, _, rfl, _, _, rfl, rfl, .inr ⟨by omega, by omega⟩, _, rfl, lt, _, rfl, SqL.of (s5 _ _ (sH2 _ _ ht1)), fun l6 hl6 => ?_⟩
        rw [hus]
        have s6 : Same (upd H2 l5 (.lst [])) (upd (upd H2 l5 (.lst [])) l6 (.lst (us.map V.int))) := Same.new hl6
        have s26 := s5.trans s6
        refine ⟨lr, l5, l6, n, R, [], us, rfl, hL.same s26, fun o ho => (ok.row o ho).1, by omega, s6 _ _ upd_same, PRow.nil n R, h8, upd_same, hul, by simp; omega, fun p H7 r s7 hp o _ => ?_, fun H7 s7 hno => ?_⟩
        · have hR7 := hL.same (s26.trans s7)
          obtain ⟨ps7, hps7, hPs7⟩ := hR7
          have e7 : ps7.map V.ref = ps.map V.ref := by
            have := (s26.trans s7) _ _ hps
            rw [hps7] at this
            injection this with this
            injection this
          refine ⟨lr, _, _, rfl, rfl, hps7, by rw [e7, hpl]; exact small1000 (by omega), some (.int (i : Int)), R ++ [r], rfl, fun b u e => ?_, ?_, o.more ok (by omega), by rw [List.length_append, hRl]; rfl⟩
          · rw [upd_ne (ne_of_none e hlr)]
            exact s7 _ _ (s26 _ _ (sH2 _ _ e))
          · refine LLs.push hps7 hPs7 (fun x hx => ?_) ?_ hp
            · have := (ok.row x hx).1
              exact fun z => by rw [z] at this; simp at this; omega
            · have := o.len
              exact fun z => by rw [z] at this; simp at this; omega
        · obtain ⟨r, hr'⟩ := row_exists ok (by omega)
          exact (hno r hr' List.nil_prefix).elim
      · rintro σ H2 ⟨kk, R, rfl, sH2, hL, ok, hRl⟩
        obtain ⟨ps, hps, hPs⟩ := id hL
        have hpl : (ps.map V.ref).length = R.length := by rw [List.length_map, hPs.length]
        refine ⟨_, rfl, lr, rfl, ⟨_, SqL.of hps⟩, fun lk hlk => comp_of (wlk_list (xs := ps.map V.ref)) (fun i ys σ H' => ∃ (v : Option V) (qs : List Addr), σ = [v] ∧ ys = qs.map V.ref ∧ Same H2 H' ∧ H' lk = some (.lst ys) ∧ Paired (fun p row => H' p = some (.tup row)) qs ((R.map fun r => r.map V.int).take i))
          ⟨none, [], rfl, rfl, Same.new hlk, upd_same, .nil⟩ (fun i ys σ H' ⟨v, qs, _, _, sm, hl, _⟩ => ⟨SqL.of (sm _ _ hps), hl⟩) ?_ ?_⟩
        · rintro j x ys σ H7 hj ⟨v, qs, rfl, rfl, sm7, hl7, hP7⟩
          rw [List.getElem?_map] at hj
          cases hpj : ps[j]? with
          | none => rw [hpj] at hj; cases hj
          | some p =>
            rw [hpj] at hj
            cases hj
            obtain ⟨r, hrj, hp⟩ := Paired.getL hPs hpj
            refine ⟨_, rfl, p, r.map V.int, rfl, .inl ⟨SqL.of (sm7 _ _ hp), fun tp htp => ?_⟩⟩
            have sm8 : Same H7 (upd H7 tp (.tup (r.map V.int))) := Same.new htp
            have hl9 := sm8 _ _ hl7
            have hjl : j < R.length := (List.getElem?_eq_some_iff.mp hrj).1
            have hql : qs.length = j := by rw [hP7.length, List.length_take, List.length_map]; omega
            refine ⟨hl9, by rw [List.length_map, hql]; exact small1000 (by omega), _, qs ++ [tp], rfl, by rw [List.map_append]; rfl, fun b o e => ?_, upd_same, ?_⟩
            · rw [upd_ne (ne_of_none e hlk)]
              exact sm8 _ _ (sm7 _ _ e)
            · have up : ∀ b row, (upd H7 tp (.tup (r.map V.int))) b = some (.tup row) → (upd (upd H7 tp (.tup (r.map V.int))) lk (.lst (qs.map V.ref ++ [.ref tp]))) b = some (.tup row) := fun b row e => by
                rw [upd_ne (ne_of e hl9 (by intro z; cases z))]
                exact e
              have et : (R.map fun r => r.map V.int).take (j + 1) = (R.map fun r => r.map V.int).take j ++ [r.map V.int] := by rw [List.take_add_one, List.getElem?_map, hrj]; rfl
              rw [et]
              exact Paired.snoc (Paired.mapP hP7 fun q row e => up q row (sm8 _ _ e)) (up tp _ upd_same)
        · rintro ys σ H7 ⟨v, qs, rfl, rfl, sm7, hl7, hP7⟩
          rw [hpl, List.take_of_length_le (by rw [List.length_map]; exact Nat.le_refl _)] at hP7
          refine ⟨lk, _, rfl, .inl ⟨SqL.of hl7, fun tk htk => ?_⟩⟩
          have sm8 : Same H7 (upd H7 tk (.tup (qs.map V.ref))) := Same.new htk
          exact q tk _ R (s1.trans (sH2.trans (sm7.trans sm8))) ⟨qs, upd_same, Paired.mapP hP7 fun _ _ z => sm8 _ _ z⟩ ok hRl
end
end My

namespace My
open PySem L2
/-! ### rings of two rows -/
/-- a tuple of tuples of ints -/
def TG (H : Hp) (a : Addr) (R : List (List Int)) : Prop := ∃ ps : List Addr, H a = some (.tup (ps.map V.ref)) ∧ Paired (fun p (r : List Int) => H p = some (.tup (r.map V.int))) ps R
theorem TG.same {c : Addr} {H H1 : Hp} {R : List (List Int)} (g : TG H c R) (x : Same H H1) : TG H1 c R :=
  let ⟨ps, h, r⟩ := g
  ⟨ps, x _ _ h, Paired.mapP r fun _ _ z => x _ _ z⟩
theorem TG.at {c : Addr} {H : Hp} {R : List (List Int)} (g : TG H c R) {k : Nat} (hk : k < R.length) : ∃ xs p, H c = some (.tup xs) ∧ xs.length = R.length ∧ atI xs (k : Int) = some (.ref p) ∧ H p = some (.tup ((R.getD k []).map V.int)) := by
  obtain ⟨ps, h, r⟩ := g
  obtain ⟨p, hp, hH⟩ := Paired.getR r (List.getElem?_eq_getElem hk)
  refine ⟨_, p, h, by rw [List.length_map, r.length], atI_of (by rw [List.getElem?_map, hp]; rfl), ?_⟩
  rw [hH]
  simp [List.getD_eq_getElem?_getD, List.getElem?_eq_getElem hk]
theorem paired_unmap {H : Hp} : ∀ {ps : List Addr} {R : List (List Int)}, Paired (fun p row => H p = some (.tup row)) ps (R.map fun r => r.map V.int) → Paired (fun p (r : List Int) => H p = some (.tup (r.map V.int))) ps R
  | [], [], _ => .nil
  | _ :: _, _ :: _, .cons h t => .cons h (paired_unmap t)
theorem GridT.tg {H : Hp} {a : Addr} {R : List (List Int)} (g : GridT H a (R.map fun r => r.map V.int)) : TG H a R :=
  let ⟨ps, h, r⟩ := g
  ⟨ps, h, paired_unmap r⟩
theorem getD_of {r : List Int} {i : Nat} (h : i < r.length) : r.getD i 0 = r[i] := by rw [List.getD_eq_getElem?_getD, List.getElem?_eq_getElem h]; rfl
theorem int_at {r : List Int} {i : Nat} (h : i < r.length) : atI (r.map V.int) (i : Int) = some (.int (r.getD i 0)) := by
  refine atI_of ?_
  rw [List.getElem?_map, List.getElem?_eq_getElem h, getD_of h]
  rfl
/-- a row of all things -/
structure Row (n : Nat) (r : List Int) : Prop where
  len : r.length = n
  nd : r.Nodup
  rg : ∀ x ∈ r, 0 ≤ x ∧ x < (n : Int)
theorem OkRows.rowAt {n : Nat} {R : List (List Int)} (ok : OkRows n R) {k : Nat} (hk : k < R.length) : Row n (R.getD k []) := by
  have : R.getD k [] = R[k] := by simp [List.getD_eq_getElem?_getD, List.getElem?_eq_getElem hk]
  rw [this]
  obtain ⟨h1, h2, h3⟩ := ok.row _ (List.getElem_mem hk)
  exact ⟨h1, h2, h3⟩
theorem Row.inj {n : Nat} {r : List Int} (t : Row n r) {i j : Nat} (hi : i < n) (hj : j < n) (e : r.getD i 0 = r.getD j 0) : i = j := by
  have hi' : i < r.length := by rw [t.len]; exact hi
  have hj' : j < r.length := by rw [t.len]; exact hj
  rw [getD_of hi', getD_of hj'] at e
  by_cases h : i = j
  · exact h
  · have p := List.pairwise_iff_getElem.mp (List.nodup_iff_pairwise_ne.mp t.nd)
    rcases Nat.lt_or_gt_of_ne h with z | z
    · exact absurd e (p i j hi' hj' z)
    · exact absurd e.symm (p j i hj' hi' z)
theorem Row.has {n : Nat} {r : List Int} (t : Row n r) {x : Int} (h : 0 ≤ x ∧ x < (n : Int)) : r.idxOf x < n ∧ r.getD (r.idxOf x) 0 = x := by
  have hm : x ∈ r := row_has t.len t.nd t.rg h
  have h1 := List.idxOf_lt_length_of_mem hm
  refine ⟨by rw [← t.len]; exact h1, ?_⟩
  rw [getD_of h1]
  exact List.getElem_idxOf h1
theorem Row.val {n : Nat} {r : List Int} (t : Row n r) {i : Nat} (h : i < n) : 0 ≤ r.getD i 0 ∧ r.getD i 0 < (n : Int) := by
  have hi : i < r.length := by rw [t.len]; exact h
  rw [getD_of hi]
  exact t.rg _ (List.getElem_mem hi)
/-- where the row a has what b has in c -/
def stp (a b : List Int) (c : Nat) : Nat := a.idxOf (b.getD c 0)
theorem stp_one {n : Nat} {a b : List Int} (ha : Row n a) (hb : Row n b) : One n (stp a b) := by
  refine ⟨fun c hc => (ha.has (hb.val hc)).1, fun c d hc hd e => ?_⟩
  have h1 := (ha.has (hb.val hc)).2
  have h2 := (ha.has (hb.val hd)).2
  unfold stp at e
  rw [e, h2] at h1
  exact (hb.inj hd hc h1).symm
def toI (l : List Nat) : List Int := l.map fun (c : Nat) => (c : Int)
theorem toI_app (l : List Nat) (x : Nat) : toI (l ++ [x]) = toI l ++ [(x : Int)] := by unfold toI; rw [List.map_append]; rfl
/-- the only place of a thing, found by looking through -/
theorem found_at {n : Nat} {a : List Int} (ha : Row n a) {x : Int} (hx : 0 ≤ x ∧ x < (n : Int)) : ((List.range n).filterMap fun j => if decide (V.int (a.getD j 0) = V.int x) = true then some (V.int ((j : Nat) : Int)) else none)[0]? = some (.int ((a.idxOf x : Nat) : Int)) := by
  obtain ⟨h1, h2⟩ := ha.has hx
  have hm : V.int ((a.idxOf x : Nat) : Int) ∈ ((List.range n).filterMap fun j => if decide (V.int (a.getD j 0) = V.int x) = true then some (V.int ((j : Nat) : Int)) else none) :=
    List.mem_filterMap.mpr ⟨a.idxOf x, List.mem_range.mpr h1, by rw [h2, if_pos (decide_eq_true rfl)]⟩
  have hall : ∀ y ∈ ((List.range n).filterMap fun j => if decide (V.int (a.getD j 0) = V.int x) = true then some (V.int ((j : Nat) : Int)) else none), y = V.int ((a.idxOf x : Nat) : Int) := fun y hy => by
    obtain ⟨j, hj, e⟩ := List.mem_filterMap.mp hy
    split at e
    · next hd =>
      cases e
      have hd' := of_decide_eq_true hd
      injection hd' with hd'
      rw [ha.inj (List.mem_range.mp hj) h1 (hd'.trans h2.symm)]
    · cases e
  generalize ((List.range n).filterMap fun j => if decide (V.int (a.getD j 0) = V.int x) = true then some (V.int ((j : Nat) : Int)) else none) = l at hm hall
  cases l with
  | nil => cases hm
  | cons y l => rw [List.getElem?_cons_zero, hall y List.mem_cons_self]
def spRing : Sp := fun vs H Q _ => ∃ (g : Addr) (n o1 o2 c : Nat) (R : List (List Int)), vs = [.ref g, .int (o1 : Int), .int (o2 : Int), .int (c : Int)] ∧ TG H g R ∧ OkRows n R ∧ R.length = n ∧ n ≤ 8 ∧ o1 < n ∧ o2 < n ∧ c < n ∧
  ∀ l H', Same H H' → H l = none → H' l = some (.lst ((toI (ringL (stp (R.getD o1 []) (R.getD o2 [])) n c)).map V.int)) → Q (.ref l) H'
def WRing (H : Hp) (g : Addr) (n o1 o2 c : Nat) (s : Nat → Nat) (l : Addr) (m : Nat) (σ : St) (H2 : Hp) : Prop :=
  ∃ (v5 v6 : Option V) (acc : List Nat), σ = [some (.ref g), some (.int (o1 : Int)), some (.int (o2 : Int)), some (.int (c : Int)), some (.ref l), v5, v6] ∧ Same H H2 ∧ H2 l = some (.lst ((toI acc).map V.int)) ∧ Path n s c acc ∧ ringF s c (n + 1 - acc.length) acc = ringL s n c ∧ m = n + 1 - acc.length
section
variable {P : Program} {w : World} {K : PySem.W.Frag} {mg : Str → Option Value} {base : Heap}
theorem scRing : FnScope ["_law_square_here", "_law_one", "_law_other", "_law_column", "_law_found", "_law_thing", "_law_here"] ["_law_square_here", "_law_one", "_law_other", "_law_column"] (defScope sRing) := ⟨rfl, rfl, rfl, by decide +kernel, rfl, by decide +kernel, by decide +kernel⟩
theorem ok_ring {f : Addr} {fd : FuncData} (F : Fun K "_law_ring" "_law_ring" sRing f fd) (T : Blt mg) : FnOk P w K mg base CX0 1 f fd ["_law_square_here", "_law_one", "_law_other", "_law_column"] spRing := by
  refine F.ok scRing (fun vs H Q E h => ?_) (fun cdv A outer s H vs Q E hr h => ?_)
  · obtain ⟨_, _, _, _, _, _, rfl, _⟩ := h
    rfl
  · obtain ⟨g, n, o1, o2, c, R, rfl, hT, ok, hRl, h8, h1, h2, hc, q⟩ := h
    refine' ⟨_, pss_cons (ps_set (i := 4) scRing.nd rfl (Or.inl rfl) (pe_lst (pa_cons (pv 3) pa_nil))) (pss_one (ps_while PassesOwn.never (pt_val pe_bl) (pss_cons ?b0 (pss_cons ?b1 (pss_cons ?b2 (pss_one ?b3)))))), ?rd⟩
    case b0 => exact ps_set (i := 5) scRing.nd rfl (Or.inr rfl) (pe_ix ix_tup (pe_ix ix_tup (pv 0) (pv 2) (fun _ _ => rfl)) (pe_ix ix_list (pv 4) (pe_un un_neg pe_int) (fun _ _ => rfl)) (fun _ _ => rfl))
    case b1 => exact ps_set (i := 6) scRing.nd rfl (Or.inl rfl) (pe_ix ix_list (pe_lc ["_law_c", "_law_square_here", "_law_one", "_law_thing"] [none, some 0, some 1, some 5] rfl rfl (pi_range1 rfl T.range (pa_cons (pe_callB (call_lenK K) rfl T.len PySem.boot_len (pa_cons (pv 0) pa_nil)) pa_nil)) (fun _ _ _ _ _ => pg_c 0) (fun _ _ _ _ _ => pts_one (pt_cmpR op_eq (pe_ix (ix_tupK K) (pe_ix (ix_tupK K) (pv 1) (pv 2) (fun _ _ => rfl)) (pv 0) (fun _ _ => rfl)) (pv 3) (nomark _))) (fun _ _ _ _ _ => pv 0)) pe_int (fun _ _ => rfl))
    case b2 => exact ps_if (pt_cmpR op_eq (pv 6) (pv 3) (nomark _)) (pss_one (ps_ret (pv 4))) pss_nil
    case b3 => exact ps_expr (pe_bm PySem.F.plainAttrs_list PySem.F.slot_list_append PySem.F.type_list_append mt_append (pv 4) (pa_cons (pv 6) pa_nil))
    case rd =>
      have ra : Row n (R.getD o1 []) := ok.rowAt (by omega)
      have rb : Row n (R.getD o2 []) := ok.rowAt (by omega)
      have so := stp_one ra rb
      refine ⟨_, rfl, (show 1 ≤ sizeLine from small6 (by decide)), fun l hl => ?_⟩
      refine ⟨WRing H g n o1 o2 c (stp (R.getD o1 []) (R.getD o2 [])) l, ⟨_, none, none, [c], rfl, Same.new hl, upd_same, .one hc, ?_, rfl⟩, ?_⟩
      · rfl
      rintro m σ H2 ⟨v5, v6, acc, rfl, sH, hl2, pa, hrf, rfl⟩
      refine ⟨true, rfl, iteT ⟨fun σ' H' => ∃ m', m' < n + 1 - acc.length ∧ WRing H g n o1 o2 c (stp (R.getD o1 []) (R.getD o2 [])) l m' σ' H', fun _ _ z => z, ?_⟩⟩
      have hT2 := hT.same sH
      obtain ⟨xA, pA, a1, a2, a3, a4⟩ := hT2.at (k := o1) (by omega)
      obtain ⟨xB, pB, b1, b2, b3, b4⟩ := hT2.at (k := o2) (by omega)
      have hlast : lastN acc < n := pa.lt so _ pa.last_mem
      obtain ⟨acc', e'⟩ : ∃ acc', acc = acc' ++ [lastN acc] := by
        cases pa with
        | one _ => exact ⟨[], rfl⟩
        | more _ _ => exact ⟨_, by rw [lastN_app]⟩
      have hat : atI ((toI acc).map V.int) (-1) = some (.int ((lastN acc : Nat) : Int)) := by
        rw [e', lastN_app, toI_app, List.map_append]
        exact atI_last _ _
      refine ⟨_, rfl, _, rfl, g, _, _, _, rfl, rfl, SqT.of b1, b3, _, rfl, _, rfl, l, _, _, _, rfl, rfl, SqL.of hl2, hat, pB, _, _, _, rfl, rfl, SqT.of b4, int_at (by rw [rb.len]; exact hlast), ?_⟩
      have hv := rb.val hlast
      generalize hx : (R.getD o2 []).getD (lastN acc) 0 = x at hv
      refine ⟨_, rfl, g, xA, rfl, .inr (SqT.of a1), _, rfl, by omega, by omega, fun lc hlc => ?_⟩
      rw [a2, hRl, Int.toNat_natCast]
      refine comp_pure (fun j => if decide (V.int ((R.getD o1 []).getD j 0) = V.int x) = true then some (V.int ((j : Nat) : Int)) else none) (fun σ => ∃ v, σ = [v, some (.ref g), some (.int (o1 : Int)), some (.int x)]) (wlk_range (n := n)) (by rw [rng_len]; exact small6 (by omega)) hlc (fun _ _ => trivial) ⟨none, rfl⟩ ?_ ?_
      · rintro j y σ H' R' hj ⟨v, rfl⟩ sm kk
        obtain ⟨hjn, rfl⟩ := rng_get hj
        have kk' := fun v' => kk [v', some (.ref g), some (.int (o1 : Int)), some (.int x)] H' ⟨v', rfl⟩ (Same.refl _)
        refine ⟨_, rfl, _, rfl, g, _, _, _, rfl, rfl, SqT.of (sm _ _ a1), a3, _, rfl, pA, _, _, _, rfl, rfl, SqT.of (sm _ _ a4), int_at (by rw [ra.len]; exact hjn), _, rfl, rfl, _, rfl, ?_⟩
        refine ite2 (fun hd => ?_) (fun hd => ?_)
        · rw [if_pos hd] at kk'
          exact ⟨_, rfl, kk' _⟩
        · rw [if_neg hd] at kk'
          exact kk' _
      · intro H3 s3 hl3
        rw [rng_len] at hl3
        have hfa := found_at ra hv
        have est : (R.getD o1 []).idxOf x = stp (R.getD o1 []) (R.getD o2 []) (lastN acc) := by unfold stp; rw [hx]
        rw [est] at hfa
        refine ⟨lc, _, 0, _, rfl, rfl, SqL.of hl3, atI_of (i := 0) hfa, ?_⟩
        refine ⟨_, rfl, _, rfl, rfl, _, rfl, ?_⟩
        have hstep : ringF (stp (R.getD o1 []) (R.getD o2 [])) c (n + 1 - acc.length) acc = if stp (R.getD o1 []) (R.getD o2 []) (lastN acc) = c then acc else ringF (stp (R.getD o1 []) (R.getD o2 [])) c (n - acc.length) (acc ++ [stp (R.getD o1 []) (R.getD o2 []) (lastN acc)]) := by
          have := nat_len pa.nodup (pa.lt so)
          rw [show n + 1 - acc.length = (n - acc.length) + 1 by omega]
          rfl
        refine ite2 (fun hd => ?_) (fun hd => ?_)
        · have e := of_decide_eq_true hd
          injection e with e
          have e' : stp (R.getD o1 []) (R.getD o2 []) (lastN acc) = c := by omega
          rw [hstep, if_pos e'] at hrf
          refine ⟨_, rfl, q l H3 (sH.trans s3) hl ?_⟩
          rw [s3 _ _ hl2, hrf]
        · have e' : stp (R.getD o1 []) (R.getD o2 []) (lastN acc) ≠ c := fun e => hd (by rw [e]; exact decide_eq_true rfl)
          obtain ⟨p', hlt⟩ := pa.next so e'
          rw [hstep, if_neg e'] at hrf
          have hl3' := s3 _ _ hl2
          refine ⟨_, rfl, .inl ⟨rfl, _, SqL.of hl3'⟩, _, rfl, l, _, _, rfl, rfl, hl3', by rw [List.length_map, toI, List.length_map]; exact small1000 (by omega), n - acc.length, by omega, _, _, acc ++ [stp (R.getD o1 []) (R.getD o2 []) (lastN acc)], rfl, fun b u e => ?_, ?_, p', ?_, ?_⟩
          · rw [upd_ne (ne_of_none e hl)]
            exact s3 _ _ (sH _ _ e)
          · rw [upd_same, toI_app, List.map_append]
            rfl
          · rw [List.length_append, show n + 1 - (acc.length + [stp (R.getD o1 []) (R.getD o2 []) (lastN acc)].length) = n - acc.length by simp]
            exact hrf
          · rw [List.length_append]
            simp
end
end My

namespace My
/-! ### exchanged along a ring -/
/-- the entry of row k in column c -/
def ent (R : List (List Int)) (k c : Nat) : Int := (R.getD k []).getD c 0
/-- a table of n rows and columns -/
def mk (n : Nat) (f : Nat → Nat → Int) : List (List Int) := (List.range n).map fun k => (List.range n).map fun c => f k c
theorem nodup_map {α : Type} {f : Nat → α} {n : Nat} (h : ∀ i j, i < n → j < n → f i = f j → i = j) : ((List.range n).map f).Nodup := by
  refine List.nodup_iff_pairwise_ne.mpr (List.pairwise_map.mpr ?_)
  refine List.Pairwise.imp_of_mem ?_ (List.nodup_iff_pairwise_ne.mp List.nodup_range)
  intro a b ha hb hne e
  exact hne (h a b (List.mem_range.mp ha) (List.mem_range.mp hb) e)
theorem mk_ok {n : Nat} {f : Nat → Nat → Int} (hv : ∀ k c, k < n → c < n → 0 ≤ f k c ∧ f k c < (n : Int)) (hr : ∀ k c d, k < n → c < n → d < n → f k c = f k d → c = d) (hcol : ∀ k l c, k < n → l < n → c < n → f k c = f l c → k = l) : OkRows n (mk n f) ∧ (mk n f).length = n := by
  have hl : (mk n f).length = n := by unfold mk; rw [List.length_map, List.length_range]
  refine ⟨⟨Nat.le_of_eq hl, fun r h => ?_, fun c hc => ?_⟩, hl⟩
  · obtain ⟨k, hk, rfl⟩ := List.mem_map.mp h
    have hk' := List.mem_range.mp hk
    refine ⟨by rw [List.length_map, List.length_range], nodup_map fun i j hi hj e => hr k i j hk' hi hj e, fun x hx => ?_⟩
    obtain ⟨c, hc, rfl⟩ := List.mem_map.mp hx
    exact hv k c hk' (List.mem_range.mp hc)
  · have e : colL (mk n f) c = (List.range n).map fun k => f k c := by
      unfold colL mk
      rw [List.map_map]
      refine List.map_congr_left fun k hk => ?_
      show ((List.range n).map fun c => f k c).getD c 0 = f k c
      simp [List.getD_eq_getElem?_getD, List.getElem?_map, List.getElem?_range hc]
    rw [e]
    exact nodup_map fun i j hi hj e => hcol i j c hi hj hc e
/-- and the other way: what rows of all things are -/
theorem ent_row {n : Nat} {R : List (List Int)} (ok : OkRows n R) (hl : R.length = n) {k : Nat} (hk : k < n) : Row n (R.getD k []) := ok.rowAt (by omega)
theorem ent_col {n : Nat} {R : List (List Int)} (ok : OkRows n R) (hl : R.length = n) {k l c : Nat} (hk : k < n) (hl' : l < n) (hc : c < n) (e : ent R k c = ent R l c) : k = l := by
  have nd := ok.col c hc
  have k1 : k < (colL R c).length := by unfold colL; rw [List.length_map]; omega
  have k2 : l < (colL R c).length := by unfold colL; rw [List.length_map]; omega
  by_cases h : k = l
  · exact h
  · have p := List.pairwise_iff_getElem.mp (List.nodup_iff_pairwise_ne.mp nd)
    have e1 : (colL R c)[k] = ent R k c := by simp [colL, ent, List.getD_eq_getElem?_getD, List.getElem?_eq_getElem (show k < R.length by omega)]
    have e2 : (colL R c)[l] = ent R l c := by simp [colL, ent, List.getD_eq_getElem?_getD, List.getElem?_eq_getElem (show l < R.length by omega)]
    rcases Nat.lt_or_gt_of_ne h with z | z
    · exact absurd (e1.trans (e.trans e2.symm)) (p k l k1 k2 z)
    · exact absurd (e2.trans (e.symm.trans e1.symm)) (p l k k2 k1 z)
theorem mk_of {n : Nat} {R : List (List Int)} (ok : OkRows n R) (hl : R.length = n) : mk n (ent R) = R := by
  refine List.ext_getElem (by unfold mk; rw [List.length_map, List.length_range, hl]) fun k h1 h2 => ?_
  have hk : k < n := by omega
  have e : (mk n (ent R))[k] = (List.range n).map fun c => ent R k c := by simp [mk]
  rw [e]
  have hr := (ok.row _ (List.getElem_mem h2)).1
  refine List.ext_getElem (by rw [List.length_map, List.length_range, hr]) fun c h3 h4 => ?_
  simp [ent, List.getD_eq_getElem?_getD, List.getElem?_eq_getElem h2, List.getElem?_eq_getElem h4]
/-- where the entry comes from -/
def other (o1 o2 : Nat) (S : List Nat) (k c : Nat) : Nat := if c ∈ S ∧ (k = o1 ∨ k = o2) then o1 + o2 - k else k
def exSq (n : Nat) (R : List (List Int)) (o1 o2 : Nat) (S : List Nat) : List (List Int) := mk n fun k c => ent R (other o1 o2 S k c) c
theorem other_lt {n o1 o2 : Nat} {S : List Nat} (h1 : o1 < n) (h2 : o2 < n) {k c : Nat} (hk : k < n) : other o1 o2 S k c < n := by
  unfold other
  split
  · next h => rcases h.2 with e | e <;> omega
  · exact hk
theorem other_inj {o1 o2 : Nat} {S : List Nat} {k l c : Nat} (e : other o1 o2 S k c = other o1 o2 S l c) : k = l := by
  unfold other at e
  split at e <;> split at e
  · next h h' => rcases h.2 with a | a <;> rcases h'.2 with b | b <;> omega
  · next h h' =>
    exact absurd ⟨h.1, by rcases h.2 with a | a <;> omega⟩ h'
  · next h h' =>
    exact absurd ⟨h'.1, by rcases h'.2 with a | a <;> omega⟩ h
  · exact e
theorem other_one {o1 o2 : Nat} {S : List Nat} (c : Nat) : other o1 o2 S o1 c = if c ∈ S then o2 else o1 := by
  unfold other
  by_cases h : c ∈ S
  · rw [if_pos ⟨h, .inl rfl⟩, if_pos h]; omega
  · rw [if_neg (fun z => h z.1), if_neg h]
theorem other_two {o1 o2 : Nat} {S : List Nat} (c : Nat) : other o1 o2 S o2 c = if c ∈ S then o1 else o2 := by
  unfold other
  by_cases h : c ∈ S
  · rw [if_pos ⟨h, .inr rfl⟩, if_pos h]; omega
  · rw [if_neg (fun z => h z.1), if_neg h]
theorem other_else {o1 o2 : Nat} {S : List Nat} {k : Nat} (h1 : k ≠ o1) (h2 : k ≠ o2) (c : Nat) : other o1 o2 S k c = k := by
  unfold other
  rw [if_neg (fun z => z.2.elim h1 h2)]
theorem stp_ent {n : Nat} {a b : List Int} (ha : Row n a) (hb : Row n b) {c : Nat} (hc : c < n) : a.getD (stp a b c) 0 = b.getD c 0 := (ha.has (hb.val hc)).2
theorem ex_ok {n : Nat} {R : List (List Int)} (ok : OkRows n R) (hl : R.length = n) {o1 o2 c0 : Nat} (h1 : o1 < n) (h2 : o2 < n) (hc0 : c0 < n) :
    OkRows n (exSq n R o1 o2 (ringL (stp (R.getD o1 []) (R.getD o2 [])) n c0)) ∧ (exSq n R o1 o2 (ringL (stp (R.getD o1 []) (R.getD o2 [])) n c0)).length = n := by
  have ra := ent_row ok hl h1
  have rb := ent_row ok hl h2
  have so := stp_one ra rb
  have cl := fun {x} hx => ring_closed (x := x) so hc0 hx
  have hse : ∀ c, c < n → ent R o1 (stp (R.getD o1 []) (R.getD o2 []) c) = ent R o2 c := fun c hc => stp_ent ra rb hc
  generalize stp (R.getD o1 []) (R.getD o2 []) = s at so cl hse
  have hlt : ∀ x ∈ ringL s n c0, x < n := (ring_ok so hc0).1.lt so
  generalize ringL s n c0 = S at cl hlt
  -- what row one has outside, row two has not within, and the other way
  have x1 : ∀ c d, c ∈ S → d ∉ S → d < n → ent R o2 c ≠ ent R o1 d := fun c d hc hd hdn e => by
    have := hse c (hlt c hc)
    have e2 : stp (R.getD o1 []) (R.getD o2 []) c = stp (R.getD o1 []) (R.getD o2 []) c := rfl
    have e3 := ra.inj (so.lt c (hlt c hc)) hdn (this.trans e)
    exact hd (e3 ▸ (cl hc).1)
  have x2 : ∀ c d, c ∈ S → d ∉ S → d < n → ent R o1 c ≠ ent R o2 d := fun c d hc hd hdn e => by
    have h3 := hse d hdn
    have e3 := ra.inj (hlt c hc) (so.lt d hdn) (e.trans h3.symm)
    obtain ⟨y, hy, e4⟩ := (cl hc).2
    have := so.inj y d (hlt y hy) hdn (e4.trans e3)
    exact hd (this ▸ hy)
  refine mk_ok (fun k c hk hc => (ent_row ok hl (other_lt h1 h2 hk)).val hc) (fun k c d hk hc hd e => ?_) fun k l c hk hl' hc e => other_inj (ent_col ok hl (other_lt h1 h2 hk) (other_lt h1 h2 hl') hc e)
  by_cases k1 : k = o1
  · subst k1
    rw [other_one, other_one] at e
    by_cases hcS : c ∈ S <;> by_cases hdS : d ∈ S
    · rw [if_pos hcS, if_pos hdS] at e; exact rb.inj hc hd e
    · rw [if_pos hcS, if_neg hdS] at e; exact absurd e (x1 c d hcS hdS hd)
    · rw [if_neg hcS, if_pos hdS] at e; exact absurd e.symm (x1 d c hdS hcS hc)
    · rw [if_neg hcS, if_neg hdS] at e; exact ra.inj hc hd e
  · by_cases k2 : k = o2
    · subst k2
      rw [other_two, other_two] at e
      by_cases hcS : c ∈ S <;> by_cases hdS : d ∈ S
      · rw [if_pos hcS, if_pos hdS] at e; exact ra.inj hc hd e
      · rw [if_pos hcS, if_neg hdS] at e; exact absurd e (x2 c d hcS hdS hd)
      · rw [if_neg hcS, if_pos hdS] at e; exact absurd e.symm (x2 d c hdS hcS hc)
      · rw [if_neg hcS, if_neg hdS] at e; exact rb.inj hc hd e
    · rw [other_else k1 k2, other_else k1 k2] at e
      exact (ent_row ok hl hk).inj hc hd e
end My

namespace My
open PySem L2
theorem inV_toI (i : Nat) (r : List Nat) : inV (.int (i : Int)) ((toI r).map V.int) = decide (i ∈ r) := by
  rw [inV_ints]
  congr 1
  unfold toI
  rw [eq_iff_iff]
  constructor
  · intro h
    obtain ⟨c, hc, e⟩ := List.mem_map.mp h
    have : c = i := by omega
    rw [← this]
    exact hc
  · intro h
    exact List.mem_map.mpr ⟨i, h, rfl⟩
end My

namespace My
open PySem L2
def rowTo (f : Nat → Nat → Int) (k c : Nat) : List Int := (List.range c).map fun c => f k c
theorem rowTo_succ (f : Nat → Nat → Int) (k c : Nat) : rowTo f k (c + 1) = rowTo f k c ++ [f k c] := by unfold rowTo; rw [List.range_succ, List.map_append]; rfl
theorem mk_take {n : Nat} (f : Nat → Nat → Int) {k : Nat} (hk : k < n) : (mk n f).take (k + 1) = (mk n f).take k ++ [rowTo f k n] := by
  rw [List.take_add_one]
  congr 1
  unfold mk rowTo
  rw [List.getElem?_map, List.getElem?_range hk]
  rfl
def spEx : Sp := fun vs H Q _ => ∃ (g : Addr) (n o1 o2 c : Nat) (R : List (List Int)), vs = [.ref g, .int (o1 : Int), .int (o2 : Int), .int (c : Int)] ∧ TG H g R ∧ OkRows n R ∧ R.length = n ∧ n ≤ 8 ∧ o1 < n ∧ o2 < n ∧ o1 ≠ o2 ∧ c < n ∧
  ∀ t H', Same H H' → TG H' t (exSq n R o1 o2 (ringL (stp (R.getD o1 []) (R.getD o2 [])) n c)) → Q (.ref t) H'
section
variable {P : Program} {w : World} {K : PySem.W.Frag} {mg : Str → Option Value} {base : Heap}
theorem scEx : FnScope ["_law_square_here", "_law_one", "_law_other", "_law_column", "_law_ring_here", "_law_rows", "_law_k", "_law_row", "_law_c", "_law_there"] ["_law_square_here", "_law_one", "_law_other", "_law_column"] (defScope sExchanged) := ⟨rfl, rfl, rfl, by decide +kernel, rfl, by decide +kernel, by decide +kernel⟩
theorem ok_exchanged {f fR : Addr} {fd dR : FuncData} (F : Fun K "_law_exchanged" "_law_exchanged" sExchanged f fd) (T : Blt mg) (DR : Dfn K mg "_law_ring" sRing ["_law_square_here", "_law_one", "_law_other", "_law_column"] fR dR) : FnOk P w K mg base CX0 2 f fd ["_law_square_here", "_law_one", "_law_other", "_law_column"] spEx := by
  have GR : FnOk P w K mg base CX0 1 fR dR ["_law_square_here", "_law_one", "_law_other", "_law_column"] spRing := ok_ring DR.F T
  refine F.ok scEx (fun vs H Q E h => ?_) (fun cdv A outer s H vs Q E hr h => ?_)
  · obtain ⟨_, _, _, _, _, _, rfl, _⟩ := h
    rfl
  · obtain ⟨g, n, o1, o2, c0, R, rfl, hT, ok, hRl, h8, h1, h2, hne, hc0, q⟩ := h
    refine' ⟨_, pss_cons ?s0 (pss_cons (ps_set (i := 5) scEx.nd rfl (Or.inl rfl) (pe_lst pa_nil)) (pss_cons (ps_for PassesOwn.never rfl ?i (pg_name (i := 6) scEx.nd rfl (Or.inl rfl)) (pss_cons (ps_set (i := 7) scEx.nd rfl (Or.inl rfl) (pe_lst pa_nil)) (pss_cons (ps_for PassesOwn.never rfl ?j (pg_name (i := 8) scEx.nd rfl (Or.inl rfl)) (pss_cons (ps_set (i := 9) scEx.nd rfl (Or.inl rfl) (pv 6)) (pss_cons (ps_if (PW.pt (pw_and ?c0 (pw_and1 ?c1))) (pss_one ?d) pss_nil) (pss_one ?e)))) (pss_one ?k)))) (pss_one ?r))), ?rd⟩
    case s0 => exact ps_set (i := 4) scEx.nd rfl (Or.inl rfl) (pe_call GR hr rfl DR.m DR.F.kp DR.b .nil pass0 (pa_cons (pv 0) (pa_cons (pv 1) (pa_cons (pv 2) (pa_cons (pv 3) pa_nil)))))
    case i => exact pi_range1 rfl T.range (pa_cons (pe_callB (call_lenK K) rfl T.len PySem.boot_len (pa_cons (pv 0) pa_nil)) pa_nil)
    case j => exact pi_range1 rfl T.range (pa_cons (pe_callB (call_lenK K) rfl T.len PySem.boot_len (pa_cons (pv 0) pa_nil)) pa_nil)
    case c0 => exact pt_cmpR (op_inK K) (pv 8) (pv 4) rfl
    case c1 => exact pt_cmpR (op_inK K) (pv 6) (pe_tup (pa_cons (pv 1) (pa_cons (pv 2) pa_nil))) rfl
    case d => exact ps_set (i := 9) scEx.nd rfl (Or.inl rfl) (pe_op op_sub (pe_op op_add (pv 1) (pv 2)) (pv 6))
    case e => exact ps_expr (pe_bm PySem.F.plainAttrs_list PySem.F.slot_list_append PySem.F.type_list_append mt_append (pv 7) (pa_cons (pe_ix ix_tup (pe_ix ix_tup (pv 0) (pv 9) (fun _ _ => rfl)) (pv 8) (fun _ _ => rfl)) pa_nil))
    case k => exact ps_expr (pe_bm PySem.F.plainAttrs_list PySem.F.slot_list_append PySem.F.type_list_append mt_append (pv 5) (pa_cons (pe_callTy (call_tupleK K) rfl T.tuple bt_tuple (pa_cons (pv 7) pa_nil)) pa_nil))
    case r => exact ps_ret (pe_callTy (call_tupleK K) rfl T.tuple bt_tuple (pa_cons (pv 5) pa_nil))
    case rd =>
      refine ⟨_, rfl, _, rfl, _, rfl, _, rfl, g, n, o1, o2, c0, R, rfl, hT, ok, hRl, h8, h1, h2, hc0, fun lg H1 s1 _ hg1 => ?_⟩
      generalize ringL (stp (R.getD o1 []) (R.getD o2 [])) n c0 = S at hg1 q
      refine ⟨Nat.zero_le _, fun lr hlr => ?_⟩
      have sr : Same H1 (upd H1 lr (.lst [])) := Same.new hlr
      have hT1 := hT.same s1
      obtain ⟨gs, hgs, hGs⟩ := id hT1
      have hgl : (gs.map V.ref).length = n := by rw [List.length_map, hGs.length, hRl]
      refine ⟨_, rfl, g, _, rfl, .inr (SqT.of (sr _ _ hgs)), _, rfl, by omega, by omega, ?_⟩
      rw [hgl, Int.toNat_natCast]
      refine for_range (lo := 0) (n := n) (fun i σ H2 => ∃ (v6 v7 v8 v9 : Option V) (ps : List Addr), σ = [some (.ref g), some (.int (o1 : Int)), some (.int (o2 : Int)), some (.int (c0 : Int)), some (.ref lg), some (.ref lr), v6, v7, v8, v9] ∧ Same H1 H2 ∧ H2 lr = some (.lst (ps.map V.ref)) ∧ Paired (fun p (r : List Int) => H2 p = some (.tup (r.map V.int))) ps ((exSq n R o1 o2 S).take i))
        ⟨none, none, none, none, [], rfl, sr, upd_same, .nil⟩ ?_ ?_
      · rintro k σ H2 hk ⟨v6, v7, v8, v9, ps, rfl, s2, hps, hPs⟩
        rw [Int.zero_add]
        refine ⟨Nat.zero_le _, fun lw hlw => ?_⟩
        have sw : Same H2 (upd H2 lw (.lst [])) := Same.new hlw
        refine ⟨_, rfl, g, _, rfl, .inr (SqT.of (sw _ _ (s2 _ _ hgs))), _, rfl, by omega, by omega, ?_⟩
        rw [hgl, Int.toNat_natCast]
        refine for_range (lo := 0) (n := n) (fun c σ H3 => ∃ (v8 v9 : Option V), σ = [some (.ref g), some (.int (o1 : Int)), some (.int (o2 : Int)), some (.int (c0 : Int)), some (.ref lg), some (.ref lr), some (.int (k : Int)), some (.ref lw), v8, v9] ∧ Same H2 H3 ∧ H3 lw = some (.lst ((rowTo (fun k c => ent R (other o1 o2 S k c) c) k c).map V.int)))
          ⟨_, _, rfl, sw, upd_same⟩ ?_ ?_
        · rintro c σ H3 hc ⟨w8, w9, rfl, s3, hw3⟩
          rw [Int.zero_add]
          have fin : ∀ (H4 : Hp) (m : Nat), Same H3 H4 → m = other o1 o2 S k c → ∃ v, [some (V.ref g), some (.int (o1 : Int)), some (.int (o2 : Int)), some (.int (c0 : Int)), some (.ref lg), some (.ref lr), some (.int (k : Int)), some (.ref lw), some (.int (c : Int)), some (.int (m : Int))] = v ∧ True := fun _ _ _ _ => ⟨_, rfl, trivial⟩
          have hg3 := (s2.trans s3) _ _ hg1
          have put : ∀ (H4 : Hp) (m : Nat), Same H3 H4 → m = other o1 o2 S k c → ∃ xs p, SqT K H4 g xs ∧ atI xs (m : Int) = some (.ref p) ∧ SqT K H4 p ((R.getD m []).map V.int) ∧ atI ((R.getD m []).map V.int) (c : Int) = some (.int (ent R (other o1 o2 S k c) c)) ∧ H4 lw = some (.lst ((rowTo (fun k c => ent R (other o1 o2 S k c) c) k c).map V.int)) := fun H4 m s4 em => by
            have hm : m < n := by rw [em]; exact other_lt h1 h2 hk
            obtain ⟨xs, p, a1, a2, a3, a4⟩ := (hT1.same (s2.trans (s3.trans s4))).at (k := m) (by omega)
            refine ⟨xs, p, SqT.of a1, a3, SqT.of a4, ?_, s4 _ _ hw3⟩
            rw [int_at (by rw [(ok.rowAt (k := m) (by omega)).len]; exact hc), ← em]
            rfl
          have hls : ((rowTo (fun k c => ent R (other o1 o2 S k c) c) k c).map V.int).length < sizeLine := by rw [List.length_map, rowTo, List.length_map, List.length_range]; exact small1000 (by omega)
          have done : ∀ (H4 : Hp), Same H3 H4 → Same H2 (upd H4 lw (.lst ((rowTo (fun k c => ent R (other o1 o2 S k c) c) k c).map V.int ++ [.int (ent R (other o1 o2 S k c) c)]))) := fun H4 s4 b u e => by
            rw [upd_ne (ne_of_none e hlw)]
            exact s4 _ _ (s3 _ _ e)
          have last : ∀ (H4 : Hp), (upd H4 lw (.lst ((rowTo (fun k c => ent R (other o1 o2 S k c) c) k c).map V.int ++ [.int (ent R (other o1 o2 S k c) c)]))) lw = some (.lst ((rowTo (fun k c => ent R (other o1 o2 S k c) c) k (c + 1)).map V.int)) := fun H4 => by
            rw [upd_same, rowTo_succ, List.map_append]
            rfl
          refine ⟨_, rfl, ?_⟩
          refine ⟨_, rfl, _, rfl, lg, _, rfl, .inl (SqL.of hg3), rfl, map_ints_flat _, _, rfl, ?_⟩
          have ein : (if false = true then !inV (.int (c : Int)) ((toI S).map V.int) else inV (.int (c : Int)) ((toI S).map V.int)) = decide (c ∈ S) := by rw [if_neg Bool.false_ne_true, inV_toI]
          rw [ein]
          refine ite2 (fun hd => ?_) (fun hd => ?_)
          · have hcS : c ∈ S := of_decide_eq_true hd
            refine ⟨_, rfl, _, rfl, _, rfl, (show 2 ≤ sizeLine from small6 (by decide)), fun tp htp => ⟨tp, _, rfl, .inr (SqT.of upd_same), rfl, rfl, _, rfl, ?_⟩⟩
            have s4 : Same H3 (upd H3 tp (.tup [.int (o1 : Int), .int (o2 : Int)])) := Same.new htp
            have ein2 : (if false = true then !inV (.int (k : Int)) [.int (o1 : Int), .int (o2 : Int)] else inV (.int (k : Int)) [.int (o1 : Int), .int (o2 : Int)]) = decide (k = o1 ∨ k = o2) := by
              rw [if_neg Bool.false_ne_true]
              have := inV_ints (k : Int) [(o1 : Int), (o2 : Int)]
              rw [show [V.int (o1 : Int), V.int (o2 : Int)] = [(o1 : Int), (o2 : Int)].map V.int from rfl, this, Bool.eq_iff_iff, decide_eq_true_eq, decide_eq_true_eq]
              simp only [List.mem_cons, List.not_mem_nil, or_false]
              constructor
              · intro h
                rcases h with h | h <;> omega
              · intro h
                rcases h with h | h <;> omega
            rw [ein2]
            refine ite2 (fun hd2 => ?_) (fun hd2 => ?_)
            · have hk2 := of_decide_eq_true hd2
              have em : o1 + o2 - k = other o1 o2 S k c := by unfold other; rw [if_pos ⟨hcS, hk2⟩]
              obtain ⟨xs, p, a1, a2, a3, a4, a5⟩ := put _ _ s4 em
              refine ⟨_, rfl, _, rfl, _, _, rfl, rfl, _, rfl, _, _, rfl, rfl, ?_⟩
              have ei : (o1 : Int) + (o2 : Int) - (k : Int) = ((o1 + o2 - k : Nat) : Int) := by rcases hk2 with z | z <;> omega
              show gName 9 (V.int ((o1 : Int) + (o2 : Int) - (k : Int))) _ _ _
              rw [ei]
              exact ⟨_, rfl, .inl ⟨rfl, _, SqL.of a5⟩, _, rfl, _, rfl, g, _, _, _, rfl, rfl, a1, a2, _, rfl, p, _, _, _, rfl, rfl, a3, a4, lw, _, _, rfl, rfl, a5, hls, _, _, rfl, done _ s4, last _⟩
            · have em : k = other o1 o2 S k c := by unfold other; rw [if_neg fun z => hd2 (decide_eq_true z.2)]
              obtain ⟨xs, p, a1, a2, a3, a4, a5⟩ := put _ _ s4 em
              exact ⟨_, rfl, .inl ⟨rfl, _, SqL.of a5⟩, _, rfl, _, rfl, g, _, _, _, rfl, rfl, a1, a2, _, rfl, p, _, _, _, rfl, rfl, a3, a4, lw, _, _, rfl, rfl, a5, hls, _, _, rfl, done _ s4, last _⟩
          · have em : k = other o1 o2 S k c := by unfold other; rw [if_neg fun z => hd (decide_eq_true z.1)]
            obtain ⟨xs, p, a1, a2, a3, a4, a5⟩ := put H3 _ (Same.refl _) em
            exact iteF ⟨_, rfl, .inl ⟨rfl, _, SqL.of a5⟩, _, rfl, _, rfl, g, _, _, _, rfl, rfl, a1, a2, _, rfl, p, _, _, _, rfl, rfl, a3, a4, lw, _, _, rfl, rfl, a5, hls, _, _, rfl, done _ (Same.refl _), last _⟩
        · rintro σ H3 ⟨w8, w9, rfl, s3, hw3⟩
          have hps3 := s3 _ _ hps
          refine ⟨_, rfl, .inl ⟨rfl, _, SqL.of hps3⟩, _, rfl, lw, _, rfl, .inl ⟨SqL.of hw3, fun tp htp => ?_⟩⟩
          have s4 := Same.new (o := HO.tup ((rowTo (fun k c => ent R (other o1 o2 S k c) c) k n).map V.int)) htp
          have hps4 := s4 _ _ hps3
          have hpl : ps.length ≤ 8 := by rw [hPs.length, List.length_take]; omega
          have up : ∀ b row, (upd H3 tp (.tup ((rowTo (fun k c => ent R (other o1 o2 S k c) c) k n).map V.int))) b = some (.tup row) → (upd (upd H3 tp (.tup ((rowTo (fun k c => ent R (other o1 o2 S k c) c) k n).map V.int))) lr (.lst (ps.map V.ref ++ [.ref tp]))) b = some (.tup row) := fun b row e => by
            rw [upd_ne (ne_of e hps4 (by intro z; cases z))]
            exact e
          refine ⟨lr, _, _, rfl, rfl, hps4, by rw [List.length_map]; exact small1000 (by omega), _, _, _, _, ps ++ [tp], rfl, fun b u e => ?_, by rw [upd_same, List.map_append]; rfl, ?_⟩
          · rw [upd_ne (ne_of_none e hlr)]
            exact s4 _ _ (s3 _ _ (s2 _ _ e))
          · rw [exSq, mk_take _ hk]
            exact Paired.snoc (Paired.mapP hPs fun _ _ e => up _ _ (s4 _ _ (s3 _ _ e))) (up _ _ upd_same)
      · rintro σ H2 ⟨v6, v7, v8, v9, ps, rfl, s2, hps, hPs⟩
        rw [List.take_of_length_le (by unfold exSq mk; rw [List.length_map, List.length_range]; exact Nat.le_refl _)] at hPs
        refine ⟨_, rfl, lr, _, rfl, .inl ⟨SqL.of hps, fun t ht => ?_⟩⟩
        exact q t _ (s1.trans (s2.trans (Same.new ht))) ⟨ps, upd_same, Paired.mapP hPs fun _ _ e => (Same.new ht) _ _ e⟩
end
end My

namespace My
open PySem L2
/-! ### the parts of a square -/
def cntT (n : Nat) (l : List Int) : Nat := (rngI n).countP fun t => decide (t ∈ l)
def valsL (R : List (List Int)) (r c : List Nat) : List Int := r.flatMap fun i => c.map fun j => ent R i j
theorem mem_vals {R : List (List Int)} {r c : List Nat} {t : Int} : t ∈ valsL R r c ↔ ∃ i ∈ r, ∃ j ∈ c, ent R i j = t := by
  unfold valsL
  rw [List.mem_flatMap]
  simp only [List.mem_map]
theorem len_cnt {n : Nat} {ds l : List Int} (nd : ds.Nodup) (hm : ∀ t, t ∈ ds ↔ t ∈ l) (hl : ∀ t ∈ l, 0 ≤ t ∧ t < (n : Int)) : ds.length = cntT n l := by
  unfold cntT
  rw [List.countP_eq_length_filter]
  refine List.Perm.length_eq ((List.perm_ext_iff_of_nodup nd ((rngI_nodup n).filter _)).mpr fun t => ?_)
  rw [List.mem_filter, decide_eq_true_eq, hm t]
  exact ⟨fun h => ⟨mem_rngI.mpr (hl t h), h⟩, fun h => h.2⟩
theorem ent_rg {n : Nat} {R : List (List Int)} (ok : OkRows n R) (hl : R.length = n) {i j : Nat} (hi : i < n) (hj : j < n) : 0 ≤ ent R i j ∧ ent R i j < (n : Int) := (ent_row ok hl hi).val hj
theorem vals_rg {n k : Nat} {R : List (List Int)} (ok : OkRows n R) (hl : R.length = n) {r c : List Nat} (hr : Pick n k r) (hc : Pick n k c) : ∀ t ∈ valsL R r c, 0 ≤ t ∧ t < (n : Int) := fun t ht => by
  obtain ⟨i, hi, j, hj, rfl⟩ := mem_vals.mp ht
  exact ent_rg ok hl (hr.lt i hi) (hc.lt j hj)
theorem nodup_map_on {α β : Type} {f : α → β} : ∀ {l : List α}, l.Nodup → (∀ a ∈ l, ∀ b ∈ l, f a = f b → a = b) → (l.map f).Nodup
  | [], _, _ => List.nodup_nil
  | x :: l, nd, h => by
    rw [List.nodup_cons] at nd
    rw [List.map_cons, List.nodup_cons]
    refine ⟨fun hm => ?_, nodup_map_on nd.2 fun a ha b hb => h a (List.mem_cons_of_mem _ ha) b (List.mem_cons_of_mem _ hb)⟩
    obtain ⟨y, hy, e⟩ := List.mem_map.mp hm
    have := h y (List.mem_cons_of_mem _ hy) x List.mem_cons_self e
    exact nd.1 (this ▸ hy)
theorem no_big {n k : Nat} {R : List (List Int)} (ok : OkRows n R) (hl : R.length = n) (hk : k < n) {r c : List Nat} (hr : Pick n k r) (hc : Pick n k c) (e : cntT n (valsL R r c) = k) : 2 * k ≤ n := by
  obtain ⟨i0, hi0, hni⟩ : ∃ i, i < n ∧ i ∉ r := by
    by_cases z : ∃ i, i < n ∧ i ∉ r
    · exact z
    · have hall : ∀ i, i < n → i ∈ r := fun i hi => by
        by_cases h : i ∈ r
        · exact h
        · exact absurd ⟨i, hi, h⟩ z
      have := nat_len (l := List.range n) (n := n) List.nodup_range fun x hx => List.mem_range.mp hx
      have h2 : (rngI n).length ≤ (toZ r).length := len_le (rngI_nodup n) fun x hx => by
        have := mem_rngI.mp hx
        exact List.mem_map.mpr ⟨x.toNat, hall x.toNat (by omega), by omega⟩
      rw [rngI_len] at h2
      unfold toZ at h2
      rw [List.length_map, hr.len] at h2
      omega
  have hTl : ((rngI n).filter fun t => decide (t ∈ valsL R r c)).length = k := by
    rw [← List.countP_eq_length_filter]
    exact e
  have hTm : ∀ t, t ∈ ((rngI n).filter fun t => decide (t ∈ valsL R r c)) ↔ t ∈ valsL R r c := fun t => by
    rw [List.mem_filter, decide_eq_true_eq]
    exact ⟨fun h => h.2, fun h => ⟨mem_rngI.mpr (vals_rg ok hl hr hc t h), h⟩⟩
  have hTn : ((rngI n).filter fun t => decide (t ∈ valsL R r c)).Nodup := (rngI_nodup n).filter _
  have hTs : ∀ t ∈ ((rngI n).filter fun t => decide (t ∈ valsL R r c)), t ∈ rngI n := fun t ht => (List.mem_filter.mp ht).1
  generalize ((rngI n).filter fun t => decide (t ∈ valsL R r c)) = Tl at hTl hTm hTn hTs
  have hUn : (c.map fun j => ent R i0 j).Nodup := nodup_map_on hc.nd fun a ha b hb eq => (ent_row ok hl hi0).inj (hc.lt a ha) (hc.lt b hb) eq
  have dis : ∀ t ∈ Tl, t ∉ c.map fun j => ent R i0 j := fun t ht hu => by
    obtain ⟨j, hj, rfl⟩ := List.mem_map.mp hu
    have hWn : (r.map fun i => ent R i j).Nodup := nodup_map_on hr.nd fun a ha b hb eq => ent_col ok hl (hr.lt a ha) (hr.lt b hb) (hc.lt j hj) eq
    have hW := all_of_len hWn (fun x hx => (by
      obtain ⟨i, hi, rfl⟩ := List.mem_map.mp hx
      exact (hTm _).mpr (mem_vals.mpr ⟨i, hi, j, hj, rfl⟩))) (by rw [List.length_map, hr.len, hTl]; exact Nat.le_refl _) _ ht
    obtain ⟨i, hi, eq⟩ := List.mem_map.mp hW
    have := ent_col ok hl (hr.lt i hi) hi0 (hc.lt j hj) eq
    exact hni (this ▸ hi)
  have := len_le (T := Tl ++ c.map fun j => ent R i0 j) (S := rngI n) (List.nodup_append.mpr ⟨hTn, hUn, fun a ha b hb eq => dis a ha (eq ▸ hb)⟩) fun x hx => by
    rcases List.mem_append.mp hx with hx | hx
    · exact hTs x hx
    · obtain ⟨j, hj, rfl⟩ := List.mem_map.mp hx
      exact mem_rngI.mpr (ent_rg ok hl hi0 (hc.lt j hj))
  rw [List.length_append, List.length_map, hc.len, hTl, rngI_len] at this
  omega
def rowK (n : Nat) (R : List (List Int)) (k : Nat) (r : List Nat) : List (List Nat × List Nat) := ((rp n k).filter fun c => decide (cntT n (valsL R r c) = k)).map fun c => (r, c)
def partsK (n : Nat) (R : List (List Int)) (k : Nat) : List (List Nat × List Nat) := (rp n k).flatMap (rowK n R k)
def dueL (n : Nat) (R : List (List Int)) : List (List Nat × List Nat) := (List.range' 2 (n - 2)).flatMap (partsK n R)
def partsL (n : Nat) (R : List (List Int)) : List (List Nat × List Nat) := (List.range' 2 (n / 2 - 1)).flatMap (partsK n R)
theorem big_none {n k : Nat} {R : List (List Int)} (ok : OkRows n R) (hl : R.length = n) (h6 : n ≤ 6) (hk : k < n) (hb : n < 2 * k) : partsK n R k = [] := by
  unfold partsK
  rw [List.flatMap_eq_nil_iff]
  intro r hr
  unfold rowK
  rw [List.map_eq_nil_iff, List.filter_eq_nil_iff]
  intro c hc e
  have := no_big ok hl hk (rp_pick h6 (by omega) hr) (rp_pick h6 (by omega) hc) (of_decide_eq_true e)
  omega
theorem parts_due {n : Nat} {R : List (List Int)} (ok : OkRows n R) (hl : R.length = n) (h6 : n ≤ 6) : dueL n R = partsL n R := by
  unfold dueL partsL
  have e : List.range' 2 (n - 2) = List.range' 2 (n / 2 - 1) ++ List.range' (2 + (n / 2 - 1)) (n - 2 - (n / 2 - 1)) := by
    rw [List.range'_append_1]
    congr 1
    omega
  rw [e, List.flatMap_append]
  have e2 : (List.range' (2 + (n / 2 - 1)) (n - 2 - (n / 2 - 1))).flatMap (partsK n R) = [] := by
    rw [List.flatMap_eq_nil_iff]
    intro k hk
    have := List.mem_range'_1.mp hk
    exact big_none ok hl h6 (by omega) (by omega)
  rw [e2, List.append_nil]
theorem parts_half {n : Nat} {R : List (List Int)} (h6 : n ≤ 6) : ∀ p ∈ partsL n R, 2 * p.1.length ≤ n := fun p hp => by
  unfold partsL at hp
  obtain ⟨k, hk, hp⟩ := List.mem_flatMap.mp hp
  have := List.mem_range'_1.mp hk
  unfold partsK at hp
  obtain ⟨r, hr, hp⟩ := List.mem_flatMap.mp hp
  unfold rowK at hp
  obtain ⟨c, _, rfl⟩ := List.mem_map.mp hp
  show 2 * r.length ≤ n
  rw [(rp_pick h6 (by omega) hr).len]
  omega
end My

namespace My
open PySem L2
/-! ### rings of two columns and parts of two rows -/
def permsL (n : Nat) : Nat → List (List Nat)
  | 0 => [[]]
  | k + 1 => (permsL n k).flatMap fun l => ((List.range n).filter fun x => decide (x ∉ l)).map fun x => l ++ [x]
theorem mem_perms {n : Nat} : ∀ (k : Nat) (l : List Nat), l.length = k → l.Nodup → (∀ x ∈ l, x < n) → l ∈ permsL n k
  | 0, l, h, _, _ => by rw [List.length_eq_zero_iff.mp h]; exact List.mem_singleton.mpr rfl
  | k + 1, l, h, nd, hl => by
    have hne : l ≠ [] := fun z => by rw [z] at h; cases h
    have e := List.dropLast_concat_getLast hne
    have nd' : l.dropLast.Nodup ∧ l.getLast hne ∉ l.dropLast := by
      rw [← e, List.nodup_append] at nd
      exact ⟨nd.1, fun z => nd.2.2 _ z _ (List.mem_singleton.mpr rfl) rfl⟩
    have ih := mem_perms k l.dropLast (by rw [List.length_dropLast, h]; rfl) nd'.1 fun x hx => hl x (by rw [← e]; exact List.mem_append_left _ hx)
    rw [← e]
    exact List.mem_flatMap.mpr ⟨_, ih, List.mem_map.mpr ⟨_, List.mem_filter.mpr ⟨List.mem_range.mpr (hl _ (List.getLast_mem hne)), decide_eq_true nd'.2⟩, rfl⟩⟩
def two (s : Nat → Nat) (c : List Nat) : Bool := decide (s (c.getD 0 0) = c.getD 1 0) && decide (s (c.getD 1 0) = c.getD 0 0)
theorem two_all : ∀ n, n < 7 → ∀ l ∈ permsL n n, (ringsTo (fun c => l.getD c 0) n n).filter (fun r => decide (r.length = 2)) = (rp n 2).filter (two fun c => l.getD c 0) := by decide +kernel
theorem ringF_congr {n : Nat} {s t : Nat → Nat} (h : ∀ x, x < n → s x = t x) (hs : ∀ x, x < n → s x < n) {c : Nat} : ∀ (m : Nat) (acc : List Nat), lastN acc < n → ringF s c m acc = ringF t c m acc
  | 0, acc, _ => rfl
  | m + 1, acc, ha => by
    unfold ringF
    rw [← h _ ha]
    split
    · rfl
    · exact ringF_congr h hs m _ (by rw [show lastN (acc ++ [s (lastN acc)]) = s (lastN acc) by simp [lastN]]; exact hs _ ha)
theorem ringsTo_congr {n : Nat} {s t : Nat → Nat} (h : ∀ x, x < n → s x = t x) (hs : ∀ x, x < n → s x < n) : ∀ i, i ≤ n → ringsTo s n i = ringsTo t n i
  | 0, _ => rfl
  | i + 1, hi => by
    rw [ringsTo, ringsTo, ringsTo_congr h hs i (by omega), show ringL s n i = ringL t n i from ringF_congr h hs n [i] (by simp [lastN]; omega)]
theorem two_rings {n : Nat} {s : Nat → Nat} (h6 : n < 7) (o : One n s) : (ringsTo s n n).filter (fun r => decide (r.length = 2)) = (rp n 2).filter (two s) := by
  have hl : (List.range n).map s ∈ permsL n n := mem_perms n _ (by rw [List.length_map, List.length_range]) (nodup_map fun i j hi hj e => o.inj i j hi hj e) fun x hx => by
    obtain ⟨i, hi, rfl⟩ := List.mem_map.mp hx
    exact o.lt i (List.mem_range.mp hi)
  have e : ∀ x, x < n → s x = (fun c => ((List.range n).map s).getD c 0) x := fun x hx => by
    show s x = ((List.range n).map s).getD x 0
    rw [List.getD_eq_getElem?_getD, List.getElem?_map, List.getElem?_range hx]
    rfl
  rw [ringsTo_congr e o.lt n (Nat.le_refl _), two_all n h6 _ hl]
  refine List.filter_congr fun c hc => ?_
  have p := rp_pick (by omega) (by omega) hc
  have h0 : c.getD 0 0 < n := p.lt _ (by rw [List.getD_eq_getElem?_getD, List.getElem?_eq_getElem (by rw [p.len]; omega)]; exact List.getElem_mem _)
  have h1 : c.getD 1 0 < n := p.lt _ (by rw [List.getD_eq_getElem?_getD, List.getElem?_eq_getElem (by rw [p.len]; omega)]; exact List.getElem_mem _)
  unfold two
  rw [← e _ h0, ← e _ h1]
end My

namespace My
open PySem L2
/-! ### the table; the things of some rows and columns -/
/-- checked one by one -/
def okF (n : Nat) (f : Nat → Nat → Int) : Bool := (List.range n).all fun k => (List.range n).all fun c => decide (0 ≤ f k c) && decide (f k c < (n : Int)) && (List.range n).all fun d => (!decide (f k c = f k d) || decide (c = d)) && (!decide (f c k = f d k) || decide (c = d))
theorem okF_ok {n : Nat} {f : Nat → Nat → Int} (h : okF n f = true) : OkRows n (mk n f) := by
  unfold okF at h
  rw [List.all_eq_true] at h
  have g : ∀ k c, k < n → c < n → (0 ≤ f k c ∧ f k c < (n : Int)) ∧ ∀ d, d < n → (f k c = f k d → c = d) ∧ (f c k = f d k → c = d) := fun k c hk hc => by
    have h1 := h k (List.mem_range.mpr hk)
    rw [List.all_eq_true] at h1
    have h2 := h1 c (List.mem_range.mpr hc)
    rw [Bool.and_eq_true, Bool.and_eq_true, decide_eq_true_eq, decide_eq_true_eq, List.all_eq_true] at h2
    refine ⟨h2.1, fun d hd => ?_⟩
    have h3 := h2.2 d (List.mem_range.mpr hd)
    rw [Bool.and_eq_true, Bool.or_eq_true, Bool.or_eq_true, Bool.not_eq_true', Bool.not_eq_true', decide_eq_false_iff_not, decide_eq_false_iff_not, decide_eq_true_eq] at h3
    exact ⟨fun e => h3.1.elim (fun z => absurd e z) id, fun e => h3.2.elim (fun z => absurd e z) id⟩
  exact (mk_ok (fun k c hk hc => (g k c hk hc).1) (fun k c d hk hc hd e => ((g k c hk hc).2 d hd).1 e) (fun k l c hk hl hc e => ((g c k hc hk).2 l hl).2 e)).1
def fT (n i j : Nat) : Int := ((i : Int) + (j : Int)) % (((n / 2 : Nat)) : Int) + (((n / 2 : Nat)) : Int) * (((i : Int) / (((n / 2 : Nat)) : Int) + (j : Int) / (((n / 2 : Nat)) : Int)) % 2)
theorem ok_fT : ∀ n, n < 7 → n % 2 = 0 → 2 ≤ n → okF n (fT n) = true := by decide +kernel
def tsL (n : Nat) (R : List (List Int)) (r c : List Nat) : List Int := (rngI n).filter fun t => decide (t ∈ valsL R r c)
theorem tsL_len {n : Nat} {R : List (List Int)} {r c : List Nat} : (tsL n R r c).length = cntT n (valsL R r c) := by
  unfold tsL cntT
  rw [List.countP_eq_length_filter]
theorem tsL_nd {n : Nat} {R : List (List Int)} {r c : List Nat} : (tsL n R r c).Nodup := (rngI_nodup n).filter _
theorem tsL_mem {n k : Nat} {R : List (List Int)} {r c : List Nat} (ok : OkRows n R) (hl : R.length = n) (hr : Pick n k r) (hc : Pick n k c) {t : Int} : t ∈ tsL n R r c ↔ t ∈ valsL R r c := by
  unfold tsL
  rw [List.mem_filter, decide_eq_true_eq]
  exact ⟨fun h => h.2, fun h => ⟨mem_rngI.mpr (vals_rg ok hl hr hc t h), h⟩⟩
theorem rngI_le (n : Nat) : (rngI n).Pairwise (· ≤ ·) := by
  unfold rngI
  rw [List.pairwise_map]
  exact List.pairwise_lt_range.imp fun h => by omega
theorem tsL_le {n : Nat} {R : List (List Int)} {r c : List Nat} : (tsL n R r c).Pairwise (· ≤ ·) := (rngI_le n).filter _
def spTable (K : PySem.W.Frag) : Sp := fun vs H Q _ => ∃ (a : Addr) (ns : List Int), vs = [.ref a] ∧ SqL K H a (ns.map V.int) ∧ ∀ (t : Addr) (n : Nat) (R : List (List Int)) (H' : Hp), Same H H' → TG H' t R → OkRows n R → R.length = n → 2 ≤ n → n ≤ 6 → Q (.ref t) H'
def spThings : Sp := fun vs H Q _ => ∃ (g ra ca : Addr) (n k : Nat) (R : List (List Int)) (r c : List Nat), vs = [.ref g, .ref ra, .ref ca] ∧ TG H g R ∧ OkRows n R ∧ R.length = n ∧ n ≤ 6 ∧ H ra = some (.tup ((toZ r).map V.int)) ∧ H ca = some (.tup ((toZ c).map V.int)) ∧ Pick n k r ∧ Pick n k c ∧ k ≤ 6 ∧
  ∀ (l : Addr) (H' : Hp), Same H H' → H' l = some (.lst ((tsL n R r c).map V.int)) → Q (.ref l) H'
section
variable {P : Program} {w : World} {K : PySem.W.Frag} {mg : Str → Option Value} {base : Heap}
theorem scTable : FnScope ["_law_script", "_law_size", "_law_rows", "_law_low", "_law_i", "_law_row", "_law_j", "_law_half"] ["_law_script"] (defScope sTable) := ⟨rfl, rfl, rfl, by decide +kernel, rfl, by decide +kernel, by decide +kernel⟩
theorem ok_table {f fC : Addr} {fd dC : FuncData} (F : Fun K "_law_table" "_law_table" sTable f fd) (T : Blt mg) (DC : Dfn K mg "_law_cell_at" sCell ["_law_script", "_law_k"] fC dC) : FnOk P w K mg base CX0 2 f fd ["_law_script"] (spTable K) := by
  have GC : FnOk P w K mg base CX0 1 fC dC ["_law_script", "_law_k"] (spCell K) := ok_cell DC.F T
  refine F.ok scTable (fun vs H Q E h => ?_) (fun cdv A outer s H vs Q E hr h => ?_)
  · obtain ⟨_, _, rfl, _⟩ := h
    rfl
  · obtain ⟨a, ns, rfl, hS, q⟩ := h
    refine' ⟨_, pss_cons ?s0 (pss_cons (ps_set (i := 2) scTable.nd rfl (Or.inl rfl) (pe_lst pa_nil)) (pss_cons ?s2 (pss_cons (ps_for PassesOwn.never rfl (pi_range1 rfl T.range (pa_cons (pv 1) pa_nil)) (pg_name (i := 4) scTable.nd rfl (Or.inl rfl)) (pss_cons (ps_set (i := 5) scTable.nd rfl (Or.inl rfl) (pe_lst pa_nil)) (pss_cons (ps_for PassesOwn.never rfl (pi_range1 rfl T.range (pa_cons (pv 1) pa_nil)) (pg_name (i := 6) scTable.nd rfl (Or.inl rfl)) (pss_cons ?c0 (pss_one ?c1))) (pss_one ?b2)))) (pss_one (ps_ret (pe_callTy (call_tupleK K) rfl T.tuple bt_tuple (pa_cons (pv 2) pa_nil))))))), ?rd⟩
    case s0 => exact ps_set (i := 1) scTable.nd rfl (Or.inl rfl) (pe_ix ix_list (pe_lst (pa_cons pe_int (pa_cons pe_int (pa_cons pe_int (pa_cons pe_int (pa_cons pe_int pa_nil)))))) (pe_op op_mod (pe_op op_fdiv (pe_call GC hr rfl DC.m DC.F.kp DC.b .nil pass0 (pa_cons (pv 0) (pa_cons pe_int pa_nil))) pe_int) pe_int) (fun _ _ => rfl))
    case s2 => exact ps_set (i := 3) scTable.nd rfl (Or.inl rfl) (pe_op op_fdiv (pv 1) pe_int)
    case c0 => exact ps_set (i := 7) scTable.nd rfl (Or.inl rfl) (pe_op op_mod (pe_op op_add (pe_op op_fdiv (pv 4) (pv 3)) (pe_op op_fdiv (pv 6) (pv 3))) pe_int)
    case c1 => exact ps_expr (pe_bm PySem.F.plainAttrs_list PySem.F.slot_list_append PySem.F.type_list_append mt_append (pv 5) (pa_cons (pe_op op_add (pe_op op_mod (pe_op op_add (pv 4) (pv 6)) (pv 3)) (pe_op op_mul (pv 3) (pv 7))) pa_nil))
    case b2 => exact ps_expr (pe_bm PySem.F.plainAttrs_list PySem.F.slot_list_append PySem.F.type_list_append mt_append (pv 2) (pa_cons (pe_callTy (call_tupleK K) rfl T.tuple bt_tuple (pa_cons (pv 5) pa_nil)) pa_nil))
    case rd =>
      refine ⟨(show 5 ≤ sizeLine from small6 (by decide)), fun l0 hl0 => ?_⟩
      have sA : Same H (upd H l0 (.lst [.int 2, .int 4, .int 6, .int 4, .int 6])) := Same.new hl0
      have hA : (upd H l0 (.lst [.int 2, .int 4, .int 6, .int 4, .int 6])) l0 = some (.lst [.int 2, .int 4, .int 6, .int 4, .int 6]) := upd_same
      generalize upd H l0 (.lst [.int 2, .int 4, .int 6, .int 4, .int 6]) = HA at sA hA ⊢
      refine ⟨_, rfl, a, ns, 0, rfl, sA.seq hS, fun z => ?_⟩
      refine ⟨_, _, rfl, rfl, ⟨by decide, by decide⟩, _, _, rfl, rfl, (by show (0 : Int) < 5; decide), ?_⟩
      obtain ⟨m, hm, hm5⟩ : ∃ m : Nat, z / 14 % 5 = (m : Int) ∧ m < 5 := ⟨(z / 14 % 5).toNat, by omega, by omega⟩
      obtain ⟨n, hn, hn2, hn6, hev⟩ : ∃ n : Nat, [V.int 2, .int 4, .int 6, .int 4, .int 6][m]? = some (.int (n : Int)) ∧ 2 ≤ n ∧ n ≤ 6 ∧ n % 2 = 0 := by
        have : m = 0 ∨ m = 1 ∨ m = 2 ∨ m = 3 ∨ m = 4 := by omega
        rcases this with rfl | rfl | rfl | rfl | rfl
        · exact ⟨2, rfl, by decide, by decide, rfl⟩
        · exact ⟨4, rfl, by decide, by decide, rfl⟩
        · exact ⟨6, rfl, by decide, by decide, rfl⟩
        · exact ⟨4, rfl, by decide, by decide, rfl⟩
        · exact ⟨6, rfl, by decide, by decide, rfl⟩
      refine ⟨l0, _, _, .int (n : Int), rfl, rfl, SqL.of hA, ?_, ?_⟩
      · show atI _ (z / 14 % 5) = _
        rw [hm]
        exact atI_of hn
      have okR := okF_ok (ok_fT n (by omega) hev hn2)
      refine ⟨Nat.zero_le _, fun lr hlr => ?_⟩
      have s1 := sA.trans (Same.new (o := .lst []) hlr)
      have hlr0 : H lr = none := sA.free hlr
      have hr1 : (upd HA lr (.lst [])) lr = some (.lst []) := upd_same
      generalize upd HA lr (.lst []) = H1 at s1 hr1 ⊢
      refine ⟨_, rfl, _, _, rfl, rfl, ⟨by decide, by decide⟩, ?_⟩
      show gName 3 (V.int ((n : Int) / 2)) _ _ _
      rw [show (n : Int) / 2 = ((n / 2 : Nat) : Int) by omega]
      generalize hlo : n / 2 = lo
      have hlo1 : 1 ≤ lo := by omega
      refine ⟨_, rfl, (n : Int), rfl, by omega, by omega, ?_⟩
      rw [Int.toNat_natCast]
      refine for_range (lo := 0) (n := n) (fun i σ H2 => ∃ (v4 v5 v6 v7 : Option V) (ps : List Addr), σ = [some (.ref a), some (.int (n : Int)), some (.ref lr), some (.int (lo : Int)), v4, v5, v6, v7] ∧ Same H H2 ∧ H2 lr = some (.lst (ps.map V.ref)) ∧ Paired (fun p (r : List Int) => H2 p = some (.tup (r.map V.int))) ps ((mk n (fT n)).take i))
        ⟨none, none, none, none, [], rfl, s1, hr1, .nil⟩ ?_ ?_
      · rintro i σ H2 hi ⟨v4, v5, v6, v7, ps, rfl, s2, h2, hP⟩
        rw [Int.zero_add]
        refine ⟨Nat.zero_le _, fun lw hlw => ?_⟩
        refine ⟨_, rfl, (n : Int), rfl, by omega, by omega, ?_⟩
        rw [Int.toNat_natCast]
        refine for_range (lo := 0) (n := n) (fun j σ H3 => ∃ (v6 v7 : Option V), σ = [some (.ref a), some (.int (n : Int)), some (.ref lr), some (.int (lo : Int)), some (.int (i : Int)), some (.ref lw), v6, v7] ∧ Same H2 H3 ∧ H3 lw = some (.lst ((rowTo (fT n) i j).map V.int)))
          ⟨_, _, rfl, Same.new hlw, upd_same⟩ ?_ ?_
        · rintro j σ H3 hj ⟨w6, w7, rfl, s3, h3⟩
          rw [Int.zero_add]
          refine ⟨_, rfl, _, rfl, _, _, rfl, rfl, ⟨(by show (0 : Int) < (lo : Int); omega), (by show (lo : Int) < 1073741824; omega)⟩, _, rfl, _, rfl, _, _, rfl, rfl, ⟨(by show (0 : Int) < (lo : Int); omega), (by show (lo : Int) < 1073741824; omega)⟩, _, _, rfl, rfl, _, _, rfl, rfl, (by show (0 : Int) < 2; decide), ?_⟩
          have hb : 0 ≤ ((i : Int) / (lo : Int) + (j : Int) / (lo : Int)) % 2 ∧ ((i : Int) / (lo : Int) + (j : Int) / (lo : Int)) % 2 < 2 := by omega
          refine ⟨_, rfl, .inl ⟨rfl, _, SqL.of h3⟩, _, rfl, _, rfl, _, _, rfl, rfl, _, rfl, _, _, rfl, rfl, (by show (0 : Int) < (lo : Int); omega), _, rfl, _, rfl, _, _, rfl, rfl, .inl ⟨by omega, by omega⟩, _, _, rfl, rfl, lw, _, _, rfl, rfl, h3, by rw [List.length_map, rowTo, List.length_map, List.length_range]; exact small1000 (by omega), ?_⟩
          refine ⟨_, _, rfl, fun b u e => ?_, ?_⟩
          · rw [upd_ne (ne_of_none e hlw)]
            exact s3 _ _ e
          · rw [upd_same, rowTo_succ, List.map_append, show fT n i j = ((i : Int) + (j : Int)) % (lo : Int) + (lo : Int) * (((i : Int) / (lo : Int) + (j : Int) / (lo : Int)) % 2) by unfold fT; rw [hlo]]
            rfl
        · rintro σ H3 ⟨w6, w7, rfl, s3, h3⟩
          have h23 := s3 _ _ h2
          refine ⟨_, rfl, .inl ⟨rfl, _, SqL.of h23⟩, _, rfl, lw, _, rfl, .inl ⟨SqL.of h3, fun tp htp => ?_⟩⟩
          have s4 := Same.new (o := HO.tup ((rowTo (fT n) i n).map V.int)) htp
          have h24 := s4 _ _ h23
          have hpl : ps.length ≤ 6 := by rw [hP.length, List.length_take]; omega
          have up : ∀ b row, (upd H3 tp (.tup ((rowTo (fT n) i n).map V.int))) b = some (.tup row) → (upd (upd H3 tp (.tup ((rowTo (fT n) i n).map V.int))) lr (.lst (ps.map V.ref ++ [.ref tp]))) b = some (.tup row) := fun b row e => by
            rw [upd_ne (ne_of e h24 (by intro z; cases z))]
            exact e
          refine ⟨lr, _, _, rfl, rfl, h24, by rw [List.length_map]; exact small1000 (by omega), _, _, _, _, ps ++ [tp], rfl, fun b u e => ?_, by rw [upd_same, List.map_append]; rfl, ?_⟩
          · rw [upd_ne (ne_of_none e hlr0)]
            exact s4 _ _ (s3 _ _ (s2 _ _ e))
          · rw [mk_take _ hi]
            exact Paired.snoc (Paired.mapP hP fun _ _ e => up _ _ (s4 _ _ (s3 _ _ e))) (up _ _ upd_same)
      · rintro σ H2 ⟨v4, v5, v6, v7, ps, rfl, s2, h2, hP⟩
        have hml : (mk n (fT n)).length = n := by unfold mk; rw [List.length_map, List.length_range]
        rw [List.take_of_length_le (by rw [hml]; exact Nat.le_refl _)] at hP
        exact ⟨_, rfl, lr, _, rfl, .inl ⟨SqL.of h2, fun t ht => q t n _ _ (s2.trans (Same.new ht)) ⟨ps, upd_same, Paired.mapP hP fun _ _ e => (Same.new ht) _ _ e⟩ okR hml hn2 hn6⟩⟩
end
end My

namespace My
open PySem L2
theorem sorted_uniq : ∀ {a b : List Int}, a.Perm b → a.Pairwise (· ≤ ·) → b.Pairwise (· ≤ ·) → a = b
  | [], b, p, _, _ => (List.Perm.nil_eq p)
  | x :: a, [], p, _, _ => by have := p.length_eq; cases this
  | x :: a, y :: b, p, ha, hb => by
    have hxy : x = y := by
      have h1 : y ∈ x :: a := p.mem_iff.mpr List.mem_cons_self
      have h2 : x ∈ y :: b := p.mem_iff.mp List.mem_cons_self
      have l1 : x ≤ y := by
        rcases List.mem_cons.mp h1 with z | z
        · omega
        · exact (List.pairwise_cons.mp ha).1 y z
      have l2 : y ≤ x := by
        rcases List.mem_cons.mp h2 with z | z
        · omega
        · exact (List.pairwise_cons.mp hb).1 x z
      omega
    subst hxy
    rw [sorted_uniq (List.Perm.cons_inv p) (List.pairwise_cons.mp ha).2 (List.pairwise_cons.mp hb).2]

theorem vals_take {R : List (List Int)} {r c : List Nat} {i : Nat} (h : i < r.length) : valsL R (r.take (i + 1)) c = valsL R (r.take i) c ++ c.map fun j => ent R r[i] j := by
  unfold valsL
  rw [← List.take_append_getElem h, List.flatMap_append]
  simp
theorem toZ_len (l : List Nat) : (toZ l).length = l.length := List.length_map _
theorem toZ_at {l : List Nat} {i : Nat} {x : V} (h : ((toZ l).map V.int)[i]? = some x) : ∃ hi : i < l.length, x = .int ((l[i] : Nat) : Int) := by
  have hi : i < l.length := by
    have := (List.getElem?_eq_some_iff.mp h).1
    rw [List.length_map, toZ_len] at this
    exact this
  refine ⟨hi, ?_⟩
  unfold toZ at h
  rw [List.getElem?_map, List.getElem?_map, List.getElem?_eq_getElem hi] at h
  cases h
  rfl
end My

namespace My
open PySem L2
/-! ### all picks, sorted -/
def PkL (H : Hp) (l : Addr) (S : List (List Nat)) : Prop := ∃ ps : List Addr, H l = some (.lst (ps.map V.ref)) ∧ Paired (fun q (p : List Nat) => H q = some (.tup ((toZ p).map V.int))) ps S
end My

namespace My
open PySem L2
/-! ### the parts that are due -/
def IsPr (H : Hp) (q : Addr) (p : List Nat × List Nat) : Prop := ∃ a b : Addr, H q = some (.tup [.ref a, .ref b]) ∧ H a = some (.tup ((toZ p.1).map V.int)) ∧ H b = some (.tup ((toZ p.2).map V.int))
def PtL (H : Hp) (l : Addr) (L : List (List Nat × List Nat)) : Prop := ∃ ps : List Addr, H l = some (.lst (ps.map V.ref)) ∧ ps.length ≤ 2000 ∧ Paired (IsPr H) ps L
/-- all but one stays -/
def Kp (x : Addr) (H H' : Hp) : Prop := ∀ b o, b ≠ x → H b = some o → H' b = some o
theorem Kp.refl {x : Addr} {H : Hp} : Kp x H H := fun _ _ _ e => e
theorem Kp.same {x : Addr} {H H1 H2 : Hp} (h : Kp x H H1) (s : Same H1 H2) : Kp x H H2 := fun b o hb e => s _ _ (h b o hb e)
theorem Kp.put {x : Addr} {H H1 : Hp} {o : HO} (h : Kp x H H1) : Kp x H (upd H1 x o) := fun b o hb e => by rw [upd_ne hb]; exact h b o hb e
theorem IsPr.up {H H' : Hp} {q : Addr} {p : List Nat × List Nat} (h : IsPr H q p) (f : ∀ b row, H b = some (.tup row) → H' b = some (.tup row)) : IsPr H' q p :=
  let ⟨a, b, h1, h2, h3⟩ := h
  ⟨a, b, f _ _ h1, f _ _ h2, f _ _ h3⟩
theorem up_lst {H : Hp} {l : Addr} {xs : List V} {o : HO} (h : H l = some (.lst xs)) : ∀ b row, H b = some (.tup row) → (upd H l o) b = some (.tup row) := fun b row e => by
  rw [upd_ne (ne_of e h (by intro z; cases z))]
  exact e
theorem PtL.same {l : Addr} {H H1 : Hp} {S : List (List Nat × List Nat)} (g : PtL H l S) (x : Same H H1) : PtL H1 l S :=
  let ⟨ps, h, b, r⟩ := g
  ⟨ps, x _ _ h, b, Paired.mapP r fun _ _ z => z.up fun _ _ e => x _ _ e⟩
theorem partsK_take {n k i : Nat} {R : List (List Int)} {r : List Nat} (h : (rp n k)[i]? = some r) : ((rp n k).take (i + 1)).flatMap (rowK n R k) = ((rp n k).take i).flatMap (rowK n R k) ++ rowK n R k r := by
  rw [List.take_add_one, h, List.flatMap_append]
  simp
theorem range'_one (i : Nat) (m : Nat) : List.range' m (i + 1) = List.range' m i ++ [m + i] := by
  rw [List.range'_concat, Nat.one_mul]
theorem few {m : Nat} (h : m < 100000) : m < sizeLine := by rw [sizeLine_eq]; omega
end My

namespace My
open PySem L2
/-! ### a square put in a part -/
theorem gD {α : Type} {l : List α} {i : Nat} {d : α} (h : i < l.length) : l.getD i d = l[i] := by rw [List.getD_eq_getElem?_getD, List.getElem?_eq_getElem h]; rfl
theorem gD_mem {α : Type} {l : List α} {i : Nat} {d : α} (h : i < l.length) : l.getD i d ∈ l := by rw [gD h]; exact List.getElem_mem h
theorem gD_inj {α : Type} {l : List α} (nd : l.Nodup) {i j : Nat} {d : α} (hi : i < l.length) (hj : j < l.length) (e : l.getD i d = l.getD j d) : i = j := by
  rw [gD hi, gD hj] at e
  exact (List.getElem_inj nd).mp e
theorem ix_lt {l : List Nat} {x : Nat} (h : x ∈ l) : l.idxOf x < l.length := List.idxOf_lt_length_iff.mpr h
theorem ix_at {l : List Nat} {x : Nat} (h : x ∈ l) : l.getD (l.idxOf x) 0 = x := by rw [gD (ix_lt h)]; exact List.getElem_idxOf (ix_lt h)
theorem ix_of {l : List Nat} (nd : l.Nodup) {a : Nat} (ha : a < l.length) : l.idxOf (l.getD a 0) = a :=
  gD_inj nd (ix_lt (gD_mem ha)) ha (ix_at (gD_mem ha))
structure PartOk (n k : Nat) (R : List (List Int)) (r c : List Nat) : Prop where
  pr : Pick n k r
  pc : Pick n k c
  cnt : cntT n (valsL R r c) = k
def putF (R : List (List Int)) (r c : List Nat) (ts : List Int) (I : List (List Int)) (i j : Nat) : Int := if i ∈ r ∧ j ∈ c then ts.getD (ent I (r.idxOf i) (c.idxOf j)).toNat 0 else ent R i j
section
variable {n k : Nat} {R I : List (List Int)} {r c : List Nat}
theorem PartOk.len (p : PartOk n k R r c) : (tsL n R r c).length = k := tsL_len.trans p.cnt
theorem putF_in {ts : List Int} {i j : Nat} (hi : i ∈ r) (hj : j ∈ c) : putF R r c ts I i j = ts.getD (ent I (r.idxOf i) (c.idxOf j)).toNat 0 := if_pos ⟨hi, hj⟩
theorem putF_out {ts : List Int} {i j : Nat} (h : ¬ (i ∈ r ∧ j ∈ c)) : putF R r c ts I i j = ent R i j := if_neg h
theorem mk_congr {n : Nat} {f g : Nat → Nat → Int} (h : ∀ i j, i < n → j < n → f i j = g i j) : mk n f = mk n g := by
  unfold mk
  refine List.map_congr_left fun i hi => List.map_congr_left fun j hj => h i j (List.mem_range.mp hi) (List.mem_range.mp hj)
/-- entry by entry -/
def part1 (R : List (List Int)) (r c : List Nat) (ts : List Int) (I : List (List Int)) (a b : Nat) (i j : Nat) : Int := if (i ∈ r.take a ∧ j ∈ c) ∨ (i = r.getD a 0 ∧ j ∈ c.take b) then ts.getD (ent I (r.idxOf i) (c.idxOf j)).toNat 0 else ent R i j
theorem part1_0 {ts : List Int} {i j : Nat} : part1 R r c ts I 0 0 i j = ent R i j := by unfold part1; simp
theorem part1_end {ts : List Int} {a i j : Nat} (ha : a < r.length) : part1 R r c ts I a c.length i j = part1 R r c ts I (a + 1) 0 i j := by
  unfold part1
  rw [List.take_length, ← List.take_append_getElem ha]
  have e : r.getD a 0 = r[a] := gD ha
  rw [e]
  congr 1
  simp only [List.mem_append, List.mem_singleton, List.take_zero, List.not_mem_nil, and_false, or_false, eq_iff_iff]
  constructor
  · rintro (⟨h1, h2⟩ | ⟨h1, h2⟩)
    · exact ⟨.inl h1, h2⟩
    · exact ⟨.inr h1, h2⟩
  · rintro ⟨h1 | h1, h2⟩
    · exact .inl ⟨h1, h2⟩
    · exact .inr ⟨h1, h2⟩
theorem part1_all {ts : List Int} {i j : Nat} : part1 R r c ts I r.length 0 i j = putF R r c ts I i j := by
  unfold part1 putF
  rw [List.take_length]
  simp
theorem part1_succ {ts : List Int} {a b i j : Nat} (nr : r.Nodup) (nc : c.Nodup) (ha : a < r.length) (hb : b < c.length) : part1 R r c ts I a (b + 1) i j = if i = r.getD a 0 ∧ j = c.getD b 0 then ts.getD (ent I a b).toNat 0 else part1 R r c ts I a b i j := by
  by_cases h : i = r.getD a 0 ∧ j = c.getD b 0
  · rw [if_pos h]
    obtain ⟨rfl, rfl⟩ := h
    have mt : c.getD b 0 ∈ c.take (b + 1) := by
      have m1 : c[b] ∈ c.take b ++ [c[b]] := List.mem_append_right _ List.mem_cons_self
      rw [List.take_append_getElem hb] at m1
      rw [gD hb]
      exact m1
    unfold part1
    rw [if_pos (.inr ⟨rfl, mt⟩), ix_of nr ha, ix_of nc hb]
  · rw [if_neg h]
    unfold part1
    congr 1
    have e : c.getD b 0 = c[b] := gD hb
    rw [← List.take_append_getElem hb, List.mem_append, List.mem_singleton, eq_iff_iff]
    constructor
    · rintro (h1 | ⟨h1, h2 | h2⟩)
      · exact .inl h1
      · exact .inr ⟨h1, h2⟩
      · exact absurd ⟨h1, h2.trans e.symm⟩ h
    · rintro (h1 | ⟨h1, h2⟩)
      · exact .inl h1
      · exact .inr ⟨h1, .inl h2⟩
end
end My

namespace My
open PySem L2
/-! ### the program: an entry changed, a pick, a part, a square put in -/
theorem ps_dead {X : Cx} {st : Stmt} : PS X st (fun _ _ _ => False) := fun _ _ _ _ _ _ h => h.elim
theorem set_form {α : Type} {l : List α} {i : Nat} {x : α} (h : i < l.length) : l.take i ++ x :: l.drop (i + 1) = l.set i x := by rw [List.set_eq_take_append_cons_drop, if_pos h]
theorem map_set {α : Type} {n : Nat} {g : Nat → α} {j : Nat} {v : α} : ((List.range n).map g).set j v = (List.range n).map fun b => if b = j then v else g b := by
  refine List.ext_getElem (by simp) fun b h1 h2 => ?_
  rw [List.getElem_set, List.getElem_map, List.getElem_map, List.getElem_range]
  by_cases e : j = b
  · rw [if_pos e, if_pos e.symm]
  · rw [if_neg e, if_neg (Ne.symm e)]
def setI (R : List (List Int)) (i j : Nat) (v : Int) : List (List Int) := R.take i ++ ((R.getD i []).take j ++ v :: (R.getD i []).drop (j + 1)) :: R.drop (i + 1)
theorem mk_len (n : Nat) (f : Nat → Nat → Int) : (mk n f).length = n := by unfold mk; rw [List.length_map, List.length_range]
theorem mk_row {n : Nat} {f : Nat → Nat → Int} {i : Nat} (h : i < n) : (mk n f).getD i [] = (List.range n).map fun c => f i c := by
  rw [gD (by rw [mk_len]; exact h)]
  unfold mk
  rw [List.getElem_map, List.getElem_range]
theorem setI_mk {n : Nat} {f : Nat → Nat → Int} {i j : Nat} {v : Int} (hi : i < n) (hj : j < n) : setI (mk n f) i j v = mk n fun a b => if a = i ∧ b = j then v else f a b := by
  unfold setI
  rw [set_form (by rw [mk_len]; exact hi), mk_row hi, set_form (by rw [List.length_map, List.length_range]; exact hj), map_set]
  unfold mk
  rw [map_set]
  refine List.map_congr_left fun a _ => ?_
  by_cases e : a = i
  · rw [if_pos e]
    refine List.map_congr_left fun b _ => ?_
    subst e
    show (if b = j then v else f a b) = if a = a ∧ b = j then v else f a b
    by_cases e2 : b = j
    · rw [if_pos e2, if_pos ⟨rfl, e2⟩]
    · rw [if_neg e2, if_neg (fun z => e2 z.2)]
  · rw [if_neg e]
    refine List.map_congr_left fun b _ => ?_
    show f a b = if a = i ∧ b = j then v else f a b
    rw [if_neg (fun z => e z.1)]
theorem rp_self : ∀ n, n < 7 → ∀ k, k < 7 → ((rp n k).all fun p => decide ((List.range n).filter (fun x => decide (x ∈ p)) = p)) = true := by decide +kernel
theorem Paired.take33 {α β : Type} {F : α → β → Prop} : ∀ {l₁ : List α} {l₂ : List β} (k : Nat), Paired F l₁ l₂ → Paired F (l₁.take k) (l₂.take k)
  | _, _, 0, _ => .nil
  | _, _, _ + 1, .nil => .nil
  | _, _, k + 1, .cons r t => .cons r (Paired.take33 k t)
theorem Paired.drop33 {α β : Type} {F : α → β → Prop} : ∀ {l₁ : List α} {l₂ : List β} (k : Nat), Paired F l₁ l₂ → Paired F (l₁.drop k) (l₂.drop k)
  | _, _, 0, r => r
  | _, _, _ + 1, .nil => .nil
  | _, _, k + 1, .cons _ t => Paired.drop33 k t
theorem fm_in (n : Nat) (p : List Nat) : (List.range n).filterMap (fun j : Nat => if decide (j ∈ p) = true then some (V.int (j : Int)) else none) = (toZ ((List.range n).filter fun x => decide (x ∈ p))).map V.int := by
  unfold toZ
  induction List.range n with
  | nil => rfl
  | cons j l ih =>
    rw [List.filterMap_cons, List.filter_cons]
    cases h : decide (j ∈ p) with
    | true => rw [if_pos rfl, if_pos rfl, ih, List.map_cons, List.map_cons]
    | false => rw [if_neg Bool.false_ne_true, if_neg Bool.false_ne_true, ih]
theorem inV_toZ (i : Nat) (p : List Nat) : inV (.int (i : Int)) ((toZ p).map V.int) = decide (i ∈ p) := inV_toI i p
def spWith : Sp := fun vs H Q _ => ∃ (a : Addr) (n : Nat) (R : List (List Int)) (r c : Nat) (v : Int), vs = [.ref a, .int (r : Int), .int (c : Int), .int v] ∧ TG H a R ∧ R.length = n ∧ (R.getD r []).length = n ∧ n ≤ 6 ∧ r < n ∧ c < n ∧
  ∀ p H', Same H H' → TG H' p (setI R r c v) → Q (.ref p) H'
def spPick : Sp := fun vs H Q _ => ∃ (a : Addr) (n k : Nat) (p : List Nat), vs = [.ref a, .int (n : Int)] ∧ H a = some (.tup ((toZ p).map V.int)) ∧ p ∈ rp n k ∧ n ≤ 6 ∧ k ≤ 6 ∧ ∀ H', Same H H' → Q (.bl true) H'
def spPart : Sp := fun vs H Q _ => ∃ (g ra ca : Addr) (n k : Nat) (R : List (List Int)) (r c : List Nat), vs = [.ref g, .ref ra, .ref ca] ∧ TG H g R ∧ OkRows n R ∧ R.length = n ∧ n ≤ 6 ∧ 2 ≤ k ∧ k < n ∧ H ra = some (.tup ((toZ r).map V.int)) ∧ H ca = some (.tup ((toZ c).map V.int)) ∧ r ∈ rp n k ∧ c ∈ rp n k ∧ cntT n (valsL R r c) = k ∧ ∀ H', Same H H' → Q (.bl true) H'
def spPutIn : Sp := fun vs H Q _ => ∃ (g ra ca gi : Addr) (n k : Nat) (R I : List (List Int)) (r c : List Nat), vs = [.ref g, .ref ra, .ref ca, .ref gi] ∧ TG H g R ∧ OkRows n R ∧ R.length = n ∧ n ≤ 6 ∧ 2 ≤ k ∧ k < n ∧ H ra = some (.tup ((toZ r).map V.int)) ∧ H ca = some (.tup ((toZ c).map V.int)) ∧ r ∈ rp n k ∧ c ∈ rp n k ∧ cntT n (valsL R r c) = k ∧ TG H gi I ∧ OkRows k I ∧ I.length = k ∧ ∀ t H', Same H H' → TG H' t (mk n (putF R r c (tsL n R r c) I)) → Q (.ref t) H'
theorem fm_ent (R : List (List Int)) (i : Nat) (c : List Nat) : (List.range ((toZ c).map V.int).length).filterMap (fun j => some (V.int (ent R i (c.getD j 0)))) = (c.map fun j => ent R i j).map V.int := by
  rw [filterMap_some, List.length_map, toZ_len, List.map_map]
  refine List.ext_getElem? fun j => ?_
  rw [List.getElem?_map, List.getElem?_map]
  by_cases h : j < c.length
  · rw [List.getElem?_range h, List.getElem?_eq_getElem h]
    show some (V.int (ent R i (c.getD j 0))) = some (V.int (ent R i c[j]))
    rw [List.getD_eq_getElem?_getD, List.getElem?_eq_getElem h]
    rfl
  · rw [List.getElem?_eq_none (by rw [List.length_range]; omega), List.getElem?_eq_none (by omega)]
    rfl
theorem vals_len (R : List (List Int)) (c : List Nat) : ∀ r : List Nat, (valsL R r c).length = r.length * c.length
  | [] => by simp [valsL]
  | i :: r => by
    have := vals_len R c r
    unfold valsL at this ⊢
    rw [List.flatMap_cons, List.length_append, List.length_map, this, List.length_cons, Nat.succ_mul, Nat.add_comm]
theorem zs_nat {l : List Int} (h : ∀ t ∈ l, (0 : Int) ≤ t) : zs (l.map Int.toNat) = l := by
  unfold zs
  rw [List.map_map]
  refine (List.map_congr_left fun t ht => ?_).trans (List.map_id _)
  exact Int.toNat_of_nonneg (h t ht)
section
variable {P : Program} {w : World} {K : PySem.W.Frag} {mg : Str → Option Value} {base : Heap}
theorem scThingsIn : FnScope ["square", "rows", "columns", "found", "row"] ["square", "rows", "columns"] (defScope sThingsIn) := ⟨rfl, rfl, rfl, by decide +kernel, rfl, by decide +kernel, by decide +kernel⟩
theorem ok_thingsIn {f : Addr} {fd : FuncData} (F : Fun K "things_in" "things_in" sThingsIn f fd) (T : Blt mg) : FnOk P w K mg base CX0 1 f fd ["square", "rows", "columns"] spThings := by
  refine F.ok scThingsIn (fun vs H Q E h => ?_) (fun cdv A outer s H vs Q E hr h => ?_)
  · obtain ⟨_, _, _, _, _, _, _, _, rfl, _⟩ := h
    rfl
  · obtain ⟨g, ra, ca, n, k, R, r, c, rfl, hT, ok, hRl, h6, hra, hca, pr, pc, hk6, q⟩ := h
    refine' ⟨_, pss_cons (ps_set (i := 3) scThingsIn.nd rfl (Or.inl rfl) (pe_lst pa_nil)) (pss_cons (ps_for PassesOwn.never rfl (pi_tup (pv 1)) (pg_name (i := 4) scThingsIn.nd rfl (Or.inr rfl)) (pss_one ?b)) (pss_one (ps_ret ?r))), ?rd⟩
    case b => exact ps_expr (pe_bm PySem.F.plainAttrs_list PySem.F.slot_list_extend PySem.F.type_list_extend mt_extend (pv 3) (pa_cons (pe_lc ["column", "square", "row"] [none, some 0, some 4] rfl rfl (pi_tupK K (pv 2)) (fun _ _ _ _ _ => pg_c 0) (fun _ _ _ _ _ => pts_nil) (fun _ _ _ _ _ => pe_ix (ix_tupK K) (pe_ix (ix_tupK K) (pv 1) (pv 2) (fun _ _ => rfl)) (pv 0) (fun _ _ => rfl))) pa_nil))
    case r => exact pe_callB (call_sortedX w rfl) rfl T.sorted PyProof.Rows.boot_sorted (pa_cons (pe_callTy (call_setGr w K rfl) rfl T.set bt_set (pa_cons (pv 3) pa_nil)) pa_nil)
    case rd =>
      refine ⟨Nat.zero_le _, fun lf hlf => ?_⟩
      have vrg := vals_rg ok hRl pr pc
      have s1 : Same H (upd H lf (.lst [])) := Same.new hlf
      refine ⟨_, rfl, ra, rfl, ⟨_, SqT.of (s1 _ _ hra)⟩, ?_⟩
      refine for_tup (xs := (toZ r).map V.int) (fun i σ H2 => ∃ (v4 : Option V), σ = [some (.ref g), some (.ref ra), some (.ref ca), some (.ref lf), v4] ∧ Same H H2 ∧ H2 lf = some (.lst ((valsL R (r.take i) c).map V.int)))
        ⟨none, rfl, s1, upd_same⟩ (fun i σ H2 _ ⟨_, _, k2, _⟩ => SqT.of (k2 _ _ hra)) ?_ ?_
      · rintro i x σ H2 hx ⟨v4, rfl, s2, h2⟩
        obtain ⟨hi, rfl⟩ := toZ_at hx
        have hri := pr.lt _ (List.getElem_mem hi)
        have hr6 : r.length ≤ 6 := by rw [pr.len]; exact hk6
        have hc6 : c.length ≤ 6 := by rw [pc.len]; exact hk6
        obtain ⟨xg, pg, a1, a2, a3, a4⟩ := hT.at (k := r[i]) (by omega)
        refine ⟨_, rfl, .inl ⟨rfl, _, SqL.of h2⟩, _, rfl, ca, rfl, ⟨_, SqT.of (s2 _ _ hca)⟩, fun lc hlc => ?_⟩
        refine comp_pure (fun j => some (V.int (ent R r[i] (c.getD j 0)))) (fun σ => ∃ v, σ = [v, some (.ref g), some (.int ((r[i] : Nat) : Int))]) (wlk_tup (xs := (toZ c).map V.int)) (by rw [List.length_map, toZ_len]; exact small6 (by omega)) hlc (fun H' sm => SqT.of (sm _ _ (s2 _ _ hca))) ⟨none, rfl⟩ ?_ ?_
        · rintro j y σ H' R' hy ⟨v, rfl⟩ sm kk
          obtain ⟨hj, rfl⟩ := toZ_at hy
          have hcj := pc.lt _ (List.getElem_mem hj)
          have sm' := s2.trans sm
          refine ⟨_, rfl, _, rfl, g, _, _, _, rfl, rfl, SqT.of (sm' _ _ a1), a3, _, rfl, pg, _, _, _, rfl, rfl, SqT.of (sm' _ _ a4), int_at (i := c[j]) (by rw [(ok.rowAt (k := r[i]) (by omega)).len]; exact hcj), ?_⟩
          have e : c.getD j 0 = c[j] := by rw [List.getD_eq_getElem?_getD, List.getElem?_eq_getElem hj]; rfl
          have kk' := kk _ H' ⟨some (.int ((c[j] : Nat) : Int)), rfl⟩ (Same.refl _)
          rw [e] at kk'
          exact kk'
        intro H3 s3 h3
        rw [fm_ent] at h3
        have h23 := s3 _ _ h2
        have hlen : (valsL R (r.take i) c).length ≤ 36 := by
          rw [vals_len, List.length_take]
          exact Nat.mul_le_mul (show min i r.length ≤ 6 by omega) hc6
        refine ⟨lf, lc, _, _, rfl, rfl, h23, h3, by rw [List.length_map, List.length_map, List.length_map]; exact small6 (by omega), _, rfl, fun b u e => ?_, ?_⟩
        · rw [upd_ne (ne_of_none e hlf)]
          exact s3 _ _ (s2 _ _ e)
        · rw [upd_same, vals_take hi, List.map_append]
      · rintro σ H2 ⟨v4, rfl, s2, h2⟩
        rw [List.length_map, toZ_len, List.take_length] at h2
        have hnn := zs_nat fun t ht => (vrg t ht).1
        have hs6 : ∀ x ∈ (valsL R r c).map Int.toNat, x < 6 := fun x hx => by
          obtain ⟨t, ht, rfl⟩ := List.mem_map.mp hx
          have := vrg t ht
          omega
        have S6 := allS_six hs6
        refine ⟨_, rfl, lf, (valsL R r c).map Int.toNat, rfl, by rw [hnn]; exact SqL.of h2, hs6, fun ls hls => ?_⟩
        refine ⟨ls, _, rfl, upd_same, S6.small, fun l hl => ?_⟩
        have es : zs (allS ((valsL R r c).map Int.toNat)) = tsL n R r c := sorted_uniq ((List.perm_ext_iff_of_nodup ?_ tsL_nd).mpr fun t => Iff.trans ?_ (tsL_mem ok hRl pr pc).symm) ?_ tsL_le
        · rw [es]
          exact q l _ (fun b o e => Same.new hl _ _ (Same.new hls _ _ (s2 _ _ e))) upd_same
        · unfold zs
          exact nodup_map_on (S6.rise.imp fun h => Nat.ne_of_lt h) fun a _ b _ e => by omega
        · unfold zs
          rw [List.mem_map]
          constructor
          · rintro ⟨x, hx, rfl⟩
            obtain ⟨t, ht, rfl⟩ := List.mem_map.mp (mem_allS.mp hx)
            rw [Int.toNat_of_nonneg (vrg t ht).1]
            exact ht
          · intro ht
            exact ⟨t.toNat, mem_allS.mpr (List.mem_map.mpr ⟨t, ht, rfl⟩), Int.toNat_of_nonneg (vrg t ht).1⟩
        · unfold zs
          rw [List.pairwise_map]
          exact S6.rise.imp fun h => by omega

theorem scWith : FnScope ["begun", "row", "column", "entry", "changed"] ["begun", "row", "column", "entry"] (defScope sWith) := ⟨rfl, rfl, rfl, by decide +kernel, rfl, by decide +kernel, by decide +kernel⟩
theorem ok_with {f : Addr} {fd : FuncData} (F : Fun K "with_entry" "with_entry" sWith f fd) (T : Blt mg) : FnOk P w K mg base CX0 1 f fd ["begun", "row", "column", "entry"] spWith := by
  refine F.ok scWith (fun vs H Q E h => ?_) (fun cdv A outer s H vs Q E hr h => ?_)
  · obtain ⟨a, n, B, r, c, v, rfl, _⟩ := h
    rfl
  · obtain ⟨a, n, B, r, c, v, rfl, ⟨ps, ha, hP⟩, hBl, hrl0, hn, hrn, hcn, k⟩ := h
    refine ⟨_, pss_cons (ps_set (i := 4) scWith.nd rfl (Or.inl rfl) (pe_op (op_sumT K) (pe_op (op_sumT K) (pe_slice sl_tup (pe_ix ix_tup (pv 0) (pv 1) (fun _ _ => rfl)) po_none (po_some (pv 2))) (pe_tup (pa_cons (pv 3) pa_nil)))
        (pe_slice sl_tup (pe_ix ix_tup (pv 0) (pv 1) (fun _ _ => rfl)) (po_some (pe_op op_add (pv 2) pe_int)) po_none)))
      (pss_one (ps_ret (pe_op (op_sumT K) (pe_op (op_sumT K) (pe_slice sl_tup (pv 0) po_none (po_some (pv 1))) (pe_tup (pa_cons (pv 4) pa_nil))) (pe_slice sl_tup (pv 0) (po_some (pe_op op_add (pv 1) pe_int)) po_none)))), ?_⟩
    have hxl : (ps.map V.ref).length = n := by rw [List.length_map, hP.length, hBl]
    have hrB : r < B.length := by omega
    obtain ⟨pr, hpr, hrow⟩ := Paired.getR hP (List.getElem?_eq_getElem hrB)
    rw [← gD (d := []) hrB] at hrow
    have hpr' : (ps.map V.ref)[r]? = some (.ref pr) := by rw [List.getElem?_map, hpr]; rfl
    have hrl : ((B.getD r []).map V.int).length = n := by rw [List.length_map]; exact hrl0
    have hc1 : ((c : Int) + 1) = ((c + 1 : Nat) : Int) := rfl
    have hr1 : ((r : Int) + 1) = ((r + 1 : Nat) : Int) := rfl
    have hset : ((B.getD r []).map V.int).take c ++ [V.int v] ++ ((B.getD r []).map V.int).drop (c + 1) = ((B.getD r []).take c ++ v :: (B.getD r []).drop (c + 1)).map V.int := by
      rw [List.map_append, List.map_cons, List.map_take, List.map_drop, List.append_assoc]
      rfl
    have hdef : setI B r c v = B.take r ++ ((B.getD r []).take c ++ v :: (B.getD r []).drop (c + 1)) :: B.drop (r + 1) := rfl
    rw [hdef] at k
    generalize (B.getD r []).take c ++ v :: (B.getD r []).drop (c + 1) = row2 at hset k
    generalize (B.getD r []).map V.int = rv at hrow hrl hset
    -- begun[row][:column]
    refine ⟨_, rfl, _, rfl, a, _, _, _, rfl, rfl, SqT.of ha, atI_of hpr', _, rfl, _, rfl, pr, _, rfl, SqT.of hrow, (by rw [hrl]; exact not_whole_to hcn), fun p1 hp1 => ?_⟩
    rw [cut_to _ (by rw [hrl]; omega)]
    have sm1 : Same H (upd H p1 (.tup (rv.take c))) := Same.new hp1
    -- (entry,)
    refine ⟨_, rfl, (show 1 ≤ sizeLine from small6 (by decide)), fun p2 hp2 => ?_⟩
    have sm2 : Same (upd H p1 (.tup (rv.take c))) (upd (upd H p1 (.tup (rv.take c))) p2 (.tup [.int v])) := Same.new hp2
    refine ⟨p1, p2, _, _, rfl, rfl, sm2 _ _ upd_same, upd_same, ?_, fun p3 H3 sm3 h3 => ?_⟩
    · rw [List.length_take, hrl]
      show min c n + 1 ≤ sizeLine
      exact small6 (by omega)
    have smA : Same H H3 := (sm1.trans sm2).trans sm3
    -- begun[row][column + 1:]
    refine ⟨_, rfl, _, rfl, a, _, _, _, rfl, rfl, SqT.of (smA _ _ ha), atI_of hpr', _, rfl, _, _, rfl, rfl, _, rfl, pr, _, rfl, SqT.of (smA _ _ hrow), (by rw [hc1, hrl]; exact not_whole_from hcn), fun p4 hp4 => ?_⟩
    rw [hc1, cut_from _ (by rw [hrl]; omega)]
    have sm4 : Same H3 (upd H3 p4 (.tup (rv.drop (c + 1)))) := Same.new hp4
    refine ⟨p3, p4, _, _, rfl, rfl, sm4 _ _ h3, upd_same, ?_, fun p5 H5 sm5 h5 => ?_⟩
    · rw [List.length_append, List.length_take, List.length_drop, hrl]
      show min c n + 1 + (n - (c + 1)) ≤ sizeLine
      exact small6 (by omega)
    have h5' : H5 p5 = some (.tup (row2.map V.int)) := by rw [h5, hset]
    have smB : Same H H5 := (smA.trans sm4).trans sm5
    -- begun[:row]
    refine ⟨_, rfl, _, rfl, _, rfl, a, _, rfl, SqT.of (smB _ _ ha), (by rw [hxl]; exact not_whole_to hrn), fun p6 hp6 => ?_⟩
    rw [cut_to _ (by rw [hxl]; omega)]
    have sm6 : Same H5 (upd H5 p6 (.tup ((ps.map V.ref).take r))) := Same.new hp6
    refine ⟨_, rfl, (show 1 ≤ sizeLine from small6 (by decide)), fun p7 hp7 => ?_⟩
    have sm7 : Same (upd H5 p6 (.tup ((ps.map V.ref).take r))) (upd (upd H5 p6 (.tup ((ps.map V.ref).take r))) p7 (.tup [.ref p5])) := Same.new hp7
    refine ⟨p6, p7, _, _, rfl, rfl, sm7 _ _ upd_same, upd_same, ?_, fun p8 H8 sm8 h8 => ?_⟩
    · rw [List.length_take, hxl]
      show min r n + 1 ≤ sizeLine
      exact small6 (by omega)
    have smC : Same H5 H8 := (sm6.trans sm7).trans sm8
    refine ⟨_, rfl, _, rfl, _, _, rfl, rfl, _, rfl, a, _, rfl, SqT.of (smC _ _ (smB _ _ ha)), (by rw [hr1, hxl]; exact not_whole_from hrn), fun p9 hp9 => ?_⟩
    rw [hr1, cut_from _ (by rw [hxl]; omega)]
    have sm9 : Same H8 (upd H8 p9 (.tup ((ps.map V.ref).drop (r + 1)))) := Same.new hp9
    refine ⟨p8, p9, _, _, rfl, rfl, sm9 _ _ h8, upd_same, ?_, fun p10 H10 sm10 h10 => ?_⟩
    · rw [List.length_append, List.length_take, List.length_drop, hxl]
      show min r n + 1 + (n - (r + 1)) ≤ sizeLine
      exact small6 (by omega)
    have smD : Same H5 H10 := (smC.trans sm9).trans sm10
    refine k p10 H10 (smB.trans smD) ⟨ps.take r ++ p5 :: ps.drop (r + 1), ?_, ?_⟩
    · rw [h10, List.map_append, List.map_cons, List.map_take, List.map_drop, List.append_assoc]
      rfl
    · exact Paired.append (Paired.mapP (Paired.take33 r hP) fun _ _ q => (smB.trans smD) _ _ q) (.cons (smD _ _ h5') (Paired.mapP (Paired.drop33 (r + 1) hP) fun _ _ q => (smB.trans smD) _ _ q))
theorem scIsPick : FnScope ["numbers", "size"] ["numbers", "size"] (defScope sIsPick) := ⟨rfl, rfl, rfl, by decide +kernel, rfl, by decide +kernel, by decide +kernel⟩
theorem ok_isPick {f : Addr} {fd : FuncData} (F : Fun K "is_pick" "is_pick" sIsPick f fd) (T : Blt mg) : FnOk P w K mg base CX0 1 f fd ["numbers", "size"] spPick := by
  refine F.ok scIsPick (fun vs H Q E h => ?_) (fun cdv A outer s H vs Q E hr h => ?_)
  · obtain ⟨_, _, _, _, rfl, _⟩ := h
    rfl
  · obtain ⟨a, n, k, p, rfl, ha, hp, h6, hk6, q⟩ := h
    have hu0 : ((A.deeper (PyProof.Rows.envOfC "is_pick" (defScope sIsPick) s.heap.objs.size f cdv))).units < cLine := by have := hr.un; omega
    refine' ⟨_, pss_one (ps_ret (pe_cmpR (op_eqL hu0 K) (pe_callTy (call_listK K) rfl T.list bt_list (pa_cons (pv 0) pa_nil)) ?c (nomark _))), ?rd⟩
    case c => exact pe_lc ["number", "numbers"] [none, some 0] rfl rfl (pi_range1 rfl T.range (pa_cons (pv 1) pa_nil)) (fun _ _ _ _ _ => pg_c 0) (fun _ _ _ _ _ => pts_one (pt_cmpR (op_inK K) (pv 0) (pv 1) rfl)) (fun _ _ _ _ _ => pv 0)
    case rd =>
      have hself : (List.range n).filter (fun x => decide (x ∈ p)) = p := by
        have h := rp_self n (by omega) k (by omega)
        rw [List.all_eq_true] at h
        exact of_decide_eq_true (h p hp)
      refine ⟨_, rfl, a, _, rfl, .inr (SqT.of ha), fun l1 hl1 => ?_⟩
      have s1 : Same H (upd H l1 (.lst ((toZ p).map V.int))) := Same.new hl1
      have h1 : (upd H l1 (.lst ((toZ p).map V.int))) l1 = some (.lst ((toZ p).map V.int)) := upd_same
      generalize upd H l1 (.lst ((toZ p).map V.int)) = H1 at s1 h1 ⊢
      refine ⟨_, rfl, (n : Int), rfl, by omega, by omega, fun lc hlc => ?_⟩
      rw [Int.toNat_natCast]
      refine comp_pure (fun j => if decide (j ∈ p) = true then some (V.int (j : Int)) else none) (fun σ => ∃ v, σ = [v, some (.ref a)]) (wlk_range (n := n)) (by rw [rng_len]; exact small6 (by omega)) hlc (fun _ _ => trivial) ⟨none, rfl⟩ ?_ ?_
      · rintro j x σ H' R' hj ⟨v, rfl⟩ sm kk
        obtain ⟨hjn, rfl⟩ := rng_get hj
        have kk' := fun v' => kk [v', some (.ref a)] H' ⟨v', rfl⟩ (Same.refl _)
        refine ⟨_, rfl, _, rfl, a, _, rfl, .inr (SqT.of ((s1.trans sm) _ _ ha)), rfl, map_ints_flat _, _, rfl, ?_⟩
        rw [if_neg Bool.false_ne_true, inV_toZ]
        refine ite2 (fun hd => ?_) (fun hd => ?_)
        · rw [if_pos hd] at kk'
          exact ⟨_, rfl, kk' _⟩
        · rw [if_neg hd] at kk'
          exact kk' _
      intro H2 s2 h2
      rw [rng_len, fm_in, hself] at h2
      refine ⟨l1, lc, _, _, rfl, rfl, SqL.of (s2 _ _ h1), SqL.of h2, .inl ⟨map_ints_flat _, map_ints_flat _⟩, ?_⟩
      have := q _ (s1.trans s2)
      rw [← eqVs_refl (map_ints_flat (toZ p))] at this
      exact this
theorem scIsPart : FnScope ["square", "rows", "columns", "size"] ["square", "rows", "columns"] (defScope sIsPart) := ⟨rfl, rfl, rfl, by decide +kernel, rfl, by decide +kernel, by decide +kernel⟩
theorem ok_isPart {f fP fT : Addr} {fd dP dT : FuncData} (F : Fun K "is_part" "is_part" sIsPart f fd) (T : Blt mg) (DP : Dfn K mg "is_pick" sIsPick ["numbers", "size"] fP dP) (DT : Dfn K mg "things_in" sThingsIn ["square", "rows", "columns"] fT dT) : FnOk P w K mg base CX0 2 f fd ["square", "rows", "columns"] spPart := by
  have GP : FnOk P w K mg base CX0 1 fP dP ["numbers", "size"] spPick := ok_isPick DP.F T
  have GT : FnOk P w K mg base CX0 1 fT dT ["square", "rows", "columns"] spThings := ok_thingsIn DT.F T
  refine F.ok scIsPart (fun vs H Q E h => ?_) (fun cdv A outer s H vs Q E hr h => ?_)
  · obtain ⟨_, _, _, _, _, _, _, _, rfl, _⟩ := h
    rfl
  · obtain ⟨g, ra, ca, n, k, R, r, c, rfl, hT, ok, hRl, h6, hk2, hkn, hra, hca, pr, pc, hcnt, q⟩ := h
    refine' ⟨_, pss_cons ?s0 (pss_cons (ps_if (PW.pt (pw_or ?c0 (pw_or1 ?c1))) (pss_one (ps_ret pe_bl)) pss_nil) (pss_cons (ps_if (PW.pt (pw_or ?d0 (pw_or1 ?d1))) (pss_one (ps_ret pe_bl)) pss_nil) (pss_one (ps_ret ?r)))), ?rd⟩
    case s0 => exact ps_set (i := 3) scIsPart.nd rfl (Or.inl rfl) (pe_callB (call_lenK K) rfl T.len PySem.boot_len (pa_cons (pv 0) pa_nil))
    case c0 => exact pt_cmpR op_ne (pe_callB (call_lenK K) rfl T.len PySem.boot_len (pa_cons (pv 1) pa_nil)) (pe_callB (call_lenK K) rfl T.len PySem.boot_len (pa_cons (pv 2) pa_nil)) (nomark _)
    case c1 => exact pt_not (pt_chain op_le op_lt pe_int (pe_callB (call_lenK K) rfl T.len PySem.boot_len (pa_cons (pv 1) pa_nil)) (pv 3))
    case d0 => exact pt_not (pt_val (pe_call GP hr rfl DP.m DP.F.kp DP.b .nil pass0 (pa_cons (pv 1) (pa_cons (pv 3) pa_nil))))
    case d1 => exact pt_not (pt_val (pe_call GP hr rfl DP.m DP.F.kp DP.b .nil pass0 (pa_cons (pv 2) (pa_cons (pv 3) pa_nil))))
    case r => exact pe_cmpR op_eq (pe_callB (call_lenK K) rfl T.len PySem.boot_len (pa_cons (pe_call GT hr rfl DT.m DT.F.kp DT.b .nil pass0 (pa_cons (pv 0) (pa_cons (pv 1) (pa_cons (pv 2) pa_nil)))) pa_nil)) (pe_callB (call_lenK K) rfl T.len PySem.boot_len (pa_cons (pv 1) pa_nil)) (nomark _)
    case rd =>
      have pkr := rp_pick h6 (by omega) pr
      have pkc := rp_pick h6 (by omega) pc
      obtain ⟨gs, hg, hG⟩ := id hT
      have hgl : (gs.map V.ref).length = n := by rw [List.length_map, hG.length, hRl]
      have lr : ((toZ r).map V.int).length = k := by rw [List.length_map, toZ_len, pkr.len]
      have lc : ((toZ c).map V.int).length = k := by rw [List.length_map, toZ_len, pkc.len]
      refine ⟨_, rfl, g, _, rfl, .inr (SqT.of hg), ?_⟩
      rw [hgl]
      refine ⟨_, rfl, ra, _, rfl, .inr (SqT.of hra), _, rfl, ca, _, rfl, .inr (SqT.of hca), rfl, _, rfl, ?_⟩
      rw [lr, lc, decide_eq_true rfl]
      refine iteF ?_
      refine ⟨_, rfl, ra, _, rfl, .inr (SqT.of hra), _, _, rfl, rfl, _, rfl, ?_⟩
      rw [lr, decide_eq_true (show (2 : Int) ≤ (k : Int) by omega)]
      refine iteT ?_
      refine ⟨_, rfl, _, _, rfl, rfl, _, rfl, ?_⟩
      rw [decide_eq_true (show (k : Int) < (n : Int) by omega)]
      refine iteF ?_
      refine ⟨_, rfl, _, rfl, ra, n, k, r, rfl, hra, pr, h6, by omega, fun H1 s1 => ⟨_, rfl, iteF ?_⟩⟩
      refine ⟨_, rfl, _, rfl, ca, n, k, c, rfl, s1 _ _ hca, pc, h6, by omega, fun H2 s2 => ⟨_, rfl, iteF ?_⟩⟩
      have s12 := s1.trans s2
      refine ⟨_, rfl, _, rfl, _, rfl, g, ra, ca, n, k, R, r, c, rfl, hT.same s12, ok, hRl, h6, s12 _ _ hra, s12 _ _ hca, pkr, pkc, by omega, fun l H3 s3 hl => ?_⟩
      refine ⟨l, _, rfl, .inl (SqL.of hl), _, rfl, ra, _, rfl, .inr (SqT.of ((s12.trans s3) _ _ hra)), ?_⟩
      have := q _ (s12.trans s3)
      rw [lr, show ((tsL n R r c).map V.int).length = k by rw [List.length_map, tsL_len, hcnt]]
      refine ⟨rfl, ?_⟩
      rw [decide_eq_true rfl]
      exact this
end
end My

namespace My
open PySem L2
section
variable {P : Program} {w : World} {K : PySem.W.Frag} {mg : Str → Option Value} {base : Heap}
theorem scPutIn : FnScope ["square", "rows", "columns", "inner", "things", "changed", "row", "numbers", "column", "number"] ["square", "rows", "columns", "inner"] (defScope sPutIn) := ⟨rfl, rfl, rfl, by decide +kernel, rfl, by decide +kernel, by decide +kernel⟩
theorem ok_putIn {f fP fT fW fK : Addr} {fd dP dT dW dK : FuncData} (F : Fun K "put_in" "put_in" sPutIn f fd) (T : Blt mg) (DP : Dfn K mg "is_part" sIsPart ["square", "rows", "columns"] fP dP) (DK : Dfn K mg "is_pick" sIsPick ["numbers", "size"] fK dK) (DT : Dfn K mg "things_in" sThingsIn ["square", "rows", "columns"] fT dT) (DW : Dfn K mg "with_entry" sWith ["begun", "row", "column", "entry"] fW dW) : FnOk P w K mg base CX0 3 f fd ["square", "rows", "columns", "inner"] spPutIn := by
  have GP : FnOk P w K mg base CX0 2 fP dP ["square", "rows", "columns"] spPart := ok_isPart DP.F T DK DT
  have GT : FnOk P w K mg base CX0 2 fT dT ["square", "rows", "columns"] spThings := (ok_thingsIn DT.F T).mono (by decide)
  have GW : FnOk P w K mg base CX0 2 fW dW ["begun", "row", "column", "entry"] spWith := (ok_with DW.F T).mono (by decide)
  refine F.ok scPutIn (fun vs H Q E h => ?_) (fun cdv A outer s H vs Q E hr h => ?_)
  · obtain ⟨_, _, _, _, _, _, _, _, _, _, rfl, _⟩ := h
    rfl
  · obtain ⟨g, ra, ca, gi, n, k, R, I, r, c, rfl, hT, ok, hRl, h6, hk2, hkn, hra, hca, pr, pc, hcnt, hI, okI, hIl, q⟩ := h
    refine' ⟨_, pss_cons (ps_if ?c0 (pss_one ps_dead) pss_nil) (pss_cons (ps_if ?c1 (pss_one ps_dead) pss_nil) (pss_cons ?s2 (pss_cons (ps_set (i := 5) scPutIn.nd rfl (Or.inl rfl) (pv 0)) (pss_cons (ps_for PassesOwn.never rfl ?i1 ?g1 (pss_one (ps_for PassesOwn.never rfl ?i2 ?g2 (pss_one ?b)))) (pss_one (ps_ret (pv 5))))))), ?rd⟩
    case c0 => exact pt_not (pt_val (pe_call GP hr rfl DP.m DP.F.kp DP.b .nil pass0 (pa_cons (pv 0) (pa_cons (pv 1) (pa_cons (pv 2) pa_nil)))))
    case c1 => exact pt_cmpR op_ne (pe_callB (call_lenK K) rfl T.len PySem.boot_len (pa_cons (pv 3) pa_nil)) (pe_callB (call_lenK K) rfl T.len PySem.boot_len (pa_cons (pv 1) pa_nil)) (nomark _)
    case s2 => exact ps_set (i := 4) scPutIn.nd rfl (Or.inl rfl) (pe_call GT hr rfl DT.m DT.F.kp DT.b .nil pass0 (pa_cons (pv 0) (pa_cons (pv 1) (pa_cons (pv 2) pa_nil))))
    case i1 => exact pi_zipT K rfl T.zip (pa_cons (pv 1) (pa_cons (pv 3) pa_nil))
    case g1 => exact pg_tup rfl (pgs_cons (pg_name (i := 6) scPutIn.nd rfl (Or.inl rfl)) (pgs_cons (pg_name (i := 7) scPutIn.nd rfl (Or.inl rfl)) pgs_nil))
    case i2 => exact pi_zipT K rfl T.zip (pa_cons (pv 2) (pa_cons (pv 7) pa_nil))
    case g2 => exact pg_tup rfl (pgs_cons (pg_name (i := 8) scPutIn.nd rfl (Or.inl rfl)) (pgs_cons (pg_name (i := 9) scPutIn.nd rfl (Or.inl rfl)) pgs_nil))
    case b => exact ps_set (i := 5) scPutIn.nd rfl (Or.inl rfl) (pe_call GW hr rfl DW.m DW.F.kp DW.b .nil pass0 (pa_cons (pv 5) (pa_cons (pv 6) (pa_cons (pv 8) (pa_cons (pe_ix ix_list (pv 4) (pv 9) (fun _ _ => rfl)) pa_nil)))))
    case rd =>
      have pkr := rp_pick h6 (by omega) pr
      have pkc := rp_pick h6 (by omega) pc
      have po : PartOk n k R r c := ⟨pkr, pkc, hcnt⟩
      obtain ⟨is, hi, hIs⟩ := id hI
      have hil : (is.map V.ref).length = k := by rw [List.length_map, hIs.length, hIl]
      have lr : ((toZ r).map V.int).length = k := by rw [List.length_map, toZ_len, pkr.len]
      have lc : ((toZ c).map V.int).length = k := by rw [List.length_map, toZ_len, pkc.len]
      refine ⟨_, rfl, _, rfl, _, rfl, g, ra, ca, n, k, R, r, c, rfl, hT, ok, hRl, h6, hk2, hkn, hra, hca, pr, pc, hcnt, fun H1 s1 => ⟨_, rfl, iteF ?_⟩⟩
      refine ⟨_, rfl, gi, _, rfl, .inr (SqT.of (s1 _ _ hi)), _, rfl, ra, _, rfl, .inr (SqT.of (s1 _ _ hra)), rfl, _, rfl, ?_⟩
      rw [hil, lr, decide_eq_true rfl]
      refine iteF ?_
      refine ⟨_, rfl, _, rfl, _, rfl, g, ra, ca, n, k, R, r, c, rfl, hT.same s1, ok, hRl, h6, s1 _ _ hra, s1 _ _ hca, pkr, pkc, by omega, fun lt H2 s2 hlt => ?_⟩
      have s12 := s1.trans s2
      have hts := po.len
      generalize tsL n R r c = ts at hlt q hts
      refine ⟨_, rfl, ?_⟩
      refine ⟨_, rfl, _, rfl, ra, gi, _, _, rfl, SqT.of (s12 _ _ hra), SqT.of (s12 _ _ hi), ?_⟩
      refine for_of2 (n := k) (Y := fun i H v H' => ∃ q x y, v = .ref q ∧ H q = none ∧ ((toZ r).map V.int)[i]? = some x ∧ (is.map V.ref)[i]? = some y ∧ H' = upd H q (.tup [x, y])) (P := fun H' => SqT K H' ra ((toZ r).map V.int) ∧ SqT K H' gi (is.map V.ref))
        (fun i H' h hi => ⟨_, _, ((toZ r).map V.int)[i]'(by rw [lr]; omega), (is.map V.ref)[i]'(by rw [hil]; omega), h.1, h.2, List.getElem?_eq_getElem _, List.getElem?_eq_getElem _⟩)
        (fun i H' v H'' h ⟨q, x, y, e1, e2, e3, e4, e5⟩ _ => ⟨q, x, y, e1, e2, e3 _ h.1, e4 _ h.2, e5⟩) (fun i H' h hi => ⟨_, _, h.1, h.2, .inl (by rw [lr]; omega)⟩)
        (fun a σ H3 => ∃ (t : Addr) (v6 v7 v8 v9 : Option V), σ = [some (.ref g), some (.ref ra), some (.ref ca), some (.ref gi), some (.ref lt), some (.ref t), v6, v7, v8, v9] ∧ Same H2 H3 ∧ TG H3 t (mk n (part1 R r c ts I a 0)))
        ⟨g, none, none, none, none, rfl, Same.refl _, ?_⟩ (fun j σ H3 ⟨_, _, _, _, _, _, s3, _⟩ => ⟨SqT.of ((s12.trans s3) _ _ hra), SqT.of ((s12.trans s3) _ _ hi)⟩) ?_ ?_
      · rw [show mk n (part1 R r c ts I 0 0) = R from (mk_congr fun i j _ _ => part1_0).trans (mk_of ok hRl)]
        exact hT.same s12
      · rintro a x σ H3 H4 ha ⟨t, v6, v7, v8, v9, rfl, s3, hTt⟩ ⟨z, x, y, rfl, hz, hx, hy, rfl⟩
        obtain ⟨har, rfl⟩ := toZ_at hx
        have hri := pkr.lt _ (List.getElem_mem har)
        have hga : r.getD a 0 = r[a] := gD har
        rw [List.getElem?_map] at hy
        cases hpa : is[a]? with
        | none => rw [hpa] at hy; cases hy
        | some ia =>
        rw [hpa] at hy
        cases hy
        obtain ⟨Ia, hIa, hia⟩ := Paired.getL hIs hpa
        have hIg : I.getD a [] = Ia := by rw [List.getD_eq_getElem?_getD, hIa]; rfl
        have hIal : Ia.length = k := by rw [← hIg]; exact (ent_row okI hIl ha).len
        have lI : (Ia.map V.int).length = k := by rw [List.length_map]; exact hIal
        have s4 : Same H2 (upd H3 z (.tup [.int ((r[a] : Nat) : Int), .ref ia])) := s3.trans (Same.new hz)
        have hTt4 : TG (upd H3 z (.tup [.int ((r[a] : Nat) : Int), .ref ia])) t _ := hTt.same (Same.new hz)
        refine ⟨z, _, rfl, SqT.of upd_same, rfl, _, _, rfl, _, _, rfl, rfl, ?_⟩
        generalize upd H3 z (.tup [.int ((r[a] : Nat) : Int), .ref ia]) = H4 at s4 hTt4 ⊢
        have s14 := s12.trans s4
        refine ⟨_, rfl, _, rfl, ca, ia, _, _, rfl, SqT.of (s14 _ _ hca), SqT.of (s14 _ _ hia), ?_⟩
        refine for_of2 (n := k) (Y := fun i H v H' => ∃ q x y, v = .ref q ∧ H q = none ∧ ((toZ c).map V.int)[i]? = some x ∧ (Ia.map V.int)[i]? = some y ∧ H' = upd H q (.tup [x, y])) (P := fun H' => SqT K H' ca ((toZ c).map V.int) ∧ SqT K H' ia (Ia.map V.int))
          (fun i H' h hi => ⟨_, _, ((toZ c).map V.int)[i]'(by rw [lc]; omega), (Ia.map V.int)[i]'(by rw [lI]; omega), h.1, h.2, List.getElem?_eq_getElem _, List.getElem?_eq_getElem _⟩)
          (fun i H' v H'' h ⟨q, x, y, e1, e2, e3, e4, e5⟩ _ => ⟨q, x, y, e1, e2, e3 _ h.1, e4 _ h.2, e5⟩) (fun i H' h hi => ⟨_, _, h.1, h.2, .inl (by rw [lc]; omega)⟩)
          (fun b σ H5 => ∃ (t : Addr) (v8 v9 : Option V), σ = [some (.ref g), some (.ref ra), some (.ref ca), some (.ref gi), some (.ref lt), some (.ref t), some (.int ((r[a] : Nat) : Int)), some (.ref ia), v8, v9] ∧ Same H4 H5 ∧ TG H5 t (mk n (part1 R r c ts I a b)))
          ⟨t, _, _, rfl, Same.refl _, hTt4⟩ (fun j σ H5 ⟨_, _, _, _, s5, _⟩ => ⟨SqT.of ((s14.trans s5) _ _ hca), SqT.of ((s14.trans s5) _ _ hia)⟩) ?_ ?_
        · rintro b x σ H5 H6 hb ⟨t, w8, w9, rfl, s5, hTt⟩ ⟨z, x, y, rfl, hz, hx, hy, rfl⟩
          obtain ⟨hbc, rfl⟩ := toZ_at hx
          have hcb := pkc.lt _ (List.getElem_mem hbc)
          have hgb : c.getD b 0 = c[b] := gD hbc
          have hy' : y = .int (ent I a b) := by
            rw [List.getElem?_map, List.getElem?_eq_getElem (by omega)] at hy
            cases hy
            unfold ent
            rw [hIg, gD (by omega)]
          subst hy'
          have hv := (ent_row okI hIl ha).val hb
          obtain ⟨m, hm, hmk⟩ : ∃ m : Nat, ent I a b = (m : Int) ∧ m < k := ⟨(ent I a b).toNat, by unfold ent; omega, by unfold ent; omega⟩
          have s6 : Same H5 (upd H5 z (.tup [.int ((c[b] : Nat) : Int), .int (ent I a b)])) := Same.new hz
          refine ⟨z, _, rfl, SqT.of upd_same, rfl, _, _, rfl, _, _, rfl, rfl, ?_⟩
          generalize upd H5 z (.tup [.int ((c[b] : Nat) : Int), .int (ent I a b)]) = H6 at s6 ⊢
          have hl6 := (s4.trans (s5.trans s6)) _ _ hlt
          refine ⟨_, rfl, _, rfl, _, rfl, _, rfl, _, rfl, lt, _, _, .int (ts.getD m 0), rfl, rfl, SqL.of hl6, ?_, ?_⟩
          · rw [hm]
            exact int_at (by omega)
          refine ⟨t, n, mk n (part1 R r c ts I a b), r[a], c[b], ts.getD m 0, rfl, hTt.same s6, mk_len _ _, by rw [mk_row hri, List.length_map, List.length_range], h6, hri, hcb, fun t' H7 s7 hT7 => ?_⟩
          refine ⟨t', _, _, rfl, s5.trans (s6.trans s7), ?_⟩
          rw [setI_mk hri hcb] at hT7
          rw [show mk n (part1 R r c ts I a (b + 1)) = mk n (fun i j => if i = r[a] ∧ j = c[b] then ts.getD m 0 else part1 R r c ts I a b i j) from mk_congr fun i j _ _ => by rw [part1_succ pkr.nd pkc.nd har hbc, hga, hgb, hm, Int.toNat_natCast]]
          exact hT7
        · rintro σ H5 ⟨t, w8, w9, rfl, s5, hTt⟩
          refine ⟨t, _, _, _, _, rfl, s4.trans s5, ?_⟩
          rw [show mk n (part1 R r c ts I (a + 1) 0) = mk n (part1 R r c ts I a k) from mk_congr fun i j _ _ => by rw [← part1_end har, pkc.len]]
          exact hTt
      · rintro σ H3 ⟨t, v6, v7, v8, v9, rfl, s3, hTt⟩
        refine ⟨_, rfl, q t H3 (s12.trans s3) ?_⟩
        rw [show mk n (putF R r c ts I) = mk n (part1 R r c ts I k 0) from mk_congr fun i j _ _ => by rw [← part1_all, pkr.len]]
        exact hTt
end
end My

namespace My
open PySem L2
/-! ### rising picks -/
theorem mx_fold : ∀ (p : List Nat) (a : Nat), (toZ p).foldl (fun (a x : Int) => if x > a then x else a) (a : Int) = ((p.foldl Nat.max a : Nat) : Int)
  | [], a => rfl
  | x :: p, a => by
    show (toZ p).foldl (fun (a x : Int) => if x > a then x else a) (if (x : Int) > (a : Int) then (x : Int) else (a : Int)) = ((p.foldl Nat.max (Nat.max a x) : Nat) : Int)
    rw [← mx_fold p (Nat.max a x)]
    congr 1
    have e : Nat.max a x = if a ≤ x then x else a := by
      show max a x = _
      exact Nat.max_def
    rw [e]
    split <;> split <;> omega
theorem mxl_P : ∀ p : List Nat, mxl (toZ p) + 1 = ((mxP p : Nat) : Int)
  | [] => rfl
  | x :: p => by
    show (toZ p).foldl (fun (a x : Int) => if x > a then x else a) (if (x : Int) > -1 then (x : Int) else -1) + 1 = ((p.foldl Nat.max (Nat.max 0 x) + 1 : Nat) : Int)
    rw [if_pos (show (x : Int) > -1 by omega), mx_fold p x, show Nat.max 0 x = x from Nat.zero_max x]
    rfl
theorem fold_lt : ∀ (p : List Nat) (a n : Nat), a < n → (∀ x ∈ p, x < n) → p.foldl Nat.max a < n
  | [], a, n, h, _ => h
  | x :: p, a, n, h, hp => fold_lt p (Nat.max a x) n (Nat.max_lt.mpr ⟨h, hp x List.mem_cons_self⟩) fun y hy => hp y (List.mem_cons_of_mem _ hy)
theorem mxP_le {p : List Nat} {n : Nat} (h : ∀ x ∈ p, x < n) : mxP p ≤ n := by
  cases p with
  | nil => exact Nat.zero_le _
  | cons x p =>
    have hx := h x List.mem_cons_self
    exact fold_lt (x :: p) 0 n (by omega) h
def nxt (n : Nat) (p : List Nat) : List (List Nat) := (List.range' (mxP p) (n - mxP p)).map fun x => p ++ [x]
theorem nxt_len (n : Nat) (p : List Nat) : (nxt n p).length = n - mxP p := by unfold nxt; rw [List.length_map, List.length_range']
theorem nxt_at {n : Nat} {p : List Nat} {i : Nat} (h : i < n - mxP p) : (nxt n p)[i]? = some (p ++ [mxP p + i]) := by
  unfold nxt
  rw [List.getElem?_map, List.getElem?_range' h]
  simp
theorem nxt_take {n : Nat} {p : List Nat} {i : Nat} (h : i < n - mxP p) : (nxt n p).take (i + 1) = (nxt n p).take i ++ [p ++ [mxP p + i]] := by
  rw [List.take_add_one, nxt_at h]
  rfl
theorem rp_take {n k i : Nat} {p : List Nat} (h : (rp n k)[i]? = some p) : ((rp n k).take (i + 1)).flatMap (nxt n) = ((rp n k).take i).flatMap (nxt n) ++ nxt n p := by
  rw [List.take_add_one, h, List.flatMap_append]
  simp
def rngF (lo : Int) (n : Nat) : List V := (List.range n).map fun i : Nat => V.int (lo + (i : Int))
theorem rngF_len {lo : Int} (n : Nat) : (rngF lo n).length = n := by unfold rngF; rw [List.length_map, List.length_range]
theorem rngF_at {lo : Int} {n i : Nat} (h : i < n) : (rngF lo n)[i]? = some (.int (lo + (i : Int))) := by
  unfold rngF
  rw [List.getElem?_map, List.getElem?_range h]
  rfl
theorem rngF_get {lo : Int} {n i : Nat} {x : V} (h : (rngF lo n)[i]? = some x) : i < n ∧ x = .int (lo + (i : Int)) := by
  have hi : i < n := by
    have := (List.getElem?_eq_some_iff.mp h).1
    rwa [rngF_len] at this
  rw [rngF_at hi] at h
  exact ⟨hi, (Option.some.inj h).symm⟩
theorem wlk_rangeF {lo : Int} {n : Nat} : Wlk (Itr lo n) (rngF lo n) (fun _ => True) :=
  ⟨fun i H _ hi => by rw [rngF_len] at hi; exact hi, fun i H x H' _ y hi => by
    rw [rngF_len] at hi
    obtain ⟨e, rfl⟩ := y
    exact ⟨e, rngF_at hi⟩, fun i H _ hi => by rw [rngF_len] at hi; exact hi⟩
theorem toZ_nn (p : List Nat) : ∀ z ∈ toZ p, (0 : Int) ≤ z := fun z hz => by
  obtain ⟨x, _, rfl⟩ := List.mem_map.mp hz
  exact Int.natCast_nonneg _
theorem toZ_app (p : List Nat) (x : Nat) : (toZ (p ++ [x])).map V.int = (toZ p).map V.int ++ [V.int (x : Int)] := by
  unfold toZ
  rw [List.map_append, List.map_append]
  rfl
def spRising (k : Nat) : Sp := fun vs H Q _ => ∃ (n m : Nat), vs = [.int (n : Int), .int (m : Int)] ∧ n ≤ 6 ∧ m ≤ 6 ∧ m < k ∧ ∀ (l : Addr) (H' : Hp), H l = none → Same H H' → PkL H' l (rp n m) → Q (.ref l) H'
section
variable {P : Program} {w : World} {K : PySem.W.Frag} {mg : Str → Option Value} {base : Heap}
theorem scRising : FnScope ["size", "many", "found", "pick", "least"] ["size", "many"] (defScope sRising) := ⟨rfl, rfl, rfl, by decide +kernel, rfl, by decide +kernel, by decide +kernel⟩
theorem ok_rising {f : Addr} {fd : FuncData} (D : Dfn K mg "rising_picks" sRising ["size", "many"] f fd) (T : Blt mg) : ∀ k : Nat, FnOk P w K mg base CX0 k f fd ["size", "many"] (spRising k)
  | 0 => ⟨fun vs H Q E h => by obtain ⟨_, _, rfl, _⟩ := h; rfl, fun A outer s H args us vs Q E _ _ _ _ h => by obtain ⟨_, _, rfl, _, _, z, _⟩ := h; exact absurd z (Nat.not_lt_zero _)⟩
  | k + 1 => by
    have G := ok_rising D T k
    refine D.F.ok scRising (fun vs H Q E h => ?_) (fun cdv A outer s H vs Q E hr h => ?_)
    · obtain ⟨_, _, rfl, _⟩ := h
      rfl
    · obtain ⟨n, m, rfl, h6, hm6, hmk, q⟩ := h
      refine' ⟨_, pss_cons (ps_if (pt_cmpR op_eq (pv 1) pe_int (nomark _)) (pss_one (ps_ret (pe_lst (pa_cons (pe_tup pa_nil) pa_nil)))) pss_nil) (pss_cons (ps_set (i := 2) scRising.nd rfl (Or.inl rfl) (pe_lst pa_nil)) (pss_cons (ps_for PassesOwn.never rfl ?i (pg_name (i := 3) scRising.nd rfl (Or.inr rfl)) (pss_cons ?b0 (pss_one ?b1))) (pss_one (ps_ret (pv 2))))), ?rd⟩
      case i => exact pi_list (pe_call G hr rfl D.m D.F.kp D.b .nil pass0 (pa_cons (pv 0) (pa_cons (pe_op op_sub (pv 1) pe_int) pa_nil)))
      case b0 => exact ps_set (i := 4) scRising.nd rfl (Or.inl rfl) (pe_op op_add (pe_maxd rfl rfl T.max (pa_cons (pv 3) pa_nil) (pk_cons (pe_un un_neg pe_int) pk_nil)) pe_int)
      case b1 => exact ps_expr (pe_bm PySem.F.plainAttrs_list PySem.F.slot_list_extend PySem.F.type_list_extend mt_extend (pv 2) (pa_cons (pe_lc ["number", "pick"] [none, some 3] rfl rfl (pi_range2 rfl T.range (pa_cons (pv 4) (pa_cons (pv 0) pa_nil))) (fun _ _ _ _ _ => pg_c 0) (fun _ _ _ _ _ => pts_nil) (fun _ _ _ _ _ => pe_op (op_sumT K) (pv 1) (pe_tup (pa_cons (pv 0) pa_nil)))) pa_nil))
      case rd =>
        refine ⟨_, rfl, rfl, _, rfl, ?_⟩
        refine ite2 (fun hc => ?_) (fun hc => ?_)
        · have e : m = 0 := by
            have e := of_decide_eq_true hc
            injection e with e
            omega
          subst e
          refine ⟨Nat.zero_le _, fun tp htp => ⟨(show 1 ≤ sizeLine from small6 (by decide)), fun lp hlp => ?_⟩⟩
          have s1 : Same H (upd H tp (.tup [])) := Same.new htp
          refine q lp _ (s1.free hlp) (s1.trans (Same.new hlp)) ⟨[tp], upd_same, .cons ?_ .nil⟩
          exact Same.new hlp _ _ upd_same
        have hm1 : 1 ≤ m := by
          have h1 : m ≠ 0 := fun e => hc (decide_eq_true (by rw [e]; rfl))
          omega
        obtain ⟨m', rfl⟩ : ∃ m', m = m' + 1 := ⟨m - 1, by omega⟩
        refine ⟨Nat.zero_le _, fun lf hlf => ?_⟩
        have s1 : Same H (upd H lf (.lst [])) := Same.new hlf
        have h1 : (upd H lf (.lst [])) lf = some (.lst []) := upd_same
        generalize upd H lf (.lst []) = H1 at s1 h1 ⊢
        refine ⟨_, rfl, _, rfl, _, _, rfl, rfl, n, m', ?_, h6, by omega, by omega, fun l2 H2 hl2 s2 hPk => ?_⟩
        · show [V.int (n : Int), V.int (((m' + 1 : Nat) : Int) - 1)] = _
          rw [show ((m' + 1 : Nat) : Int) - 1 = (m' : Int) by omega]
        obtain ⟨qs, hq, hQ⟩ := hPk
        have h2 := s2 _ _ h1
        have hne : l2 ≠ lf := fun z => by rw [z, h1] at hl2; cases hl2
        have hfw : (rp n m').length ≤ 20 := of_decide_eq_true (rp_few n (by omega) m' (by omega))
        have hql : qs.length = (rp n m').length := hQ.length
        have sH2 := s1.trans s2
        refine ⟨l2, rfl, ⟨_, SqL.of hq⟩, for_list (xs := qs.map V.ref) (fun i σ H3 => ∃ (v3 v4 : Option V) (ps : List Addr), σ = [some (.int (n : Int)), some (.int ((m' + 1 : Nat) : Int)), some (.ref lf), v3, v4] ∧ Kp lf H2 H3 ∧ H3 lf = some (.lst (ps.map V.ref)) ∧ ps.length ≤ 6 * i ∧ Paired (fun q (p : List Nat) => H3 q = some (.tup ((toZ p).map V.int))) ps (((rp n m').take i).flatMap (nxt n)))
          ⟨none, none, [], rfl, Kp.refl, h2, Nat.le_refl _, .nil⟩ (fun i σ H3 _ ⟨_, _, _, _, k3, _⟩ => SqL.of (k3 _ _ hne hq)) ?_ ?_⟩
        · rintro i x σ H3 hx ⟨v3, v4, ps, rfl, k3, h3, hpl, hP⟩
          rw [List.getElem?_map] at hx
          cases hpi : qs[i]? with
          | none => rw [hpi] at hx; cases hx
          | some pk =>
          rw [hpi] at hx
          cases hx
          obtain ⟨p, hpr, hpk⟩ := Paired.getL hQ hpi
          have hil : i < 20 := Nat.lt_of_lt_of_le (List.getElem?_eq_some_iff.mp hpr).1 hfw
          have pkp := rp_pick h6 (by omega) (List.mem_of_getElem? hpr)
          have hmx := mxP_le pkp.lt
          have hp3 : H3 pk = some (.tup ((toZ p).map V.int)) := k3 _ _ (ne_of hpk h2 (by intro z; cases z)) hpk
          refine ⟨_, rfl, _, rfl, pk, toZ p, rfl, rfl, hp3, toZ_nn p, _, _, rfl, rfl, ?_⟩
          show gName 4 (V.int (mxl (toZ p) + 1)) _ _ _
          rw [mxl_P]
          refine ⟨_, rfl, .inl ⟨rfl, _, SqL.of h3⟩, _, rfl, _, rfl, (mxP p : Int), (n : Int), rfl, ⟨by omega, by omega, by omega, by omega⟩, fun lc hlc => ?_⟩
          rw [show ((n : Int) - (mxP p : Int)).toNat = n - mxP p by omega]
          refine comp_of (wlk_rangeF (lo := (mxP p : Int)) (n := n - mxP p)) (fun j ys σ H' => ∃ (v : Option V) (rs : List Addr), σ = [v, some (.ref pk)] ∧ ys = rs.map V.ref ∧ Same H3 H' ∧ H' lc = some (.lst ys) ∧ Paired (fun q (p : List Nat) => H' q = some (.tup ((toZ p).map V.int))) rs ((nxt n p).take j))
            ⟨none, [], rfl, rfl, Same.new hlc, upd_same, .nil⟩ (fun j ys σ H' ⟨_, _, _, _, _, h, _⟩ => ⟨trivial, h⟩) ?_ ?_
          · rintro j x ys σ H' hj ⟨v, rs, rfl, rfl, sm, hl', hR⟩
            obtain ⟨hjn, rfl⟩ := rngF_get hj
            have hrl : rs.length ≤ j := by rw [hR.length, List.length_take]; omega
            refine ⟨_, rfl, _, rfl, (show 1 ≤ sizeLine from small6 (by decide)), fun t1 ht1 => ?_⟩
            have sA : Same H' (upd H' t1 (.tup [.int ((mxP p : Int) + (j : Int))])) := Same.new ht1
            have hA : (upd H' t1 (.tup [.int ((mxP p : Int) + (j : Int))])) t1 = some (.tup [.int ((mxP p : Int) + (j : Int))]) := upd_same
            generalize upd H' t1 (.tup [.int ((mxP p : Int) + (j : Int))]) = HA at sA hA ⊢
            refine ⟨pk, t1, _, _, rfl, rfl, sA _ _ (sm _ _ hp3), hA, by rw [List.length_map, toZ_len, pkp.len]; exact small6 (by show m' + 1 ≤ 1000; omega), fun tq HB sB hB => ?_⟩
            have sAB := sA.trans sB
            have hlB := sAB _ _ hl'
            refine ⟨hlB, by rw [List.length_map]; exact small1000 (by omega), _, rs ++ [tq], rfl, by rw [List.map_append]; rfl, fun b u e => ?_, upd_same, ?_⟩
            · rw [upd_ne (ne_of_none e hlc)]
              exact sAB _ _ (sm _ _ e)
            · rw [nxt_take hjn]
              refine Paired.snoc (Paired.mapP hR fun _ _ e => up_lst hlB _ _ (sAB _ _ e)) (up_lst hlB _ _ ?_)
              rw [toZ_app, show ((mxP p + j : Nat) : Int) = (mxP p : Int) + (j : Int) by omega]
              exact hB
          rintro ys σ H4 ⟨v, rs, rfl, rfl, s4, hl4, hR⟩
          rw [rngF_len, List.take_of_length_le (by rw [nxt_len]; exact Nat.le_refl _)] at hR
          have hrl : rs.length ≤ 6 := by rw [hR.length, nxt_len]; omega
          have h34 := s4 _ _ h3
          refine ⟨lf, lc, _, _, rfl, rfl, h34, hl4, by rw [List.length_map, List.length_map]; exact Nat.le_of_lt (few (by omega)), _, _, ps ++ rs, rfl, (k3.same s4).put, by rw [upd_same, List.map_append], by rw [List.length_append]; omega, ?_⟩
          rw [rp_take hpr]
          exact Paired.append (Paired.mapP hP fun _ _ e => up_lst h34 _ _ (s4 _ _ e)) (Paired.mapP hR fun _ _ e => up_lst h34 _ _ e)
        · rintro σ H3 ⟨v3, v4, ps, rfl, k3, h3, hpl, hP⟩
          rw [List.length_map, hql, List.take_length] at hP
          exact ⟨_, rfl, q lf H3 hlf (fun b o e => k3 _ _ (ne_of_none e hlf) (sH2 _ _ e)) ⟨ps, h3, hP⟩⟩
end
end My

namespace My
open PySem L2
def fitT (n : Nat) (R : List (List Int)) (k : Nat) (r : List Nat) (i : Nat) : List (List Nat) := ((rp n k).take i).filter fun c => decide (cntT n (valsL R r c) = k)
theorem fitT_succ {n k i : Nat} {R : List (List Int)} {r c : List Nat} (h : (rp n k)[i]? = some c) : fitT n R k r (i + 1) = if cntT n (valsL R r c) = k then fitT n R k r i ++ [c] else fitT n R k r i := by
  unfold fitT
  rw [List.take_add_one, h, List.filter_append]
  by_cases e : cntT n (valsL R r c) = k
  · rw [if_pos e]
    congr 1
    simp [e]
  · rw [if_neg e]
    simp [e]
theorem fitT_row {n k : Nat} {R : List (List Int)} {r : List Nat} : (fitT n R k r (rp n k).length).map (fun c => (r, c)) = rowK n R k r := by
  unfold fitT rowK
  rw [List.take_length]
def spParts : Sp := fun vs H Q _ => ∃ (g : Addr) (n : Nat) (R : List (List Int)), vs = [.ref g] ∧ TG H g R ∧ OkRows n R ∧ R.length = n ∧ n ≤ 6 ∧ ∀ (l : Addr) (H' : Hp), H l = none → Same H H' → PtL H' l (partsL n R) → Q (.ref l) H'
section
variable {P : Program} {w : World} {K : PySem.W.Frag} {mg : Str → Option Value} {base : Heap}
theorem scParts : FnScope ["square", "size", "found", "many", "picks", "rows", "fitting"] ["square"] (defScope sParts) := ⟨rfl, rfl, rfl, by decide +kernel, rfl, by decide +kernel, by decide +kernel⟩
theorem ok_parts {f fS fT : Addr} {fd dS dT : FuncData} (F : Fun K "parts" "parts" sParts f fd) (T : Blt mg) (DS : Dfn K mg "rising_picks" sRising ["size", "many"] fS dS) (DT : Dfn K mg "things_in" sThingsIn ["square", "rows", "columns"] fT dT) : FnOk P w K mg base CX0 8 f fd ["square"] spParts := by
  have GS : FnOk P w K mg base CX0 7 fS dS ["size", "many"] (spRising 7) := ok_rising DS T 7
  have GT : FnOk P w K mg base CX0 7 fT dT ["square", "rows", "columns"] spThings := (ok_thingsIn DT.F T).mono (by decide)
  refine F.ok scParts (fun vs H Q E h => ?_) (fun cdv A outer s H vs Q E hr h => ?_)
  · obtain ⟨_, _, _, rfl, _⟩ := h
    rfl
  · obtain ⟨g, n, R, rfl, hT, ok, hRl, h6, q⟩ := h
    refine' ⟨_, pss_cons ?s0 (pss_cons (ps_set (i := 2) scParts.nd rfl (Or.inl rfl) (pe_lst pa_nil)) (pss_cons (ps_for PassesOwn.never rfl (pi_range2 rfl T.range (pa_cons pe_int (pa_cons (pe_op op_add (pe_op op_fdiv (pv 1) pe_int) pe_int) pa_nil))) (pg_name (i := 3) scParts.nd rfl (Or.inr rfl)) (pss_cons ?b0 (pss_one (ps_for PassesOwn.never rfl (pi_list (pv 4)) (pg_name (i := 5) scParts.nd rfl (Or.inr rfl)) (pss_cons ?c (pss_one ?d)))))) (pss_one (ps_ret (pv 2))))), ?rd⟩
    case s0 => exact ps_set (i := 1) scParts.nd rfl (Or.inl rfl) (pe_callB (call_lenK K) rfl T.len PySem.boot_len (pa_cons (pv 0) pa_nil))
    case b0 => exact ps_set (i := 4) scParts.nd rfl (Or.inl rfl) (pe_call GS hr rfl DS.m DS.F.kp DS.b .nil pass0 (pa_cons (pv 1) (pa_cons (pv 3) pa_nil)))
    case c => exact ps_lc (i := 6) ["columns", "square", "rows", "many"] [none, some 0, some 5, some 3] scParts.nd rfl (Or.inl rfl) rfl rfl (pi_listK K (pv 4)) (fun _ _ _ _ _ => pg_c 0) (fun _ _ _ _ _ => pts_one (pt_cmpR op_eq (pe_callB (call_lenK K) rfl T.len PySem.boot_len (pa_cons (pe_call GT hr rfl DT.m DT.F.kp DT.b .nil pass0 (pa_cons (pv 1) (pa_cons (pv 2) (pa_cons (pv 0) pa_nil)))) pa_nil)) (pv 3) (nomark _))) (fun _ _ _ _ _ => pv 0)
    case d => exact ps_expr (pe_bm PySem.F.plainAttrs_list PySem.F.slot_list_extend PySem.F.type_list_extend mt_extend (pv 2) (pa_cons (pe_lc ["columns", "rows"] [none, some 5] rfl rfl (pi_listK K (pv 6)) (fun _ _ _ _ _ => pg_c 0) (fun _ _ _ _ _ => pts_nil) (fun _ _ _ _ _ => pe_tup (pa_cons (pv 1) (pa_cons (pv 0) pa_nil)))) pa_nil))
    case rd =>
      obtain ⟨gs, hg, hG⟩ := id hT
      have hgl : gs.length = n := by rw [hG.length, hRl]
      refine ⟨_, rfl, g, _, rfl, .inr (SqT.of hg), ?_⟩
      rw [List.length_map, hgl]
      refine ⟨Nat.zero_le _, fun lf hlf => ?_⟩
      refine ⟨_, rfl, _, _, rfl, rfl, ⟨by decide, by decide⟩, _, _, rfl, rfl, 2, (n : Int) / 2 + 1, rfl, ⟨by omega, by omega, by omega, by omega⟩, ?_⟩
      rw [show ((n : Int) / 2 + 1 - 2).toNat = n / 2 - 1 by omega]
      refine for_range (lo := 2) (n := n / 2 - 1) (fun i σ H2 => ∃ (v3 v4 v5 v6 : Option V) (ps : List Addr), σ = [some (.ref g), some (.int (n : Int)), some (.ref lf), v3, v4, v5, v6] ∧ Same H H2 ∧ H2 lf = some (.lst (ps.map V.ref)) ∧ ps.length ≤ 400 * i ∧ Paired (IsPr H2) ps ((List.range' 2 i).flatMap (partsK n R)))
        ⟨none, none, none, none, [], rfl, Same.new hlf, upd_same, Nat.le_refl _, .nil⟩ ?_ ?_
      · rintro i σ H2 hi ⟨v3, v4, v5, v6, ps, rfl, s2, h2, hpl, hP⟩
        rw [show (2 : Int) + (i : Int) = ((2 + i : Nat) : Int) by omega]
        generalize hL0 : (List.range' 2 i).flatMap (partsK n R) = L0 at hP
        have hL1 : (List.range' 2 (i + 1)).flatMap (partsK n R) = L0 ++ partsK n R (2 + i) := by
          rw [range'_one, List.flatMap_append, hL0]
          simp
        have hk : 2 + i ≤ 6 := by omega
        generalize 2 + i = k at hL1 hk ⊢
        refine ⟨_, rfl, _, rfl, n, k, rfl, h6, hk, by omega, fun l4 H3 hl4 s3 hPk => ?_⟩
        obtain ⟨qs, hq, hQ⟩ := hPk
        have h3 := s3 _ _ h2
        have hP3 : Paired (IsPr H3) ps L0 := Paired.mapP hP fun _ _ z => z.up fun _ _ e => s3 _ _ e
        have hne : l4 ≠ lf := fun z => by rw [z, h2] at hl4; cases hl4
        have hfw : (rp n k).length ≤ 20 := of_decide_eq_true (rp_few n (by omega) k (by omega))
        have hql : qs.length = (rp n k).length := hQ.length
        have sH3 := s2.trans s3
        have hT3 := hT.same sH3
        have tup3 : ∀ {H' : Hp}, Kp lf H3 H' → ∀ b row, H3 b = some (.tup row) → H' b = some (.tup row) := fun kp b row e => kp _ _ (ne_of e h3 (by intro z; cases z)) e
        have getq : ∀ {H' : Hp} {j : Nat} {x : V}, Kp lf H3 H' → (qs.map V.ref)[j]? = some x → ∃ (p : Addr) (r : List Nat), x = .ref p ∧ (rp n k)[j]? = some r ∧ H' p = some (.tup ((toZ r).map V.int)) := fun {H' j x} kp hx => by
          rw [List.getElem?_map] at hx
          cases hpj : qs[j]? with
          | none => rw [hpj] at hx; cases hx
          | some p =>
            rw [hpj] at hx
            cases hx
            obtain ⟨r, hrj, hp⟩ := Paired.getL hQ hpj
            exact ⟨p, r, rfl, hrj, tup3 kp _ _ hp⟩
        have TG3 : ∀ {H' : Hp}, Kp lf H3 H' → TG H' g R := fun kp => by
          obtain ⟨gs', a1, a2⟩ := hT3
          exact ⟨gs', tup3 kp _ _ a1, Paired.mapP a2 fun _ _ e => tup3 kp _ _ e⟩
        refine ⟨_, rfl, l4, rfl, ⟨_, SqL.of hq⟩, for_list (xs := qs.map V.ref) (fun j σ H4 => ∃ (v5 v6 : Option V) (ps : List Addr), σ = [some (.ref g), some (.int (n : Int)), some (.ref lf), some (.int (k : Int)), some (.ref l4), v5, v6] ∧ Kp lf H3 H4 ∧ H4 lf = some (.lst (ps.map V.ref)) ∧ ps.length ≤ 400 * i + 20 * j ∧ Paired (IsPr H4) ps (L0 ++ ((rp n k).take j).flatMap (rowK n R k)))
          ⟨_, _, ps, rfl, Kp.refl, h3, by omega, by simpa using hP3⟩ (fun j σ H4 _ ⟨_, _, _, _, k4, _⟩ => SqL.of (k4 _ _ hne hq)) ?_ ?_⟩
        · rintro j x σ H4 hx ⟨w5, w6, ps, rfl, k4, h4, hpl, hP⟩
          obtain ⟨pr, r, rfl, hrj, hpr⟩ := getq k4 hx
          have hjl : j < 20 := Nat.lt_of_lt_of_le (List.getElem?_eq_some_iff.mp hrj).1 hfw
          have pkr := rp_pick h6 (by omega) (List.mem_of_getElem? hrj)
          have hq4 := k4 _ _ hne hq
          refine ⟨_, rfl, l4, rfl, ⟨_, SqL.of hq4⟩, fun lc hlc => ?_⟩
          refine comp_of (wlk_list (xs := qs.map V.ref)) (fun m ys σ H' => ∃ (v : Option V) (fs : List Addr), σ = [v, some (.ref g), some (.ref pr), some (.int (k : Int))] ∧ ys = fs.map V.ref ∧ fs.length ≤ m ∧ Same H4 H' ∧ H' lc = some (.lst ys) ∧ Paired (fun q (p : List Nat) => H' q = some (.tup ((toZ p).map V.int))) fs (fitT n R k r m))
            ⟨none, [], rfl, rfl, Nat.le_refl _, Same.new hlc, upd_same, by simpa [fitT] using Paired.nil⟩ (fun m ys σ H' ⟨_, _, _, _, _, s', h', _⟩ => ⟨SqL.of (s' _ _ hq4), h'⟩) ?_ ?_
          · rintro m x ys σ H5 hx ⟨v, fs, rfl, rfl, hfl, s5, h5, hF⟩
            have k5 := k4.same s5
            obtain ⟨pc, c, rfl, hcm, hpc⟩ := getq k5 hx
            have hml : m < 20 := Nat.lt_of_lt_of_le (List.getElem?_eq_some_iff.mp hcm).1 hfw
            have pkc := rp_pick h6 (by omega) (List.mem_of_getElem? hcm)
            refine ⟨_, rfl, _, rfl, _, rfl, g, pr, pc, n, k, R, r, c, rfl, TG3 k5, ok, hRl, h6, s5 _ _ hpr, hpc, pkr, pkc, by omega, fun ld H6 s6 hld => ?_⟩
            have h65 := s6 _ _ h5
            have hpc6 := s6 _ _ hpc
            have hF6 : Paired (fun q (p : List Nat) => H6 q = some (.tup ((toZ p).map V.int))) fs _ := Paired.mapP hF fun _ _ e => s6 _ _ e
            refine ⟨ld, _, rfl, .inl (SqL.of hld), _, rfl, rfl, _, rfl, ?_⟩
            rw [show ((tsL n R r c).map V.int).length = cntT n (valsL R r c) from (List.length_map _).trans tsL_len]
            refine ite2 (fun hd => ?_) (fun hd => ?_)
            · have e : cntT n (valsL R r c) = k := by
                have e := of_decide_eq_true hd
                injection e with e
                omega
              refine ⟨_, rfl, h65, by rw [List.length_map]; exact small1000 (by omega), _, fs ++ [pc], rfl, by rw [List.map_append]; rfl, by rw [List.length_append]; exact Nat.succ_le_succ hfl, fun b u e => ?_, upd_same, ?_⟩
              · rw [upd_ne (ne_of_none e hlc)]
                exact s6 _ _ (s5 _ _ e)
              · rw [fitT_succ hcm, if_pos e]
                exact Paired.snoc (Paired.mapP hF6 fun _ _ z => up_lst h65 _ _ z) (up_lst h65 _ _ hpc6)
            · have e : ¬ cntT n (valsL R r c) = k := fun e => hd (by rw [e]; exact decide_eq_true rfl)
              refine ⟨_, fs, rfl, rfl, by omega, s5.trans s6, h65, ?_⟩
              rw [fitT_succ hcm, if_neg e]
              exact hF6
          rintro ys σ H5 ⟨v, fs, rfl, rfl, hfl, s5, h5, hF⟩
          rw [List.length_map, hql] at hfl hF
          have hrow := fitT_row (n := n) (k := k) (R := R) (r := r)
          generalize fitT n R k r (rp n k).length = Ft at hF hrow
          have h45 := s5 _ _ h4
          have hpr5 := s5 _ _ hpr
          refine ⟨_, rfl, .inl ⟨rfl, _, SqL.of h45⟩, _, rfl, lc, rfl, ⟨_, SqL.of h5⟩, fun le hle => ?_⟩
          refine comp_of (wlk_list (xs := fs.map V.ref)) (fun m ys σ H' => ∃ (v : Option V) (ts : List Addr), σ = [v, some (.ref pr)] ∧ ys = ts.map V.ref ∧ Same H5 H' ∧ H' le = some (.lst ys) ∧ Paired (IsPr H') ts ((Ft.map fun c => (r, c)).take m))
            ⟨none, [], rfl, rfl, Same.new hle, upd_same, .nil⟩ (fun m ys σ H' ⟨_, _, _, _, s', h', _⟩ => ⟨SqL.of (s' _ _ h5), h'⟩) ?_ ?_
          · rintro m x ys σ H6 hx ⟨v, ts, rfl, rfl, s6, h6', hW⟩
            rw [List.getElem?_map] at hx
            cases hfm : fs[m]? with
            | none => rw [hfm] at hx; cases hx
            | some pc =>
            rw [hfm] at hx
            cases hx
            obtain ⟨c, hcm, hpc⟩ := Paired.getL hF hfm
            have hml : m < fs.length := (List.getElem?_eq_some_iff.mp hfm).1
            have htl : ts.length ≤ m := by rw [hW.length, List.length_take]; omega
            refine ⟨_, rfl, _, rfl, (show 2 ≤ sizeLine from small6 (by decide)), fun tp htp => ?_⟩
            have s7 : Same H6 (upd H6 tp (.tup [.ref pr, .ref pc])) := Same.new htp
            have ht7 : (upd H6 tp (.tup [.ref pr, .ref pc])) tp = some (.tup [.ref pr, .ref pc]) := upd_same
            generalize upd H6 tp (.tup [.ref pr, .ref pc]) = H7 at s7 ht7 ⊢
            have h7 := s7 _ _ h6'
            refine ⟨h7, by rw [List.length_map]; exact small1000 (by omega), _, ts ++ [tp], rfl, by rw [List.map_append]; rfl, fun b u e => ?_, upd_same, ?_⟩
            · rw [upd_ne (ne_of_none e hle)]
              exact s7 _ _ (s6 _ _ e)
            · have et : (Ft.map fun c => (r, c)).take (m + 1) = (Ft.map fun c => (r, c)).take m ++ [(r, c)] := by
                rw [List.take_add_one, List.getElem?_map, hcm]
                rfl
              rw [et]
              exact Paired.snoc (Paired.mapP hW fun _ _ z => z.up fun _ _ e => up_lst h7 _ _ (s7 _ _ e)) ⟨pr, pc, up_lst h7 _ _ ht7, up_lst h7 _ _ (s7 _ _ (s6 _ _ hpr5)), up_lst h7 _ _ (s7 _ _ (s6 _ _ hpc))⟩
          rintro ys σ H6 ⟨v, ts, rfl, rfl, s6, h6', hW⟩
          rw [List.length_map, List.take_of_length_le (by rw [List.length_map, hF.length]; exact Nat.le_refl _)] at hW
          have htl : ts.length ≤ 20 := by rw [hW.length, List.length_map, ← hF.length]; omega
          have h46 := s6 _ _ h45
          rw [hrow] at hW
          refine ⟨lf, le, _, _, rfl, rfl, h46, h6', by rw [List.length_map, List.length_map]; exact Nat.le_of_lt (few (by omega)), _, _, ps ++ ts, rfl, ((k4.same s5).same s6).put, by rw [upd_same, List.map_append], by rw [List.length_append]; omega, ?_⟩
          rw [partsK_take hrj, ← List.append_assoc]
          exact Paired.append (Paired.mapP hP fun _ _ z => z.up fun _ _ e => up_lst h46 _ _ (s6 _ _ (s5 _ _ e))) (Paired.mapP hW fun _ _ z => z.up fun _ _ e => up_lst h46 _ _ e)
        · rintro σ H4 ⟨w5, w6, ps, rfl, k4, h4, hpl, hP⟩
          rw [List.length_map, hql] at hpl hP
          rw [List.take_length] at hP
          refine ⟨_, _, _, _, ps, rfl, fun b o e => k4 _ _ (ne_of_none e hlf) (sH3 _ _ e), h4, by omega, ?_⟩
          rw [hL1]
          exact hP
      · rintro σ H2 ⟨v3, v4, v5, v6, ps, rfl, s2, h2, hpl, hP⟩
        exact ⟨_, rfl, q lf H2 hlf s2 ⟨ps, h2, by omega, hP⟩⟩
end
end My

namespace My
open PySem L2
def spMade (K : PySem.W.Frag) : Sp := fun vs H Q _ => ∃ (a : Addr) (ns : List Int), vs = [.ref a] ∧ SqL K H a (ns.map V.int) ∧ ∀ (t : Addr) (n : Nat) (R : List (List Int)) (H' : Hp), Same H H' → TG H' t R → OkRows n R → R.length = n → n ≤ 6 → Q (.ref t) H'
section
variable {P : Program} {w : World} {K : PySem.W.Frag} {mg : Str → Option Value} {base : Heap}
theorem scMade : FnScope ["_law_script", "_law_head", "_law_square_here", "_law_cell", "_law_one", "_law_other"] ["_law_script"] (defScope sMade) := ⟨rfl, rfl, rfl, by decide +kernel, rfl, by decide +kernel, by decide +kernel⟩
theorem ok_made {f fC fD fO fS fT fX fR : Addr} {fd dC dD dO dS dT dX dR : FuncData} (F : Fun K "_law_made" "_law_made" sMade f fd) (T : Blt mg) (DC : Dfn K mg "_law_cell_at" sCell ["_law_script", "_law_k"] fC dC) (DD : Dfn K mg "_law_digits" sDigits ["_law_cell", "_law_many", "_law_most"] fD dD) (DO : Dfn K mg "_law_row_on" sRowOn ["_law_above", "_law_row", "_law_size", "_law_turns"] fO dO) (DS : Dfn K mg "_law_square" sSquare ["_law_cell", "_law_size"] fS dS) (DT : Dfn K mg "_law_table" sTable ["_law_script"] fT dT) (DX : Dfn K mg "_law_exchanged" sExchanged ["_law_square_here", "_law_one", "_law_other", "_law_column"] fX dX) (DR : Dfn K mg "_law_ring" sRing ["_law_square_here", "_law_one", "_law_other", "_law_column"] fR dR) : FnOk P w K mg base CX0 11 f fd ["_law_script"] (spMade K) := by
  have GC : FnOk P w K mg base CX0 10 fC dC ["_law_script", "_law_k"] (spCell K) := (ok_cell DC.F T).mono (by decide)
  have GS : FnOk P w K mg base CX0 10 fS dS ["_law_cell", "_law_size"] spSquare := ok_square DS.F T DD DO
  have GT : FnOk P w K mg base CX0 10 fT dT ["_law_script"] (spTable K) := (ok_table DT.F T DC).mono (by decide)
  have GX : FnOk P w K mg base CX0 10 fX dX ["_law_square_here", "_law_one", "_law_other", "_law_column"] spEx := (ok_exchanged DX.F T DR).mono (by decide)
  refine F.ok scMade (fun vs H Q E h => ?_) (fun cdv A outer s H vs Q E hr h => ?_)
  · obtain ⟨_, _, rfl, _⟩ := h
    rfl
  · obtain ⟨a, ns, rfl, hS, k⟩ := h
    refine' ⟨_, pss_cons ?s0 (pss_cons (ps_if ?c (pss_one ?s1) pss_nil) (pss_cons ?d0 (pss_cons (ps_for PassesOwn.never rfl ?i (pg_name (i := 3) scMade.nd rfl (Or.inl rfl)) (pss_cons ?b0 (pss_cons ?b1 (pss_one ?b2)))) (pss_one (ps_ret (pv 2)))))), ?rd⟩
    case s0 => exact ps_set (i := 1) scMade.nd rfl (Or.inl rfl) (pe_call GC hr rfl DC.m DC.F.kp DC.b .nil pass0 (pa_cons (pv 0) (pa_cons pe_int pa_nil)))
    case s1 => exact ps_ret (pe_call GS hr rfl DS.m DS.F.kp DS.b .nil pass0 (pa_cons (pe_call GC hr rfl DC.m DC.F.kp DC.b .nil pass0 (pa_cons (pv 0) (pa_cons pe_int pa_nil))) (pa_cons (pe_op op_add pe_int (pe_op op_mod (pv 1) pe_int)) pa_nil)))
    case c => exact pt_cmpR op_eq (pe_op op_mod (pe_op op_fdiv (pv 1) pe_int) pe_int) pe_int (nomark _)
    case d0 => exact ps_set (i := 2) scMade.nd rfl (Or.inl rfl) (pe_call GT hr rfl DT.m DT.F.kp DT.b .nil pass0 (pa_cons (pv 0) pa_nil))
    case i => exact pi_list (pe_slice sl_list (pv 0) (po_some pe_int) (po_some pe_int))
    case b0 => exact ps_set (i := 4) scMade.nd rfl (Or.inl rfl) (pe_op op_mod (pv 3) (pe_callB (call_lenK K) rfl T.len PySem.boot_len (pa_cons (pv 2) pa_nil)))
    case b1 => exact ps_set (i := 5) scMade.nd rfl (Or.inl rfl) (pe_op op_mod (pe_op op_add (pe_op op_add (pv 4) pe_int) (pe_op op_mod (pe_op op_fdiv (pv 3) pe_int) (pe_op op_sub (pe_callB (call_lenK K) rfl T.len PySem.boot_len (pa_cons (pv 2) pa_nil)) pe_int))) (pe_callB (call_lenK K) rfl T.len PySem.boot_len (pa_cons (pv 2) pa_nil)))
    case b2 => exact ps_set (i := 2) scMade.nd rfl (Or.inl rfl) (pe_call GX hr rfl DX.m DX.F.kp DX.b .nil pass0 (pa_cons (pv 2) (pa_cons (pv 4) (pa_cons (pv 5) (pa_cons (pe_op op_mod (pe_op op_fdiv (pv 3) pe_int) (pe_callB (call_lenK K) rfl T.len PySem.boot_len (pa_cons (pv 2) pa_nil))) pa_nil)))))
    case rd =>
      refine ⟨_, rfl, a, ns, 0, rfl, hS, fun z0 => ?_⟩
      refine ⟨_, rfl, _, _, rfl, rfl, ⟨by decide, by decide⟩, _, _, rfl, rfl, (by show (0 : Int) < 4; decide), rfl, _, rfl, ite2 (fun _ => ?_) (fun _ => ?_)⟩
      · refine ⟨_, rfl, a, ns, 1, rfl, hS, fun z1 => ?_⟩
        refine ⟨_, rfl, _, _, rfl, rfl, (by show (0 : Int) < 6; decide), _, _, rfl, rfl, ?_⟩
        obtain ⟨n, hz, h1, h6⟩ : ∃ n : Nat, 1 + z0 % 6 = (n : Int) ∧ 1 ≤ n ∧ n ≤ 6 := ⟨(1 + z0 % 6).toNat, by omega, by omega, by omega⟩
        exact ⟨z1, n, by show [V.int z1, V.int (1 + z0 % 6)] = _; rw [hz], by omega, by omega, fun g H1 R s1 G1 ok hRl => k _ _ _ _ s1 (GridT.tg G1) ok hRl h6⟩
      · refine ⟨_, rfl, a, ns, rfl, hS, fun g n R H2 sH2 hT ok hRl h2 h6 => ?_⟩
        refine ⟨_, rfl, 2, rfl, 8, rfl, a, _, rfl, sH2.seq hS, fun l2 hl2 => ?_⟩
        have hci : ∀ x ∈ cutV (ns.map V.int) (some 2) (some 8), ∃ z : Int, x = .int z := fun x hx => by
          obtain ⟨z, _, e⟩ := List.mem_map.mp (cut_mem hx)
          exact ⟨z, e.symm⟩
        generalize cutV (ns.map V.int) (some 2) (some 8) = xs at hci hl2 ⊢
        have s3 : Same H2 (upd H2 l2 (.lst xs)) := Same.new hl2
        have hl3 : (upd H2 l2 (.lst xs)) l2 = some (.lst xs) := upd_same
        generalize upd H2 l2 (.lst xs) = H3 at s3 hl3 ⊢
        refine ⟨l2, rfl, ⟨_, SqL.of hl3⟩, for_list (xs := xs) (fun i σ H5 => ∃ (v3 v4 v5 : Option V) (g : Addr) (R : List (List Int)), σ = [some (.ref a), some (.int z0), some (.ref g), v3, v4, v5] ∧ Same H3 H5 ∧ TG H5 g R ∧ OkRows n R ∧ R.length = n) ⟨none, none, none, g, R, rfl, Same.refl _, hT.same s3, ok, hRl⟩ (fun i σ H5 _ ⟨_, _, _, _, _, _, s5, _⟩ => SqL.of (s5 _ _ hl3)) ?stp ?fin⟩
        case fin =>
          rintro σ H5 ⟨v3, v4, v5, g, R, rfl, s5, hT, ok, hRl⟩
          exact ⟨_, rfl, k g n R H5 (sH2.trans (s3.trans s5)) hT ok hRl h6⟩
        case stp =>
          clear hT ok hRl
          rintro i x σ H5 hx ⟨v3, v4, v5, g, R, rfl, s5, hT, ok, hRl⟩
          obtain ⟨z, rfl⟩ := hci x (List.mem_of_getElem? hx)
          obtain ⟨gs, hg, hG⟩ := id hT
          have hgl : (gs.map V.ref).length = n := by rw [List.length_map, hG.length, hRl]
          obtain ⟨o1, e1, h1⟩ : ∃ o1 : Nat, z % (n : Int) = (o1 : Int) ∧ o1 < n := ⟨(z % (n : Int)).toNat, by have := Int.emod_nonneg z (show (n : Int) ≠ 0 by omega); omega, by have := Int.emod_lt_of_pos z (show (0 : Int) < n by omega); have := Int.emod_nonneg z (show (n : Int) ≠ 0 by omega); omega⟩
          obtain ⟨m, em, hm⟩ : ∃ m : Nat, z / 7 % ((n : Int) - 1) = (m : Int) ∧ m + 1 < n := ⟨(z / 7 % ((n : Int) - 1)).toNat, by have := Int.emod_nonneg (z / 7) (show (n : Int) - 1 ≠ 0 by omega); omega, by have := Int.emod_lt_of_pos (z / 7) (show (0 : Int) < (n : Int) - 1 by omega); have := Int.emod_nonneg (z / 7) (show (n : Int) - 1 ≠ 0 by omega); omega⟩
          obtain ⟨o2, e2, h2', hne⟩ : ∃ o2 : Nat, ((o1 : Int) + 1 + (m : Int)) % (n : Int) = (o2 : Int) ∧ o2 < n ∧ o1 ≠ o2 := by
            by_cases hb : o1 + 1 + m < n
            · exact ⟨o1 + 1 + m, by rw [Int.emod_eq_of_lt (by omega) (by omega)]; omega, hb, by omega⟩
            · refine ⟨o1 + 1 + m - n, ?_, by omega, by omega⟩
              have : ((o1 : Int) + 1 + (m : Int)) = ((o1 + 1 + m - n : Nat) : Int) + (n : Int) := by omega
              rw [this, Int.add_emod_right, Int.emod_eq_of_lt (by omega) (by omega)]
          obtain ⟨c0, e3, hc0⟩ : ∃ c0 : Nat, z / 49 % (n : Int) = (c0 : Int) ∧ c0 < n := ⟨(z / 49 % (n : Int)).toNat, by have := Int.emod_nonneg (z / 49) (show (n : Int) ≠ 0 by omega); omega, by have := Int.emod_lt_of_pos (z / 49) (show (0 : Int) < n by omega); have := Int.emod_nonneg (z / 49) (show (n : Int) ≠ 0 by omega); omega⟩
          have ok2 := ex_ok ok hRl h1 h2' hc0
          refine ⟨_, rfl, _, rfl, g, _, rfl, .inr (SqT.of hg), _, _, rfl, rfl, ?_⟩
          rw [hgl]
          refine ⟨(by show (0 : Int) < (n : Int); omega), ?_⟩
          show gName 4 (V.int (z % (n : Int))) _ _ _
          rw [e1]
          refine ⟨_, rfl, _, _, rfl, rfl, _, rfl, _, _, rfl, rfl, ⟨by decide, by decide⟩, _, rfl, g, _, rfl, .inr (SqT.of hg), ?_⟩
          rw [hgl]
          refine ⟨_, _, rfl, rfl, _, _, rfl, rfl, (by show (0 : Int) < (n : Int) - 1; omega), _, _, rfl, rfl, _, rfl, g, _, rfl, .inr (SqT.of hg), ?_⟩
          rw [hgl]
          refine ⟨_, _, rfl, rfl, (by show (0 : Int) < (n : Int); omega), ?_⟩
          show gName 5 (V.int (((o1 : Int) + 1 + z / 7 % ((n : Int) - 1)) % (n : Int))) _ _ _
          rw [em, e2]
          refine ⟨_, rfl, _, rfl, _, rfl, _, rfl, _, _, rfl, rfl, ⟨by decide, by decide⟩, _, rfl, g, _, rfl, .inr (SqT.of hg), ?_⟩
          rw [hgl]
          refine ⟨_, _, rfl, rfl, (by show (0 : Int) < (n : Int); omega), ?_⟩
          refine ⟨g, n, o1, o2, c0, R, by show [V.ref g, .int (o1 : Int), .int (o2 : Int), .int (z / 49 % (n : Int))] = _; rw [e3], hT, ok, hRl, by omega, h1, h2', hne, hc0, fun tf H6 s6 hF6 => ?_⟩
          exact ⟨_, _, _, tf, _, rfl, s5.trans s6, hF6, ok2.1, ok2.2⟩
end
end My

namespace My
open PySem L2
def LLn (H0 H : Hp) (a : Addr) (L : List (List Nat)) : Prop := ∃ ps : List Addr, H a = some (.lst (ps.map V.ref)) ∧ Paired (fun p (r : List Nat) => H p = some (.lst ((toI r).map V.int)) ∧ p ≠ a ∧ H0 p = none) ps L
def spRings : Sp := fun vs H Q _ => ∃ (g : Addr) (n o1 o2 : Nat) (R : List (List Int)), vs = [.ref g, .int (o1 : Int), .int (o2 : Int)] ∧ TG H g R ∧ OkRows n R ∧ R.length = n ∧ n ≤ 8 ∧ o1 < n ∧ o2 < n ∧ o1 ≠ o2 ∧
  ∀ l H', Same H H' → H l = none → LLn H H' l (ringsTo (stp (R.getD o1 []) (R.getD o2 [])) n n) → Q (.ref l) H'
/-! ### the program's rings -/
theorem ring_len {n : Nat} {s : Nat → Nat} (o : One n s) {c : Nat} (hc : c < n) : (ringL s n c).length ≤ n := nat_len (ring_ok o hc).1.nodup ((ring_ok o hc).1.lt o)
theorem few_rings (s : Nat → Nat) (n : Nat) : ∀ j, (ringsTo s n j).length ≤ j
  | 0 => Nat.le_refl _
  | j + 1 => by
    have ih := few_rings s n j
    rw [ringsTo]
    split
    · rw [List.length_append]; exact Nat.succ_le_succ ih
    · omega
theorem flat_len {n : Nat} {s : Nat → Nat} (o : One n s) : ∀ j, j ≤ n → (ringsTo s n j).flatten.length ≤ j * n
  | 0, _ => Nat.zero_le _
  | j + 1, h => by
    have ih := flat_len o j (by omega)
    rw [ringsTo]
    have e : (j + 1) * n = j * n + n := Nat.succ_mul j n
    split
    · have := ring_len o (c := j) (by omega)
      rw [List.flatten_append, List.length_append, List.flatten_singleton]
      omega
    · omega
theorem all_flat (L : List (List Nat)) (i : Nat) : L.all (fun r => decide (i ∉ r)) = !decide (i ∈ L.flatten) := by
  rw [Bool.eq_iff_iff, List.all_eq_true]
  simp
theorem toI_append (a b : List Nat) : toI (a ++ b) = toI a ++ toI b := List.map_append
def WRf (H : Hp) (g : Addr) (n o1 o2 c : Nat) (s : Nat → Nat) (l : Addr) (m : Nat) (σ : St) (H2 : Hp) : Prop :=
  ∃ (acc : List Nat) (x : Nat), σ = [some (.ref g), some (.int (o1 : Int)), some (.int (o2 : Int)), some (.int (c : Int)), some (.ref l), some (.int (x : Int))] ∧ Same H H2 ∧ H2 l = some (.lst ((toI acc).map V.int)) ∧ ((acc = [] ∧ x = c) ∨ (Path n s c acc ∧ x = s (lastN acc) ∧ ringF s c (n + 1 - acc.length) acc = ringL s n c)) ∧ m = n + 1 - acc.length
section
variable {P : Program} {w : World} {K : PySem.W.Frag} {mg : Str → Option Value} {base : Heap}
theorem scRf : FnScope ["square", "one", "other", "column", "ring", "here"] ["square", "one", "other", "column"] (defScope sRingFrom) := ⟨rfl, rfl, rfl, by decide +kernel, rfl, by decide +kernel, by decide +kernel⟩
theorem ok_ringFrom {f : Addr} {fd : FuncData} (F : Fun K "ring_from" "ring_from" sRingFrom f fd) : FnOk P w K mg base CX0 1 f fd ["square", "one", "other", "column"] spRing := by
  refine F.ok scRf (fun vs H Q E h => ?_) (fun cdv A outer s H vs Q E hr h => ?_)
  · obtain ⟨_, _, _, _, _, _, rfl, _⟩ := h
    rfl
  · obtain ⟨g, n, o1, o2, c, R, rfl, hT, ok, hRl, h8, h1, h2, hc, q⟩ := h
    refine' ⟨_, pss_cons (ps_set (i := 4) scRf.nd rfl (Or.inl rfl) (pe_lst pa_nil)) (pss_cons (ps_set (i := 5) scRf.nd rfl (Or.inl rfl) (pv 3)) (pss_cons (ps_while PassesOwn.never (pt_cmpR (op_notInK K) (pv 5) (pv 4) rfl) (pss_cons ?b0 (pss_one ?b1))) (pss_one (ps_ret (pv 4))))), ?rd⟩
    case b0 => exact ps_expr (pe_bm PySem.F.plainAttrs_list PySem.F.slot_list_append PySem.F.type_list_append mt_append (pv 4) (pa_cons (pv 5) pa_nil))
    case b1 => exact ps_set (i := 5) scRf.nd rfl (Or.inl rfl) (pe_tindex (pe_ix ix_tup (pv 0) (pv 1) (fun _ _ => rfl)) (pa_cons (pe_ix ix_tup (pe_ix ix_tup (pv 0) (pv 2) (fun _ _ => rfl)) (pv 5) (fun _ _ => rfl)) pa_nil))
    case rd =>
      have ra : Row n (R.getD o1 []) := ok.rowAt (by omega)
      have rb : Row n (R.getD o2 []) := ok.rowAt (by omega)
      have so := stp_one ra rb
      refine ⟨Nat.zero_le _, fun l hl => ⟨_, rfl, ?_⟩⟩
      refine ⟨WRf H g n o1 o2 c (stp (R.getD o1 []) (R.getD o2 [])) l, ⟨_, [], c, rfl, Same.new hl, upd_same, .inl ⟨rfl, rfl⟩, rfl⟩, ?_⟩
      rintro m σ H2 ⟨acc, x, rfl, sH, hl2, hcase, rfl⟩
      have hxn : x < n := by
        rcases hcase with ⟨_, z⟩ | ⟨pa, z, _⟩
        · omega
        · rw [z]
          exact so.lt _ (pa.lt so _ pa.last_mem)
      have hal : acc.length ≤ n := by
        rcases hcase with ⟨z, _⟩ | ⟨pa, _, _⟩
        · rw [z]; exact Nat.zero_le _
        · exact nat_len pa.nodup (pa.lt so)
      refine ⟨_, rfl, _, rfl, l, _, rfl, .inl (SqL.of hl2), rfl, map_ints_flat _, _, rfl, ?_⟩
      have e3 : (if true = true then !inV (.int (x : Int)) ((toI acc).map V.int) else inV (.int (x : Int)) ((toI acc).map V.int)) = !decide (x ∈ acc) := by rw [if_pos rfl, inV_toI]
      rw [e3]
      refine ite2 (fun hd => ?_) (fun hd => ?_)
      · have hni : x ∉ acc := by simpa using hd
        refine ⟨fun σ' H' => ∃ m', m' < n + 1 - acc.length ∧ WRf H g n o1 o2 c (stp (R.getD o1 []) (R.getD o2 [])) l m' σ' H', fun _ _ z => z, ?_⟩
        refine ⟨_, rfl, .inl ⟨rfl, _, SqL.of hl2⟩, _, rfl, l, _, _, rfl, rfl, hl2, by rw [List.length_map, toI, List.length_map]; exact small1000 (by omega), ?_⟩
        have s3 : Same H (upd H2 l (.lst ((toI acc).map V.int ++ [.int (x : Int)]))) := fun b u e => by
          rw [upd_ne (ne_of_none e hl)]
          exact sH _ _ e
        have hl3 : (upd H2 l (.lst ((toI acc).map V.int ++ [.int (x : Int)]))) l = some (.lst ((toI (acc ++ [x])).map V.int)) := by rw [upd_same, toI_app, List.map_append]; rfl
        generalize upd H2 l (.lst ((toI acc).map V.int ++ [.int (x : Int)])) = H3 at s3 hl3 ⊢
        have hT3 := hT.same s3
        obtain ⟨xA, pA, a1, a2, a3, a4⟩ := hT3.at (k := o1) (by omega)
        obtain ⟨xB, pB, b1, b2, b3, b4⟩ := hT3.at (k := o2) (by omega)
        refine ⟨_, rfl, _, rfl, g, _, _, _, rfl, rfl, SqT.of a1, a3, pA, _, rfl, a4, _, rfl, _, rfl, g, _, _, _, rfl, rfl, SqT.of b1, b3, _, rfl, pB, _, _, _, rfl, rfl, SqT.of b4, int_at (by rw [rb.len]; exact hxn), _, rfl, a4, row_has ra.len ra.nd ra.rg (rb.val hxn), ?_⟩
        have hlast : lastN (acc ++ [x]) = x := lastN_app _ _
        have hpath : Path n (stp (R.getD o1 []) (R.getD o2 [])) c (acc ++ [x]) ∧ ringF (stp (R.getD o1 []) (R.getD o2 [])) c (n + 1 - (acc ++ [x]).length) (acc ++ [x]) = ringL (stp (R.getD o1 []) (R.getD o2 [])) n c := by
          rcases hcase with ⟨z1, z2⟩ | ⟨pa, z, hrf⟩
          · subst z1
            subst z2
            exact ⟨.one hc, rfl⟩
          · subst z
            have e' : stp (R.getD o1 []) (R.getD o2 []) (lastN acc) ≠ c := fun e => hni (by rw [e]; exact pa.head_mem)
            refine ⟨.more pa hni, ?_⟩
            rw [show n + 1 - acc.length = (n - acc.length) + 1 by omega] at hrf
            rw [ringF, if_neg e'] at hrf
            rw [List.length_append, show n + 1 - (acc.length + [stp (R.getD o1 []) (R.getD o2 []) (lastN acc)].length) = n - acc.length by simp]
            exact hrf
        refine ⟨n + 1 - (acc ++ [x]).length, by rw [List.length_append, List.length_singleton]; omega, acc ++ [x], stp (R.getD o1 []) (R.getD o2 []) x, rfl, s3, hl3, .inr ⟨hpath.1, by rw [hlast], hpath.2⟩, rfl⟩
      · have hin : x ∈ acc := by simpa using hd
        rcases hcase with ⟨z, _⟩ | ⟨pa, z, hrf⟩
        · rw [z] at hin
          cases hin
        · subst z
          have e' := pa.back so hin
          rw [show n + 1 - acc.length = (n - acc.length) + 1 by omega, ringF, if_pos e'] at hrf
          refine ⟨_, rfl, q l H2 sH hl ?_⟩
          rw [hl2, hrf]
theorem scRingsP : FnScope ["square", "one", "other", "found", "passed", "column", "ring"] ["square", "one", "other"] (defScope sRingsP) := ⟨rfl, rfl, rfl, by decide +kernel, rfl, by decide +kernel, by decide +kernel⟩
theorem ok_ringsP {f fR : Addr} {fd dR : FuncData} (F : Fun K "rings" "rings" sRingsP f fd) (T : Blt mg) (DR : Dfn K mg "ring_from" sRingFrom ["square", "one", "other", "column"] fR dR) : FnOk P w K mg base CX0 2 f fd ["square", "one", "other"] spRings := by
  have GR : FnOk P w K mg base CX0 1 fR dR ["square", "one", "other", "column"] spRing := ok_ringFrom DR.F
  refine F.ok scRingsP (fun vs H Q E h => ?_) (fun cdv A outer s H vs Q E hr h => ?_)
  · obtain ⟨_, _, _, _, _, rfl, _⟩ := h
    rfl
  · obtain ⟨g, n, o1, o2, R, rfl, hT, ok, hRl, h8, h1, h2, hne, q⟩ := h
    refine' ⟨_, pss_cons (ps_set (i := 3) scRingsP.nd rfl (Or.inl rfl) (pe_lst pa_nil)) (pss_cons (ps_set (i := 4) scRingsP.nd rfl (Or.inl rfl) (pe_lst pa_nil)) (pss_cons (ps_for PassesOwn.never rfl (pi_range1 rfl T.range (pa_cons (pe_callB (call_lenK K) rfl T.len PySem.boot_len (pa_cons (pv 0) pa_nil)) pa_nil)) (pg_name (i := 5) scRingsP.nd rfl (Or.inl rfl)) (pss_one (ps_if ?c (pss_cons ?b0 (pss_cons ?b1 (pss_one ?b2))) pss_nil))) (pss_one (ps_ret (pv 3))))), ?rd⟩
    case c => exact pt_cmpR (op_notInK K) (pv 5) (pv 4) rfl
    case b0 => exact ps_set (i := 6) scRingsP.nd rfl (Or.inl rfl) (pe_call GR hr rfl DR.m DR.F.kp DR.b .nil pass0 (pa_cons (pv 0) (pa_cons (pv 1) (pa_cons (pv 2) (pa_cons (pv 5) pa_nil)))))
    case b1 => exact ps_expr (pe_bm PySem.F.plainAttrs_list PySem.F.slot_list_append PySem.F.type_list_append mt_append (pv 3) (pa_cons (pv 6) pa_nil))
    case b2 => exact ps_expr (pe_bm PySem.F.plainAttrs_list PySem.F.slot_list_extend PySem.F.type_list_extend mt_extend (pv 4) (pa_cons (pv 6) pa_nil))
    case rd =>
      refine ⟨Nat.zero_le _, fun lf hlf => ⟨Nat.zero_le _, fun lp hlp => ?_⟩⟩
      have s0 : Same H (upd H lf (.lst [])) := Same.new hlf
      have s1 : Same (upd H lf (.lst [])) (upd (upd H lf (.lst [])) lp (.lst [])) := Same.new hlp
      have hlp0 : H lp = none := s0.free hlp
      have hfp : lf ≠ lp := fun e => by rw [← e, upd_same] at hlp; cases hlp
      obtain ⟨gs, hgs, hGs⟩ := id hT
      have hgl : (gs.map V.ref).length = n := by rw [List.length_map, hGs.length, hRl]
      refine ⟨_, rfl, g, _, rfl, .inr (SqT.of ((s0.trans s1) _ _ hgs)), _, rfl, by omega, by omega, ?_⟩
      rw [hgl, Int.toNat_natCast]
      generalize hs : stp (R.getD o1 []) (R.getD o2 []) = sp at q
      have so : One n sp := by rw [← hs]; exact stp_one (ok.rowAt (by omega)) (ok.rowAt (by omega))
      refine for_range (lo := 0) (n := n) (fun i σ H2 => ∃ (v5 v6 : Option V) (ps : List Addr), σ = [some (.ref g), some (.int (o1 : Int)), some (.int (o2 : Int)), some (.ref lf), some (.ref lp), v5, v6] ∧ Same H H2 ∧ H2 lf = some (.lst (ps.map V.ref)) ∧ H2 lp = some (.lst ((toI (ringsTo sp n i).flatten).map V.int)) ∧ Paired (fun p (r : List Nat) => H2 p = some (.lst ((toI r).map V.int)) ∧ p ≠ lf ∧ p ≠ lp ∧ H p = none) ps (ringsTo sp n i))
        ⟨none, none, [], rfl, s0.trans s1, s1 _ _ upd_same, upd_same, .nil⟩ ?_ ?_
      · rintro i σ H2 hi ⟨v5, v6, ps, rfl, s2, hf, hp, hPs⟩
        rw [Int.zero_add]
        have hpl : ps.length = (ringsTo sp n i).length := hPs.length
        have hfi := few_rings sp n i
        have hfl := flat_len so i (by omega)
        have hii : i * n ≤ 8 * 8 := Nat.mul_le_mul (by omega) h8
        refine ⟨_, rfl, _, rfl, lp, _, rfl, .inl (SqL.of hp), rfl, map_ints_flat _, _, rfl, ?_⟩
        have e3 : (if true = true then !inV (.int (i : Int)) ((toI (ringsTo sp n i).flatten).map V.int) else inV (.int (i : Int)) ((toI (ringsTo sp n i).flatten).map V.int)) = (ringsTo sp n i).all fun r => decide (i ∉ r) := by rw [if_pos rfl, inV_toI, all_flat]
        rw [e3]
        refine ite2 (fun hd => ?_) (fun hd => ?_)
        · have er : ringsTo sp n (i + 1) = ringsTo sp n i ++ [ringL sp n i] := by rw [ringsTo, if_pos hd]
          refine ⟨_, rfl, _, rfl, _, rfl, _, rfl, g, n, o1, o2, i, R, rfl, hT.same s2, ok, hRl, h8, h1, h2, hi, fun p H3 s3 hp0 hp3 => ?_⟩
          rw [hs] at hp3
          have hf3 := s3 _ _ hf
          have hlp3 := s3 _ _ hp
          have hpf : p ≠ lf := fun z => by rw [z, hf] at hp0; cases hp0
          have hpp : p ≠ lp := fun z => by rw [z, hp] at hp0; cases hp0
          refine ⟨_, rfl, .inl ⟨rfl, _, SqL.of hf3⟩, _, rfl, lf, _, _, rfl, rfl, hf3, by rw [List.length_map]; exact small1000 (by omega), ?_⟩
          have g1 : ∀ b, b ≠ lf → (upd H3 lf (.lst (ps.map V.ref ++ [.ref p]))) b = H3 b := fun b hb => upd_ne hb
          have g0 : (upd H3 lf (.lst (ps.map V.ref ++ [.ref p]))) lf = some (.lst ((ps ++ [p]).map V.ref)) := by rw [upd_same, List.map_append]; rfl
          generalize upd H3 lf (.lst (ps.map V.ref ++ [.ref p])) = H4 at g1 g0 ⊢
          have hp4 : H4 p = some (.lst ((toI (ringL sp n i)).map V.int)) := by rw [g1 _ hpf]; exact hp3
          have hlp4 : H4 lp = some (.lst ((toI (ringsTo sp n i).flatten).map V.int)) := by rw [g1 _ (Ne.symm hfp)]; exact hlp3
          have hrl := ring_len so hi
          refine ⟨_, rfl, .inl ⟨rfl, _, SqL.of hlp4⟩, _, rfl, lp, p, _, _, rfl, rfl, hlp4, hp4, ?_, ?_⟩
          · refine Nat.le_of_lt (small1000 ?_)
            rw [List.length_map, List.length_map, toI, toI, List.length_map, List.length_map]
            omega
          · refine ⟨_, _, ps ++ [p], rfl, fun b u e => ?_, ?_, ?_, ?_⟩
            · rw [upd_ne (ne_of_none e hlp0), g1 _ (ne_of_none e hlf)]
              exact s3 _ _ (s2 _ _ e)
            · rw [upd_ne hfp]
              exact g0
            · rw [upd_same, er, List.flatten_append, List.flatten_singleton, toI_append, List.map_append]
            · rw [er]
              refine Paired.snoc (Paired.mapP hPs fun b r z => ⟨?_, z.2⟩) ⟨?_, hpf, hpp, s2.free hp0⟩
              · rw [upd_ne z.2.2.1, g1 _ z.2.1]
                exact s3 _ _ z.1
              · rw [upd_ne hpp]
                exact hp4
        · have er : ringsTo sp n (i + 1) = ringsTo sp n i := by rw [ringsTo, if_neg hd]
          refine ⟨_, _, ps, rfl, s2, hf, ?_, ?_⟩
          · rw [er]; exact hp
          · rw [er]; exact hPs
      · rintro σ H2 ⟨v5, v6, ps, rfl, s2, hf, hp, hPs⟩
        exact ⟨_, rfl, q lf H2 s2 hlf ⟨ps, hf, Paired.mapP hPs fun _ _ z => ⟨z.1, z.2.1, z.2.2.2⟩⟩⟩
end
theorem Paired.set {α β : Type} {r : α → β → Prop} : ∀ {ps : List α} {R : List β}, Paired r ps R → ∀ (i : Nat) {p : α} {x : β}, r p x → Paired r (ps.set i p) (R.set i x)
  | _, _, .nil, _, _, _, _ => .nil
  | _, _, .cons h t, 0, _, _, z => .cons z t
  | _, _, .cons h t, i + 1, _, _, z => .cons h (Paired.set t i z)
theorem ixN_of {n i : Nat} (h : i < n) : ixN n (i : Int) = some i := by
  unfold ixN
  rw [if_pos (by omega), if_pos (by omega), Int.toNat_natCast]
def takenL (n : Nat) (x y : List Int) (S : List Nat) : List Int := (List.range n).map fun c => if c ∈ S then y.getD c 0 else x.getD c 0
theorem row_is {n : Nat} {R : List (List Int)} (ok : OkRows n R) (hl : R.length = n) {k : Nat} (hk : k < n) : R[k]? = some ((List.range n).map fun c => ent R k c) := by
  have e : (mk n (ent R))[k]? = R[k]? := by rw [mk_of ok hl]
  rw [← e]
  unfold mk
  rw [List.getElem?_map, List.getElem?_range hk]
  rfl
theorem ex_set {n : Nat} {R : List (List Int)} (ok : OkRows n R) (hl : R.length = n) {o1 o2 : Nat} (h1 : o1 < n) (h2 : o2 < n) (S : List Nat) :
    (R.set o1 (takenL n (R.getD o1 []) (R.getD o2 []) S)).set o2 (takenL n (R.getD o2 []) (R.getD o1 []) S) = exSq n R o1 o2 S := by
  refine List.ext_getElem? fun k => ?_
  by_cases hk : k < n
  · have er : (exSq n R o1 o2 S)[k]? = some ((List.range n).map fun c => ent R (other o1 o2 S k c) c) := by
      unfold exSq mk
      rw [List.getElem?_map, List.getElem?_range hk]
      rfl
    rw [er, List.getElem?_set, List.getElem?_set]
    by_cases e2 : o2 = k
    · subst e2
      rw [if_pos rfl, List.length_set, if_pos (by omega)]
      unfold takenL
      congr 1
      refine List.map_congr_left fun c _ => ?_
      rw [other_two]
      by_cases hc : c ∈ S
      · rw [if_pos hc, if_pos hc]; rfl
      · rw [if_neg hc, if_neg hc]; rfl
    · rw [if_neg e2]
      by_cases e1 : o1 = k
      · subst e1
        rw [if_pos rfl, if_pos (by omega)]
        unfold takenL
        congr 1
        refine List.map_congr_left fun c _ => ?_
        rw [other_one]
        by_cases hc : c ∈ S
        · rw [if_pos hc, if_pos hc]; rfl
        · rw [if_neg hc, if_neg hc]; rfl
      · rw [if_neg e1, row_is ok hl hk]
        congr 1
        refine List.map_congr_left fun c _ => ?_
        rw [other_else (fun z => e1 z.symm) (fun z => e2 z.symm)]
  · rw [List.getElem?_eq_none (by rw [List.length_set, List.length_set]; omega), List.getElem?_eq_none (by unfold exSq mk; rw [List.length_map, List.length_range]; omega)]
def spTaken : Sp := fun vs H Q _ => ∃ (a b l : Addr) (n : Nat) (x y : List Int) (S : List Nat), vs = [.ref a, .ref b, .ref l] ∧ H a = some (.tup (x.map V.int)) ∧ H b = some (.tup (y.map V.int)) ∧ H l = some (.lst ((toI S).map V.int)) ∧ x.length = n ∧ y.length = n ∧ n ≤ 8 ∧ ∀ t H', Same H H' → H t = none → H' t = some (.tup ((takenL n x y S).map V.int)) → Q (.ref t) H'
section
variable {P : Program} {w : World} {K : PySem.W.Frag} {mg : Str → Option Value} {base : Heap}
theorem scTaken : FnScope ["line", "given", "ring"] ["line", "given", "ring"] (defScope sTaken) := ⟨rfl, rfl, rfl, by decide +kernel, rfl, by decide +kernel, by decide +kernel⟩
theorem ok_taken {f : Addr} {fd : FuncData} (F : Fun K "taken_over" "taken_over" sTaken f fd) (T : Blt mg) : FnOk P w K mg base CX0 1 f fd ["line", "given", "ring"] spTaken := by
  refine F.ok scTaken (fun vs H Q E h => ?_) (fun cdv A outer s H vs Q E hr h => ?_)
  · obtain ⟨_, _, _, _, _, _, _, rfl, _⟩ := h
    rfl
  · obtain ⟨a, b, l, n, x, y, S, rfl, ha, hb, hl, hx, hy, h8, q⟩ := h
    refine ⟨_, pss_one (ps_ret (pe_callTy (call_tupleK K) rfl T.tuple bt_tuple (pa_cons (pe_lc ["column", "ring", "given", "line"] [none, some 2, some 1, some 0] rfl rfl (pi_range1 rfl T.range (pa_cons (pe_callB (call_lenK K) rfl T.len PySem.boot_len (pa_cons (pv 0) pa_nil)) pa_nil)) (fun _ _ _ _ _ => pg_c 0) (fun _ _ _ _ _ => pts_nil)
      (fun _ _ _ _ _ => pe_ifExp (pt_cmpR (op_inK K) (pv 0) (pv 1) rfl) (pe_ix (ix_tupK K) (pv 2) (pv 0) (fun _ _ => rfl)) (pe_ix (ix_tupK K) (pv 3) (pv 0) (fun _ _ => rfl)))) pa_nil))), ?_⟩
    refine ⟨_, rfl, a, _, rfl, .inr (SqT.of ha), _, rfl, by omega, by rw [List.length_map, hx]; omega, fun lc hlc => ?_⟩
    rw [List.length_map, hx, Int.toNat_natCast]
    refine comp_pure (fun i => some (.int (if i ∈ S then y.getD i 0 else x.getD i 0))) (fun σ => ∃ v, σ = [v, some (.ref l), some (.ref b), some (.ref a)]) (wlk_range (n := n)) (by rw [rng_len]; exact small6 (by omega)) hlc (fun H' sm => trivial) ⟨none, rfl⟩ ?_ ?_
    · rintro j z σ H' R' hj ⟨v, rfl⟩ sm kk
      obtain ⟨hjn, rfl⟩ := rng_get hj
      have kk' := kk [some (.int (j : Int)), some (.ref l), some (.ref b), some (.ref a)] H' ⟨_, rfl⟩ (Same.refl _)
      refine ⟨_, rfl, _, rfl, l, _, rfl, .inl (SqL.of (sm _ _ hl)), rfl, map_ints_flat _, _, rfl, ?_⟩
      have e3 : (if false = true then !inV (.int (j : Int)) ((toI S).map V.int) else inV (.int (j : Int)) ((toI S).map V.int)) = decide (j ∈ S) := by rw [if_neg Bool.false_ne_true, inV_toI]
      rw [e3]
      refine ite2 (fun hd => ?_) (fun hd => ?_)
      · rw [if_pos (of_decide_eq_true hd)] at kk'
        exact ⟨_, rfl, _, rfl, b, _, _, _, rfl, rfl, SqT.of (sm _ _ hb), int_at (by omega), kk'⟩
      · rw [if_neg (fun z => hd (decide_eq_true z))] at kk'
        exact ⟨_, rfl, _, rfl, a, _, _, _, rfl, rfl, SqT.of (sm _ _ ha), int_at (by omega), kk'⟩
    · intro H2 s2 h2
      have e0 : (List.range (rng n).length).filterMap (fun i : Nat => some (V.int (if i ∈ S then y.getD i 0 else x.getD i 0))) = (takenL n x y S).map V.int := by
        rw [filterMap_some, rng_len]
        unfold takenL
        rw [List.map_map]
        rfl
      rw [e0] at h2
      exact ⟨lc, _, rfl, .inl ⟨SqL.of h2, fun t ht => q t _ (s2.trans (Same.new ht)) (s2.free ht) upd_same⟩⟩
theorem scExP : FnScope ["square", "one", "other", "column", "ring", "changed"] ["square", "one", "other", "column"] (defScope sExP) := ⟨rfl, rfl, rfl, by decide +kernel, rfl, by decide +kernel, by decide +kernel⟩
theorem ok_exP {f fR fT : Addr} {fd dR dT : FuncData} (F : Fun K "exchanged" "exchanged" sExP f fd) (T : Blt mg) (DR : Dfn K mg "ring_from" sRingFrom ["square", "one", "other", "column"] fR dR) (DT : Dfn K mg "taken_over" sTaken ["line", "given", "ring"] fT dT) : FnOk P w K mg base CX0 2 f fd ["square", "one", "other", "column"] spEx := by
  have GR : FnOk P w K mg base CX0 1 fR dR ["square", "one", "other", "column"] spRing := ok_ringFrom DR.F
  have GT : FnOk P w K mg base CX0 1 fT dT ["line", "given", "ring"] spTaken := ok_taken DT.F T
  refine F.ok scExP (fun vs H Q E h => ?_) (fun cdv A outer s H vs Q E hr h => ?_)
  · obtain ⟨_, _, _, _, _, _, rfl, _⟩ := h
    rfl
  · obtain ⟨g, n, o1, o2, c0, R, rfl, hT, ok, hRl, h8, h1, h2, hne, hc0, q⟩ := h
    refine' ⟨_, pss_cons ?s0 (pss_cons ?s1 (pss_cons ?s2 (pss_cons ?s3 (pss_one (ps_ret (pe_callTy (call_tupleK K) rfl T.tuple bt_tuple (pa_cons (pv 5) pa_nil))))))), ?rd⟩
    case s0 => exact ps_set (i := 4) scExP.nd rfl (Or.inl rfl) (pe_call GR hr rfl DR.m DR.F.kp DR.b .nil pass0 (pa_cons (pv 0) (pa_cons (pv 1) (pa_cons (pv 2) (pa_cons (pv 3) pa_nil)))))
    case s1 => exact ps_set (i := 5) scExP.nd rfl (Or.inl rfl) (pe_callTy (call_listK K) rfl T.list bt_list (pa_cons (pv 0) pa_nil))
    case s2 => exact ps_asg (pe_call GT hr rfl DT.m DT.F.kp DT.b .nil pass0 (pa_cons (pe_ix ix_tup (pv 0) (pv 1) (fun _ _ => rfl)) (pa_cons (pe_ix ix_tup (pv 0) (pv 2) (fun _ _ => rfl)) (pa_cons (pv 4) pa_nil)))) (pg_sub (pv 5) (pv 1) set_list)
    case s3 => exact ps_asg (pe_call GT hr rfl DT.m DT.F.kp DT.b .nil pass0 (pa_cons (pe_ix ix_tup (pv 0) (pv 2) (fun _ _ => rfl)) (pa_cons (pe_ix ix_tup (pv 0) (pv 1) (fun _ _ => rfl)) (pa_cons (pv 4) pa_nil)))) (pg_sub (pv 5) (pv 2) set_list)
    case rd =>
      refine ⟨_, rfl, _, rfl, _, rfl, _, rfl, g, n, o1, o2, c0, R, rfl, hT, ok, hRl, h8, h1, h2, hc0, fun lg H1 s1 _ hg1 => ?_⟩
      generalize ringL (stp (R.getD o1 []) (R.getD o2 [])) n c0 = S at hg1 q
      have hT1 := hT.same s1
      obtain ⟨gs, hgs, hGs⟩ := id hT1
      have hgl : gs.length = n := by rw [hGs.length, hRl]
      refine ⟨_, rfl, g, _, rfl, .inr (SqT.of hgs), fun lc hlc => ?_⟩
      have s2 : Same H1 (upd H1 lc (.lst (gs.map V.ref))) := Same.new hlc
      have hc2 : (upd H1 lc (.lst (gs.map V.ref))) lc = some (.lst (gs.map V.ref)) := upd_same
      have hgf : H lc = none := s1.free hlc
      generalize upd H1 lc (.lst (gs.map V.ref)) = H2 at s2 hc2 ⊢
      have hT2 := hT1.same s2
      have hg2 := s2 _ _ hg1
      obtain ⟨xA, pA, a1, a2, a3, a4⟩ := hT2.at (k := o1) (by omega)
      obtain ⟨xB, pB, b1, b2, b3, b4⟩ := hT2.at (k := o2) (by omega)
      have lA := (ok.rowAt (k := o1) (by omega)).len
      have lB := (ok.rowAt (k := o2) (by omega)).len
      refine ⟨_, rfl, _, rfl, g, _, _, _, rfl, rfl, SqT.of a1, a3, _, rfl, _, rfl, g, _, _, _, rfl, rfl, SqT.of b1, b3, _, rfl, pA, pB, lg, n, _, _, S, rfl, a4, b4, hg2, lA, lB, h8, fun t1 H3 s3 ht1 hh1 => ?_⟩
      have hc3 := s3 _ _ hc2
      refine ⟨_, rfl, _, rfl, lc, _, _, o1, rfl, rfl, hc3, ixN_of (by rw [List.length_map]; omega), ?_⟩
      have k4 : ∀ b o, b ≠ lc → H3 b = some o → (upd H3 lc (.lst ((gs.map V.ref).set o1 (.ref t1)))) b = some o := fun b o hb e => by rw [upd_ne hb]; exact e
      have hc4 : (upd H3 lc (.lst ((gs.map V.ref).set o1 (.ref t1)))) lc = some (.lst ((gs.set o1 t1).map V.ref)) := by rw [upd_same, List.map_set]
      generalize upd H3 lc (.lst ((gs.map V.ref).set o1 (.ref t1))) = H4 at k4 hc4 ⊢
      have n1 : ∀ {b : Addr} {xs : List V}, H3 b = some (.tup xs) → b ≠ lc := fun e z => by rw [z, hc3] at e; cases e
      have n2 : lg ≠ lc := fun z => by rw [z] at hg1; rw [hg1] at hlc; cases hlc
      have up4 : ∀ {b : Addr} {xs : List V}, H3 b = some (.tup xs) → H4 b = some (.tup xs) := fun e => k4 _ _ (n1 e) e
      refine ⟨_, rfl, _, rfl, g, _, _, _, rfl, rfl, SqT.of (up4 (s3 _ _ b1)), b3, _, rfl, _, rfl, g, _, _, _, rfl, rfl, SqT.of (up4 (s3 _ _ a1)), a3, _, rfl, pB, pA, lg, n, _, _, S, rfl, up4 (s3 _ _ b4), up4 (s3 _ _ a4), k4 _ _ n2 (s3 _ _ hg2), lB, lA, h8, fun t2 H5 s5 ht2 hh2 => ?_⟩
      have hc5 := s5 _ _ hc4
      refine ⟨_, rfl, _, rfl, lc, _, _, o2, rfl, rfl, hc5, ixN_of (by rw [List.length_map, List.length_set]; omega), ?_⟩
      refine ⟨_, rfl, lc, _, rfl, .inl ⟨SqL.of upd_same, fun t ht => ?_⟩⟩
      have n5 : ∀ {b : Addr} {xs : List V}, H5 b = some (.tup xs) → b ≠ lc := fun e z => by rw [z, hc5] at e; cases e
      have k6 : ∀ b o, b ≠ lc → H5 b = some o → (upd (upd H5 lc (.lst (((gs.set o1 t1).map V.ref).set o2 (.ref t2)))) t (.tup (((gs.set o1 t1).map V.ref).set o2 (.ref t2)))) b = some o := fun b o hb e => by
        have e6 : (upd H5 lc (.lst (((gs.set o1 t1).map V.ref).set o2 (.ref t2)))) b = some o := by rw [upd_ne hb]; exact e
        exact Same.new ht _ _ e6
      have up6 : ∀ {b : Addr} {xs : List V}, H5 b = some (.tup xs) → (upd (upd H5 lc (.lst (((gs.set o1 t1).map V.ref).set o2 (.ref t2)))) t (.tup (((gs.set o1 t1).map V.ref).set o2 (.ref t2)))) b = some (.tup xs) := fun e => k6 _ _ (n5 e) e
      refine q t _ (fun b o e => k6 _ _ (ne_of_none e hgf) (s5 _ _ (k4 _ _ (ne_of_none e hgf) (s3 _ _ (s2 _ _ (s1 _ _ e)))))) ⟨(gs.set o1 t1).set o2 t2, by rw [upd_same]; simp only [List.map_set], ?_⟩
      rw [← ex_set ok hRl h1 h2]
      exact Paired.set (Paired.set (Paired.mapP hGs fun _ _ e => up6 (s5 _ _ (up4 (s3 _ _ (s2 _ _ e))))) o1 (up6 (s5 _ _ (up4 hh1)))) o2 (up6 hh2)
end
end My

namespace My
open PySem L2
theorem ent_stp {n : Nat} {R : List (List Int)} (ok : OkRows n R) (hl : R.length = n) {o1 o2 : Nat} (h1 : o1 < n) (h2 : o2 < n) {a : Nat} (ha : a < n) : ent R o1 (stp (R.getD o1 []) (R.getD o2 []) a) = ent R o2 a := stp_ent (ent_row ok hl h1) (ent_row ok hl h2) ha
/-- two rows, two columns, two things -/
theorem cnt_pair {n : Nat} {R : List (List Int)} (ok : OkRows n R) (hl : R.length = n) {o1 o2 a b : Nat} (h1 : o1 < n) (h2 : o2 < n) (hne : o1 ≠ o2) (ha : a < n) (hb : b < n) (hab : a ≠ b) :
    (ent R o2 a = ent R o1 b ∧ ent R o2 b = ent R o1 a) ↔ cntT n (valsL R [o1, o2] [a, b]) = 2 := by
  have w1 : ent R o1 a ≠ ent R o1 b := fun e => hab ((ent_row ok hl h1).inj ha hb e)
  have w2 : ent R o2 a ≠ ent R o1 a := fun e => hne (ent_col ok hl h2 h1 ha e).symm
  have w3 : ent R o2 b ≠ ent R o1 b := fun e => hne (ent_col ok hl h2 h1 hb e).symm
  have ev : valsL R [o1, o2] [a, b] = [ent R o1 a, ent R o1 b, ent R o2 a, ent R o2 b] := rfl
  have rg : ∀ t ∈ [ent R o1 a, ent R o1 b, ent R o2 a, ent R o2 b], 0 ≤ t ∧ t < (n : Int) := fun t ht => by
    simp only [List.mem_cons, List.not_mem_nil, or_false] at ht
    rcases ht with rfl | rfl | rfl | rfl
    · exact ent_rg ok hl h1 ha
    · exact ent_rg ok hl h1 hb
    · exact ent_rg ok hl h2 ha
    · exact ent_rg ok hl h2 hb
  rw [ev]
  constructor
  · rintro ⟨e1, e2⟩
    refine (len_cnt (ds := [ent R o1 a, ent R o1 b]) (by simp [w1]) (fun t => ?_) rg).symm
    rw [e1, e2]
    simp only [List.mem_cons, List.not_mem_nil, or_false]
    constructor
    · rintro (h | h)
      · exact .inl h
      · exact .inr (.inl h)
    · rintro (h | h | h | h)
      · exact .inl h
      · exact .inr h
      · exact .inr h
      · exact .inl h
  · intro e
    have key : ∀ t ∈ [ent R o1 a, ent R o1 b, ent R o2 a, ent R o2 b], t = ent R o1 a ∨ t = ent R o1 b := fun t ht => by
      by_cases z : t = ent R o1 a ∨ t = ent R o1 b
      · exact z
      · exfalso
        have z1 : t ≠ ent R o1 a := fun e => z (.inl e)
        have z2 : t ≠ ent R o1 b := fun e => z (.inr e)
        unfold cntT at e
        rw [List.countP_eq_length_filter] at e
        have := len_le (T := [ent R o1 a, ent R o1 b, t]) (S := (rngI n).filter fun t => decide (t ∈ [ent R o1 a, ent R o1 b, ent R o2 a, ent R o2 b])) (by simp [w1, z1.symm, z2.symm]) fun x hx => by
          have hx' : x ∈ [ent R o1 a, ent R o1 b, ent R o2 a, ent R o2 b] := by
            simp only [List.mem_cons, List.not_mem_nil, or_false] at hx
            rcases hx with rfl | rfl | rfl
            · simp
            · simp
            · exact ht
          exact List.mem_filter.mpr ⟨mem_rngI.mpr (rg x hx'), decide_eq_true hx'⟩
        rw [e] at this
        simp at this
    constructor
    · rcases key (ent R o2 a) (by simp) with h | h
      · exact absurd h w2
      · exact h
    · rcases key (ent R o2 b) (by simp) with h | h
      · exact h
      · exact absurd h w3
theorem two_cnt {n : Nat} {R : List (List Int)} (ok : OkRows n R) (hl : R.length = n) (h6 : n ≤ 6) {o1 o2 : Nat} (h1 : o1 < n) (h2 : o2 < n) (hne : o1 ≠ o2) {c : List Nat} (hc : c ∈ rp n 2) :
    two (stp (R.getD o1 []) (R.getD o2 [])) c = decide (cntT n (valsL R [o1, o2] c) = 2) := by
  have p := rp_pick h6 (by omega) hc
  obtain ⟨a, b, rfl⟩ : ∃ a b, c = [a, b] := by
    match c, p.len with
    | [a, b], _ => exact ⟨a, b, rfl⟩
  have ha := p.lt a (by simp)
  have hb := p.lt b (by simp)
  have hab : a ≠ b := fun z => by have := p.nd; rw [z] at this; simp at this
  have so := stp_one (ent_row ok hl h1) (ent_row ok hl h2)
  have ra := ent_row ok hl h1
  unfold two
  show (decide (stp (R.getD o1 []) (R.getD o2 []) a = b) && decide (stp (R.getD o1 []) (R.getD o2 []) b = a)) = _
  rw [Bool.eq_iff_iff, Bool.and_eq_true, decide_eq_true_eq, decide_eq_true_eq, decide_eq_true_eq, ← cnt_pair ok hl h1 h2 hne ha hb hab]
  constructor
  · rintro ⟨e1, e2⟩
    have g1 := ent_stp ok hl h1 h2 ha
    have g2 := ent_stp ok hl h1 h2 hb
    rw [e1] at g1
    rw [e2] at g2
    exact ⟨g1.symm, g2.symm⟩
  · rintro ⟨e1, e2⟩
    have g1 := ent_stp ok hl h1 h2 ha
    have g2 := ent_stp ok hl h1 h2 hb
    exact ⟨ra.inj (so.lt a ha) hb (g1.trans e1), ra.inj (so.lt b hb) ha (g2.trans e2)⟩
def ring2 (n : Nat) (R : List (List Int)) (o1 o2 : Nat) : List (List Nat) := (ringsTo (stp (R.getD o1 []) (R.getD o2 [])) n n).filter fun r => decide (r.length = 2)
theorem ring2_row {n : Nat} {R : List (List Int)} (ok : OkRows n R) (hl : R.length = n) (h6 : n ≤ 6) {o1 o2 : Nat} (h1 : o1 < n) (h2 : o2 < n) (hne : o1 ≠ o2) : (ring2 n R o1 o2).map (fun c => ([o1, o2], c)) = rowK n R 2 [o1, o2] := by
  unfold ring2 rowK
  rw [two_rings (by omega) (stp_one (ent_row ok hl h1) (ent_row ok hl h2))]
  congr 1
  exact List.filter_congr fun c hc => two_cnt ok hl h6 h1 h2 hne hc
def pairsL (n : Nat) (R : List (List Int)) : List (List Nat × List Nat) := (List.range n).flatMap fun x => (List.range' (x + 1) (n - (x + 1))).flatMap fun y => (ring2 n R x y).map fun c => ([x, y], c)
theorem rp_two : ∀ n, n < 7 → rp n 2 = (List.range n).flatMap fun x => (List.range' (x + 1) (n - (x + 1))).map fun y => [x, y] := by decide +kernel
theorem flatMap_congr' {α β : Type} {f g : α → List β} : ∀ {l : List α}, (∀ x ∈ l, f x = g x) → l.flatMap f = l.flatMap g
  | [], _ => rfl
  | x :: l, h => by rw [List.flatMap_cons, List.flatMap_cons, h x List.mem_cons_self, flatMap_congr' fun y hy => h y (List.mem_cons_of_mem _ hy)]
theorem pairs_parts {n : Nat} {R : List (List Int)} (ok : OkRows n R) (hl : R.length = n) (h6 : n ≤ 6) : pairsL n R = partsK n R 2 := by
  unfold pairsL partsK
  rw [rp_two n (by omega), List.flatMap_assoc]
  refine flatMap_congr' fun x hx => ?_
  rw [List.flatMap_map]
  refine flatMap_congr' fun y hy => ?_
  have hx' := List.mem_range.mp hx
  have hy' := List.mem_range'_1.mp hy
  exact ring2_row ok hl h6 hx' (by omega) (by omega)
end My

namespace My
open PySem L2
theorem two_few : ∀ n, n < 7 → ∀ l ∈ permsL n n, ((rp n 2).filter (two fun c => l.getD c 0)).length ≤ 3 := by decide +kernel
theorem ring2_few {n : Nat} {R : List (List Int)} (ok : OkRows n R) (hl : R.length = n) (h6 : n ≤ 6) {o1 o2 : Nat} (h1 : o1 < n) (h2 : o2 < n) : (ring2 n R o1 o2).length ≤ 3 := by
  unfold ring2
  have o := stp_one (ent_row ok hl h1) (ent_row ok hl h2)
  generalize stp (R.getD o1 []) (R.getD o2 []) = s at o
  have hl : (List.range n).map s ∈ permsL n n := mem_perms n _ (by rw [List.length_map, List.length_range]) (nodup_map fun i j hi hj e => o.inj i j hi hj e) fun x hx => by
    obtain ⟨i, hi, rfl⟩ := List.mem_map.mp hx
    exact o.lt i (List.mem_range.mp hi)
  have e : ∀ x, x < n → s x = (fun c => ((List.range n).map s).getD c 0) x := fun x hx => by
    show s x = ((List.range n).map s).getD x 0
    rw [List.getD_eq_getElem?_getD, List.getElem?_map, List.getElem?_range hx]
    rfl
  rw [ringsTo_congr e o.lt n (Nat.le_refl _), two_all n (by omega) _ hl]
  exact two_few n (by omega) _ hl
theorem flatMap_len {α β : Type} {f : α → List β} {c : Nat} : ∀ {l : List α}, (∀ x ∈ l, (f x).length ≤ c) → (l.flatMap f).length ≤ c * l.length
  | [], _ => Nat.zero_le _
  | x :: l, h => by
    rw [List.flatMap_cons, List.length_append, List.length_cons, Nat.mul_succ]
    have := flatMap_len fun y hy => h y (List.mem_cons_of_mem _ hy)
    have := h x List.mem_cons_self
    omega
theorem rp2_few : ∀ n, n < 7 → (rp n 2).length ≤ 15 := by decide +kernel
theorem rp2_two : ∀ n, n < 7 → ∀ r ∈ rp n 2, r = [r.getD 0 0, r.getD 1 0] ∧ r.getD 0 0 < r.getD 1 0 := by decide +kernel
theorem pairs_few {n : Nat} {R : List (List Int)} (ok : OkRows n R) (hl : R.length = n) (h6 : n ≤ 6) : (pairsL n R).length < 64 := by
  rw [pairs_parts ok hl h6]
  unfold partsK
  have h1 := flatMap_len (f := rowK n R 2) (c := 3) (l := rp n 2) fun r hr => by
    obtain ⟨e, hlt⟩ := rp2_two n (by omega) r hr
    have p := rp_pick h6 (by omega) hr
    have a1 : r.getD 1 0 < n := p.lt _ (by rw [e]; simp)
    rw [e, ← ring2_row ok hl h6 (by omega) a1 (by omega), List.length_map]
    exact ring2_few ok hl h6 (by omega) a1
  have := rp2_few n (by omega)
  omega
def zP (p : List Nat × List Nat) : List Int × List Int := (toZ p.1, toZ p.2)
def Ahead (p q : List Int × List Int) : Prop := lexP p q = true ∧ lexP q p = false
theorem rp2_rise : ∀ n, n < 7 → (rp n 2).Pairwise (fun a b => lexB (toZ a) (toZ b) = true ∧ lexB (toZ b) (toZ a) = false ∧ toZ a ≠ toZ b) := by decide +kernel
theorem parts_rise {n : Nat} {R : List (List Int)} (h6 : n ≤ 6) : ((partsK n R 2).map zP).Pairwise Ahead := by
  rw [List.pairwise_map]
  unfold partsK
  rw [List.pairwise_flatMap]
  have hr := rp2_rise n (by omega)
  constructor
  · intro r hr'
    unfold rowK
    rw [List.pairwise_map]
    refine (hr.filter _).imp fun h => ?_
    unfold Ahead lexP zP
    rw [if_pos rfl, if_pos rfl]
    exact ⟨h.1, h.2.1⟩
  · refine hr.imp fun h x hx y hy => ?_
    unfold rowK at hx hy
    obtain ⟨c, _, rfl⟩ := List.mem_map.mp hx
    obtain ⟨d, _, rfl⟩ := List.mem_map.mp hy
    unfold Ahead lexP zP
    rw [if_neg h.2.2, if_neg (Ne.symm h.2.2)]
    exact ⟨h.1, h.2.1⟩
theorem rises_of {S : List (List Int × List Int)} (h : S.Pairwise Ahead) : Rises S := fun i j hi hj => by
  have g : ∀ {i : Nat}, i < S.length → S.getD i ([], []) = S[i]! := fun h => by simp [List.getD_eq_getElem?_getD, h]
  rw [List.pairwise_iff_getElem] at h
  have e1 : S.getD i ([], []) = S[i] := by rw [List.getD_eq_getElem?_getD, List.getElem?_eq_getElem hi]; rfl
  have e2 : S.getD j ([], []) = S[j] := by rw [List.getD_eq_getElem?_getD, List.getElem?_eq_getElem hj]; rfl
  rw [e1, e2]
  rcases Nat.lt_trichotomy i j with z | z | z
  · rw [decide_eq_true z]
    exact (h i j hi hj z).1
  · subst z
    rw [decide_eq_false (Nat.lt_irrefl _)]
    unfold lexP
    rw [if_pos rfl]
    exact lexB_self _
  · rw [decide_eq_false (by omega)]
    exact (h j i hj hi z).2
end My

namespace My
open PySem L2
def ringTk (n : Nat) (R : List (List Int)) (o1 o2 m : Nat) : List (List Nat) := ((ringsTo (stp (R.getD o1 []) (R.getD o2 [])) n n).take m).filter fun r => decide (r.length = 2)
theorem ringTk_succ {n o1 o2 m : Nat} {R : List (List Int)} {r : List Nat} (h : (ringsTo (stp (R.getD o1 []) (R.getD o2 [])) n n)[m]? = some r) : ringTk n R o1 o2 (m + 1) = if r.length = 2 then ringTk n R o1 o2 m ++ [r] else ringTk n R o1 o2 m := by
  unfold ringTk
  rw [List.take_add_one, h, List.filter_append]
  by_cases e : r.length = 2
  · rw [if_pos e]
    congr 1
    simp [e]
  · rw [if_neg e]
    simp [e]
theorem ringTk_all {n o1 o2 : Nat} {R : List (List Int)} : ringTk n R o1 o2 (ringsTo (stp (R.getD o1 []) (R.getD o2 [])) n n).length = ring2 n R o1 o2 := by
  unfold ringTk ring2
  rw [List.take_length]
theorem ring_two {n : Nat} {R : List (List Int)} (ok : OkRows n R) (hl : R.length = n) (h6 : n ≤ 6) {o1 o2 : Nat} (h1 : o1 < n) (h2 : o2 < n) {r : List Nat} (hr : r ∈ ringsTo (stp (R.getD o1 []) (R.getD o2 [])) n n) (h2' : r.length = 2) : r ∈ rp n 2 := by
  have : r ∈ ring2 n R o1 o2 := List.mem_filter.mpr ⟨hr, decide_eq_true h2'⟩
  unfold ring2 at this
  rw [two_rings (by omega) (stp_one (ent_row ok hl h1) (ent_row ok hl h2))] at this
  exact (List.mem_filter.mp this).1
theorem prs_z {H : Hp} : ∀ {ps : List Addr} {L : List (List Nat × List Nat)}, Paired (IsPr H) ps L → Paired (fun q (r : List Int × List Int) => ∃ a b : Addr, H q = some (.tup [.ref a, .ref b]) ∧ H a = some (.tup (r.1.map V.int)) ∧ H b = some (.tup (r.2.map V.int))) ps (L.map zP)
  | _, _, .nil => .nil
  | _, _, .cons h t => .cons h (prs_z t)
def spPairs : Sp := fun vs H Q _ => ∃ (g : Addr) (n : Nat) (R : List (List Int)), vs = [.ref g] ∧ TG H g R ∧ OkRows n R ∧ R.length = n ∧ n ≤ 6 ∧ ∀ (l : Addr) (H' : Hp), H l = none → Same H H' → PtL H' l (pairsL n R) → Q (.ref l) H'
section
variable {P : Program} {w : World} {K : PySem.W.Frag} {mg : Str → Option Value} {base : Heap}
theorem scPairs : FnScope ["_law_square_here", "_law_found", "_law_one", "_law_other", "_law_ring_here"] ["_law_square_here"] (defScope sPairs) := ⟨rfl, rfl, rfl, by decide +kernel, rfl, by decide +kernel, by decide +kernel⟩
theorem ok_pairs {f fG fR : Addr} {fd dG dR : FuncData} (F : Fun K "_law_pairs" "_law_pairs" sPairs f fd) (T : Blt mg) (DG : Dfn K mg "rings" sRingsP ["square", "one", "other"] fG dG) (DR : Dfn K mg "ring_from" sRingFrom ["square", "one", "other", "column"] fR dR) : FnOk P w K mg base CX0 3 f fd ["_law_square_here"] spPairs := by
  have GG : FnOk P w K mg base CX0 2 fG dG ["square", "one", "other"] spRings := ok_ringsP DG.F T DR
  refine F.ok scPairs (fun vs H Q E h => ?_) (fun cdv A outer s H vs Q E hr h => ?_)
  · obtain ⟨_, _, _, rfl, _⟩ := h
    rfl
  · obtain ⟨g, n, R, rfl, hT, ok, hRl, h6, q⟩ := h
    have hu : ((A.deeper (PyProof.Rows.envOfC "_law_pairs" (defScope sPairs) s.heap.objs.size f cdv))).units + 6 < cLine := by have := hr.un; omega
    refine' ⟨_, pss_cons (ps_set (i := 1) scPairs.nd rfl (Or.inl rfl) (pe_lst pa_nil)) (pss_cons (ps_for PassesOwn.never rfl ?i1 (pg_name (i := 2) scPairs.nd rfl (Or.inl rfl)) (pss_one (ps_for PassesOwn.never rfl ?i2 (pg_name (i := 3) scPairs.nd rfl (Or.inl rfl)) (pss_one (ps_for PassesOwn.never rfl ?i3 (pg_name (i := 4) scPairs.nd rfl (Or.inl rfl)) (pss_one (ps_if ?c (pss_one ?d) pss_nil))))))) (pss_one (ps_ret ?r))), ?rd⟩
    case i1 => exact pi_range1 rfl T.range (pa_cons (pe_callB (call_lenK K) rfl T.len PySem.boot_len (pa_cons (pv 0) pa_nil)) pa_nil)
    case i2 => exact pi_range2 rfl T.range (pa_cons (pe_op op_add (pv 2) pe_int) (pa_cons (pe_callB (call_lenK K) rfl T.len PySem.boot_len (pa_cons (pv 0) pa_nil)) pa_nil))
    case i3 => exact pi_list (pe_call GG hr rfl DG.m DG.F.kp DG.b .nil pass0 (pa_cons (pv 0) (pa_cons (pv 2) (pa_cons (pv 3) pa_nil))))
    case c => exact pt_cmpR op_eq (pe_callB (call_lenK K) rfl T.len PySem.boot_len (pa_cons (pv 4) pa_nil)) pe_int (nomark _)
    case d => exact ps_expr (pe_bm PySem.F.plainAttrs_list PySem.F.slot_list_append PySem.F.type_list_append mt_append (pv 1) (pa_cons (pe_tup (pa_cons (pe_tup (pa_cons (pv 2) (pa_cons (pv 3) pa_nil))) (pa_cons (pe_callTy (call_tupleK K) rfl T.tuple bt_tuple (pa_cons (pe_callB (call_sorted K) rfl T.sorted PyProof.Rows.boot_sorted (pa_cons (pv 4) pa_nil)) pa_nil)) pa_nil))) pa_nil))
    case r => exact pe_callB (call_sortedPs hu) rfl T.sorted PyProof.Rows.boot_sorted (pa_cons (pv 1) pa_nil)
    case rd =>
      obtain ⟨gs, hg, hG⟩ := id hT
      have hgl : (gs.map V.ref).length = n := by rw [List.length_map, hG.length, hRl]
      refine ⟨Nat.zero_le _, fun lf hlf => ?_⟩
      have s1 : Same H (upd H lf (.lst [])) := Same.new hlf
      have h1 : (upd H lf (.lst [])) lf = some (.lst []) := upd_same
      generalize upd H lf (.lst []) = H1 at s1 h1 ⊢
      have hT1 := hT.same s1
      have tup1 : ∀ {H' : Hp}, Kp lf H1 H' → ∀ b row, H1 b = some (.tup row) → H' b = some (.tup row) := fun kp b row e => kp _ _ (ne_of e h1 (by intro z; cases z)) e
      have TG1 : ∀ {H' : Hp}, Kp lf H1 H' → TG H' g R := fun kp => by
        obtain ⟨gs', a1, a2⟩ := hT1
        exact ⟨gs', tup1 kp _ _ a1, Paired.mapP a2 fun _ _ e => tup1 kp _ _ e⟩
      have hg1 : ∀ {H' : Hp}, Kp lf H1 H' → H' g = some (.tup (gs.map V.ref)) := fun kp => tup1 kp _ _ (s1 _ _ hg)
      refine ⟨_, rfl, g, _, rfl, .inr (SqT.of (hg1 Kp.refl)), _, rfl, by omega, by omega, ?_⟩
      rw [hgl, Int.toNat_natCast]
      refine for_range (lo := 0) (n := n) (fun i σ H2 => ∃ (v2 v3 v4 : Option V) (ps : List Addr), σ = [some (.ref g), some (.ref lf), v2, v3, v4] ∧ Kp lf H1 H2 ∧ H2 lf = some (.lst (ps.map V.ref)) ∧ ps.length ≤ 36 * i ∧ Paired (IsPr H2) ps ((List.range i).flatMap fun x => (List.range' (x + 1) (n - (x + 1))).flatMap fun y => (ring2 n R x y).map fun c => ([x, y], c)))
        ⟨none, none, none, [], rfl, Kp.refl, h1, Nat.le_refl _, .nil⟩ ?_ ?_
      · rintro i σ H2 hi ⟨v2, v3, v4, ps, rfl, k2, h2, hpl, hP⟩
        rw [Int.zero_add]
        generalize hL0 : ((List.range i).flatMap fun x => (List.range' (x + 1) (n - (x + 1))).flatMap fun y => (ring2 n R x y).map fun c => ([x, y], c)) = L0 at hP
        refine ⟨_, rfl, _, _, rfl, rfl, _, rfl, g, _, rfl, .inr (SqT.of (hg1 k2)), ?_⟩
        rw [hgl]
        refine ⟨(i : Int) + 1, (n : Int), rfl, ⟨by omega, by omega, by omega, by omega⟩, ?_⟩
        rw [show ((n : Int) - ((i : Int) + 1)).toNat = n - (i + 1) by omega]
        refine for_range (lo := (i : Int) + 1) (n := n - (i + 1)) (fun j σ H3 => ∃ (v3 v4 : Option V) (ps : List Addr), σ = [some (.ref g), some (.ref lf), some (.int (i : Int)), v3, v4] ∧ Kp lf H1 H3 ∧ H3 lf = some (.lst (ps.map V.ref)) ∧ ps.length ≤ 36 * i + 6 * j ∧ Paired (IsPr H3) ps (L0 ++ (List.range' (i + 1) j).flatMap fun y => (ring2 n R i y).map fun c => ([i, y], c)))
          ⟨_, _, ps, rfl, k2, h2, by omega, by simpa using hP⟩ ?_ ?_
        · rintro j σ H3 hj ⟨w3, w4, ps, rfl, k3, h3, hpl, hP⟩
          rw [show (i : Int) + 1 + (j : Int) = ((i + 1 + j : Nat) : Int) by omega]
          have hL1 : L0 ++ ((List.range' (i + 1) (j + 1)).flatMap fun y => (ring2 n R i y).map fun c => ([i, y], c)) = (L0 ++ (List.range' (i + 1) j).flatMap fun y => (ring2 n R i y).map fun c => ([i, y], c)) ++ (ring2 n R i (i + 1 + j)).map fun c => ([i, i + 1 + j], c) := by
            rw [range'_one, List.flatMap_append, ← List.append_assoc]
            simp
          generalize (L0 ++ (List.range' (i + 1) j).flatMap fun y => (ring2 n R i y).map fun c => ([i, y], c)) = M0 at hP hL1
          have ho2 : i + 1 + j < n := by omega
          have hne : i ≠ i + 1 + j := by omega
          generalize i + 1 + j = o2 at hL1 ho2 hne ⊢
          refine ⟨_, rfl, _, rfl, _, rfl, g, n, i, o2, R, rfl, TG1 k3, ok, hRl, by omega, hi, ho2, hne, fun lr H4 s4 hlr hLL => ?_⟩
          obtain ⟨qs, hq, hQ⟩ := hLL
          have k4 := k3.same s4
          have h4 := s4 _ _ h3
          have hlrf : lr ≠ lf := fun z => by rw [z, h3] at hlr; cases hlr
          have hP4 : Paired (IsPr H4) ps M0 := Paired.mapP hP fun _ _ z => z.up fun _ _ e => s4 _ _ e
          have hqf : qs.length ≤ 6 := by rw [hQ.length]; exact Nat.le_trans (few_rings _ n n) h6
          refine ⟨lr, rfl, ⟨_, SqL.of hq⟩, for_list (xs := qs.map V.ref) (fun m σ H5 => ∃ (v4 : Option V) (ps : List Addr), σ = [some (.ref g), some (.ref lf), some (.int (i : Int)), some (.int (o2 : Int)), v4] ∧ Kp lf H4 H5 ∧ H5 lf = some (.lst (ps.map V.ref)) ∧ ps.length ≤ 36 * i + 6 * j + m ∧ Paired (IsPr H5) ps (M0 ++ (ringTk n R i o2 m).map fun c => ([i, o2], c)))
            ⟨_, ps, rfl, Kp.refl, h4, by omega, by simpa [ringTk] using hP4⟩ (fun m σ H5 _ ⟨_, _, _, k5, _⟩ => SqL.of (k5 _ _ hlrf hq)) ?_ ?_⟩
          · rintro m x σ H5 hx ⟨u4, ps, rfl, k5, h5, hpl, hP⟩
            rw [List.getElem?_map] at hx
            cases hpm : qs[m]? with
            | none => rw [hpm] at hx; cases hx
            | some pr =>
            rw [hpm] at hx
            cases hx
            obtain ⟨r, hrm, hpr, _, hpr0⟩ := Paired.getL hQ hpm
            have hprf : pr ≠ lf := fun z => by rw [z, h3] at hpr0; cases hpr0
            have hpr5 := k5 _ _ hprf hpr
            have hml : m < 6 := by
              have := (List.getElem?_eq_some_iff.mp hpm).1
              omega
            refine ⟨_, rfl, pr, _, rfl, .inl (SqL.of hpr5), rfl, _, rfl, ?_⟩
            rw [show ((toI r).map V.int).length = r.length by rw [List.length_map]; exact List.length_map _]
            refine ite2 (fun hd => ?_) (fun hd => ?_)
            · have e : r.length = 2 := by
                have e := of_decide_eq_true hd
                injection e with e
                omega
              have hrp := ring_two ok hRl h6 hi ho2 (List.mem_of_getElem? hrm) e
              obtain ⟨er, hlt⟩ := rp2_two n (by omega) r hrp
              have hsort : (toI r).Pairwise (· ≤ ·) := by
                rw [er]
                show [((r.getD 0 0 : Nat) : Int), ((r.getD 1 0 : Nat) : Int)].Pairwise (· ≤ ·)
                exact List.pairwise_pair.mpr (by omega)
              refine ⟨_, rfl, .inl ⟨rfl, _, SqL.of h5⟩, _, rfl, _, rfl, (show 2 ≤ sizeLine from small6 (by decide)), fun t1 ht1 => ?_⟩
              have s6 : Same H5 (upd H5 t1 (.tup [.int (i : Int), .int (o2 : Int)])) := Same.new ht1
              have ht6 : (upd H5 t1 (.tup [.int (i : Int), .int (o2 : Int)])) t1 = some (.tup ((toZ [i, o2]).map V.int)) := upd_same
              generalize upd H5 t1 (.tup [.int (i : Int), .int (o2 : Int)]) = H6 at s6 ht6 ⊢
              refine ⟨_, rfl, pr, toI r, rfl, SqL.of (s6 _ _ hpr5), by unfold toI; rw [List.length_map]; omega, fun ls ns' hls pm pw => ?_⟩
              have es : ns' = toI r := sorted_uniq pm pw hsort
              subst es
              have s7 : Same H6 (upd H6 ls (.lst ((toI r).map V.int))) := Same.new hls
              refine ⟨ls, _, rfl, .inl ⟨SqL.of upd_same, fun t2 ht2 => ?_⟩⟩
              have s8 := s7.trans (Same.new (o := .tup ((toI r).map V.int)) ht2)
              have ht8 : (upd (upd H6 ls (.lst ((toI r).map V.int))) t2 (.tup ((toI r).map V.int))) t2 = some (.tup ((toZ r).map V.int)) := upd_same
              generalize upd (upd H6 ls (.lst ((toI r).map V.int))) t2 (.tup ((toI r).map V.int)) = H8 at s8 ht8 ⊢
              refine ⟨(show 2 ≤ sizeLine from small6 (by decide)), fun t3 ht3 => ?_⟩
              have s9 : Same H8 (upd H8 t3 (.tup [.ref t1, .ref t2])) := Same.new ht3
              have ht9 : (upd H8 t3 (.tup [.ref t1, .ref t2])) t3 = some (.tup [.ref t1, .ref t2]) := upd_same
              generalize upd H8 t3 (.tup [.ref t1, .ref t2]) = H9 at s9 ht9 ⊢
              have s59 := (s6.trans s8).trans s9
              have h9 := s59 _ _ h5
              refine ⟨lf, _, _, rfl, rfl, h9, by rw [List.length_map]; exact few (by omega), _, ps ++ [t3], rfl, (k5.same s59).put, by rw [upd_same, List.map_append]; rfl, by rw [List.length_append]; exact Nat.succ_le_succ hpl, ?_⟩
              rw [ringTk_succ hrm, if_pos e, List.map_append, ← List.append_assoc]
              exact Paired.snoc (Paired.mapP hP fun _ _ z => z.up fun _ _ e => up_lst h9 _ _ (s59 _ _ e)) ⟨t1, t2, up_lst h9 _ _ ht9, up_lst h9 _ _ ((s8.trans s9) _ _ ht6), up_lst h9 _ _ (s9 _ _ ht8)⟩
            · have e : ¬ r.length = 2 := fun e => hd (by rw [e]; exact decide_eq_true rfl)
              refine ⟨_, ps, rfl, k5, h5, by omega, ?_⟩
              rw [ringTk_succ hrm, if_neg e]
              exact hP
          · rintro σ H5 ⟨u4, ps, rfl, k5, h5, hpl, hP⟩
            rw [List.length_map] at hpl hP
            rw [hQ.length, ringTk_all, ← hL1] at hP
            exact ⟨_, _, ps, rfl, fun b o hb e => k5 b o hb (k4 b o hb e), h5, by omega, hP⟩
        · rintro σ H3 ⟨w3, w4, ps, rfl, k3, h3, hpl, hP⟩
          refine ⟨_, _, _, ps, rfl, k3, h3, by omega, ?_⟩
          rw [List.range_succ, List.flatMap_append, hL0]
          simpa using hP
      · rintro σ H2 ⟨v2, v3, v4, ps, rfl, k2, h2, hpl, hP⟩
        have hP : Paired (IsPr H2) ps (pairsL n R) := hP
        have hfw := pairs_few ok hRl h6
        have hri : Rises ((pairsL n R).map zP) := rises_of (by rw [pairs_parts ok hRl h6]; exact parts_rise h6)
        refine ⟨_, rfl, lf, ps, (pairsL n R).map zP, 2, rfl, h2, ?_, ?_, by rw [List.length_map]; exact hfw, hri, fun l hl => ?_⟩
        · exact prs_z hP
        · intro r hr'
          obtain ⟨p, hp, rfl⟩ := List.mem_map.mp hr'
          rw [pairs_parts ok hRl h6] at hp
          unfold partsK at hp
          obtain ⟨r, hr, hp⟩ := List.mem_flatMap.mp hp
          unfold rowK at hp
          obtain ⟨c, hc, rfl⟩ := List.mem_map.mp hp
          have hc := (List.mem_filter.mp hc).1
          unfold zP
          exact ⟨(toZ_len _).trans (rp_pick h6 (by omega) hr).len, (toZ_len _).trans (rp_pick h6 (by omega) hc).len⟩
        · have sN : Same H2 (upd H2 l (.lst (ps.map V.ref))) := Same.new hl
          have hl0 : H l = none := by
            by_cases z : l = lf
            · rw [z]; exact hlf
            · cases e : H l with
              | none => rfl
              | some o =>
                have := k2 _ _ z (s1 _ _ e)
                rw [hl] at this
                cases this
          exact q l _ hl0 (fun b o e => sN _ _ (k2 _ _ (ne_of_none e hlf) (s1 _ _ e))) ⟨ps, upd_same, by rw [hP.length]; omega, Paired.mapP hP fun _ _ z => z.up fun _ _ e => sN _ _ e⟩
end
end My

namespace My
open PySem L2
theorem none_all (l : List Nat) : l.filterMap (fun _ : Nat => (none : Option V)) = [] := by
  induction l with
  | nil => rfl
  | cons a l ih => rw [List.filterMap_cons, ih]
section
variable {K : PySem.W.Frag}
theorem eqd_ints {H : Hp} {a b : Addr} {l : List Int} (ha : H a = some (.tup (l.map V.int))) (hb : H b = some (.tup (l.map V.int))) : EqD K H 1 (.ref a) (.ref b) true := (eqd_tup (SqT.of ha) (SqT.of hb) (map_ints_flat l) (map_ints_flat l)).cast (eqVs_refl (map_ints_flat l))
theorem eqd_pr {H : Hp} {a b : Addr} {p : List Nat × List Nat} (x : IsPr H a p) (y : IsPr H b p) : EqD K H 2 (.ref a) (.ref b) true := by
  obtain ⟨a1, a2, h1, h2, h3⟩ := x
  obtain ⟨b1, b2, g1, g2, g3⟩ := y
  refine eqd_tupS (SqT.of h1) (SqT.of g1) rfl fun j u v e1 e2 => ?_
  match j, e1, e2 with
  | 0, e1, e2 => cases e1; cases e2; exact eqd_ints h2 g2
  | 1, e1, e2 => cases e1; cases e2; exact eqd_ints h3 g3
theorem eq_PtL {H : Hp} {a b : Addr} {L : List (List Nat × List Nat)} (x : PtL H a L) (y : PtL H b L) : EqD K H 3 (.ref a) (.ref b) true := by
  obtain ⟨ps, h1, _, r1⟩ := x
  obtain ⟨qs, h2, _, r2⟩ := y
  refine eqd_lstS (SqL.of h1) (SqL.of h2) (by rw [List.length_map, List.length_map, r1.length, r2.length]) fun j u v e1 e2 => ?_
  rw [List.getElem?_map] at e1 e2
  cases h3 : ps[j]? with
  | none => rw [h3] at e1; cases e1
  | some p =>
    cases h4 : qs[j]? with
    | none => rw [h4] at e2; cases e2
    | some q =>
      rw [h3] at e1
      rw [h4] at e2
      cases e1
      cases e2
      obtain ⟨l, hl, hp⟩ := Paired.getL r1 h3
      obtain ⟨l', hl', hq⟩ := Paired.getL r2 h4
      rw [hl] at hl'
      cases hl'
      exact eqd_pr hp hq
end
section
variable {K : PySem.W.Frag}
theorem eq_TG33 {H : Hp} {a b : Addr} {R : List (List Int)} (x : TG H a R) (y : TG H b R) : EqD K H 2 (.ref a) (.ref b) true := by
  obtain ⟨ps, h1, r1⟩ := x
  obtain ⟨qs, h2, r2⟩ := y
  refine eqd_tupS (SqT.of h1) (SqT.of h2) (by rw [List.length_map, List.length_map, r1.length, r2.length]) fun j u v e1 e2 => ?_
  rw [List.getElem?_map] at e1 e2
  cases h3 : ps[j]? with
  | none => rw [h3] at e1; cases e1
  | some p =>
    cases h4 : qs[j]? with
    | none => rw [h4] at e2; cases e2
    | some q =>
      rw [h3] at e1
      rw [h4] at e2
      cases e1
      cases e2
      obtain ⟨l, hl, hp⟩ := Paired.getL r1 h3
      obtain ⟨l', hl', hq⟩ := Paired.getL r2 h4
      rw [hl] at hl'
      cases hl'
      exact (eqd_tup (SqT.of hp) (SqT.of hq) (map_ints_flat l) (map_ints_flat l)).cast (eqVs_refl (map_ints_flat l))
end

def innI (k : Int) : List (List Int) := [[k, 1 - k], [1 - k, k]]
theorem innI_ok : ∀ k : Int, (k = 0 ∨ k = 1) → OkRows 2 (innI k) ∧ (innI k).length = 2 := by
  intro k hk
  have e : innI k = mk 2 fun a b => if a = b then k else 1 - k := by
    rfl
  rw [e]
  refine mk_ok (fun a b ha hb => ?_) (fun a b c ha hb hc h => ?_) (fun a b c ha hb hc h => ?_)
  · show 0 ≤ (if a = b then k else 1 - k) ∧ (if a = b then k else 1 - k) < 2
    split <;> omega
  · have h : (if a = b then k else 1 - k) = (if a = c then k else 1 - k) := h
    split at h <;> split at h <;> omega
  · have h : (if a = c then k else 1 - k) = (if b = c then k else 1 - k) := h
    split at h <;> split at h <;> omega
theorem ring_ab {n a b : Nat} {s : Nat → Nat} (hn : 2 ≤ n) (e1 : s a = b) (e2 : s b = a) (hab : a ≠ b) : ringL s n a = [a, b] := by
  obtain ⟨m, rfl⟩ : ∃ m, n = m + 2 := ⟨n - 2, by omega⟩
  unfold ringL
  unfold ringF
  rw [show lastN [a] = a from rfl, e1, if_neg (Ne.symm hab)]
  unfold ringF
  rw [show lastN ([a] ++ [b]) = b from rfl, e2, if_pos rfl]
  rfl
theorem ts_ab {n : Nat} {R : List (List Int)} (ok : OkRows n R) (hl : R.length = n) {o1 o2 a b : Nat} (pr : Pick n 2 [o1, o2]) (pc : Pick n 2 [a, b]) (e1 : ent R o2 a = ent R o1 b) (e2 : ent R o2 b = ent R o1 a) (hw : ent R o1 a ≠ ent R o1 b) :
    tsL n R [o1, o2] [a, b] = if ent R o1 a < ent R o1 b then [ent R o1 a, ent R o1 b] else [ent R o1 b, ent R o1 a] := by
  have mem : ∀ t, t ∈ tsL n R [o1, o2] [a, b] ↔ t = ent R o1 a ∨ t = ent R o1 b := fun t => by
    rw [tsL_mem ok hl pr pc, show valsL R [o1, o2] [a, b] = [ent R o1 a, ent R o1 b, ent R o2 a, ent R o2 b] from rfl, e1, e2]
    simp only [List.mem_cons, List.not_mem_nil, or_false]
    constructor
    · rintro (h | h | h | h)
      · exact .inl h
      · exact .inr h
      · exact .inr h
      · exact .inl h
    · rintro (h | h)
      · exact .inl h
      · exact .inr (.inl h)
  split
  · next h =>
    refine sorted_uniq ((List.perm_ext_iff_of_nodup tsL_nd (by simp [hw])).mpr fun t => ?_) tsL_le (List.pairwise_pair.mpr (by omega))
    rw [mem]
    simp
  · next h =>
    refine sorted_uniq ((List.perm_ext_iff_of_nodup tsL_nd (by simp [hw.symm])).mpr fun t => ?_) tsL_le (List.pairwise_pair.mpr (by omega))
    rw [mem]
    simp only [List.mem_cons, List.not_mem_nil, or_false]
    exact Or.comm
/-- the other square of two put in is the exchange along the ring -/
theorem put_ring {n : Nat} {R : List (List Int)} (ok : OkRows n R) (hl : R.length = n) (h6 : n ≤ 6) {o1 o2 a b : Nat} (pr : Pick n 2 [o1, o2]) (pc : Pick n 2 [a, b]) (hcnt : cntT n (valsL R [o1, o2] [a, b]) = 2) {k : Int} (hk : k = if ent R o1 a < ent R o1 b then 1 else 0) :
    mk n (putF R [o1, o2] [a, b] (tsL n R [o1, o2] [a, b]) (innI k)) = exSq n R o1 o2 (ringL (stp (R.getD o1 []) (R.getD o2 [])) n a) := by
  have h1 := pr.lt o1 (by simp)
  have h2 := pr.lt o2 (by simp)
  have ha := pc.lt a (by simp)
  have hb := pc.lt b (by simp)
  have hne : o1 ≠ o2 := fun z => by have := pr.nd; rw [z] at this; simp at this
  have hab : a ≠ b := fun z => by have := pc.nd; rw [z] at this; simp at this
  obtain ⟨e1, e2⟩ := (cnt_pair ok hl h1 h2 hne ha hb hab).mpr hcnt
  have hw : ent R o1 a ≠ ent R o1 b := fun e => hab ((ent_row ok hl h1).inj ha hb e)
  have so := stp_one (ent_row ok hl h1) (ent_row ok hl h2)
  have ra := ent_row ok hl h1
  have g1 := ra.inj (so.lt a ha) hb ((ent_stp ok hl h1 h2 ha).trans e1)
  have g2 := ra.inj (so.lt b hb) ha ((ent_stp ok hl h1 h2 hb).trans e2)
  rw [ring_ab (by omega) g1 g2 hab, ts_ab ok hl pr pc e1 e2 hw]
  unfold exSq
  refine mk_congr fun i j hi hj => ?_
  have i1 : [o1, o2].idxOf o1 = 0 := by simp
  have i2 : [o1, o2].idxOf o2 = 1 := ix_of (l := [o1, o2]) (a := 1) pr.nd (by simp)
  have j1 : [a, b].idxOf a = 0 := by simp
  have j2 : [a, b].idxOf b = 1 := ix_of (l := [a, b]) (a := 1) pc.nd (by simp)
  by_cases h : i ∈ [o1, o2] ∧ j ∈ [a, b]
  · rw [putF_in h.1 h.2]
    obtain ⟨hi', hj'⟩ := h
    have oth : other o1 o2 [a, b] i j = o1 + o2 - i := by
      unfold other
      rw [if_pos ⟨hj', by simpa using hi'⟩]
    rw [oth]
    have hi2 : i = o1 ∨ i = o2 := by simpa using hi'
    have hj2 : j = a ∨ j = b := by simpa using hj'
    by_cases hlt : ent R o1 a < ent R o1 b
    · rw [if_pos hlt] at hk
      subst hk
      rw [if_pos hlt]
      rcases hi2 with rfl | rfl
      · rw [i1, show i + o2 - i = o2 by omega]
        rcases hj2 with rfl | rfl
        · rw [j1]; exact e1.symm
        · rw [j2]; exact e2.symm
      · rw [i2, show o1 + i - i = o1 by omega]
        rcases hj2 with rfl | rfl
        · rw [j1]; rfl
        · rw [j2]; rfl
    · rw [if_neg hlt] at hk
      subst hk
      rw [if_neg hlt]
      rcases hi2 with rfl | rfl
      · rw [i1, show i + o2 - i = o2 by omega]
        rcases hj2 with rfl | rfl
        · rw [j1]; exact e1.symm
        · rw [j2]; exact e2.symm
      · rw [i2, show o1 + i - i = o1 by omega]
        rcases hj2 with rfl | rfl
        · rw [j1]; rfl
        · rw [j2]; rfl
  · rw [putF_out h]
    have : other o1 o2 [a, b] i j = i := by
      unfold other
      rw [if_neg fun z => h ⟨by simpa using z.2, z.1⟩]
    rw [this]
theorem parts_two {n : Nat} {R : List (List Int)} (ok : OkRows n R) (hl : R.length = n) (h6 : n ≤ 6) (h2 : n ≠ 2) : (partsL n R).filter (fun p => decide (p.1.length = 2)) = partsK n R 2 := by
  rw [← parts_due ok hl h6]
  have kk : ∀ k, k ≤ 6 → ∀ p ∈ partsK n R k, p.1.length = k := fun k hk p hp => by
    unfold partsK at hp
    obtain ⟨r, hr, hp⟩ := List.mem_flatMap.mp hp
    unfold rowK at hp
    obtain ⟨c, _, rfl⟩ := List.mem_map.mp hp
    exact (rp_pick h6 hk hr).len
  by_cases h3 : 3 ≤ n
  · unfold dueL
    obtain ⟨m, hm⟩ : ∃ m, n - 2 = m + 1 := ⟨n - 3, by omega⟩
    rw [hm, List.range'_succ, List.flatMap_cons, List.filter_append]
    have e1 : (partsK n R 2).filter (fun p => decide (p.1.length = 2)) = partsK n R 2 := List.filter_eq_self.mpr fun p hp => decide_eq_true (kk 2 (by omega) p hp)
    have e2 : ((List.range' (2 + 1) m).flatMap (partsK n R)).filter (fun p => decide (p.1.length = 2)) = [] := List.filter_eq_nil_iff.mpr fun p hp => by
      obtain ⟨k, hk, hp⟩ := List.mem_flatMap.mp hp
      have hk' := List.mem_range'_1.mp hk
      have := kk k (by omega) p hp
      rw [decide_eq_true_eq]
      omega
    rw [e1, e2, List.append_nil]
  · have : n = 0 ∨ n = 1 := by omega
    rcases this with rfl | rfl <;> rfl
theorem pairs_two {R : List (List Int)} (ok : OkRows 2 R) (hl : R.length = 2) : pairsL 2 R = [([0, 1], [0, 1])] := by
  rw [pairs_parts ok hl (by omega)]
  have c : cntT 2 (valsL R [0, 1] [0, 1]) = 2 := by
    rw [← cnt_pair ok hl (by omega) (by omega) (by omega) (by omega) (by omega) (by omega)]
    have v1 := ent_rg ok hl (i := 0) (j := 0) (by omega) (by omega)
    have v2 := ent_rg ok hl (i := 0) (j := 1) (by omega) (by omega)
    have v3 := ent_rg ok hl (i := 1) (j := 0) (by omega) (by omega)
    have v4 := ent_rg ok hl (i := 1) (j := 1) (by omega) (by omega)
    have w1 : ent R 0 0 ≠ ent R 0 1 := fun e => by have := (ent_row ok hl (show 0 < 2 by omega)).inj (show 0 < 2 by omega) (show 1 < 2 by omega) e; omega
    have w2 : ent R 0 0 ≠ ent R 1 0 := fun e => by have := ent_col ok hl (show 0 < 2 by omega) (show 1 < 2 by omega) (show 0 < 2 by omega) e; omega
    have w3 : ent R 0 1 ≠ ent R 1 1 := fun e => by have := ent_col ok hl (show 0 < 2 by omega) (show 1 < 2 by omega) (show 1 < 2 by omega) e; omega
    constructor <;> omega
  show rowK 2 R 2 [0, 1] ++ [] = _
  unfold rowK
  show (([[0, 1]] : List (List Nat)).filter fun c => decide (cntT 2 (valsL R [0, 1] c) = 2)).map _ ++ [] = _
  rw [List.filter_cons, if_pos (decide_eq_true c)]
  rfl
end My

namespace My
open PySem L2
def spLaw (K : PySem.W.Frag) : Sp := fun vs H Q _ => ∃ (a : Addr) (ns : List Int), vs = [.ref a] ∧ SqL K H a (ns.map V.int) ∧ ns.length ≤ 63 ∧ ∀ H', Q (.bl true) H'
structure Defs (P : Program) (w : World) (K : PySem.W.Frag) (mg : Str → Option Value) (base : Heap) (fM fP fA fI fX : Addr) (dM dP dA dI dX : FuncData) : Prop where
  T : Blt mg
  M : Dfn K mg "_law_made" sMade ["_law_script"] fM dM
  Pt : Dfn K mg "parts" sParts ["square"] fP dP
  A : Dfn K mg "_law_pairs" sPairs ["_law_square_here"] fA dA
  I : Dfn K mg "put_in" sPutIn ["square", "rows", "columns", "inner"] fI dI
  X : Dfn K mg "exchanged" sExP ["square", "one", "other", "column"] fX dX
  GM : FnOk P w K mg base CX0 11 fM dM ["_law_script"] (spMade K)
  GP : FnOk P w K mg base CX0 11 fP dP ["square"] spParts
  GA : FnOk P w K mg base CX0 11 fA dA ["_law_square_here"] spPairs
  GI : FnOk P w K mg base CX0 11 fI dI ["square", "rows", "columns", "inner"] spPutIn
  GX : FnOk P w K mg base CX0 11 fX dX ["square", "one", "other", "column"] spEx
section
variable {P : Program} {w : World} {K : PySem.W.Frag} {mg : Str → Option Value} {base : Heap} {fM fP fA fI fX : Addr} {dM dP dA dI dX : FuncData}
theorem scLaw : FnScope ["_law_script", "_law_square_here", "_law_some", "_law_pairs_here", "_law_rows", "_law_columns", "_law_low", "_law_k", "_law_inner"] ["_law_script"] (defScope sLaw) := ⟨rfl, rfl, rfl, by decide +kernel, rfl, by decide +kernel, by decide +kernel⟩
set_option maxHeartbeats 4000000 in
theorem ok_law {f : Addr} {fd : FuncData} (F : Fun K "law" "law" sLaw f fd) (Z : Defs P w K mg base fM fP fA fI fX dM dP dA dI dX) : FnOk P w K mg base CX0 12 f fd ["_law_script"] (spLaw K) := by
  have T := Z.T
  have GM := Z.GM
  have GP := Z.GP
  have GA := Z.GA
  have GI := Z.GI
  have GX := Z.GX
  refine F.ok scLaw (fun vs H Q E h => ?_) (fun cdv A outer s H vs Q E hr h => ?_)
  · obtain ⟨_, _, rfl, _⟩ := h
    rfl
  · obtain ⟨a, ns, rfl, hS, hnl, k⟩ := h
    have hu : ((A.deeper (PyProof.Rows.envOfC "law" (defScope sLaw) s.heap.objs.size f cdv))).units + 3 < cLine := by have := hr.un; omega
    have hu2 : ((A.deeper (PyProof.Rows.envOfC "law" (defScope sLaw) s.heap.objs.size f cdv))).units + 2 < cLine := by have := hr.un; omega
    have hu0 : ((A.deeper (PyProof.Rows.envOfC "law" (defScope sLaw) s.heap.objs.size f cdv))).units < cLine := by have := hr.un; omega
    refine' ⟨_, pss_cons ?s0 (pss_cons ?s1 (pss_cons ?s2 (pss_cons (ps_if ?c0 (pss_one (ps_ret pe_bl)) pss_nil) (pss_cons (ps_if ?c1 (pss_one (ps_ret (pe_and ?r0 (pe_one ?r1)))) pss_nil) (pss_cons (ps_if ?c2 (pss_one (ps_ret pe_bl)) pss_nil) (pss_cons (ps_for PassesOwn.never rfl (pi_list (pv 3)) ?g (pss_cons ?b0 (pss_cons ?b1 (pss_cons ?b2 (pss_one (ps_if ?c3 (pss_one (ps_ret pe_bl)) pss_nil)))))) (pss_one (ps_ret pe_bl)))))))), ?rd⟩
    case s0 => exact ps_set (i := 1) scLaw.nd rfl (Or.inr rfl) (pe_call GM hr rfl Z.M.m Z.M.F.kp Z.M.b .nil pass0 (pa_cons (pv 0) pa_nil))
    case s1 => exact ps_set (i := 2) scLaw.nd rfl (Or.inl rfl) (pe_call GP hr rfl Z.Pt.m Z.Pt.F.kp Z.Pt.b .nil pass0 (pa_cons (pv 1) pa_nil))
    case s2 => exact ps_set (i := 3) scLaw.nd rfl (Or.inl rfl) (pe_call GA hr rfl Z.A.m Z.A.F.kp Z.A.b .nil pass0 (pa_cons (pv 1) pa_nil))
    case c0 => exact pt_cmpR (op_neL hu0 K) (pe_lc ["_law_rows", "_law_columns", "_law_square_here"] [none, none, some 1] rfl rfl (pi_listK K (pv 2)) (fun _ _ _ _ _ => pg_tupK (n := 2) K rfl (pgs_cons (pg_c 0) (pgs_cons (pg_c 1) pgs_nil))) (fun _ _ _ _ _ => pts_one (pt_cmpR op_gt (pe_op op_mul pe_int (pe_callB (call_lenK K) rfl T.len PySem.boot_len (pa_cons (pv 0) pa_nil))) (pe_callB (call_lenK K) rfl T.len PySem.boot_len (pa_cons (pv 2) pa_nil)) (nomark _))) (fun _ _ _ _ _ => pv 0)) (pe_lst pa_nil) (nomark _)
    case c1 => exact pt_cmpR op_eq (pe_callB (call_lenK K) rfl T.len PySem.boot_len (pa_cons (pv 1) pa_nil)) pe_int (nomark _)
    case r0 => exact pe_cmpR (op_eqL hu0 K) (pv 2) (pe_lst pa_nil) (nomark _)
    case r1 => exact pe_cmpR (op_eqD (d := 3) hu K) (pv 3) (pe_lst (pa_cons (pe_tup (pa_cons (pe_tup (pa_cons pe_int (pa_cons pe_int pa_nil))) (pa_cons (pe_tup (pa_cons pe_int (pa_cons pe_int pa_nil))) pa_nil))) pa_nil)) (nomark _)
    case c2 => exact pt_cmpR (op_neD (d := 3) hu K) (pe_lc ["_law_part"] [none] rfl rfl (pi_listK K (pv 2)) (fun _ _ _ _ _ => pg_c 0) (fun _ _ _ _ _ => pts_one (pt_cmpR op_eq (pe_callB (call_lenK K) rfl T.len PySem.boot_len (pa_cons (pe_ix (ix_tupK K) (pv 0) pe_int (fun _ _ => rfl)) pa_nil)) pe_int (nomark _))) (fun _ _ _ _ _ => pv 0)) (pv 3) (nomark _)
    case g => exact pg_tup rfl (pgs_cons (pg_name (i := 4) scLaw.nd rfl (Or.inl rfl)) (pgs_cons (pg_name (i := 5) scLaw.nd rfl (Or.inl rfl)) pgs_nil))
    case b0 => exact ps_set (i := 6) scLaw.nd rfl (Or.inl rfl) (pe_callB (call_min2 rfl) rfl T.min PyProof.Rows.boot_min (pa_cons (pe_ix ix_tup (pe_ix ix_tup (pv 1) (pe_ix ix_tup (pv 4) pe_int (fun _ _ => rfl)) (fun _ _ => rfl)) (pe_ix ix_tup (pv 5) pe_int (fun _ _ => rfl)) (fun _ _ => rfl)) (pa_cons (pe_ix ix_tup (pe_ix ix_tup (pv 1) (pe_ix ix_tup (pv 4) pe_int (fun _ _ => rfl)) (fun _ _ => rfl)) (pe_ix ix_tup (pv 5) pe_int (fun _ _ => rfl)) (fun _ _ => rfl)) pa_nil)))
    case b1 => exact ps_set (i := 7) scLaw.nd rfl (Or.inl rfl) (pe_callTy call_int1 rfl T.int bt_int (pa_cons (pe_cmpR op_eq (pe_ix ix_tup (pe_ix ix_tup (pv 1) (pe_ix ix_tup (pv 4) pe_int (fun _ _ => rfl)) (fun _ _ => rfl)) (pe_ix ix_tup (pv 5) pe_int (fun _ _ => rfl)) (fun _ _ => rfl)) (pv 6) (nomark _)) pa_nil))
    case b2 => exact ps_set (i := 8) scLaw.nd rfl (Or.inl rfl) (pe_tup (pa_cons (pe_tup (pa_cons (pv 7) (pa_cons (pe_op op_sub pe_int (pv 7)) pa_nil))) (pa_cons (pe_tup (pa_cons (pe_op op_sub pe_int (pv 7)) (pa_cons (pv 7) pa_nil))) pa_nil)))
    case c3 => exact pt_cmpR (op_neD (d := 2) hu2 K) (pe_call GI hr rfl Z.I.m Z.I.F.kp Z.I.b .nil pass0 (pa_cons (pv 1) (pa_cons (pv 4) (pa_cons (pv 5) (pa_cons (pv 8) pa_nil))))) (pe_call GX hr rfl Z.X.m Z.X.F.kp Z.X.b .nil pass0 (pa_cons (pv 1) (pa_cons (pe_ix ix_tup (pv 4) pe_int (fun _ _ => rfl)) (pa_cons (pe_ix ix_tup (pv 4) pe_int (fun _ _ => rfl)) (pa_cons (pe_ix ix_tup (pv 5) pe_int (fun _ _ => rfl)) pa_nil))))) (nomark _)
    case rd =>
      refine ⟨_, rfl, a, ns, rfl, hS, fun g n R H1 s1 hT ok hRl h6 => ?_⟩
      refine ⟨_, rfl, g, n, R, rfl, hT, ok, hRl, h6, fun lf HB hlf sB hF => ?_⟩
      have hTB := hT.same sB
      refine ⟨_, rfl, g, n, R, rfl, hTB, ok, hRl, h6, fun lp HC hlp sC hD => ?_⟩
      have hTC := hTB.same sC
      have hFC := hF.same sC
      obtain ⟨ps, hps, hpl, hPs⟩ := id hFC
      have half := parts_half (R := R) h6
      obtain ⟨gs, hg, hG⟩ := id hTC
      have hgl : (gs.map V.ref).length = n := by rw [List.length_map, hG.length, hRl]
      refine ⟨_, rfl, lf, rfl, ⟨_, SqL.of hps⟩, fun lb hlb => comp_pure (fun _ => none) (fun σ => ∃ v0 v1, σ = [v0, v1, some (.ref g)]) (wlk_list (xs := ps.map V.ref)) (by rw [List.length_map]; exact Nat.le_of_lt (few (by omega))) hlb (fun H' sm => SqL.of (sm _ _ hps)) ⟨none, none, rfl⟩ ?_ ?_⟩
      · rintro j x σ H' R' hj ⟨v0, v1, rfl⟩ sm' kk
        rw [List.getElem?_map] at hj
        cases hpj : ps[j]? with
        | none => rw [hpj] at hj; cases hj
        | some p =>
          rw [hpj] at hj
          cases hj
          obtain ⟨l, hl, hp⟩ := Paired.getL hPs hpj
          obtain ⟨pa, pb, q1, q2, q3⟩ := hp.up fun _ _ e => sm' _ _ e
          have hh := half l (List.mem_of_getElem? hl)
          refine ⟨p, _, rfl, SqT.of q1, rfl, _, _, rfl, _, _, rfl, rfl, ?_⟩
          refine ⟨_, rfl, pa, _, rfl, .inr (SqT.of q2), ?_⟩
          rw [List.length_map, toZ_len]
          refine ⟨_, _, rfl, rfl, .inl ⟨by omega, by omega⟩, ?_⟩
          refine ⟨_, rfl, _, _, rfl, .inr (SqT.of (sm' _ _ hg)), ?_⟩
          refine ⟨_, _, rfl, rfl, _, rfl, ?_⟩
          rw [hgl, decide_eq_false (by omega)]
          exact iteF (kk _ _ ⟨_, _, rfl⟩ (Same.refl _))
      intro HE sE hlbE
      rw [none_all] at hlbE
      refine ⟨Nat.zero_le _, fun le hle => ⟨lb, le, [], [], rfl, rfl, SqL.of ((Same.new hle) _ _ hlbE), SqL.of upd_same, .inl ⟨rfl, rfl⟩, _, rfl, iteF ?_⟩⟩
      have sG : Same HC (upd HE le (.lst [])) := sE.trans (Same.new hle)
      generalize upd HE le (.lst []) = HG at sG ⊢
      have hgG := sG _ _ hg
      have hTG := hTC.same sG
      have hpsG := sG _ _ hps
      have hPsG : Paired (IsPr HG) ps _ := Paired.mapP hPs fun _ _ z => z.up fun _ _ e => sG _ _ e
      have hDG := hD.same sG
      refine ⟨_, rfl, g, _, rfl, .inr (SqT.of hgG), rfl, _, rfl, ?_⟩
      rw [hgl]
      refine ite2 (fun hd => ?_) (fun hd => ?_)
      · have e2 : n = 2 := by
          have e := of_decide_eq_true hd
          injection e with e
          omega
        subst e2
        have hps0 : ps = [] := List.length_eq_zero_iff.mp (by rw [hPsG.length]; rfl)
        rw [hps0] at hpsG
        refine ⟨_, rfl, Nat.zero_le _, fun l0 hl0 => ?_⟩
        have s0 : Same HG (upd HG l0 (.lst [])) := Same.new hl0
        refine ⟨lf, l0, [], [], rfl, rfl, SqL.of (s0 _ _ hpsG), SqL.of upd_same, .inl ⟨rfl, rfl⟩, _, rfl, iteT ?_⟩
        have hD0 := hDG.same s0
        generalize upd HG l0 (.lst []) = HI at hD0 ⊢
        refine ⟨_, rfl, (show 2 ≤ sizeLine from small6 (by decide)), fun t1 ht1 => ⟨(show 2 ≤ sizeLine from small6 (by decide)), fun t2 ht2 => ⟨(show 2 ≤ sizeLine from small6 (by decide)), fun t3 ht3 => ⟨(show 1 ≤ sizeLine from small6 (by decide)), fun t4 ht4 => ?_⟩⟩⟩⟩
        have m1 : Same HI (upd HI t1 (.tup [.int 0, .int 1])) := Same.new ht1
        have m2 : Same (upd HI t1 (.tup [.int 0, .int 1])) (upd (upd HI t1 (.tup [.int 0, .int 1])) t2 (.tup [.int 0, .int 1])) := Same.new ht2
        have m3 : Same (upd (upd HI t1 (.tup [.int 0, .int 1])) t2 (.tup [.int 0, .int 1])) (upd (upd (upd HI t1 (.tup [.int 0, .int 1])) t2 (.tup [.int 0, .int 1])) t3 (.tup [.ref t1, .ref t2])) := Same.new ht3
        have m4 : Same (upd (upd (upd HI t1 (.tup [.int 0, .int 1])) t2 (.tup [.int 0, .int 1])) t3 (.tup [.ref t1, .ref t2])) (upd (upd (upd (upd HI t1 (.tup [.int 0, .int 1])) t2 (.tup [.int 0, .int 1])) t3 (.tup [.ref t1, .ref t2])) t4 (.lst [.ref t3])) := Same.new ht4
        have hnew : PtL (upd (upd (upd (upd HI t1 (.tup [.int 0, .int 1])) t2 (.tup [.int 0, .int 1])) t3 (.tup [.ref t1, .ref t2])) t4 (.lst [.ref t3])) t4 [([0, 1], [0, 1])] :=
          ⟨[t3], upd_same, by simp, .cons ⟨t1, t2, m4 _ _ upd_same, (m2.trans (m3.trans m4)) _ _ upd_same, (m3.trans m4) _ _ upd_same⟩ .nil⟩
        have hold := hD0.same (m1.trans (m2.trans (m3.trans m4)))
        rw [pairs_two ok hRl] at hold
        exact ⟨true, eq_PtL hold hnew, k _⟩
      · have hn2 : n ≠ 2 := fun e => hd (decide_eq_true (by rw [e]; rfl))
        refine ⟨_, rfl, lf, rfl, ⟨_, SqL.of hpsG⟩, fun lc hlc => ?_⟩
        refine comp_of (wlk_list (xs := ps.map V.ref)) (fun m ys σ H' => ∃ (v : Option V) (fs : List Addr), σ = [v] ∧ ys = fs.map V.ref ∧ fs.length ≤ m ∧ Same HG H' ∧ H' lc = some (.lst ys) ∧ Paired (IsPr H') fs (((partsL n R).take m).filter fun p => decide (p.1.length = 2)))
          ⟨none, [], rfl, rfl, Nat.le_refl _, Same.new hlc, upd_same, by simpa using Paired.nil⟩ (fun m ys σ H' ⟨_, _, _, _, _, s', h', _⟩ => ⟨SqL.of (s' _ _ hpsG), h'⟩) ?_ ?_
        · rintro m x ys σ H5 hx ⟨v, fs, rfl, rfl, hfl, s5, h5, hFs⟩
          rw [List.getElem?_map] at hx
          cases hpm : ps[m]? with
          | none => rw [hpm] at hx; cases hx
          | some p =>
          rw [hpm] at hx
          cases hx
          obtain ⟨l, hl, hp⟩ := Paired.getL hPsG hpm
          have hp5 := hp.up fun _ _ e => s5 _ _ e
          obtain ⟨pa, pb, q1, q2, q3⟩ := id hp5
          have hml : m < ps.length := (List.getElem?_eq_some_iff.mp hpm).1
          have et : (partsL n R).take (m + 1) = (partsL n R).take m ++ [l] := by rw [List.take_add_one, hl]; rfl
          refine ⟨_, rfl, p, _, _, .ref pa, rfl, rfl, SqT.of q1, rfl, pa, _, rfl, .inr (SqT.of q2), rfl, _, rfl, ?_⟩
          rw [show ((toZ l.1).map V.int).length = l.1.length from (List.length_map _).trans (toZ_len _)]
          refine ite2 (fun hd2 => ?_) (fun hd2 => ?_)
          · have e : l.1.length = 2 := by
              have e := of_decide_eq_true hd2
              injection e with e
              omega
            refine ⟨_, rfl, h5, by rw [List.length_map]; exact few (by omega), _, fs ++ [p], rfl, by rw [List.map_append]; rfl, by rw [List.length_append]; exact Nat.succ_le_succ hfl, fun b u e => ?_, upd_same, ?_⟩
            · rw [upd_ne (ne_of_none e hlc)]
              exact s5 _ _ e
            · rw [et, List.filter_append, show [l].filter (fun p => decide (p.1.length = 2)) = [l] by simp [e]]
              exact Paired.snoc (Paired.mapP hFs fun _ _ z => z.up fun _ _ e => up_lst h5 _ _ e) (hp5.up fun _ _ e => up_lst h5 _ _ e)
          · have e : ¬ l.1.length = 2 := fun e => hd2 (by rw [e]; exact decide_eq_true rfl)
            refine ⟨_, fs, rfl, rfl, by omega, s5, h5, ?_⟩
            rw [et, List.filter_append, show [l].filter (fun p => decide (p.1.length = 2)) = [] by simp [e], List.append_nil]
            exact hFs
        rintro ys σ H5 ⟨v, fs, rfl, rfl, hfl, s5, h5, hFs⟩
        rw [List.length_map] at hfl hFs
        rw [List.take_of_length_le (by rw [hPsG.length]; exact Nat.le_refl _), parts_two ok hRl h6 hn2, ← pairs_parts ok hRl h6] at hFs
        have hD5 := hDG.same s5
        refine ⟨_, rfl, true, eq_PtL ⟨fs, h5, by omega, hFs⟩ hD5, _, rfl, iteF ?_⟩
        have hT5 := hTG.same s5
        obtain ⟨qs, hq, hqb, hQ⟩ := hD5
        refine ⟨_, rfl, lp, rfl, ⟨_, SqL.of hq⟩, for_list (xs := qs.map V.ref) (fun i σ H6 => ∃ (v4 v5 v6 v7 v8 : Option V), σ = [some (.ref a), some (.ref g), some (.ref lf), some (.ref lp), v4, v5, v6, v7, v8] ∧ Same H5 H6) ⟨none, none, none, none, none, rfl, Same.refl _⟩ (fun i σ H6 _ ⟨_, _, _, _, _, _, s6⟩ => SqL.of (s6 _ _ hq)) ?_ (fun σ H6 _ => k H6)⟩
        rintro i x σ H6 hx ⟨v4, v5, v6, v7, v8, rfl, s6⟩
        rw [List.getElem?_map] at hx
        cases hqi : qs[i]? with
        | none => rw [hqi] at hx; cases hx
        | some pq =>
        rw [hqi] at hx
        cases hx
        obtain ⟨⟨r, c⟩, hrc, hp⟩ := Paired.getL hQ hqi
        obtain ⟨pa, pb, q1, q2, q3⟩ := hp.up fun _ _ e => s6 _ _ e
        have hm := List.mem_of_getElem? hrc
        rw [pairs_parts ok hRl h6] at hm
        unfold partsK at hm
        obtain ⟨r', hr2, hm⟩ := List.mem_flatMap.mp hm
        unfold rowK at hm
        obtain ⟨c', hcf, em⟩ := List.mem_map.mp hm
        obtain ⟨hc2, hcnt0⟩ := List.mem_filter.mp hcf
        have hcnt := of_decide_eq_true hcnt0
        cases em
        have pkr := rp_pick h6 (by omega) hr2
        have pkc := rp_pick h6 (by omega) hc2
        obtain ⟨er, hlr⟩ := rp2_two n (by omega) r hr2
        obtain ⟨ec, hlc'⟩ := rp2_two n (by omega) c hc2
        generalize r.getD 0 0 = o1 at er hlr
        generalize r.getD 1 0 = o2 at er hlr
        generalize c.getD 0 0 = ca at ec hlc'
        generalize c.getD 1 0 = cb at ec hlc'
        subst er
        subst ec
        have h1 := pkr.lt o1 (by simp)
        have h2 := pkr.lt o2 (by simp)
        have hca := pkc.lt ca (by simp)
        have hcb := pkc.lt cb (by simp)
        have q2 : H6 pa = some (.tup [.int (o1 : Int), .int (o2 : Int)]) := q2
        have q3 : H6 pb = some (.tup [.int (ca : Int), .int (cb : Int)]) := q3
        have hT6 := hT5.same s6
        obtain ⟨xg, pg, a1, a2, a3, a4⟩ := hT6.at (k := o1) (by omega)
        have lrow := (ok.rowAt (k := o1) (by omega)).len
        have atA : atI ((R.getD o1 []).map V.int) (ca : Int) = some (.int (ent R o1 ca)) := int_at (by omega)
        have atB : atI ((R.getD o1 []).map V.int) (cb : Int) = some (.int (ent R o1 cb)) := int_at (by omega)
        have hw : ent R o1 ca ≠ ent R o1 cb := fun e => by have := (ent_row ok hRl h1).inj hca hcb e; omega
        refine ⟨pq, _, rfl, SqT.of q1, rfl, _, _, rfl, _, _, rfl, rfl, ?_⟩
        refine ⟨_, rfl, _, rfl, pa, _, _, .int (o1 : Int), rfl, rfl, SqT.of q2, rfl, g, _, _, _, rfl, rfl, SqT.of a1, a3, _, rfl, pb, _, _, .int (ca : Int), rfl, rfl, SqT.of q3, rfl, pg, _, _, _, rfl, rfl, SqT.of a4, atA, ?_⟩
        refine ⟨_, rfl, _, rfl, pa, _, _, .int (o1 : Int), rfl, rfl, SqT.of q2, rfl, g, _, _, _, rfl, rfl, SqT.of a1, a3, _, rfl, pb, _, _, .int (cb : Int), rfl, rfl, SqT.of q3, rfl, pg, _, _, _, rfl, rfl, SqT.of a4, atB, ?_⟩
        refine ⟨_, _, rfl, ?_⟩
        refine ⟨_, rfl, _, rfl, pa, _, _, .int (o1 : Int), rfl, rfl, SqT.of q2, rfl, g, _, _, _, rfl, rfl, SqT.of a1, a3, _, rfl, pb, _, _, .int (ca : Int), rfl, rfl, SqT.of q3, rfl, pg, _, _, _, rfl, rfl, SqT.of a4, atA, ?_⟩
        refine ⟨_, rfl, rfl, .inr ⟨_, rfl, ?_⟩⟩
        have ek : (if decide (V.int (ent R o1 ca) = V.int (if ent R o1 cb < ent R o1 ca then ent R o1 cb else ent R o1 ca)) = true then (1 : Int) else 0) = (if ent R o1 ca < ent R o1 cb then 1 else 0) := by
          by_cases z : ent R o1 cb < ent R o1 ca
          · rw [if_pos z, decide_eq_false (fun e => hw (by injection e)), if_neg Bool.false_ne_true, if_neg (by omega)]
          · rw [if_neg z, decide_eq_true rfl, if_pos rfl, if_pos (by omega)]
        show gName 7 (V.int (if decide (V.int (ent R o1 ca) = V.int (if ent R o1 cb < ent R o1 ca then ent R o1 cb else ent R o1 ca)) = true then (1 : Int) else 0)) _ _ _
        rw [ek]
        generalize hki : (if ent R o1 ca < ent R o1 cb then (1 : Int) else 0) = ki
        have hk01 : ki = 0 ∨ ki = 1 := by
          rw [← hki]
          split
          · exact .inr rfl
          · exact .inl rfl
        obtain ⟨okI, hIl⟩ := innI_ok ki hk01
        refine ⟨_, rfl, _, rfl, _, _, rfl, rfl, (show 2 ≤ sizeLine from small6 (by decide)), fun t1 ht1 => ?_⟩
        have m1 : Same H6 (upd H6 t1 (.tup [.int ki, .int (1 - ki)])) := Same.new ht1
        refine ⟨_, rfl, _, _, rfl, rfl, _, rfl, (show 2 ≤ sizeLine from small6 (by decide)), fun t2 ht2 => ?_⟩
        have m2 : Same (upd H6 t1 (.tup [.int ki, .int (1 - ki)])) (upd (upd H6 t1 (.tup [.int ki, .int (1 - ki)])) t2 (.tup [.int (1 - ki), .int ki])) := Same.new ht2
        refine ⟨(show 2 ≤ sizeLine from small6 (by decide)), fun t3 ht3 => ?_⟩
        have m3 : Same (upd (upd H6 t1 (.tup [.int ki, .int (1 - ki)])) t2 (.tup [.int (1 - ki), .int ki])) (upd (upd (upd H6 t1 (.tup [.int ki, .int (1 - ki)])) t2 (.tup [.int (1 - ki), .int ki])) t3 (.tup [.ref t1, .ref t2])) := Same.new ht3
        have hTI : TG (upd (upd (upd H6 t1 (.tup [.int ki, .int (1 - ki)])) t2 (.tup [.int (1 - ki), .int ki])) t3 (.tup [.ref t1, .ref t2])) t3 (innI ki) :=
          ⟨[t1, t2], upd_same, .cons ((m2.trans m3) _ _ upd_same) (.cons (m3 _ _ upd_same) .nil)⟩
        have sM := m1.trans (m2.trans m3)
        generalize upd (upd (upd H6 t1 (.tup [.int ki, .int (1 - ki)])) t2 (.tup [.int (1 - ki), .int ki])) t3 (.tup [.ref t1, .ref t2]) = H7 at hTI sM ⊢
        have hT7 := hT6.same sM
        have q27 := sM _ _ q2
        have q37 := sM _ _ q3
        refine ⟨_, rfl, _, rfl, _, rfl, _, rfl, g, pa, pb, t3, n, 2, R, innI ki, [o1, o2], [ca, cb], rfl, hT7, ok, hRl, h6, by omega, by omega, q27, q37, hr2, hc2, hcnt, hTI, okI, hIl, fun tt H8 s8 hTt => ?_⟩
        rw [put_ring ok hRl h6 pkr pkc hcnt hki.symm] at hTt
        have hT8 := hT7.same s8
        refine ⟨_, rfl, _, rfl, pa, _, _, .int (o1 : Int), rfl, rfl, SqT.of (s8 _ _ q27), rfl, _, rfl, pa, _, _, .int (o2 : Int), rfl, rfl, SqT.of (s8 _ _ q27), rfl, _, rfl, pb, _, _, .int (ca : Int), rfl, rfl, SqT.of (s8 _ _ q37), rfl, g, n, o1, o2, ca, R, rfl, hT8, ok, hRl, by omega, h1, h2, by omega, hca, fun te H9 s9 hTe => ?_⟩
        refine ⟨true, eq_TG33 (hTt.same s9) hTe, _, rfl, iteF ?_⟩
        exact ⟨_, _, _, _, _, rfl, s6.trans (sM.trans (s8.trans s9))⟩
end
end My

namespace My
open PySem L2
theorem all_mk {l : PySem.W.OpenLaw} {w : World} {K : PySem.W.Frag} {h : Heap} {mg : Str → Option Value} {fa fWe fRP fTI fP fIK fIP fPI fRF fRG fTO fE fC fD fO fS fT fR fX fMd fPa fLaw : Addr}  (X : K.In h) (G : h.Ns mainGlobals mg) (hfa : mg "law" = some (.ref fa))
    {odWe anWe odRP anRP odTI anTI odP anP odIK anIK odIP anIP odPI anPI odRF anRF odRG anRG odTO anTO odE anE odC anC odD anD odO anO odS anS odT anT odR anR odX anX odMd anMd odPa anPa odLaw anLaw : Option Addr} {slWe slRP slTI slP slIK slIP slPI slRF slRG slTO slE slC slD slO slS slT slR slX slMd slPa slLaw : Array (Option Value)}
    {ocWe kVWe dcWe pmWe cdWe ctWe ocRP kVRP dcRP pmRP cdRP ctRP ocTI kVTI dcTI pmTI cdTI ctTI ocP kVP dcP pmP cdP ctP ocIK kVIK dcIK pmIK cdIK ctIK ocIP kVIP dcIP pmIP cdIP ctIP ocPI kVPI dcPI pmPI cdPI ctPI ocRF kVRF dcRF pmRF cdRF ctRF ocRG kVRG dcRG pmRG cdRG ctRG ocTO kVTO dcTO pmTO cdTO ctTO ocE kVE dcE pmE cdE ctE ocC kVC dcC pmC cdC ctC ocD kVD dcD pmD cdD ctD ocO kVO dcO pmO cdO ctO ocS kVS dcS pmS cdS ctS ocT kVT dcT pmT cdT ctT ocR kVR dcR pmR cdR ctR ocX kVX dcX pmX cdX ctX ocMd kVMd dcMd pmMd cdMd ctMd ocPa kVPa dcPa pmPa cdPa ctPa ocLaw kVLaw dcLaw pmLaw cdLaw ctLaw : Value}
    (aWe : PySem.W.nsIn K mainGlobals "with_entry" = some (some (.ref fWe))) (lWe : K.lookup fWe = some ⟨ocWe, odWe, .func (PySem.W.fnOf "with_entry" "with_entry" (defArgs sWith) (defBody sWith) (defScope sWith) .none kVWe dcWe pmWe anWe cdWe ctWe), slWe⟩) (cWe : PySem.W.codeIn K cdWe "with_entry" = true) (kWe : PySem.W.keepIn K (.ref fWe) = true)
    (aRP : PySem.W.nsIn K mainGlobals "rising_picks" = some (some (.ref fRP))) (lRP : K.lookup fRP = some ⟨ocRP, odRP, .func (PySem.W.fnOf "rising_picks" "rising_picks" (defArgs sRising) (defBody sRising) (defScope sRising) .none kVRP dcRP pmRP anRP cdRP ctRP), slRP⟩) (cRP : PySem.W.codeIn K cdRP "rising_picks" = true) (kRP : PySem.W.keepIn K (.ref fRP) = true)
    (aTI : PySem.W.nsIn K mainGlobals "things_in" = some (some (.ref fTI))) (lTI : K.lookup fTI = some ⟨ocTI, odTI, .func (PySem.W.fnOf "things_in" "things_in" (defArgs sThingsIn) (defBody sThingsIn) (defScope sThingsIn) .none kVTI dcTI pmTI anTI cdTI ctTI), slTI⟩) (cTI : PySem.W.codeIn K cdTI "things_in" = true) (kTI : PySem.W.keepIn K (.ref fTI) = true)
    (aP : PySem.W.nsIn K mainGlobals "parts" = some (some (.ref fP))) (lP : K.lookup fP = some ⟨ocP, odP, .func (PySem.W.fnOf "parts" "parts" (defArgs sParts) (defBody sParts) (defScope sParts) .none kVP dcP pmP anP cdP ctP), slP⟩) (cP : PySem.W.codeIn K cdP "parts" = true) (kP : PySem.W.keepIn K (.ref fP) = true)
    (aIK : PySem.W.nsIn K mainGlobals "is_pick" = some (some (.ref fIK))) (lIK : K.lookup fIK = some ⟨ocIK, odIK, .func (PySem.W.fnOf "is_pick" "is_pick" (defArgs sIsPick) (defBody sIsPick) (defScope sIsPick) .none kVIK dcIK pmIK anIK cdIK ctIK), slIK⟩) (cIK : PySem.W.codeIn K cdIK "is_pick" = true) (kIK : PySem.W.keepIn K (.ref fIK) = true)
    (aIP : PySem.W.nsIn K mainGlobals "is_part" = some (some (.ref fIP))) (lIP : K.lookup fIP = some ⟨ocIP, odIP, .func (PySem.W.fnOf "is_part" "is_part" (defArgs sIsPart) (defBody sIsPart) (defScope sIsPart) .none kVIP dcIP pmIP anIP cdIP ctIP), slIP⟩) (cIP : PySem.W.codeIn K cdIP "is_part" = true) (kIP : PySem.W.keepIn K (.ref fIP) = true)
    (aPI : PySem.W.nsIn K mainGlobals "put_in" = some (some (.ref fPI))) (lPI : K.lookup fPI = some ⟨ocPI, odPI, .func (PySem.W.fnOf "put_in" "put_in" (defArgs sPutIn) (defBody sPutIn) (defScope sPutIn) .none kVPI dcPI pmPI anPI cdPI ctPI), slPI⟩) (cPI : PySem.W.codeIn K cdPI "put_in" = true) (kPI : PySem.W.keepIn K (.ref fPI) = true)
    (aRF : PySem.W.nsIn K mainGlobals "ring_from" = some (some (.ref fRF))) (lRF : K.lookup fRF = some ⟨ocRF, odRF, .func (PySem.W.fnOf "ring_from" "ring_from" (defArgs sRingFrom) (defBody sRingFrom) (defScope sRingFrom) .none kVRF dcRF pmRF anRF cdRF ctRF), slRF⟩) (cRF : PySem.W.codeIn K cdRF "ring_from" = true) (kRF : PySem.W.keepIn K (.ref fRF) = true)
    (aRG : PySem.W.nsIn K mainGlobals "rings" = some (some (.ref fRG))) (lRG : K.lookup fRG = some ⟨ocRG, odRG, .func (PySem.W.fnOf "rings" "rings" (defArgs sRingsP) (defBody sRingsP) (defScope sRingsP) .none kVRG dcRG pmRG anRG cdRG ctRG), slRG⟩) (cRG : PySem.W.codeIn K cdRG "rings" = true) (kRG : PySem.W.keepIn K (.ref fRG) = true)
    (aTO : PySem.W.nsIn K mainGlobals "taken_over" = some (some (.ref fTO))) (lTO : K.lookup fTO = some ⟨ocTO, odTO, .func (PySem.W.fnOf "taken_over" "taken_over" (defArgs sTaken) (defBody sTaken) (defScope sTaken) .none kVTO dcTO pmTO anTO cdTO ctTO), slTO⟩) (cTO : PySem.W.codeIn K cdTO "taken_over" = true) (kTO : PySem.W.keepIn K (.ref fTO) = true)
    (aE : PySem.W.nsIn K mainGlobals "exchanged" = some (some (.ref fE))) (lE : K.lookup fE = some ⟨ocE, odE, .func (PySem.W.fnOf "exchanged" "exchanged" (defArgs sExP) (defBody sExP) (defScope sExP) .none kVE dcE pmE anE cdE ctE), slE⟩) (cE : PySem.W.codeIn K cdE "exchanged" = true) (kE : PySem.W.keepIn K (.ref fE) = true)
    (aC : PySem.W.nsIn K mainGlobals "_law_cell_at" = some (some (.ref fC))) (lC : K.lookup fC = some ⟨ocC, odC, .func (PySem.W.fnOf "_law_cell_at" "_law_cell_at" (defArgs sCell) (defBody sCell) (defScope sCell) .none kVC dcC pmC anC cdC ctC), slC⟩) (cC : PySem.W.codeIn K cdC "_law_cell_at" = true) (kC : PySem.W.keepIn K (.ref fC) = true)
    (aD : PySem.W.nsIn K mainGlobals "_law_digits" = some (some (.ref fD))) (lD : K.lookup fD = some ⟨ocD, odD, .func (PySem.W.fnOf "_law_digits" "_law_digits" (defArgs sDigits) (defBody sDigits) (defScope sDigits) .none kVD dcD pmD anD cdD ctD), slD⟩) (cD : PySem.W.codeIn K cdD "_law_digits" = true) (kD : PySem.W.keepIn K (.ref fD) = true)
    (aO : PySem.W.nsIn K mainGlobals "_law_row_on" = some (some (.ref fO))) (lO : K.lookup fO = some ⟨ocO, odO, .func (PySem.W.fnOf "_law_row_on" "_law_row_on" (defArgs sRowOn) (defBody sRowOn) (defScope sRowOn) .none kVO dcO pmO anO cdO ctO), slO⟩) (cO : PySem.W.codeIn K cdO "_law_row_on" = true) (kO : PySem.W.keepIn K (.ref fO) = true)
    (aS : PySem.W.nsIn K mainGlobals "_law_square" = some (some (.ref fS))) (lS : K.lookup fS = some ⟨ocS, odS, .func (PySem.W.fnOf "_law_square" "_law_square" (defArgs sSquare) (defBody sSquare) (defScope sSquare) .none kVS dcS pmS anS cdS ctS), slS⟩) (cS : PySem.W.codeIn K cdS "_law_square" = true) (kS : PySem.W.keepIn K (.ref fS) = true)
    (aT : PySem.W.nsIn K mainGlobals "_law_table" = some (some (.ref fT))) (lT : K.lookup fT = some ⟨ocT, odT, .func (PySem.W.fnOf "_law_table" "_law_table" (defArgs sTable) (defBody sTable) (defScope sTable) .none kVT dcT pmT anT cdT ctT), slT⟩) (cT : PySem.W.codeIn K cdT "_law_table" = true) (kT : PySem.W.keepIn K (.ref fT) = true)
    (aR : PySem.W.nsIn K mainGlobals "_law_ring" = some (some (.ref fR))) (lR : K.lookup fR = some ⟨ocR, odR, .func (PySem.W.fnOf "_law_ring" "_law_ring" (defArgs sRing) (defBody sRing) (defScope sRing) .none kVR dcR pmR anR cdR ctR), slR⟩) (cR : PySem.W.codeIn K cdR "_law_ring" = true) (kR : PySem.W.keepIn K (.ref fR) = true)
    (aX : PySem.W.nsIn K mainGlobals "_law_exchanged" = some (some (.ref fX))) (lX : K.lookup fX = some ⟨ocX, odX, .func (PySem.W.fnOf "_law_exchanged" "_law_exchanged" (defArgs sExchanged) (defBody sExchanged) (defScope sExchanged) .none kVX dcX pmX anX cdX ctX), slX⟩) (cX : PySem.W.codeIn K cdX "_law_exchanged" = true) (kX : PySem.W.keepIn K (.ref fX) = true)
    (aMd : PySem.W.nsIn K mainGlobals "_law_made" = some (some (.ref fMd))) (lMd : K.lookup fMd = some ⟨ocMd, odMd, .func (PySem.W.fnOf "_law_made" "_law_made" (defArgs sMade) (defBody sMade) (defScope sMade) .none kVMd dcMd pmMd anMd cdMd ctMd), slMd⟩) (cMd : PySem.W.codeIn K cdMd "_law_made" = true) (kMd : PySem.W.keepIn K (.ref fMd) = true)
    (aPa : PySem.W.nsIn K mainGlobals "_law_pairs" = some (some (.ref fPa))) (lPa : K.lookup fPa = some ⟨ocPa, odPa, .func (PySem.W.fnOf "_law_pairs" "_law_pairs" (defArgs sPairs) (defBody sPairs) (defScope sPairs) .none kVPa dcPa pmPa anPa cdPa ctPa), slPa⟩) (cPa : PySem.W.codeIn K cdPa "_law_pairs" = true) (kPa : PySem.W.keepIn K (.ref fPa) = true)
    (aLaw : PySem.W.nsIn K mainGlobals "law" = some (some (.ref fLaw))) (lLaw : K.lookup fLaw = some ⟨ocLaw, odLaw, .func (PySem.W.fnOf "law" "law" (defArgs sLaw) (defBody sLaw) (defScope sLaw) .none kVLaw dcLaw pmLaw anLaw cdLaw ctLaw), slLaw⟩) (cLaw : PySem.W.codeIn K cdLaw "law" = true) (kLaw : PySem.W.keepIn K (.ref fLaw) = true)
    (z0 : PySem.W.nsIn K mainGlobals "len" = some none)
    (z1 : PySem.W.nsIn K mainGlobals "range" = some none)
    (z2 : PySem.W.nsIn K mainGlobals "tuple" = some none)
    (z3 : PySem.W.nsIn K mainGlobals "list" = some none)
    (z4 : PySem.W.nsIn K mainGlobals "int" = some none)
    (z5 : PySem.W.nsIn K mainGlobals "sorted" = some none)
    (z6 : PySem.W.nsIn K mainGlobals "set" = some none)
    (z7 : PySem.W.nsIn K mainGlobals "max" = some none)
    (z8 : PySem.W.nsIn K mainGlobals "zip" = some none)
    (z9 : PySem.W.nsIn K mainGlobals "min" = some none) :
    ∃ fd : FuncData, (∀ (s : Shared) (v : Value), BindsTo s fd ⟨[v], []⟩ [("_law_script", v)]) ∧ ∀ base : Heap, K.In base → base.Ns mainGlobals mg → FnOk l.prog w K mg base CX0 12 fa fd ["_law_script"] (spLaw K) := by
  have e := hfa.symm.trans (PySem.W.mg_of X G aLaw)
  cases e
  have T : Blt mg := ⟨PySem.W.mg_none_of X G z0, PySem.W.mg_none_of X G z1, PySem.W.mg_none_of X G z2, PySem.W.mg_none_of X G z3, PySem.W.mg_none_of X G z4, PySem.W.mg_none_of X G z5, PySem.W.mg_none_of X G z6, PySem.W.mg_none_of X G z7, PySem.W.mg_none_of X G z8, PySem.W.mg_none_of X G z9⟩
  have FWe := fun_mk (st := sWith) lWe cWe kWe
  have FRP := fun_mk (st := sRising) lRP cRP kRP
  have FTI := fun_mk (st := sThingsIn) lTI cTI kTI
  have FP := fun_mk (st := sParts) lP cP kP
  have FIK := fun_mk (st := sIsPick) lIK cIK kIK
  have FIP := fun_mk (st := sIsPart) lIP cIP kIP
  have FPI := fun_mk (st := sPutIn) lPI cPI kPI
  have FRF := fun_mk (st := sRingFrom) lRF cRF kRF
  have FRG := fun_mk (st := sRingsP) lRG cRG kRG
  have FTO := fun_mk (st := sTaken) lTO cTO kTO
  have FE := fun_mk (st := sExP) lE cE kE
  have FC := fun_mk (st := sCell) lC cC kC
  have FD := fun_mk (st := sDigits) lD cD kD
  have FO := fun_mk (st := sRowOn) lO cO kO
  have FS := fun_mk (st := sSquare) lS cS kS
  have FT := fun_mk (st := sTable) lT cT kT
  have FR := fun_mk (st := sRing) lR cR kR
  have FX := fun_mk (st := sExchanged) lX cX kX
  have FMd := fun_mk (st := sMade) lMd cMd kMd
  have FPa := fun_mk (st := sPairs) lPa cPa kPa
  have FLaw := fun_mk (st := sLaw) lLaw cLaw kLaw
  have DWe : Dfn K mg "with_entry" sWith ["begun", "row", "column", "entry"] fWe _ := ⟨FWe, FWe.binds (ps := ["begun", "row", "column", "entry"]) fun _ _ _ _ _ _ us hl => match us, hl with | [_, _, _, _], _ => rfl, PySem.W.mg_of X G aWe⟩
  have DRP : Dfn K mg "rising_picks" sRising ["size", "many"] fRP _ := ⟨FRP, FRP.binds (ps := ["size", "many"]) fun _ _ _ _ _ _ us hl => match us, hl with | [_, _], _ => rfl, PySem.W.mg_of X G aRP⟩
  have DTI : Dfn K mg "things_in" sThingsIn ["square", "rows", "columns"] fTI _ := ⟨FTI, FTI.binds (ps := ["square", "rows", "columns"]) fun _ _ _ _ _ _ us hl => match us, hl with | [_, _, _], _ => rfl, PySem.W.mg_of X G aTI⟩
  have DP : Dfn K mg "parts" sParts ["square"] fP _ := ⟨FP, FP.binds (ps := ["square"]) fun _ _ _ _ _ _ us hl => match us, hl with | [_], _ => rfl, PySem.W.mg_of X G aP⟩
  have DIK : Dfn K mg "is_pick" sIsPick ["numbers", "size"] fIK _ := ⟨FIK, FIK.binds (ps := ["numbers", "size"]) fun _ _ _ _ _ _ us hl => match us, hl with | [_, _], _ => rfl, PySem.W.mg_of X G aIK⟩
  have DIP : Dfn K mg "is_part" sIsPart ["square", "rows", "columns"] fIP _ := ⟨FIP, FIP.binds (ps := ["square", "rows", "columns"]) fun _ _ _ _ _ _ us hl => match us, hl with | [_, _, _], _ => rfl, PySem.W.mg_of X G aIP⟩
  have DPI : Dfn K mg "put_in" sPutIn ["square", "rows", "columns", "inner"] fPI _ := ⟨FPI, FPI.binds (ps := ["square", "rows", "columns", "inner"]) fun _ _ _ _ _ _ us hl => match us, hl with | [_, _, _, _], _ => rfl, PySem.W.mg_of X G aPI⟩
  have DRF : Dfn K mg "ring_from" sRingFrom ["square", "one", "other", "column"] fRF _ := ⟨FRF, FRF.binds (ps := ["square", "one", "other", "column"]) fun _ _ _ _ _ _ us hl => match us, hl with | [_, _, _, _], _ => rfl, PySem.W.mg_of X G aRF⟩
  have DRG : Dfn K mg "rings" sRingsP ["square", "one", "other"] fRG _ := ⟨FRG, FRG.binds (ps := ["square", "one", "other"]) fun _ _ _ _ _ _ us hl => match us, hl with | [_, _, _], _ => rfl, PySem.W.mg_of X G aRG⟩
  have DTO : Dfn K mg "taken_over" sTaken ["line", "given", "ring"] fTO _ := ⟨FTO, FTO.binds (ps := ["line", "given", "ring"]) fun _ _ _ _ _ _ us hl => match us, hl with | [_, _, _], _ => rfl, PySem.W.mg_of X G aTO⟩
  have DE : Dfn K mg "exchanged" sExP ["square", "one", "other", "column"] fE _ := ⟨FE, FE.binds (ps := ["square", "one", "other", "column"]) fun _ _ _ _ _ _ us hl => match us, hl with | [_, _, _, _], _ => rfl, PySem.W.mg_of X G aE⟩
  have DC : Dfn K mg "_law_cell_at" sCell ["_law_script", "_law_k"] fC _ := ⟨FC, FC.binds (ps := ["_law_script", "_law_k"]) fun _ _ _ _ _ _ us hl => match us, hl with | [_, _], _ => rfl, PySem.W.mg_of X G aC⟩
  have DD : Dfn K mg "_law_digits" sDigits ["_law_cell", "_law_many", "_law_most"] fD _ := ⟨FD, FD.binds (ps := ["_law_cell", "_law_many", "_law_most"]) fun _ _ _ _ _ _ us hl => match us, hl with | [_, _, _], _ => rfl, PySem.W.mg_of X G aD⟩
  have DO : Dfn K mg "_law_row_on" sRowOn ["_law_above", "_law_row", "_law_size", "_law_turns"] fO _ := ⟨FO, FO.binds (ps := ["_law_above", "_law_row", "_law_size", "_law_turns"]) fun _ _ _ _ _ _ us hl => match us, hl with | [_, _, _, _], _ => rfl, PySem.W.mg_of X G aO⟩
  have DS : Dfn K mg "_law_square" sSquare ["_law_cell", "_law_size"] fS _ := ⟨FS, FS.binds (ps := ["_law_cell", "_law_size"]) fun _ _ _ _ _ _ us hl => match us, hl with | [_, _], _ => rfl, PySem.W.mg_of X G aS⟩
  have DT : Dfn K mg "_law_table" sTable ["_law_script"] fT _ := ⟨FT, FT.binds (ps := ["_law_script"]) fun _ _ _ _ _ _ us hl => match us, hl with | [_], _ => rfl, PySem.W.mg_of X G aT⟩
  have DR : Dfn K mg "_law_ring" sRing ["_law_square_here", "_law_one", "_law_other", "_law_column"] fR _ := ⟨FR, FR.binds (ps := ["_law_square_here", "_law_one", "_law_other", "_law_column"]) fun _ _ _ _ _ _ us hl => match us, hl with | [_, _, _, _], _ => rfl, PySem.W.mg_of X G aR⟩
  have DX : Dfn K mg "_law_exchanged" sExchanged ["_law_square_here", "_law_one", "_law_other", "_law_column"] fX _ := ⟨FX, FX.binds (ps := ["_law_square_here", "_law_one", "_law_other", "_law_column"]) fun _ _ _ _ _ _ us hl => match us, hl with | [_, _, _, _], _ => rfl, PySem.W.mg_of X G aX⟩
  have DMd : Dfn K mg "_law_made" sMade ["_law_script"] fMd _ := ⟨FMd, FMd.binds (ps := ["_law_script"]) fun _ _ _ _ _ _ us hl => match us, hl with | [_], _ => rfl, PySem.W.mg_of X G aMd⟩
  have DPa : Dfn K mg "_law_pairs" sPairs ["_law_square_here"] fPa _ := ⟨FPa, FPa.binds (ps := ["_law_square_here"]) fun _ _ _ _ _ _ us hl => match us, hl with | [_], _ => rfl, PySem.W.mg_of X G aPa⟩
  exact ⟨PySem.W.fnOf "law" "law" (defArgs sLaw) (defBody sLaw) (defScope sLaw) .none kVLaw dcLaw pmLaw anLaw cdLaw ctLaw, fun s v => .of_eq rfl, fun base _ _ => ok_law FLaw (Defs.mk T DMd DP DPa DPI DE ((ok_made FMd T DC DD DO DS DT DX DR).mono (by decide)) ((ok_parts FP T DRP DTI).mono (by decide)) ((ok_pairs FPa T DRG DRF).mono (by decide)) ((ok_putIn FPI T DIP DIK DTI DWe).mono (by decide)) ((ok_exP FE T DRF DTO).mono (by decide)))⟩
theorem walk {l : PySem.W.OpenLaw} {q : Program} {loose : List Str} {XP : (Str → Option Value) → Heap → Prop} {YP : World → Heap → Prop} {d : DefRec} {K : Params → PySem.W.Frag} (hn : l.most = some 63) (hdf : d.params.defaults = [])
    (hY : ∀ (w : World) (h : Heap), YP w h → (K w.params).In h)
    (F : ∀ (w : World) (mg : Str → Option Value) (fa : Addr) (h : Heap), (K w.params).In h → h.Ns mainGlobals mg → mg d.name = some (.ref fa) →
      ∃ fd : FuncData, (∀ (s : Shared) (u : Value), BindsTo s fd ⟨[u], []⟩ [("_law_script", u)]) ∧ ∀ base : Heap, (K w.params).In base → base.Ns mainGlobals mg → FnOk l.prog w (K w.params) mg base CX0 12 fa fd ["_law_script"] (spLaw (K w.params))) :
    PySem.W.WalkO q loose XP YP l.row.toRowW d [] (fun f vs => PySem.call f vs) :=
  L2.walk_of (n := 63) (k := 12) (x := "_law_script") (CX := fun _ => CX0) (sp := fun w => spLaw (K w.params)) hn (by decide) hdf ⟨rfl, by decide, by decide⟩ hY F (fun _ _ a ns hl _ hS => ⟨a, ns, rfl, hS, hl, fun _ => rfl⟩) fun _ _ _ _ _ z => z
end My
open PySem PySem.W PyProof.Rows
set_option maxRecDepth 100000 in
set_option maxHeartbeats 0 in
theorem PySem.Challenge.cw_latinclose_k35_whole_rings_of_two_holds : PySem.Challenge.rw_latinclose_k35_whole_rings_of_two.Holds := by
  w_on; o_law; k_head; (case hw => w_witness2)
  k_fill
  refine My.walk (l := PySem.Challenge.rw_latinclose_k35_whole_rings_of_two) rfl rfl (fun w h Y => PySem.W.kIn_of Y) ?F
  case F =>
    intro w mg fa h KX G hmg
    refine' My.all_mk KX G hmg ?aWe ?lWe ?cWe ?kWe ?aRP ?lRP ?cRP ?kRP ?aTI ?lTI ?cTI ?kTI ?aP ?lP ?cP ?kP ?aIK ?lIK ?cIK ?kIK ?aIP ?lIP ?cIP ?kIP ?aPI ?lPI ?cPI ?kPI ?aRF ?lRF ?cRF ?kRF ?aRG ?lRG ?cRG ?kRG ?aTO ?lTO ?cTO ?kTO ?aE ?lE ?cE ?kE ?aC ?lC ?cC ?kC ?aD ?lD ?cD ?kD ?aO ?lO ?cO ?kO ?aS ?lS ?cS ?kS ?aT ?lT ?cT ?kT ?aR ?lR ?cR ?kR ?aX ?lX ?cX ?kX ?aMd ?lMd ?cMd ?kMd ?aPa ?lPa ?cPa ?kPa ?aLaw ?lLaw ?cLaw ?kLaw ?z0 ?z1 ?z2 ?z3 ?z4 ?z5 ?z6 ?z7 ?z8 ?z9
    (case aWe => k_is)
    (case lWe => k_is)
    (case cWe => k_is)
    (case kWe => k_is)
    (case aRP => k_is)
    (case lRP => k_is)
    (case cRP => k_is)
    (case kRP => k_is)
    (case aTI => k_is)
    (case lTI => k_is)
    (case cTI => k_is)
    (case kTI => k_is)
    (case aP => k_is)
    (case lP => k_is)
    (case cP => k_is)
    (case kP => k_is)
    (case aIK => k_is)
    (case lIK => k_is)
    (case cIK => k_is)
    (case kIK => k_is)
    (case aIP => k_is)
    (case lIP => k_is)
    (case cIP => k_is)
    (case kIP => k_is)
    (case aPI => k_is)
    (case lPI => k_is)
    (case cPI => k_is)
    (case kPI => k_is)
    (case aRF => k_is)
    (case lRF => k_is)
    (case cRF => k_is)
    (case kRF => k_is)
    (case aRG => k_is)
    (case lRG => k_is)
    (case cRG => k_is)
    (case kRG => k_is)
    (case aTO => k_is)
    (case lTO => k_is)
    (case cTO => k_is)
    (case kTO => k_is)
    (case aE => k_is)
    (case lE => k_is)
    (case cE => k_is)
    (case kE => k_is)
    (case aC => k_is)
    (case lC => k_is)
    (case cC => k_is)
    (case kC => k_is)
    (case aD => k_is)
    (case lD => k_is)
    (case cD => k_is)
    (case kD => k_is)
    (case aO => k_is)
    (case lO => k_is)
    (case cO => k_is)
    (case kO => k_is)
    (case aS => k_is)
    (case lS => k_is)
    (case cS => k_is)
    (case kS => k_is)
    (case aT => k_is)
    (case lT => k_is)
    (case cT => k_is)
    (case kT => k_is)
    (case aR => k_is)
    (case lR => k_is)
    (case cR => k_is)
    (case kR => k_is)
    (case aX => k_is)
    (case lX => k_is)
    (case cX => k_is)
    (case kX => k_is)
    (case aMd => k_is)
    (case lMd => k_is)
    (case cMd => k_is)
    (case kMd => k_is)
    (case aPa => k_is)
    (case lPa => k_is)
    (case cPa => k_is)
    (case kPa => k_is)
    (case aLaw => k_is)
    (case lLaw => k_is)
    (case cLaw => k_is)
    (case kLaw => k_is)
    (case z0 => k_is)
    (case z1 => k_is)
    (case z2 => k_is)
    (case z3 => k_is)
    (case z4 => k_is)
    (case z5 => k_is)
    (case z6 => k_is)
    (case z7 => k_is)
    (case z8 => k_is)
    (case z9 => k_is)
