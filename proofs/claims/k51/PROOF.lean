import PyProof.Rows.All
import Wide.All
import OpenK.AllK
import Wide.FinOn
import Lean
import PyProof.EqAt
import PyProof.EqKinds
import PyProof.TupleCall
import PyProof.NeKinds
import PyProof.StrOps2
import PyProof.InstStoreFacts
import PyProof.ExcInit
import PyProof.ListRange
import PyProof.ListMulRoad
import PyProof.DictWalks
import PyProof.Rows.SortWalk
import KE.KDictOf
import PyProof.AttrMissSeq
import PyProof.DictItemsLoops
import PyProof.ZipIter
import PyProof.Rows.SetFrom
import PyProof.Rows.ZipGen
import PyProof.EnumIter
import PyProof.TupleIter
import KE.KDictSum
import PyProof.DictIter
import PyProof.TupleOfSeq
import PyProof.Draws
import PyProof.EnumFor
import PyProof.EnumMake
import PyProof.EnumStmt
import PyProof.Rows.EnumRows
import KE.KRevSl
import KE.KSortTup
import PyProof.MinMaxWalk
import KE.KMinKey
import PyProof.Rows.CallKwBuiltin
import PyProof.MeetsSeq3
import PySem.Challenge.RW_latinclose_k51_none_ahead_of_the_plain_f
set_option Elab.async false
set_option linter.all false
set_option maxRecDepth 100000
namespace Om
theorem a1 {a b c : Nat} (h : c = b) (g : a < b) : a < c := h ▸ g
theorem a2 {a b c : Nat} (g : a < b) (h : b = c) : a < c := h ▸ g
theorem a3 {a b c : Nat} (g : a < b) (h : b <= c) : a < c := Nat.lt_of_lt_of_le g h
theorem b1 {a m k : Nat} (h : a <= m) (g : Nat.ble m k = true) : a <= k := Nat.le_trans h (Nat.le_of_ble_eq_true g)
theorem b2 {a n m k : Nat} (f : a < n) (h : n <= m) (g : Nat.ble m k = true) : a <= k := Nat.le_trans (Nat.le_of_lt f) (b1 h g)
theorem b3 {a n m k : Nat} (f : a <= n) (h : n <= m) (g : Nat.ble m k = true) : a <= k := Nat.le_trans f (b1 h g)
theorem b4 {a n m k : Nat} (f : a = n) (h : n <= m) (g : Nat.ble m k = true) : a <= k := f ▸ b1 h g
theorem b5 {a n j m k : Nat} (f : a = n) (e : n < j) (h : j <= m) (g : Nat.ble m k = true) : a <= k := f ▸ b2 e h g
theorem b6 {a n j m k : Nat} (f : a < n) (e : n = j) (h : j <= m) (g : Nat.ble m k = true) : a <= k := b2 f (e ▸ h) g
theorem c1 {n m : Nat} (h : n <= m) (g : Nat.ble m 100000 = true) : (n : Int) < 2 ^ 62 := Int.lt_of_le_of_lt (Int.ofNat_le.mpr (b1 h g)) (by decide)
theorem c2 {n : Nat} : -2 ^ 62 <= (n : Int) := Int.le_trans (by decide : (-2 ^ 62 : Int) <= 0) (Int.natCast_nonneg n)
theorem c3 {n : Nat} (h : 1 <= n) : (0 : Int) < n := Int.natCast_pos.mpr h
theorem c5 {a b : Nat} (h : a < b) : (a : Int) < (b : Int) := Int.ofNat_lt.mpr h
theorem c6 {a : Nat} : (0 : Int) <= (a : Int) := Int.natCast_nonneg a
theorem d1 {a b : Nat} (h : a < b) : a <= b := Nat.le_of_lt h
theorem e1 {a b : Nat} (h : (a : Int) = (b : Int)) : a = b := Int.ofNat.inj h
theorem f1 {a b : Nat} (h : a < b) : a + 1 <= b := h
theorem f2 {a b : Nat} (h : a < b) : a < b + 1 := Nat.lt_succ_of_lt h
theorem f3 {a b : Nat} (h : a <= b) : a < b + 1 := Nat.lt_succ_of_le h
theorem f4 {a b : Nat} (h : a + 1 <= b) : a <= b := Nat.le_of_succ_le h
theorem f5 {a b : Nat} (h : a + 1 <= b) : a < b := h
theorem p1 {a : Nat} (h : 2 <= a) : 0 < a := Nat.lt_of_lt_of_le (Nat.zero_lt_succ 1) h
theorem q1 {a b : Nat} (h : a <= b + 1) (g : ¬a = b + 1) : a <= b := Nat.le_of_lt_succ (Nat.lt_of_le_of_ne h g)
theorem q2 {a b : Nat} (h : a < b) : a <= b - 1 := Nat.le_sub_one_of_lt h
theorem g2 {a b c : Nat} (h : a = b) (g : c = b) : a = c := h.trans g.symm
theorem l1 {a b : Nat} (h : a = b) : a <= b := Nat.le_of_eq h
theorem l3 {a b c : Nat} (h : a <= b) (g : c = b) : a <= c := g ▸ h
theorem l4 {a b c : Nat} (h : a = b) (g : b <= c) : a <= c := h ▸ g
theorem z1 {a : Int} (h : 0 <= a) : a = (a.toNat : Int) := (Int.toNat_of_nonneg h).symm
theorem m1 {a b : Nat} (h : a < b) : min a b = a := Nat.min_eq_left (Nat.le_of_lt h)
theorem m2 {a b : Nat} (h : a <= b) : min a b = a := Nat.min_eq_left h
theorem x1 {a b c : Nat} (h : a = b) (g : b < c) : a < c := h ▸ g
theorem y2 {a b m : Nat} (h : b = a) (e : b <= m) (g : Nat.ble m k = true) : a <= k := h ▸ b1 e g
end Om
namespace L2
open PySem PySem.Spec PyProof.Rows
noncomputable abbrev Key := Sum Int Str
noncomputable def keyIs : Key -> Value -> Bool
 | .inl k, v => Value.isInt k v
 | .inr x, v => Value.isStrOf x v
noncomputable def keyH (w : World) : Key -> Int
 | .inl k => hashInt k
 | .inr x => hashStr w x
theorem keyIs_shape : ∀ {k : Key} {v : Value}, keyIs k v = true -> (∃ i t, k = Sum.inl i /\ v = Value.int i t) \/ (∃ x t, k = Sum.inr x /\ v = Value.str x t)
 | .inl i, v, h => by
  obtain ⟨t, e⟩ := Value.isInt_shape (k := i) (v := v) h
  exact .inl ⟨i, t, rfl, e⟩
 | .inr x, v, h => by
  obtain ⟨t, e⟩ := Value.isStrOf_shape (x := x) (v := v) h
  exact .inr ⟨x, t, rfl, e⟩
theorem key_ll (a b : Int) : decide ((Sum.inl a : Key) = Sum.inl b) = (a == b) := by
 by_cases e : a = b
 ·subst e; simp
 ·have h : ¬ (Sum.inl a : Key) = Sum.inl b := fun q => e (Sum.inl.inj q)
  rw [decide_eq_false h]
  exact (beq_eq_false_iff_ne.mpr e).symm
theorem key_rr (a b : Str) : decide ((Sum.inr a : Key) = Sum.inr b) = decide (a = b) := by
 by_cases e : a = b
 ·subst e; simp
 ·have h : ¬ (Sum.inr a : Key) = Sum.inr b := fun q => e (Sum.inr.inj q)
  rw [decide_eq_false h, decide_eq_false e]
theorem key_lr (a : Int) (b : Str) : decide ((Sum.inl a : Key) = Sum.inr b) = false := decide_eq_false (fun q => nomatch q)
theorem key_rl (a : Str) (b : Int) : decide ((Sum.inr a : Key) = Sum.inl b) = false := decide_eq_false (fun q => nomatch q)
noncomputable def mixKind (prog : Program) (w : World) : PySem.KeyKind prog w Key where
 is := keyIs
 hash := keyH w
 inj := fun v a b ha hb => by
  rcases keyIs_shape ha with ⟨i, t, rfl, rfl⟩ | ⟨x, t, rfl, rfl⟩
  ·rcases keyIs_shape hb with ⟨j, u, rfl, e⟩ | ⟨y, u, rfl, e⟩
   ·injection e with e1 _; rw [e1]
   ·exact nomatch e
  ·rcases keyIs_shape hb with ⟨j, u, rfl, e⟩ | ⟨y, u, rfl, e⟩
   ·exact nomatch e
   ·injection e with e1 _; rw [e1]
 byValue := fun k v h => by
  rcases keyIs_shape h with ⟨i, t, rfl, rfl⟩ | ⟨x, t, rfl, rfl⟩ <;> rfl
 pyHash := fun hv h => by
  rcases keyIs_shape hv with ⟨i, t, rfl, rfl⟩ | ⟨x, t, rfl, rfl⟩
  ·exact wpAny_pyHash_int h
  ·exact wpAny_pyHash_str h
 eqBool := fun hu hv h => by
  rcases keyIs_shape hu with ⟨i, t, rfl, rfl⟩ | ⟨x, t, rfl, rfl⟩
  ·rcases keyIs_shape hv with ⟨j, u, rfl, rfl⟩ | ⟨y, u, rfl, rfl⟩
   ·rw [key_ll] at h; exact wpAny_eqBool_int h
   ·rw [key_lr] at h; exact SeqAt.EqAt.int_str i t y u _ _ _ _ h
  ·rcases keyIs_shape hv with ⟨j, u, rfl, rfl⟩ | ⟨y, u, rfl, rfl⟩
   ·rw [key_rl] at h; exact SeqAt.EqAt.str_int x t j u _ _ _ _ h
   ·rw [key_rr] at h; exact wpAny_eqBool_str h
 «strs» := fun k x t v h => by
  rcases keyIs_shape h with ⟨i, u, rfl, e⟩ | ⟨y, u, rfl, e⟩
  ·exact nomatch e
  ·injection e with e1 _
   subst e1
   cases v <;> rfl
end L2
namespace L2
open PySem PySem.Spec PyProof.Rows
inductive V where
 | non | bl (b : Bool) | int (i : Int) | str (x : Str) | byt (b : Array UInt8) | flt (b : UInt64) | ref (a : Addr) | ty (n : String)
 deriving DecidableEq
noncomputable def RelV : V -> Value -> Prop
 | .non, u => u = Value.none
 | .bl b, u => u = Value.bool b
 | .int i, u => ∃ t, u = Value.int i t
 | .str x, u => ∃ t, u = Value.str x t
 | .byt b, u => ∃ t, u = Value.bytes b t
 | .flt b, u => ∃ t, u = Value.float b t
 | .ref a, u => u = Value.ref a
 | .ty n, u => u = Value.type n
noncomputable abbrev Vals : List V -> List Value -> Prop := Paired RelV
theorem Vals.length {xs : List V} {us : List Value} (r : Vals xs us) : xs.length = us.length := Paired.length r
theorem Vals.get : ∀ {xs : List V} {us : List Value} {i : Nat} {x : V}, Vals xs us -> xs[i]? = some x -> ∃ u, us[i]? = some u /\ RelV x u
 | _, _, _, _, .nil, e => by simp at e
 | _, _, 0, _, .cons r _, e => by simp at e; subst e; exact ⟨_, rfl, r⟩
 | _, _, i + 1, x, .cons _ t, e => by
  obtain ⟨u, h1, h2⟩ := Vals.get (i := i) (x := x) t (by simpa using e)
  exact ⟨u, by simpa using h1, h2⟩
theorem Vals.set {x : V} {u : Value} (r : RelV x u) : ∀ {xs : List V} {us : List Value} (i : Nat), Vals xs us -> Vals (xs.set i x) (us.set i u)
 | _, _, _, .nil => .nil
 | _, _, 0, .cons _ t => .cons r t
 | _, _, i + 1, .cons q t => .cons q (Vals.set r i t)
theorem Vals.append : ∀ {xs ys : List V} {us ws : List Value}, Vals xs us -> Vals ys ws -> Vals (xs ++ ys) (us ++ ws)
 | _, _, _, _, .nil, s => s
 | _, _, _, _, .cons r t, s => .cons r (Vals.append t s)
theorem Vals.take : ∀ {xs : List V} {us : List Value} (n : Nat), Vals xs us -> Vals (xs.take n) (us.take n)
 | _, _, 0, _ => .nil
 | _, _, _ + 1, .nil => .nil
 | _, _, n + 1, .cons r t => .cons r (Vals.take n t)
theorem Vals.drop : ∀ {xs : List V} {us : List Value} (n : Nat), Vals xs us -> Vals (xs.drop n) (us.drop n)
 | _, _, 0, r => r
 | _, _, _ + 1, .nil => .nil
 | _, _, n + 1, .cons _ t => Vals.drop n t
noncomputable def RelO : Option V -> Option Value -> Prop
 | some v, some u => RelV v u
 | none, none => True
 | _, _ => False
noncomputable def KV {κ : Type} : List (κ × V) -> List (κ × Value) -> Prop := Paired fun (p : κ × V) (q : κ × Value) => p.1 = q.1 /\ RelV p.2 q.2
noncomputable def kV : Key -> V
 | .inl i => .int i
 | .inr x => .str x
inductive HO where
  | lst (xs : List V)
  | tup (xs : List V)
  | dK (kvs : List (Key × V)) | dT (kvs : List (List Key × V))
  | set (S : Int -> Bool) (n : Nat)
  | ins (C dx : Addr) (fs : List (Str × V))
  | own (x : Addr)
  | xd (fs : List (Str × V))
  | met (f x : Addr)
  | rng (lo hi : Int)
  | frz (o : Obj) (u : HO)
  | tbl (ps : Array Value)
  | ext (φ : Heap -> Prop)
noncomputable abbrev Hp := Addr -> Option HO
noncomputable def upd (H : Hp) (a : Addr) (o : HO) : Hp := fun b => if b = a then some o else H b
theorem upd_same {H : Hp} {a : Addr} {o : HO} : upd H a o a = some o := by unfold upd; rw [if_pos rfl]
theorem upd_ne {H : Hp} {a b : Addr} {o : HO} (h : b ≠ a) : upd H a o b = H b := by unfold upd; rw [if_neg h]
theorem ne_of {H : Hp} {a b : Addr} {o u : HO} (h : H a = some o) (h' : H b = some u) (d : o ≠ u) : a ≠ b := by
 intro e; subst e; rw [h] at h'; exact d (Option.some.inj h')
theorem ne_of_none {H : Hp} {a b : Addr} {o : HO} (h : H a = some o) (h' : H b = none) : a ≠ b := by
 intro e; subst e; rw [h] at h'; cases h'
noncomputable def IsTupN (h : Heap) (a : Addr) (items : Array Value) : Prop := ∃ o, h.get? a = some o /\ o.cls = .type "tuple" /\ ∃ n, (o.data, o.dict) = (.seq items n, none)
theorem IsTupN.is {h : Heap} {a : Addr} {items : Array Value} (x : IsTupN h a items) : IsTup h a items := let ⟨o, g, c, n, e⟩ := x; ⟨o, g, c, n, congrArg Prod.fst e⟩
theorem IsTupN.bare {h : Heap} {a : Addr} {items : Array Value} (x : IsTupN h a items) : ∃ o, h.get? a = some o /\ o.dict = none := let ⟨o, g, _, _, e⟩ := x; ⟨o, g, congrArg Prod.snd e⟩
theorem IsTupN.new (h : Heap) (items : Array Value) : IsTupN (h.push { cls := .type "tuple", data := .seq items }) h.objs.size items := ⟨_, Heap.get?_push_size _ rfl, rfl, _, rfl⟩
section
variable (P : Program) (w : World)
noncomputable def ObjOk (H : Hp) (h : Heap) (a : Addr) : HO -> Prop
 | .lst xs => xs.length <= sizeLine /\ ∃ (its : List Value) (n : Nat), Vals xs its /\ h.get? a = some { cls := .type "list", data := .seq its.toArray n }
 | .tup xs => xs.length <= sizeLine /\ ∃ its : List Value, Vals xs its /\ IsTupN h a its.toArray
 | .dK kvs => kvs.length <= sizeLine /\ (a == sysModules) = false /\ ∃ vs, KV kvs vs /\ h.DictOf (mixKind P w) a vs
 | .dT kvs => kvs.length <= sizeLine /\ (a == sysModules) = false /\ ∃ xs : List (List Key × Addr × Value),
   Paired (fun (p : List Key × V) (q : List Key × Addr × Value) => p.1 = q.1 /\ H q.2.1 = some (.tup (p.1.map kV)) /\ RelV p.2 q.2.2) kvs xs /\
   ∃ o es ep, h.get? a = some o /\ o.ExactDict /\ o.data = .dict es ep /\ es.toList = xs.map (entryOfKey (tupleKind (mixKind P w))) /\ (xs.map (·.1)).Nodup
 | .set S n => h.SetOf (intKind P w) a S n
 | .ins C dx fs => H dx = some (.own a) /\ fs.length <= 1000 /\ dx ≠ a /\ h.get? a = some (PySem.W.instObj C dx) /\
   ∃ mA, h.Ns1 dx mA /\ (∀ f, RelO (fs.lookup f) (mA f)) /\ PySem.Within mA (fs.map (·.1))
 | .own _ => ∃ o, h.get? a = some o
 | .xd fs => ∃ mA, h.Ns1 a mA /\ ∀ f, RelO (fs.lookup f) (mA f)
 | .rng lo hi => ∃ t u v, h.get? a = some { cls := .type "range", data := .fields #[.int lo t, .int hi u, .int 1 v] }
 | .frz o u => h.get? a = some o /\ ObjOk H h a u
 | .tbl ps => h.get? a = some { cls := .none, data := .fields ps }
 | .met f x => h.get? a = some (PySem.W.methodObj (.ref f) (.ref x))
 | .ext φ => φ h /\ (∃ o, h.get? a = some o) /\ ∀ h1 h2 : Heap, φ h1 -> (∀ o, h1.get? a = some o -> h2.get? a = some o) -> φ h2
noncomputable def HOk (H : Hp) (h : Heap) : Prop := ∀ a o, H a = some o -> ObjOk P w H h a o
end
section
variable {P : Program} {w : World} {H H' : Hp} {h h' : Heap} {a : Addr} {o : HO}
theorem ObjOk.lt (x : ObjOk P w H h a o) : a < h.objs.size := by
 cases o with
 | lst xs => obtain ⟨_, _, _, _, e⟩ := x; exact Heap.lt_size e
 | tup xs => obtain ⟨_, _, _, p⟩ := x; exact IsTup.lt (IsTupN.is p)
 | dK kvs => obtain ⟨_, _, _, _, o, _, _, e, _⟩ := x; exact Heap.lt_size e
 | dT kvs => obtain ⟨_, _, _, _, o, _, _, e, _⟩ := x; exact Heap.lt_size e
 | set S n => obtain ⟨o, _, _, _, e, _⟩ := x; exact Heap.lt_size e
 | ins C dx fs => obtain ⟨_, _, _, e, _⟩ := x; exact Heap.lt_size e
 | own y => obtain ⟨_, e⟩ := x; exact Heap.lt_size e
 | xd fs => obtain ⟨_, ⟨_, _, _, e, _⟩, _⟩ := x; exact Heap.lt_size e
 | rng lo hi => obtain ⟨_, _, _, e⟩ := x; exact Heap.lt_size e
 | frz ob u => obtain ⟨e, _⟩ := x; exact Heap.lt_size e
 | tbl ps => exact Heap.lt_size (show h.get? a = some _ from x)
 | met f y => exact Heap.lt_size (show h.get? a = some _ from x)
 | ext φ => obtain ⟨_, ⟨_, e⟩, _⟩ := x; exact Heap.lt_size e
theorem Paired.mapP {α β : Type} {F G : α -> β -> Prop} : ∀ {l₁ : List α} {l₂ : List β}, Paired F l₁ l₂ -> (∀ a b, F a b -> G a b) -> Paired G l₁ l₂
 | _, _, .nil, _ => .nil
 | _, _, .cons r t, f => .cons (f _ _ r) (Paired.mapP t f)
theorem ObjOk.stay (x : ObjOk P w H h a o) (k : ∀ b u, (b = a \/ H b = some (.own a)) -> h.get? b = some u -> h'.get? b = some u)
  (ho : ∀ b, H b = some (.own a) -> H' b = some (.own a)) (ht : ∀ b xs, H b = some (.tup xs) -> H' b = some (.tup xs)) : ObjOk P w H' h' a o := by
 induction o with
 | lst xs => obtain ⟨z, its, n, r, e⟩ := x; exact ⟨z, its, n, r, k _ _ (.inl rfl) e⟩
 | tup xs => obtain ⟨z, its, r, ob, e, c⟩ := x; exact ⟨z, its, r, ob, k _ _ (.inl rfl) e, c⟩
 | dK kvs => obtain ⟨z, y, vs, r, ob, es, ep, e, c⟩ := x; exact ⟨z, y, vs, r, ob, es, ep, k _ _ (.inl rfl) e, c⟩
 | dT kvs =>
  obtain ⟨z, y, xs, r, ob, es, ep, e, c⟩ := x
  exact ⟨z, y, xs, Paired.mapP r fun p q z => ⟨z.1, ht _ _ z.2.1, z.2.2⟩, ob, es, ep, k _ _ (.inl rfl) e, c⟩
 | set S n => obtain ⟨ob, es, ep, t, e, c⟩ := x; exact ⟨ob, es, ep, t, k _ _ (.inl rfl) e, c⟩
 | ins C dx fs =>
  obtain ⟨d, z, ne, e, mA, ⟨od, es, ep, e2, c⟩, r⟩ := x
  exact ⟨ho _ d, z, ne, k _ _ (.inl rfl) e, mA, ⟨od, es, ep, k _ _ (.inr d) e2, c⟩, r⟩
 | own y => obtain ⟨ob, e⟩ := x; exact ⟨ob, k _ _ (.inl rfl) e⟩
 | xd fs => obtain ⟨mA, ⟨od, es, ep, e, c⟩, r⟩ := x; exact ⟨mA, ⟨od, es, ep, k _ _ (.inl rfl) e, c⟩, r⟩
 | rng lo hi => obtain ⟨t, u, v, e⟩ := x; exact ⟨t, u, v, k _ _ (.inl rfl) e⟩
 | frz ob u ih => obtain ⟨e, q⟩ := x; exact ⟨k _ _ (.inl rfl) e, ih q⟩
 | tbl ps =>
  have e : h.get? a = some { cls := .none, data := .fields ps } := x
  show h'.get? a = some { cls := .none, data := .fields ps }
  exact k a _ (.inl rfl) e
 | met f y =>
  have e : h.get? a = some (PySem.W.methodObj (.ref f) (.ref y)) := x
  show h'.get? a = some (PySem.W.methodObj (.ref f) (.ref y))
  exact k a _ (.inl rfl) e
 | ext φ => obtain ⟨p, ⟨o, e⟩, st⟩ := x; exact ⟨st _ _ p fun o q => k _ _ (.inl rfl) q, ⟨o, k _ _ (.inl rfl) e⟩, st⟩
theorem HOk.lt (x : HOk P w H h) (e : H a = some o) : a < h.objs.size := (x a o e).lt
theorem HOk.fresh (x : HOk P w H h) (e : h.objs.size <= a) : H a = none := by
 cases q : H a with
 | none => rfl
 | some u => exact absurd (Nat.lt_of_lt_of_le (x.lt q) e) (Nat.lt_irrefl _)
theorem HOk.kept (x : HOk P w H h) (k : ∀ b u, h.get? b = some u -> h'.get? b = some u) : HOk P w H h' := fun a o e =>
 (x a o e).stay (fun b u _ q => k b u q) (fun _ q => q) fun _ _ q => q
theorem HOk.laid (x : HOk P w H h) (k : ∀ b u, h.get? b = some u -> h'.get? b = some u) (hp : h.objs.size <= a) (new : ObjOk P w (upd H a o) h' a o) : HOk P w (upd H a o) h' := fun b u e => by
 have hn := x.fresh hp
 by_cases hb : b = a
 ·subst hb; rw [upd_same] at e; cases e; exact new
 ·rw [upd_ne hb] at e
  exact (x b u e).stay (fun c v _ q => k c v q) (fun c q => by rw [upd_ne (ne_of_none q hn)]; exact q) fun c xs q => by rw [upd_ne (ne_of_none q hn)]; exact q
end
noncomputable def Rd (H : Hp) (a : Addr) (u : HO) : Prop := H a = some u \/ ∃ o, H a = some (.frz o u)
theorem Rd.ok {P : Program} {w : World} {H : Hp} {h : Heap} {a : Addr} {u : HO} (r : Rd H a u) (x : HOk P w H h) : ObjOk P w H h a u := by
 rcases r with r | ⟨o, r⟩
 ·exact x a u r
 ·obtain ⟨_, q⟩ := x a _ r
  exact q
noncomputable def Mut : Option HO -> Prop
 | some (.lst _) => True
 | some (.dK _) => True
 | some (.dT _) => True
 | some (.set _ _) => True
 | some (.ins _ _ _) => True
 | some (.ext _) => True
 | _ => False
section
variable {P : Program} {w : World} {H : Hp} {h h' : Heap} {x e : Addr} {o' : HO}
theorem HOk.write (ok : HOk P w H h) (mu : Mut (H x)) (he : e = x \/ H e = some (.own x)) (k : ∀ b u, b ≠ e -> h.get? b = some u -> h'.get? b = some u) (heo : ∃ u, h'.get? e = some u)
  (new : ObjOk P w (upd H x o') h' x o') : HOk P w (upd H x o') h' := fun b u q => by
 have nown : ∀ c y, H c = some (.own y) -> c ≠ x := fun c y r z => by subst z; rw [r] at mu; exact mu
 have ntup : ∀ c xs, H c = some (.tup xs) -> c ≠ x := fun c xs r z => by subst z; rw [r] at mu; exact mu
 by_cases hb : b = x
 ·subst hb; rw [upd_same] at q; cases q; exact new
 ·rw [upd_ne hb] at q
  by_cases hbe : b = e
  ·have q' : H b = some (.own x) := by
    rcases he with z | z
    ·exact absurd (hbe.trans z) hb
    ·rw [hbe]; exact z
   rw [q] at q'; cases q'
   obtain ⟨v, hv⟩ := heo
   exact ⟨v, by rw [hbe]; exact hv⟩
  ·refine (ok b u q).stay (fun c v hc r => k c v ?_ r) (fun c r => by rw [upd_ne (nown c b r)]; exact r) fun c xs r => by rw [upd_ne (ntup c xs r)]; exact r
   rcases hc with rfl | hc
   ·exact hbe
   ·rintro rfl
    rcases he with z | z
    ·exact nown c b hc z
    ·rw [hc] at z; cases z; exact hb rfl
end
structure Un (fs ex : List Addr) (H H' : Hp) (h h' : Heap) : Prop where
 keep : ∀ b o, h.get? b = some o -> H b = none -> b ∉ fs -> b ∉ ex -> h'.get? b = some o
 slot : ∀ b o, h.get? b = some o -> H b = none -> b ∈ fs -> b ∉ ex -> ∃ sl, h'.get? b = some { o with slots := sl }
 free : ∀ b o, h.get? b = some o -> H b = none -> b ∉ ex -> H' b = none
 there : ∀ b o, h.get? b = some o -> b ∉ ex -> ∃ o', h'.get? b = some o'
 tups : ∀ b xs, H b = some (.tup xs) -> H' b = some (.tup xs)
 frzs : ∀ b o u, H b = some (.frz o u) -> H' b = some (.frz o u)
 tbls : ∀ b ps, H b = some (.tbl ps) -> ∃ more, H' b = some (.tbl (ps ++ more))
section
variable {fs fs' ex ex' : List Addr} {H H1 H2 : Hp} {h h1 h2 h' : Heap} {a x e : Addr} {o : HO}
theorem Un.any (u : Un fs ex H H1 h h1) {b : Addr} {ob : Obj} (q : h.get? b = some ob) (n : H b = none) (hx : b ∉ ex) : ∃ sl, h1.get? b = some { ob with slots := sl } := by
 by_cases hb : b ∈ fs
 ·exact u.slot b ob q n hb hx
 ·exact ⟨ob.slots, u.keep b ob q n hb hx⟩
theorem Un.kept (k : ∀ b u, h.get? b = some u -> h'.get? b = some u) : Un fs ex H H h h' :=
 ⟨fun b ob q _ _ _ => k b ob q, fun b ob q _ _ _ => ⟨ob.slots, k b ob q⟩, fun _ _ _ n _ => n, fun b ob q _ => ⟨ob, k b ob q⟩, fun _ _ q => q, fun _ _ _ q => q, fun _ ps q => ⟨#[], by rw [q]; simp⟩⟩
theorem Un.refl : Un fs ex H H h h := Un.kept fun _ _ q => q
theorem Un.laid (k : ∀ b u, h.get? b = some u -> h'.get? b = some u) (hp : h.objs.size <= a) (hn : H a = none) : Un fs ex H (upd H a o) h h' where
 keep := fun b u q _ _ _ => k b u q
 slot := fun b u q _ _ _ => ⟨u.slots, k b u q⟩
 free := fun b u q n _ => by rw [upd_ne (Nat.ne_of_lt (Nat.lt_of_lt_of_le (Heap.lt_size q) hp))]; exact n
 there := fun b u q _ => ⟨u, k b u q⟩
 tups := fun b xs q => by rw [upd_ne (ne_of_none q hn)]; exact q
 frzs := fun b u xs q => by rw [upd_ne (ne_of_none q hn)]; exact q
 tbls := fun b ps q => ⟨#[], by rw [upd_ne (ne_of_none q hn), q]; simp⟩
theorem Un.write (mu : Mut (H x)) (he : e = x \/ H e = some (.own x)) (k : ∀ b u, b ≠ e -> h.get? b = some u -> h'.get? b = some u) (heo : ∃ u, h'.get? e = some u) : Un fs ex H (upd H x o) h h' := by
 have hx : ∀ b, H b = none -> b ≠ x := fun b n z => by subst z; rw [n] at mu; exact mu
 have hb : ∀ b, H b = none -> b ≠ e := fun b n z => by
  subst z
  rcases he with r | r
  ·exact hx b n r
  ·rw [n] at r; cases r
 have hm : ∀ b u, H b = some u -> ¬ Mut (some u) -> b ≠ x := fun b u q nm z => by subst z; rw [q] at mu; exact nm mu
 refine ⟨fun b u q n _ _ => k b u (hb b n) q, fun b u q n _ _ => ⟨u.slots, k b u (hb b n) q⟩, fun b u q n _ => by rw [upd_ne (hx b n)]; exact n, fun b u q _ => ?_,
  fun b xs q => by rw [upd_ne (hm b _ q fun z => z)]; exact q, fun b u xs q => by rw [upd_ne (hm b _ q fun z => z)]; exact q, fun b ps q => ⟨#[], by rw [upd_ne (hm b _ q fun z => z), q]; simp⟩⟩
 by_cases hbe : b = e
 ·subst hbe; exact heo
 ·exact ⟨u, k b u hbe q⟩
end
noncomputable def trk (h : Heap) (H : Hp) : List Addr := (List.range h.objs.size).filter fun a => (H a).isSome
noncomputable def hidT (h : Heap) (H : Hp) : Heap := PySem.W.hideAll h (trk h H)
theorem hidT_size (h : Heap) (H : Hp) : (hidT h H).objs.size = h.objs.size := PySem.W.hideAll_size _ _
theorem hidT_get {h : Heap} {H : Hp} {b : Addr} {o : Obj} (e : h.get? b = some o) (n : H b = none) : (hidT h H).get? b = some o :=
 PySem.W.hideAll_get _ e fun hm => by
  have q : (H b).isSome = true := (List.mem_filter.mp hm).2
  rw [n] at q; simp at q
theorem of_hidT {h : Heap} {H : Hp} {b : Addr} {o : Obj} (e : (hidT h H).get? b = some o) : h.get? b = some o /\ H b = none := by
 have e' : h.get? b = some o := PySem.W.of_hideAll (trk h H) e
 refine ⟨e', ?_⟩
 cases q : H b with
 | none => rfl
 | some x =>
  have hm : b ∈ trk h H := List.mem_filter.mpr ⟨List.mem_range.mpr (Heap.lt_size e'), by simp [q]⟩
  have z : (hidT h H).get? b = none := PySem.W.hideAll_none (trk h H) hm
  rw [z] at e; cases e
end L2
namespace L2
open PySem PySem.Spec PyProof.Rows
structure Mod (K : PySem.W.Frag) (mg : Str -> Option Value) (base : Heap) : Prop where
 kin : K.In base
 glob : base.Ns mainGlobals mg
 blt : ∃ mb, base.Ns builtinsNs mb /\ ∀ x : Str, x ≠ "__name__" -> mb x = bootBuiltins x
 nolimit : base.NoLimit
structure Cx where
 prog : Program
 w : World
 K : PySem.W.Frag
 mg : Str -> Option Value
 base : Heap
 A : Around
 N : List Str
 s₀ : Shared
 H₀ : Hp
 env : Env
 outer : List Env
 stack : List Env
 ex : List Addr
 fn : Str -> Bool
 calm : Bool
 pn : List (Addr × Obj)
 xe : Value -> Shared -> Prop
noncomputable def frs (l : List Env) : List Addr := l.filterMap (·.frame)
noncomputable abbrev Cx.fs (X : Cx) : List Addr := frs X.outer
noncomputable def Vis (sc : Scope) (x : Str) : Prop := sc.names.lookup x = some .local \/ sc.names.lookup x = some .cell \/ sc.names.lookup x = some .free
noncomputable def Loc (sc : Scope) (x : Str) : Prop := sc.names.lookup x = some .local \/ sc.names.lookup x = some .cell
noncomputable def Look (env : Env) (h : Heap) (m : Str -> Option Value) (x : Str) (u : Value) : Prop :=
 (env.kindOf x = some .local /\ m x = some u) \/ ((env.kindOf x = some .cell \/ env.kindOf x = some .free) /\ ∃ c, env.cells.lookup x = some c /\ h.IsCell c (some u))
structure Cx.Ok (X : Cx) : Prop where
 mod : Mod X.K X.mg X.base
 kind : X.env.scope.kind = .function
 glob : X.env.globals = mainGlobals
 blt : X.env.builtins = builtinsNs
 above : X.s₀.heap.objs.size <= X.env.locals
 inj : ∀ x y c, X.env.cells.lookup x = some c -> X.env.cells.lookup y = some c -> x = y
 has : ∀ x, (X.env.kindOf x = some .cell \/ X.env.kindOf x = some .free) -> ∃ c, X.env.cells.lookup x = some c
 cab : ∀ x c, X.fn x = true -> X.env.cells.lookup x = some c -> X.s₀.heap.objs.size <= c
 hd : X.calm = true -> X.A.handled = none
 frames : X.A.frames = some X.stack
 stk : X.stack = X.outer \/ (X.stack = X.env :: X.outer /\ X.env.frame = some X.env.locals)
 exf : ∀ b ∈ X.ex, b ≠ X.env.locals /\ ∀ x c, X.env.cells.lookup x = some c -> c ≠ b
 bs : ∀ b o, X.base.get? b = some o -> X.s₀.heap.get? b = some o /\ X.H₀ b = none
 bsz : X.base.objs.size <= X.s₀.heap.objs.size
 noex : ∀ b o, X.base.get? b = some o -> b ∉ X.ex
 exfs : ∀ b ∈ X.ex, b ∉ X.fs
 funs : X.s₀.heap.FunFrames X.base X.outer
 frf : ∀ b ∈ X.fs, X.H₀ b = none
structure Inv (X : Cx) (pins : List (Addr × Obj)) (σ : List (Option V)) (H : Hp) (s : Shared) : Prop where
 ok : X.Ok
 os : s.os = X.s₀.os
 bare : AllBare s.gens
 base : Un X.fs X.ex X.H₀ H X.s₀.heap s.heap
 loc : ∃ m, s.heap.Ns X.env.locals m /\ ∀ (i : Nat) (x : Str) (v : V), X.N[i]? = some x -> σ[i]? = some (some v) -> Vis X.env.scope x -> ∃ u, RelV v u /\ Look X.env s.heap m x u
 cell : ∀ x c, X.env.cells.lookup x = some c -> ∃ v, s.heap.IsCell c v
 free : H X.env.locals = none
 freeC : ∀ x c, X.env.cells.lookup x = some c -> H c = none
 pin : ∀ p ∈ X.pn ++ pins, s.heap.get? p.1 = some p.2 /\ H p.1 = none /\ p.1 ≠ X.env.locals /\ p.1 ∉ X.fs /\ ∀ v, p.2.data ≠ .cell v
 hok : HOk X.prog X.w H s.heap
 len : σ.length = X.N.length
section
variable {X : Cx} {pins : List (Addr × Obj)} {σ : List (Option V)} {H H' : Hp} {s : Shared} {h' : Heap}
theorem Cx.Ok.nofr (ok : X.Ok) {b : Addr} {o : Obj} (e : X.base.get? b = some o) : b ∉ X.fs := fun hb => by
 have := (ok.funs.mem hb).1
 rw [e] at this; cases this
theorem Inv.bs (I : Inv X pins σ H s) : ∀ b o, X.base.get? b = some o -> s.heap.get? b = some o /\ H b = none := fun b o e =>
 ⟨I.base.keep b o (I.ok.bs b o e).1 (I.ok.bs b o e).2 (I.ok.nofr e) (I.ok.noex b o e), I.base.free b o (I.ok.bs b o e).1 (I.ok.bs b o e).2 (I.ok.noex b o e)⟩
theorem Inv.bk (I : Inv X pins σ H s) : ∀ b o, X.base.get? b = some o -> s.heap.get? b = some o := fun b o e => (I.bs b o e).1
theorem Inv.mod (I : Inv X pins σ H s) : Mod X.K X.mg X.base := I.ok.mod
theorem Inv.kIn (I : Inv X pins σ H s) : X.K.In s.heap := I.ok.mod.kin.keeps I.bk
theorem Inv.lt (I : Inv X pins σ H s) : X.env.locals < s.heap.objs.size := let ⟨_, hn, _⟩ := I.loc; hn.lt
theorem Inv.sz (I : Inv X pins σ H s) : X.s₀.heap.objs.size <= s.heap.objs.size := Nat.le_trans I.ok.above (Nat.le_of_lt I.lt)
theorem Inv.nofs (I : Inv X pins σ H s) {a : Addr} (h : s.heap.objs.size <= a) : a ∉ X.fs := fun hb => by
 obtain ⟨_, o, ho, _⟩ := I.ok.funs.mem hb
 exact absurd (Nat.lt_of_lt_of_le (Heap.lt_size ho) (Nat.le_trans I.sz h)) (Nat.lt_irrefl _)
theorem Inv.cne (I : Inv X pins σ H s) : ∀ x c, X.env.cells.lookup x = some c -> c ≠ X.env.locals := fun x c e z => by
 obtain ⟨v, o, ho, hd⟩ := I.cell x c e
 obtain ⟨m, ⟨o', es, ep, ho', hd', _⟩, _⟩ := I.loc
 rw [z, ho'] at ho; cases ho; rw [hd'] at hd; cases hd
theorem Inv.funs (I : Inv X pins σ H s) : s.heap.FunFrames X.base X.outer := by
 have all : ∀ (l : List Env), (∀ b ∈ frs l, b ∈ X.fs) -> X.s₀.heap.FunFrames X.base l -> s.heap.FunFrames X.base l := by
  intro l
  induction l with
  | nil => intro _ _; trivial
  | cons env r ih =>
   intro hs hl
   obtain ⟨hk, ⟨L, o, hf, hn, ho, hd⟩, hr⟩ := hl
   have hL : L ∈ X.fs := hs L (by unfold frs; rw [List.filterMap_cons, hf]; exact List.mem_cons_self)
   obtain ⟨sl, e⟩ := I.base.slot L o ho (I.ok.frf L hL) hL fun z => I.ok.exfs L z hL
   exact ⟨hk, ⟨L, _, hf, hn, e, hd⟩, ih (fun b hb => hs b (by unfold frs; rw [List.filterMap_cons, hf]; exact List.mem_cons_of_mem _ hb)) hr⟩
 exact all X.outer (fun _ hb => hb) I.ok.funs
theorem Inv.stack (I : Inv X pins σ H s) : s.heap.FunFrames X.base X.stack := by
 rcases I.ok.stk with e | ⟨e, hf⟩
 ·rw [e]; exact I.funs
 ·rw [e]
  obtain ⟨m, hn, _⟩ := I.loc
  refine .cons (by rw [I.ok.kind]; decide) hf hn ?_ I.funs
  exact Heap.get?_none_of_le (Nat.le_trans I.ok.bsz I.ok.above)
theorem Inv.stkSub (I : Inv X pins σ H s) : ∀ b ∈ frs X.stack, b ∈ X.env.locals :: X.fs := fun b hb => by
 rcases I.ok.stk with e | ⟨e, hf⟩
 ·rw [e] at hb; exact List.mem_cons_of_mem _ hb
 ·rw [e] at hb
  unfold frs at hb
  rw [List.filterMap_cons, hf] at hb
  exact hb
theorem Inv.stkFree (I : Inv X pins σ H s) : ∀ b ∈ frs X.stack, H b = none := fun b hb => by
 rcases List.mem_cons.mp (I.stkSub b hb) with e | hb
 ·rw [e]; exact I.free
 ·obtain ⟨_, o, ho, _⟩ := I.ok.funs.mem hb
  exact I.base.free b o ho (I.ok.frf b hb) fun z => I.ok.exfs b z hb
theorem Inv.step {g' : Array GenState} {t' : Nat} {d' : Drawn} {ch : List Addr} (I : Inv X pins σ H s)
  (hch : ∀ b ∈ ch, (b ∈ X.ex \/ X.s₀.heap.objs.size <= b) /\ b ≠ X.env.locals /\ (∀ x c, X.env.cells.lookup x = some c -> c ≠ b) /\ ∀ p ∈ X.pn ++ pins, p.1 ≠ b)
  (keep : ∀ b o, b ≠ X.env.locals -> b ∉ X.fs -> b ∉ ch -> s.heap.get? b = some o -> H b = none -> h'.get? b = some o)
  (slot : ∀ b o, b ≠ X.env.locals -> b ∈ X.fs -> b ∉ ch -> s.heap.get? b = some o -> H b = none -> ∃ sl, h'.get? b = some { o with slots := sl }) (free : ∀ b o, b ∉ ch -> s.heap.get? b = some o -> H b = none -> H' b = none)
  (there : ∀ b o, b ∉ ch -> s.heap.get? b = some o -> ∃ o', h'.get? b = some o')
  (tups : ∀ b xs, H b = some (.tup xs) -> H' b = some (.tup xs)) (frzs : ∀ b o u, H b = some (.frz o u) -> H' b = some (.frz o u)) (tbls : ∀ b ps, H b = some (.tbl ps) -> ∃ more, H' b = some (.tbl (ps ++ more)))
  (ns : ∀ m, s.heap.Ns X.env.locals m -> h'.Ns X.env.locals m) (hok : HOk X.prog X.w H' h') (hg : AllBare g') :
  Inv X pins σ H' { s with heap := h', gens := g', drawn := d', toks := t' } := by
 have neL : ∀ b o, X.s₀.heap.get? b = some o -> b ≠ X.env.locals := fun b o e => Nat.ne_of_lt (Nat.lt_of_lt_of_le (Heap.lt_size e) I.ok.above)
 have neC : ∀ b o, X.s₀.heap.get? b = some o -> b ∉ X.ex -> b ∉ ch := fun b o e hx hb => by
  rcases (hch b hb).1 with z | z
  ·exact hx z
  ·exact absurd (Nat.lt_of_lt_of_le (Heap.lt_size e) z) (Nat.lt_irrefl _)
 have cellK : ∀ x c, X.env.cells.lookup x = some c -> ∀ v, s.heap.IsCell c v -> h'.IsCell c v := fun x c e v ⟨o, ho, hd⟩ => by
  have nch : c ∉ ch := fun z => (hch c z).2.2.1 x c e rfl
  by_cases hc : c ∈ X.fs
  ·obtain ⟨sl, q⟩ := slot c o (I.cne x c e) hc nch ho (I.freeC x c e)
   exact ⟨_, q, hd⟩
  ·exact ⟨o, keep c o (I.cne x c e) hc nch ho (I.freeC x c e), hd⟩
 refine ⟨I.ok, I.os, hg, ⟨fun b o e n hb hx => ?_, fun b o e n hb hx => ?_, fun b o e n hx => ?_, fun b o e hx => ?_, fun b xs e => tups b xs (I.base.tups b xs e), fun b o xs e => frzs b o xs (I.base.frzs b o xs e), fun b ps e => ?_⟩, ?_, fun x c e => ?_, ?_, fun x c e => ?_, fun p hp => ?_, hok, I.len⟩
 ·exact keep b o (neL b o e) hb (neC b o e hx) (I.base.keep b o e n hb hx) (I.base.free b o e n hx)
 ·obtain ⟨sl, e1⟩ := I.base.slot b o e n hb hx
  obtain ⟨sl', e2⟩ := slot b _ (neL b o e) hb (neC b o e hx) e1 (I.base.free b o e n hx)
  exact ⟨sl', e2⟩
 ·obtain ⟨o', e1⟩ := I.base.there b o e hx
  exact free b o' (neC b o e hx) e1 (I.base.free b o e n hx)
 ·obtain ⟨o', e1⟩ := I.base.there b o e hx
  exact there b o' (neC b o e hx) e1
 ·obtain ⟨m1, e1⟩ := I.base.tbls b ps e
  obtain ⟨m2, e2⟩ := tbls b _ e1
  exact ⟨m1 ++ m2, by rw [e2, Array.append_assoc]⟩
 ·obtain ⟨m, hn, hl⟩ := I.loc
  refine ⟨m, ns m hn, fun i x v e1 e2 e3 => ?_⟩
  obtain ⟨u, r, l⟩ := hl i x v e1 e2 e3
  refine ⟨u, r, ?_⟩
  rcases l with l | ⟨k, c, e, z⟩
  ·exact .inl l
  ·exact .inr ⟨k, c, e, cellK x c e _ z⟩
 ·obtain ⟨v, z⟩ := I.cell x c e
  exact ⟨v, cellK x c e v z⟩
 ·obtain ⟨m, ⟨o, _, _, ho, _⟩, _⟩ := I.loc
  exact free _ o (fun z => (hch _ z).2.1 rfl) ho I.free
 ·obtain ⟨v, o, ho, hd⟩ := I.cell x c e
  exact free c o (fun z => (hch c z).2.2.1 x c e rfl) ho (I.freeC x c e)
 ·obtain ⟨e, n, ne, nf, d⟩ := I.pin p hp
  have nch : p.1 ∉ ch := fun z => (hch p.1 z).2.2.2 p hp rfl
  exact ⟨keep p.1 p.2 ne nf nch e n, free p.1 p.2 nch e n, ne, nf, d⟩
theorem Inv.un {t' : Nat} (I : Inv X pins σ H s) (u : Un X.fs [] H H' s.heap h') (hok : HOk X.prog X.w H' h') : Inv X pins σ H' { s with heap := h', toks := t' } := by
 obtain ⟨m, ⟨o, es, ep, ho, r⟩, _⟩ := id I.loc
 obtain ⟨sl, hL⟩ := u.any ho I.free (by simp)
 exact I.step (g' := s.gens) (d' := s.drawn) (ch := []) (fun _ z => nomatch z) (fun b o _ hb _ e n => u.keep b o e n hb (by simp)) (fun b o _ hb _ e n => u.slot b o e n hb (by simp)) (fun b o _ e n => u.free b o e n (by simp)) (fun b o _ e => u.there b o e (by simp)) u.tups u.frzs u.tbls (fun m' hm => by
  obtain ⟨o', es', ep', ho', r'⟩ := hm
  rw [ho] at ho'; cases ho'
  exact ⟨_, es', ep', hL, r'⟩) hok I.bare
theorem Inv.call {g' : Array GenState} {t' : Nat} {d' : Drawn} {ch : List Addr} (I : Inv X pins σ H s) (u : Un (frs X.stack) ch H H' s.heap h') (hok : HOk X.prog X.w H' h') (hg : AllBare g')
  (hch : ∀ b ∈ ch, (b ∈ X.ex \/ X.s₀.heap.objs.size <= b) /\ b ≠ X.env.locals /\ (∀ x c, X.env.cells.lookup x = some c -> c ≠ b) /\ ∀ p ∈ X.pn ++ pins, p.1 ≠ b) :
  Inv X pins σ H' { s with heap := h', gens := g', drawn := d', toks := t' } := by
 obtain ⟨m, ⟨o, es, ep, ho, r⟩, _⟩ := id I.loc
 obtain ⟨sl, hL⟩ := u.any ho I.free fun z => (hch _ z).2.1 rfl
 exact I.step (ch := ch) hch (fun b o hL hb hc e n => u.keep b o e n (fun z => (List.mem_cons.mp (I.stkSub b z)).elim hL hb) hc) (fun b o _ _ hc e n => u.any e n hc) (fun b o hc e n => u.free b o e n hc) (fun b o hc e => u.there b o e hc) u.tups u.frzs u.tbls (fun m' hm => by
  obtain ⟨o', es', ep', ho', r'⟩ := hm
  rw [ho] at ho'; cases ho'
  exact ⟨_, es', ep', hL, r'⟩) hok hg
theorem Inv.turned {t' : Nat} {it : Addr} (I : Inv X pins σ H s) (k : ∀ b o, b ≠ it -> s.heap.get? b = some o -> h'.get? b = some o) (hn : H it = none) (hL : it ≠ X.env.locals)
  (h1 : it ∈ X.ex \/ X.s₀.heap.objs.size <= it) (h2 : ∀ x c, X.env.cells.lookup x = some c -> c ≠ it) (h3 : ∀ p ∈ X.pn ++ pins, p.1 ≠ it) : Inv X pins σ H { s with heap := h', toks := t' } := by
 have nit : ∀ b u, H b = some u -> b ≠ it := fun b u e z => by rw [z, hn] at e; cases e
 refine I.step (g' := s.gens) (d' := s.drawn) (ch := [it]) (fun b hb => ?_) (fun b o _ _ hc e _ => k b o (fun z => hc (by simp [z])) e) (fun b o _ _ hc e _ => ⟨o.slots, k b o (fun z => hc (by simp [z])) e⟩) (fun _ _ _ _ n => n)
  (fun b o hc e => ⟨o, k b o (fun z => hc (by simp [z])) e⟩) (fun _ _ e => e) (fun _ _ _ e => e) (fun b ps e => ⟨#[], by rw [e]; simp⟩) (fun m hm => ?_) (fun b u e => ?_) I.bare
 ·have e : b = it := by simpa using hb
  subst e
  exact ⟨h1, hL, h2, h3⟩
 ·obtain ⟨o, es, ep, ho, r⟩ := hm
  exact ⟨o, es, ep, k _ o (Ne.symm hL) ho, r⟩
 ·refine (I.hok b u e).stay (fun c v hc q => k c v ?_ q) (fun _ q => q) fun _ _ q => q
  rcases hc with z | z
  ·rw [z]; exact nit b u e
  ·exact nit c _ z
theorem Inv.tok (I : Inv X pins σ H s) (t : Nat) : Inv X pins σ H { s with toks := t } := I.un (h' := s.heap) (t' := t) Un.refl I.hok
theorem Inv.kept {t' : Nat} (I : Inv X pins σ H s) (k : ∀ b u, s.heap.get? b = some u -> h'.get? b = some u) : Inv X pins σ H { s with heap := h', toks := t' } := I.un (Un.kept k) (I.hok.kept k)
theorem Inv.laid {a : Addr} {o : HO} {t' : Nat} (I : Inv X pins σ H s) (k : ∀ b u, s.heap.get? b = some u -> h'.get? b = some u) (hp : s.heap.objs.size <= a) (new : ObjOk X.prog X.w (upd H a o) h' a o) :
  Inv X pins σ (upd H a o) { s with heap := h', toks := t' } := I.un (Un.laid k hp (I.hok.fresh hp)) (I.hok.laid k hp new)
theorem Inv.write {x e : Addr} {o : HO} {t' : Nat} (I : Inv X pins σ H s) (mu : Mut (H x)) (he : e = x \/ H e = some (.own x)) (k : ∀ b u, b ≠ e -> s.heap.get? b = some u -> h'.get? b = some u) (heo : ∃ u, h'.get? e = some u)
  (new : ObjOk X.prog X.w (upd H x o) h' x o) : Inv X pins σ (upd H x o) { s with heap := h', toks := t' } := I.un (Un.write mu he k heo) (I.hok.write mu he k heo new)
theorem Inv.pins_of {pins' : List (Addr × Obj)} (I : Inv X pins σ H s) (h : ∀ p ∈ pins', s.heap.get? p.1 = some p.2 /\ H p.1 = none /\ p.1 ≠ X.env.locals /\ p.1 ∉ X.fs /\ ∀ v, p.2.data ≠ .cell v) : Inv X pins' σ H s :=
 ⟨I.ok, I.os, I.bare, I.base, I.loc, I.cell, I.free, I.freeC, fun p hp => (List.mem_append.mp hp).elim (fun z => I.pin p (List.mem_append_left _ z)) (h p), I.hok, I.len⟩
theorem nodup_ix {N : List Str} (hN : N.Nodup) {i j : Nat} {x : Str} (a : N[i]? = some x) (b : N[j]? = some x) : i = j := by
 obtain ⟨h1, e1⟩ := List.getElem?_eq_some_iff.mp a
 obtain ⟨h2, e2⟩ := List.getElem?_eq_some_iff.mp b
 exact (List.getElem_inj hN).mp (e1.trans e2.symm)
theorem store_ok2 {M : Model} {A : Around} {E : Value -> Shared -> Prop} {i : Nat} {x : Str} {v : V} {u : Value} {Q : Unit -> Shared -> Prop} (I : Inv X pins σ H s) (hN : X.N.Nodup) (hi : X.N[i]? = some x) (hx : Loc X.env.scope x) (r : RelV v u)
  (h : ∀ s', Inv X pins (σ.set i (some v)) H s' -> (∃ a, Heap.SameBut a s.heap s'.heap /\ (a = X.env.locals \/ X.env.cells.lookup x = some a)) -> Q () s') (hf : X.fn x = true \/ X.env.scope.names.lookup x = some .local := by first | exact .inl rfl | exact .inr rfl | assumption) : wpAny M A (storeName X.env x u) Q E s := by
 obtain ⟨m, hn, hl⟩ := id I.loc
 have hcls : (X.env.scope.kind == .class || (X.env.scope.kind == .module && X.env.locals != X.env.globals)) = false := by rw [I.ok.kind]; rfl
 have hiσ : i < σ.length := by rw [I.len]; exact (List.getElem?_eq_some_iff.mp hi).1
 have cne := I.cne
 have tracked : ∀ {a : Addr} {h' : Heap}, (∃ o, s.heap.get? a = some o /\ H a = none) -> Heap.SameBut a s.heap h' -> HOk X.prog X.w H h' := fun {a h'} ha hs b ob e => by
  obtain ⟨_, _, hfree⟩ := ha
  refine (I.hok b ob e).stay (fun c w' hc q => (hs.2 c ?_).trans q) (fun _ q => q) fun _ _ q => q
  rintro rfl
  rcases hc with rfl | hc
  ·rw [hfree] at e; cases e
  ·rw [hfree] at hc; cases hc
 rcases hx with hk | hk
 ·refine wpAny_storeName_local hk hn (fun h' hn' hs => ?_) hcls
  obtain ⟨oL, _, _, hoL, _⟩ := id hn
  refine h _ ⟨I.ok, I.os, I.bare, ⟨fun b o e n hb hx => ?_, fun b o e n hb hx => ?_, I.base.free, fun b o e hx => ?_, I.base.tups, I.base.frzs, I.base.tbls⟩, ⟨_, hn', fun j y v' e1 e2 e3 => ?_⟩, fun y c e => ?_, I.free, I.freeC, fun p hp => ?_, tracked ⟨oL, hoL, I.free⟩ hs, by simpa using I.len⟩ ⟨_, hs, .inl rfl⟩
  ·exact (hs.2 b (Nat.ne_of_lt (Nat.lt_of_lt_of_le (Heap.lt_size e) I.ok.above))).trans (I.base.keep b o e n hb hx)
  ·obtain ⟨sl, e1⟩ := I.base.slot b o e n hb hx
   exact ⟨sl, (hs.2 b (Nat.ne_of_lt (Nat.lt_of_lt_of_le (Heap.lt_size e) I.ok.above))).trans e1⟩
  ·obtain ⟨o', e1⟩ := I.base.there b o e hx
   exact ⟨o', (hs.2 b (Nat.ne_of_lt (Nat.lt_of_lt_of_le (Heap.lt_size e) I.ok.above))).trans e1⟩
  ·by_cases hj : j = i
   ·subst hj
    rw [hi] at e1; cases e1
    rw [List.getElem?_set_self hiσ] at e2
    cases e2
    exact ⟨u, r, .inl ⟨hk, by simp⟩⟩
   ·rw [List.getElem?_set_ne (Ne.symm hj)] at e2
    obtain ⟨u', r', q⟩ := hl j y v' e1 e2 e3
    refine ⟨u', r', ?_⟩
    rcases q with ⟨k, e⟩ | ⟨k, c, e, z⟩
    ·refine .inl ⟨k, ?_⟩
     have : y ≠ x := fun e => hj (nodup_ix hN e1 (e ▸ hi))
     simp [this, e]
    ·exact .inr ⟨k, c, e, z.sameBut hs (cne y c e)⟩
  ·obtain ⟨w', z⟩ := I.cell y c e
   exact ⟨w', z.sameBut hs (cne y c e)⟩
  ·obtain ⟨e, n, ne, nf, d⟩ := I.pin p hp
   exact ⟨(hs.2 p.1 ne).trans e, n, ne, nf, d⟩
 ·have hfn : X.fn x = true := by
   rcases hf with z | z
   ·exact z
   ·rw [z] at hk; cases hk
  obtain ⟨c, hc⟩ := I.ok.has x (.inl hk)
  obtain ⟨w', z⟩ := I.cell x c hc
  refine wpAny_storeName_cell I.ok.kind hk hc z (fun h' hc' hs => ?_)
  obtain ⟨oc, hoc, hocd⟩ := id z
  refine h { s with heap := h' } ⟨I.ok, I.os, I.bare, ⟨fun b o e n hb hx => ?_, fun b o e n hb hx => ?_, I.base.free, fun b o e hx => ?_, I.base.tups, I.base.frzs, I.base.tbls⟩, ⟨m, hn.sameBut hs (Ne.symm (cne x c hc)), fun j y v' e1 e2 e3 => ?_⟩, fun y c' e => ?_, I.free, I.freeC, fun p hp => ?_, tracked ⟨oc, hoc, I.freeC x c hc⟩ hs, by simpa using I.len⟩ ⟨c, hs, .inr hc⟩
  ·exact (hs.2 b (Nat.ne_of_lt (Nat.lt_of_lt_of_le (Heap.lt_size e) (I.ok.cab x c hfn hc)))).trans (I.base.keep b o e n hb hx)
  ·obtain ⟨sl, e1⟩ := I.base.slot b o e n hb hx
   exact ⟨sl, (hs.2 b (Nat.ne_of_lt (Nat.lt_of_lt_of_le (Heap.lt_size e) (I.ok.cab x c hfn hc)))).trans e1⟩
  ·obtain ⟨o', e1⟩ := I.base.there b o e hx
   exact ⟨o', (hs.2 b (Nat.ne_of_lt (Nat.lt_of_lt_of_le (Heap.lt_size e) (I.ok.cab x c hfn hc)))).trans e1⟩
  ·by_cases hj : j = i
   ·subst hj
    rw [hi] at e1; cases e1
    rw [List.getElem?_set_self hiσ] at e2
    cases e2
    exact ⟨u, r, .inr ⟨.inl hk, c, hc, hc'⟩⟩
   ·rw [List.getElem?_set_ne (Ne.symm hj)] at e2
    obtain ⟨u', r', q⟩ := hl j y v' e1 e2 e3
    refine ⟨u', r', ?_⟩
    rcases q with q | ⟨k, c', e, z'⟩
    ·exact .inl q
    ·refine .inr ⟨k, c', e, z'.sameBut hs ?_⟩
     rintro rfl
     exact hj (nodup_ix hN e1 (I.ok.inj _ _ _ e hc ▸ hi))
  ·by_cases hcc : c' = c
   ·subst hcc; exact ⟨_, hc'⟩
   ·obtain ⟨w2, z2⟩ := I.cell y c' e
    exact ⟨w2, z2.sameBut hs hcc⟩
  ·obtain ⟨e, n, ne, nf, d⟩ := I.pin p hp
   refine ⟨(hs.2 p.1 ?_).trans e, n, ne, nf, d⟩
   intro q
   rw [q, hoc] at e
   have q' : oc = p.2 := Option.some.inj e
   exact d w' (by rw [<- q']; exact hocd)
theorem store_ok {M : Model} {A : Around} {E : Value -> Shared -> Prop} {i : Nat} {x : Str} {v : V} {u : Value} {Q : Unit -> Shared -> Prop} (I : Inv X pins σ H s) (hN : X.N.Nodup) (hi : X.N[i]? = some x) (hx : Loc X.env.scope x) (r : RelV v u)
  (h : ∀ s', Inv X pins (σ.set i (some v)) H s' -> Q () s') (hf : X.fn x = true \/ X.env.scope.names.lookup x = some .local := by first | exact .inl rfl | exact .inr rfl | assumption) : wpAny M A (storeName X.env x u) Q E s :=
 store_ok2 I hN hi hx r (fun s' I' _ => h s' I') hf
theorem Inv.call' {s' : Shared} {ch : List Addr} (I : Inv X pins σ H s) (ho : s'.os = s.os) (u : Un (frs X.stack) ch H H' s.heap s'.heap) (hok : HOk X.prog X.w H' s'.heap) (hg : AllBare s'.gens)
  (hch : ∀ b ∈ ch, (b ∈ X.ex \/ X.s₀.heap.objs.size <= b) /\ b ≠ X.env.locals /\ (∀ x c, X.env.cells.lookup x = some c -> c ≠ b) /\ ∀ p ∈ X.pn ++ pins, p.1 ≠ b) : Inv X pins σ H' s' := by
 obtain ⟨h', g', d', t', o'⟩ := s'
 have e : o' = s.os := ho
 subst e
 exact I.call (g' := g') (t' := t') (d' := d') u hok hg hch
end
noncomputable abbrev XK := Value -> Option Addr -> Hp -> Prop
noncomputable abbrev St := List (Option V)
noncomputable abbrev VK := V -> Hp -> Prop
noncomputable abbrev TE := St -> Hp -> VK -> Prop
noncomputable abbrev TT := St -> Hp -> (Bool -> Hp -> Prop) -> Prop
noncomputable abbrev TA := St -> Hp -> (List V -> Hp -> Prop) -> Prop
structure Ends where
 nx : St -> Hp -> Prop
 rt : VK
 bk : St -> Hp -> Prop := fun _ _ => False
 ct : St -> Hp -> Prop := fun _ _ => False
noncomputable abbrev TS := Ends -> St -> Hp -> Prop
noncomputable def EP (X : Cx) (pins : List (Addr × Obj)) (σ : St) (Q : VK) (u : Value) (s' : Shared) : Prop := ∃ v H', Inv X pins σ H' s' /\ RelV v u /\ Q v H'
noncomputable def TP (X : Cx) (pins : List (Addr × Obj)) (σ : St) (Q : Bool -> Hp -> Prop) (b : Bool) (s' : Shared) : Prop := ∃ H', Inv X pins σ H' s' /\ Q b H'
noncomputable def AP (X : Cx) (pins : List (Addr × Obj)) (σ : St) (Q : List V -> Hp -> Prop) (us : List Value) (s' : Shared) : Prop := ∃ vs H', Inv X pins σ H' s' /\ Vals vs us /\ Q vs H'
noncomputable def SP (X : Cx) (pins : List (Addr × Obj)) (D : Ends) (f : Flow) (s' : Shared) : Prop :=
 match f with
 | .next => ∃ σ' H', Inv X pins σ' H' s' /\ D.nx σ' H'
 | .brk => ∃ σ' H', Inv X pins σ' H' s' /\ D.bk σ' H'
 | .cont => ∃ σ' H', Inv X pins σ' H' s' /\ D.ct σ' H'
 | .ret u => ∃ v σ' H', Inv X pins σ' H' s' /\ RelV v u /\ D.rt v H'
noncomputable def PE (X : Cx) (e : Expr) (t : TE) : Prop :=
 ∀ (pins : List (Addr × Obj)) (s : Shared) (σ : St) (H : Hp) (Q : VK), Inv X pins σ H s -> t σ H Q -> wpAny (model X.prog X.w) X.A (eval e X.env) (EP X pins σ Q) X.xe s
noncomputable def PT (X : Cx) (e : Expr) (t : TT) : Prop :=
 ∀ (pins : List (Addr × Obj)) (s : Shared) (σ : St) (H : Hp) (Q : Bool -> Hp -> Prop), Inv X pins σ H s -> t σ H Q -> wpAny (model X.prog X.w) X.A (isTrue e X.env (eval e X.env)) (TP X pins σ Q) X.xe s
noncomputable def PW (X : Cx) (e : Expr) (t : TT) : Prop :=
 ∀ (whole : Sem Value) (pins : List (Addr × Obj)) (s : Shared) (σ : St) (H : Hp) (Q : Bool -> Hp -> Prop), Inv X pins σ H s -> t σ H Q -> wpAny (model X.prog X.w) X.A (isTrue e X.env whole) (TP X pins σ Q) X.xe s
theorem PW.pt {X : Cx} {e : Expr} {t : TT} (h : PW X e t) : PT X e t := h _
noncomputable def PA (X : Cx) (es : List Expr) (t : TA) : Prop :=
 ∀ (pos : Pos) (pins : List (Addr × Obj)) (s : Shared) (σ : St) (H : Hp) (Q : List V -> Hp -> Prop), Inv X pins σ H s -> t σ H Q -> wpAny (model X.prog X.w) X.A (spliced (backTo pos (starEach es X.env))) (AP X pins σ Q) X.xe s
noncomputable def PS (X : Cx) (st : Stmt) (t : TS) : Prop :=
 ∀ (pins : List (Addr × Obj)) (s : Shared) (σ : St) (H : Hp) (D : Ends), Inv X pins σ H s -> t D σ H -> wpAny (model X.prog X.w) X.A (exec st X.env) (SP X pins D) X.xe s
noncomputable def PSs (X : Cx) (st : List Stmt) (t : TS) : Prop :=
 ∀ (pins : List (Addr × Obj)) (s : Shared) (σ : St) (H : Hp) (D : Ends), Inv X pins σ H s -> t D σ H -> wpAny (model X.prog X.w) X.A (execs st X.env) (SP X pins D) X.xe s
theorem thn {α : Type} {t : Sem α} {Q Q' : α -> Shared -> Prop} {M : Model} {A : Around} {E : Value -> Shared -> Prop} {s : Shared} (h : wpAny M A t Q E s) (hQ : ∀ a s, Q a s -> Q' a s) : wpAny M A t Q' E s := wpAny_mono h hQ fun _ _ x => x
end L2
namespace L2
open PySem PySem.Spec PyProof.Rows
section
variable {X : Cx}
noncomputable def tVar (i : Nat) : TE := fun σ H Q => ∃ v, σ[i]? = some (some v) /\ Q v H
noncomputable def tC (v : V) : TE := fun _ H Q => Q v H
theorem pe_var {i : Nat} {x : Str} {pos : Pos} (hN : X.N[i]? = some x) (hv : Vis X.env.scope x) (hd : (x == ("__debug__" : Str)) = false := by decide) (hcd : (x == ("__classdict__" : Str)) = false := by decide) : PE X (.Name x pos) (tVar i) := by
 intro pins s σ H Q I h
 obtain ⟨v, e, h⟩ := h
 obtain ⟨m, hn, hl⟩ := I.loc
 obtain ⟨u, r, l⟩ := hl i x v hN e hv
 have fin : EP X pins σ Q u s := ⟨v, H, I, r, h⟩
 rcases l with ⟨hk, hm⟩ | ⟨hk, c, hc, hcell⟩
 ·exact wpAny_Name (wpAny_loadName_local I.ok.kind hk hn hm fin) hd
 ·rcases hk with hk | hk
  ·exact wpAny_Name (wpAny_loadName_cell I.ok.kind hk hc hcell fin) hd
  ·exact wpAny_Name (wpAny_loadName_free I.ok.kind hk hc hcell fin hcd) hd
theorem pe_int {i j pos} : PE X (.Constant (.int i) j pos) (tC (.int i)) := fun _ _ _ H _ I h => wpAny_Constant_int ⟨.int i, H, I.tok _, ⟨_, rfl⟩, h⟩
theorem pe_bl {b j pos} : PE X (.Constant (.bool b) j pos) (tC (.bl b)) := fun _ _ _ H _ I h => Constant_bool ⟨.bl b, H, I, rfl, h⟩
theorem pe_non {j pos} : PE X (.Constant .none j pos) (tC .non) := fun _ _ _ H _ I h => Constant_none ⟨.non, H, I, rfl, h⟩
noncomputable def Gl (X : Cx) (x : Str) : Prop := X.env.kindOf x = some .globalImplicit
theorem ld_glob {E : Value -> Shared -> Prop} {pins : List (Addr × Obj)} {s : Shared} {σ : St} {H : Hp} {x : Str} {u : Value} {pos : Pos} {Q : Value -> Shared -> Prop} (I : Inv X pins σ H s) (hg : Gl X x) (hm : X.mg x = some u) (h : Q u s)
  (hd : (x == ("__debug__" : Str)) = false := by decide) : wpAny (model X.prog X.w) X.A (eval (.Name x pos) X.env) Q E s :=
 Calls.Name_function_global I.ok.kind hg (Calls.loadGlobal_global (by rw [I.ok.glob]; exact I.mod.glob.keeps I.bk) hm h) hd
theorem ld_blt {E : Value -> Shared -> Prop} {pins : List (Addr × Obj)} {s : Shared} {σ : St} {H : Hp} {x : Str} {u : Value} {pos : Pos} {Q : Value -> Shared -> Prop} (I : Inv X pins σ H s) (hg : Gl X x) (hm : X.mg x = none) (hv : bootBuiltins x = some u) (h : Q u s)
  (hn : x ≠ "__name__" := by decide) (hd : (x == ("__debug__" : Str)) = false := by decide) : wpAny (model X.prog X.w) X.A (eval (.Name x pos) X.env) Q E s := by
 obtain ⟨mb, h1, h2⟩ := I.mod.blt
 exact Calls.Name_function_global I.ok.kind hg (Calls.loadGlobal_builtin (by rw [I.ok.glob]; exact I.mod.glob.keeps I.bk) hm (by rw [I.ok.blt]; exact h1.keeps I.bk) ((h2 x hn).trans hv) h) hd
variable {a b : Expr} {ta tb : TE} {pos : Pos}
noncomputable def PC (X : Cx) (op : CmpOp) (a b : Expr) (t : TE) : Prop :=
 ∀ (pins : List (Addr × Obj)) (s : Shared) (σ : St) (H : Hp) (Q : VK), Inv X pins σ H s -> t σ H Q ->
  wpAny (model X.prog X.w) X.A (eval a X.env) (fun v s₁ => wpAny (model X.prog X.w) X.A (eval b X.env) (fun u s₂ => wpAny (model X.prog X.w) X.A (compareOp op v u) (EP X pins σ Q) X.xe s₂) X.xe s₁) X.xe s
theorem nobehind (b : Expr) {op : CmpOp} (h : op ≠ .In) (h2 : op ≠ .NotIn) : behindInMarks op b = false := by
 have e1 : (op == CmpOp.In) = false := by cases op <;> first | rfl | exact absurd rfl h
 have e2 : (op == CmpOp.NotIn) = false := by cases op <;> first | rfl | exact absurd rfl h2
 cases b <;> simp [behindInMarks, e1, e2]
noncomputable def tIsN (ta : TE) : TE := fun σ H Q => ta σ H fun x H1 => Q (.bl (decide (x = .non))) H1
noncomputable def tNotN (ta : TE) : TE := fun σ H Q => ta σ H fun x H1 => Q (.bl (!decide (x = .non))) H1
theorem RelV.none_iff {x : V} {v : Value} (r : RelV x v) : (v == Value.none) = decide (x = .non) := by
 cases x with
 | non => cases r; rfl
 | bl _ => cases r; rfl
 | int _ => obtain ⟨t, rfl⟩ := r; rfl
 | str _ => obtain ⟨t, rfl⟩ := r; rfl
 | byt _ => obtain ⟨t, rfl⟩ := r; rfl
 | flt _ => obtain ⟨t, rfl⟩ := r; rfl
 | ref _ => cases r; rfl
 | ty _ => cases r; rfl
theorem pc_isN {j pos'} (ha : PE X a ta) : PC X .Is a (.Constant .none j pos') (tIsN ta) := by
 intro pins s σ H Q I h
 refine thn (ha pins s σ H _ I h) fun v s1 ⟨x, H1, I1, r1, q1⟩ => ?_
 exact Constant_none (is_none_gen ⟨.bl _, H1, I1, by rw [r1.none_iff]; rfl, q1⟩)
theorem pc_notN {j pos'} (ha : PE X a ta) : PC X .IsNot a (.Constant .none j pos') (tNotN ta) := by
 intro pins s σ H Q I h
 refine thn (ha pins s σ H _ I h) fun v s1 ⟨x, H1, I1, r1, q1⟩ => ?_
 exact Constant_none (isnot_none_gen ⟨.bl _, H1, I1, by rw [r1.none_iff]; rfl, q1⟩)
noncomputable def tB (t : TE) : TT := fun σ H Q => t σ H fun x H1 => ∃ c, x = .bl c /\ Q c H1
theorem pt_cmp {op : CmpOp} {t : TE} (h : PC X op a b t) (h1 : behindInMarks op b = false := by first | exact nobehind _ (by decide) (by decide) | rfl) : PT X (.Compare a [op] [b] pos) (tB t) := by
 intro pins s σ H Q I hw
 refine wpAny_isTrue_Compare1 (thn (h pins s σ H _ I hw) fun v s1 h1 => thn h1 fun u s2 h2 => thn h2 fun c s3 ⟨x, H1, I1, r1, q1⟩ => ?_) h1
 obtain ⟨d, rfl, q⟩ := q1
 cases r1
 exact wpAny_truthy_bool ⟨H1, I1, q⟩
theorem pt_val {e : Expr} {t : TE} (h : PE X e t) (he : ∀ whole, isTrue e X.env whole = (do let v <- whole; standAt e.pos; holding [v] (truthy v)) := by intro _; rfl) : PT X e (tB t) := by
 intro pins s σ H Q I hw
 refine isTrue_plain (thn (h pins s σ H _ I hw) fun v s1 ⟨x, H1, I1, r1, q1⟩ => ?_) (he _)
 obtain ⟨d, rfl, q⟩ := q1
 cases r1
 exact wpAny_truthy_bool ⟨H1, I1, q⟩
variable {tA tB' : TT} {rest : List Expr}
noncomputable def tAnd (t u : TT) : TT := fun σ H Q => t σ H fun c H1 => if c = true then u σ H1 Q else Q false H1
noncomputable def tOr (t u : TT) : TT := fun σ H Q => t σ H fun c H1 => if c = true then Q true H1 else u σ H1 Q
noncomputable def tNot (t : TT) : TT := fun σ H Q => t σ H fun c H1 => Q (!c) H1
theorem pw_and1 (ha : PT X a tA) : PW X (.BoolOp .And [a] pos) tA := by
 intro wh pins s σ H Q I h
 refine isTrue_and (thn (ha pins s σ H Q I h) fun c s1 e => ?_)
 cases c with
 | true => exact isTrue_and_nil e
 | false => exact e
theorem pw_or1 (ha : PT X a tA) : PW X (.BoolOp .Or [a] pos) tA := by
 intro wh pins s σ H Q I h
 refine isTrue_or (thn (ha pins s σ H Q I h) fun c s1 e => ?_)
 cases c with
 | false => exact isTrue_or_nil e
 | true => exact e
theorem pw_and (ha : PT X a tA) (hb : PW X (.BoolOp .And (b :: rest) pos) tB') : PW X (.BoolOp .And (a :: b :: rest) pos) (tAnd tA tB') := by
 intro wh pins s σ H Q I h
 refine isTrue_and (thn (ha pins s σ H _ I h) fun c s1 ⟨H1, I1, q1⟩ => ?_)
 cases c with
 | true => exact hb wh pins s1 σ H1 Q I1 q1
 | false => exact ⟨H1, I1, q1⟩
theorem pw_or (ha : PT X a tA) (hb : PW X (.BoolOp .Or (b :: rest) pos) tB') : PW X (.BoolOp .Or (a :: b :: rest) pos) (tOr tA tB') := by
 intro wh pins s σ H Q I h
 refine isTrue_or (thn (ha pins s σ H _ I h) fun c s1 ⟨H1, I1, q1⟩ => ?_)
 cases c with
 | true => exact ⟨H1, I1, q1⟩
 | false => exact hb wh pins s1 σ H1 Q I1 q1
theorem pt_not (ha : PT X a tA) : PT X (.UnaryOp .Not a pos) (tNot tA) := by
 intro pins s σ H Q I h
 exact isTrue_not (ha pins s σ H (fun c H1 => Q (!c) H1) I h)
noncomputable def tIf (t : TT) (ta tb : TE) : TE := fun σ H Q => t σ H fun c H1 => if c = true then ta σ H1 Q else tb σ H1 Q
theorem pe_ifExp {c : Expr} (hc : PT X c tA) (ha : PE X a ta) (hb : PE X b tb) : PE X (.IfExp c a b pos) (tIf tA ta tb) := by
 intro pins s σ H Q I h
 refine wpAny_IfExp (thn (hc pins s σ H _ I h) fun d s1 ⟨H1, I1, q1⟩ => ?_)
 cases d with
 | true => exact ha pins s1 σ H1 Q I1 q1
 | false => exact hb pins s1 σ H1 Q I1 q1
end
end L2
namespace L2
open PySem PySem.Spec PyProof.Rows
noncomputable def SqL (K : PySem.W.Frag) (H : Hp) (a : Addr) (xs : List V) : Prop :=
 Rd H a (.lst xs) \/
  ∃ (o : Obj) (its : Array Value) (n : Nat), K.lookup a = some o /\ o.cls = .type "list" /\ o.dict = none /\ o.data = .seq its n /\ its.size <= sizeLine /\ Vals xs its.toList
noncomputable def SqT (K : PySem.W.Frag) (H : Hp) (a : Addr) (xs : List V) : Prop :=
 Rd H a (.tup xs) \/
  ∃ (o : Obj) (its : Array Value) (n : Nat), K.lookup a = some o /\ o.cls = .type "tuple" /\ o.data = .seq its n /\ its.size <= sizeLine /\ Vals xs its.toList
noncomputable def absV : Value -> Option V
 | .none => some .non
 | .bool b => some (.bl b)
 | .int i _ => some (.int i)
 | .str x _ => some (.str x)
 | .bytes b _ => some (.byt b)
 | .float b _ => some (.flt b)
 | .ref a => some (.ref a)
 | .type n => some (.ty n)
 | _ => none
theorem RelV.abs {x : V} {u : Value} (r : RelV x u) : absV u = some x := by
 cases x with
 | non => cases r; rfl
 | bl _ => cases r; rfl
 | int _ => obtain ⟨t, rfl⟩ := r; rfl
 | str _ => obtain ⟨t, rfl⟩ := r; rfl
 | byt _ => obtain ⟨t, rfl⟩ := r; rfl
 | flt _ => obtain ⟨t, rfl⟩ := r; rfl
 | ref _ => cases r; rfl
 | ty _ => cases r; rfl
theorem RelV.inj {x y : V} {u : Value} (r : RelV x u) (q : RelV y u) : x = y := Option.some.inj (r.abs.symm.trans q.abs)
theorem Vals.inj : ∀ {xs ys : List V} {us : List Value}, Vals xs us -> Vals ys us -> xs = ys
 | _, _, _, .nil, .nil => rfl
 | _, _, _, .cons r t, .cons r' t' => by rw [r.inj r', Vals.inj t t']
section
variable {X : Cx} {pins : List (Addr × Obj)} {σ : St} {H : Hp} {s : Shared} {a : Addr} {xs ys : List V}
theorem SqL.of {K : PySem.W.Frag} (h : H a = some (.lst xs)) : SqL K H a xs := .inl (.inl h)
theorem SqT.of {K : PySem.W.Frag} (h : H a = some (.tup xs)) : SqT K H a xs := .inl (.inl h)
theorem Inv.list (I : Inv X pins σ H s) (h : SqL X.K H a xs) : ∃ its : List Value, Vals xs its /\ PlainL s.heap a its.toArray /\ xs.length <= sizeLine := by
 rcases h with h | ⟨o, its, n, hk, hc, hd, hs, hz, r⟩
 ·obtain ⟨z, its, n, r, e⟩ := h.ok I.hok
  exact ⟨its, r, ⟨_, n, e, rfl, rfl, rfl⟩, z⟩
 ·refine ⟨its.toList, r, ⟨o, n, I.kIn a o hk, hc, hd, by simpa using hs⟩, ?_⟩
  have e := r.length
  simp only [Array.length_toList] at e
  exact Om.b4 ‹_› ‹_› rfl
theorem Inv.tuple (I : Inv X pins σ H s) (h : SqT X.K H a xs) : ∃ its : List Value, Vals xs its /\ IsTup s.heap a its.toArray /\ xs.length <= sizeLine := by
 rcases h with h | ⟨o, its, n, hk, hc, hs, hz, r⟩
 ·obtain ⟨z, its, r, p⟩ := h.ok I.hok
  exact ⟨its, r, p.is, z⟩
 ·refine ⟨its.toList, r, ⟨o, I.kIn a o hk, hc, n, by simpa using hs⟩, ?_⟩
  have e := r.length
  simp only [Array.length_toList] at e
  exact Om.b4 ‹_› ‹_› rfl
theorem Inv.list_inj (I : Inv X pins σ H s) (h : SqL X.K H a xs) (h' : SqL X.K H a ys) : xs = ys := by
 obtain ⟨its, r, ⟨o, n, e, _, _, d⟩, _⟩ := I.list h
 obtain ⟨its', r', ⟨o', n', e', _, _, d'⟩, _⟩ := I.list h'
 rw [e] at e'; cases e'
 rw [d] at d'
 injection d' with d1 _
 have : its = its' := by simpa using congrArg Array.toList d1
 subst this
 exact r.inj r'
theorem Inv.tuple_inj (I : Inv X pins σ H s) (h : SqT X.K H a xs) (h' : SqT X.K H a ys) : xs = ys := by
 obtain ⟨its, r, ⟨o, e, _, n, d⟩, _⟩ := I.tuple h
 obtain ⟨its', r', ⟨o', e', _, n', d'⟩, _⟩ := I.tuple h'
 rw [e] at e'; cases e'
 rw [d] at d'
 injection d' with d1 _
 have : its = its' := by simpa using congrArg Array.toList d1
 subst this
 exact r.inj r'
end
noncomputable abbrev Cx.wish (X : Cx) (E : Value -> Shared -> Prop) : Cx := { X with xe := E }
noncomputable abbrev Cx.nox (X : Cx) : Cx := X.wish fun _ _ => False
theorem Cx.Ok.wish {X : Cx} (ok : X.Ok) (E : Value -> Shared -> Prop) : (X.wish E).Ok :=
 ⟨ok.mod, ok.kind, ok.glob, ok.blt, ok.above, ok.inj, ok.has, ok.cab, ok.hd, ok.frames, ok.stk, ok.exf, ok.bs, ok.bsz, ok.noex, ok.exfs, ok.funs, ok.frf⟩
theorem Cx.Ok.unwish {X : Cx} {E : Value -> Shared -> Prop} (ok : (X.wish E).Ok) : X.Ok :=
 ⟨ok.mod, ok.kind, ok.glob, ok.blt, ok.above, ok.inj, ok.has, ok.cab, ok.hd, ok.frames, ok.stk, ok.exf, ok.bs, ok.bsz, ok.noex, ok.exfs, ok.funs, ok.frf⟩
section
variable {X : Cx} {pins : List (Addr × Obj)} {σ : St} {H : Hp} {s : Shared} {E : Value -> Shared -> Prop}
theorem Inv.wish (I : Inv X pins σ H s) (E : Value -> Shared -> Prop) : Inv (X.wish E) pins σ H s := ⟨I.ok.wish E, I.os, I.bare, I.base, I.loc, I.cell, I.free, I.freeC, I.pin, I.hok, I.len⟩
theorem Inv.unwish (I : Inv (X.wish E) pins σ H s) : Inv X pins σ H s := ⟨I.ok.unwish, I.os, I.bare, I.base, I.loc, I.cell, I.free, I.freeC, I.pin, I.hok, I.len⟩
theorem SP.unwish {D : Ends} {f : Flow} {s' : Shared} (h : SP (X.wish E) pins D f s') : SP X pins D f s' := by
 cases f with
 | next => obtain ⟨σ', H', I, q⟩ := h; exact ⟨σ', H', I.unwish, q⟩
 | brk => obtain ⟨σ', H', I, q⟩ := h; exact ⟨σ', H', I.unwish, q⟩
 | cont => obtain ⟨σ', H', I, q⟩ := h; exact ⟨σ', H', I.unwish, q⟩
 | ret u => obtain ⟨v, σ', H', I, r, q⟩ := h; exact ⟨v, σ', H', I.unwish, r, q⟩
theorem PSs.nox {st : List Stmt} {t : TS} (h : PSs X.nox st t) : PSs X st t := fun pins s σ H D I hw =>
 wpAny_mono (h pins s σ H D (I.wish _) hw) (fun _ _ q => q.unwish) fun _ _ z => False.elim z
end
section
variable {X : Cx} {st : Stmt} {rest : List Stmt} {t u : TS} {e : Expr} {te : TE} {pos : Pos}
noncomputable def tNext : TS := fun D σ H => D.nx σ H
noncomputable def tSeq (t u : TS) : TS := fun D σ H => t { D with nx := u D } σ H
theorem pss_nil : PSs X [] tNext := fun _ _ σ H _ I h => wpAny_execs_nil ⟨σ, H, I, h⟩
theorem pss_cons (h1 : PS X st t) (h2 : PSs X rest u) : PSs X (st :: rest) (tSeq t u) := by
 intro pins s σ H D I h
 refine wpAny_execs_cons (thn (h1 pins s σ H { D with nx := u D } I h) fun f s1 q => ?_)
 cases f with
 | next =>
  obtain ⟨σ', H', I', q⟩ := q
  exact h2 pins s1 σ' H' D I' q
 | ret v => exact q
 | brk => exact q
 | cont => exact q
theorem pss_one (h1 : PS X st t) : PSs X [st] t := by
 intro pins s σ H D I h
 refine wpAny_execs_cons (thn (h1 pins s σ H D I h) fun f s1 q => ?_)
 cases f with
 | next => exact wpAny_execs_nil q
 | ret v => exact q
 | brk => exact q
 | cont => exact q
theorem Inv.quiet {pins : List (Addr × Obj)} {σ : St} {H : Hp} {s : Shared} (I : Inv X pins σ H s) : interactive X.env = false := by simp [interactive, I.ok.kind]
noncomputable def tDrop (te : TE) : TS := fun D σ H => te σ H fun _ H1 => D.nx σ H1
theorem ps_expr (he : PE X e te) (hs : swapsWith e none pos.line X.env = pure false := by rfl) : PS X (.Expr e pos) (tDrop te) := by
 intro pins s σ H D I h
 exact wpAny_Expr_any (thn (he pins s σ H _ I h) fun v s1 zz0 => by obtain ⟨x, H1, I1, r1, q1⟩ := zz0; exact ⟨σ, H1, I1, q1⟩) I.quiet hs
noncomputable def tRet (te : TE) : TS := fun D σ H => te σ H D.rt
theorem ps_ret (he : PE X e te) : PS X (.Return (some e) pos) (tRet te) := by
 intro pins s σ H D I h
 exact wpAny_Return_some (thn (he pins s σ H _ I h) fun v s1 zz0 => by obtain ⟨x, H1, I1, r1, q1⟩ := zz0; exact ⟨x, σ, H1, I1, r1, q1⟩)
noncomputable def tIfS (c : TT) (t u : TS) : TS := fun D σ H => c σ H fun b H1 => if b = true then t D σ H1 else u D σ H1
theorem ps_if {c : Expr} {a b : List Stmt} {tc : TT} (hc : PT X c tc) (ha : PSs X a t) (hb : PSs X b u) : PS X (.If c a b pos) (tIfS tc t u) := by
 intro pins s σ H D I h
 refine wpAny_If (thn (hc pins s σ H _ I h) fun d s1 ⟨H1, I1, q1⟩ => ?_)
 cases d with
 | true => exact ha pins s1 σ H1 D I1 q1
 | false => exact hb pins s1 σ H1 D I1 q1
end
noncomputable abbrev TG := V -> St -> Hp -> (St -> Hp -> Prop) -> Prop
noncomputable abbrev TGs := List V -> St -> Hp -> (St -> Hp -> Prop) -> Prop
noncomputable def PG (X : Cx) (target : Expr) (t : TG) : Prop :=
 ∀ (pins : List (Addr × Obj)) (s : Shared) (σ : St) (H : Hp) (v : V) (u : Value) (Q : St -> Hp -> Prop), Inv X pins σ H s -> RelV v u -> t v σ H Q ->
  wpAny (model X.prog X.w) X.A (assign target X.env u) (fun _ s' => ∃ σ' H', Inv X pins σ' H' s' /\ Q σ' H') X.xe s
noncomputable def PGs (X : Cx) (ts : List Expr) (t : TGs) : Prop :=
 ∀ (pins : List (Addr × Obj)) (s : Shared) (σ : St) (H : Hp) (vs : List V) (us : List Value) (Q : St -> Hp -> Prop), Inv X pins σ H s -> Vals vs us -> t vs σ H Q ->
  wpAny (model X.prog X.w) X.A (assignInOrder ((assignEach ts X.env).map (·.2)) us) (fun _ s' => ∃ σ' H', Inv X pins σ' H' s' /\ Q σ' H') X.xe s
noncomputable abbrev TSet := V -> V -> V -> Hp -> (Hp -> Prop) -> Prop
noncomputable def PSet (X : Cx) (t : TSet) : Prop :=
 ∀ (pins : List (Addr × Obj)) (s : Shared) (σ : St) (H : Hp) (o i v : V) (ov iv u : Value) (Q : Hp -> Prop), Inv X pins σ H s -> RelV o ov -> RelV i iv -> RelV v u -> t o i v H Q ->
  wpAny (model X.prog X.w) X.A (setItem ov iv u) (fun _ s' => ∃ H', Inv X pins σ H' s' /\ Q H') X.xe s
section
variable {X : Cx} {pos : Pos}
noncomputable def gName (i : Nat) : TG := fun v σ H Q => Q (σ.set i (some v)) H
theorem pg_name {i : Nat} {x : Str} (hN : X.N.Nodup) (hi : X.N[i]? = some x) (hx : Loc X.env.scope x) (hf : X.fn x = true \/ X.env.scope.names.lookup x = some .local := by first | exact .inl rfl | exact .inr rfl | assumption) : PG X (.Name x pos) (gName i) := by
 intro pins s σ H v u Q I r h
 exact wpAny_assign_Name (store_ok I hN hi hx r (fun s' I' => ⟨_, H, I', h⟩) hf)
noncomputable def gNil : TGs := fun vs σ H Q => vs = [] /\ Q σ H
noncomputable def gCons (t : TG) (u : TGs) : TGs := fun vs σ H Q => ∃ v r, vs = v :: r /\ t v σ H fun σ' H' => u r σ' H' Q
theorem pgs_nil : PGs X [] gNil := by
 intro pins s σ H vs us Q I r h
 obtain ⟨e, h⟩ := h
 subst e
 cases r
 exact assignInOrder_nil ⟨σ, H, I, h⟩
theorem pgs_cons {e : Expr} {es : List Expr} {t : TG} {u : TGs} (h1 : PG X e t) (h2 : PGs X es u)
  (hs : (assignEach (e :: es) X.env).map (·.2) = assign e X.env :: (assignEach es X.env).map (·.2) := by rfl) : PGs X (e :: es) (gCons t u) := by
 intro pins s σ H vs us Q I r h
 obtain ⟨v, vr, e1, h⟩ := h
 subst e1
 cases r with
 | cons r rr =>
  rw [hs]
  refine assignInOrder_cons (thn (h1 pins s σ H _ _ _ I r h) fun _ s1 ⟨σ1, H1, I1, q1⟩ => ?_)
  exact h2 pins s1 σ1 H1 _ _ Q I1 rr q1
noncomputable def gTup (K : PySem.W.Frag) (n : Nat) (t : TGs) : TG := fun v σ H Q => ∃ a xs, v = .ref a /\ SqT K H a xs /\ xs.length = n /\ t xs σ H Q
theorem pg_tup {es : List Expr} {k : Nat} {t : TGs} {n : Nat} (hc : X.calm = true) (h : PGs X es t)
  (hn : (assignEach es X.env).length = n := by rfl) (hst : (assignEach es X.env).findIdx? (·.1) = none := by rfl) : PG X (.Tuple es k pos) (gTup X.K n t) := by
 intro pins s σ H v u Q I r hw
 obtain ⟨a, xs, e1, hq, hl, hw⟩ := hw
 subst e1
 cases r
 obtain ⟨its, rv, ht, hz⟩ := I.tuple hq
 refine assign_Tuple_tuple (I.ok.hd hc) ht (by simp [hn, <- hl, rv.length]) hst fun h' hx => ?_
 have I1 : Inv X pins σ H { s with heap := h' } := I.kept (t' := s.toks) fun b o e => hx b o (Nat.ne_of_lt (Heap.lt_size e)) e
 exact h pins _ σ H xs _ Q I1 (by simpa using rv) hw
noncomputable def gSub (to ti : TE) (t : TSet) : TG := fun v σ H Q => to σ H fun o H1 => ti σ H1 fun i H2 => t o i v H2 fun H3 => Q σ H3
theorem pg_sub {o i : Expr} {to ti : TE} {t : TSet} (ho : PE X o to) (hi : PE X i ti) (hs : PSet X t)
  (ha : ∀ v, assign (.Subscript o i pos) X.env v = (do
   let ov <- holding [v] (eval o X.env)
   let iv <- holding [v, ov] (eval i X.env)
   standAt pos
   holding [v, ov, iv] (setItem ov iv v)
   release [v, ov, iv] []) := by intro _; rfl) : PG X (.Subscript o i pos) (gSub to ti t) := by
 intro pins s σ H v u Q I r h
 rw [ha]
 refine wpAny_bind (wpAny_holding (thn (ho pins s σ H _ I h) fun ov s1 ⟨x, H1, I1, r1, q1⟩ => ?_))
 refine wpAny_bind (wpAny_holding (thn (hi pins s1 σ H1 _ I1 q1) fun iv s2 ⟨y, H2, I2, r2, q2⟩ => ?_))
 refine wpAny_bind (wpAny_standAt (wpAny_bind (wpAny_holding (thn (hs pins s2 σ H2 x y v ov iv u _ I2 r1 r2 r q2) fun _ s3 ⟨H3, I3, q3⟩ => ?_))))
 exact wpAny_release ⟨σ, H3, I3, q3⟩
noncomputable def tAsg (te : TE) (g : TG) : TS := fun D σ H => te σ H fun x H1 => g x σ H1 D.nx
theorem ps_asg {tg e : Expr} {te : TE} {g : TG} (he : PE X e te) (hg : PG X tg g) (hs : swapsWithSole [tg] e pos.line X.env = pure false := by rfl) (hw : swappedStores [tg] e X.env = pure none := by rfl)
  (h1 : (assignEach [tg] X.env).map (·.2) = [assign tg X.env] := by rfl) : PS X (.Assign [tg] e pos) (tAsg te g) := by
 intro pins s σ H D I h
 refine wpAny_Assign_stores (thn (he pins s σ H _ I h) fun v s1 ⟨x, H1, I1, r1, q1⟩ => ?_) hs hw
 rw [h1]
 exact thn (hg pins s1 σ H1 x v _ I1 r1 q1) fun _ s2 q => q
theorem ps_set {i : Nat} {x : Str} {e : Expr} {te : TE} {pos' : Pos} (hN : X.N.Nodup) (hi : X.N[i]? = some x) (hx : Loc X.env.scope x) (he : PE X e te) (hs : swapsWith e (some (.Name x pos')) pos.line X.env = pure false := by rfl) (hf : X.fn x = true \/ X.env.scope.names.lookup x = some .local := by first | exact .inl rfl | exact .inr rfl | assumption) :
  PS X (.Assign [.Name x pos'] e pos) (tAsg te (gName i)) := by
 intro pins s σ H D I h
 refine wpAny_Assign_Name (thn (he pins s σ H _ I h) fun v s1 ⟨y, H1, I1, r1, q1⟩ => ?_) hs
 exact store_ok I1 hN hi hx r1 (fun s2 I2 => ⟨_, H1, I2, q1⟩) hf
end
section
variable {X : Cx} {pos : Pos}
noncomputable def tWhile (c : TT) (tb : TS) : TS := fun D σ H => ∃ W : Nat -> St -> Hp -> Prop, (∃ m, W m σ H) /\ ∀ m σ H, W m σ H ->
 c σ H fun b H1 => if b = true then ∃ N : St -> Hp -> Prop, (∀ σ' H', N σ' H' -> ∃ m', m' < m /\ W m' σ' H') /\ tb { D with nx := N, ct := N, bk := D.nx } σ H1 else D.nx σ H1
theorem ps_while {c : Expr} {body : List Stmt} {tc : TT} {tb : TS} (hp : PassesOwn (model X.prog X.w) X.A X.env X.xe) (hc : PT X c tc) (hb : PSs X body tb) : PS X (.While c body [] pos) (tWhile tc tb) := by
 intro pins s σ H D I h
 obtain ⟨W, ⟨m0, w0⟩, turn⟩ := h
 refine wpAny_While (codeAny_whileLoop (fun n s' => ∃ σ' H', Inv X pins σ' H' s' /\ W n σ' H') ?_ m0 ⟨σ, H, I, w0⟩)
 rintro n s1 ⟨σ1, H1, I1, w1⟩
 refine wpAny_passesOwn hp (thn (hc pins s1 σ1 H1 _ I1 (turn n σ1 H1 w1)) fun b s2 ⟨H2, I2, q2⟩ => ?_)
 cases b with
 | true =>
  obtain ⟨N, hN, q2⟩ := q2
  rw [if_pos rfl]
  refine wpAny_passesOwn hp (thn (hb pins s2 σ1 H2 _ I2 q2) fun f s3 q3 => ?_)
  cases f with
  | next =>
   obtain ⟨σ3, H3, I3, n3⟩ := q3
   obtain ⟨m', hm, w3⟩ := hN σ3 H3 n3
   exact ⟨m', hm, σ3, H3, I3, w3⟩
  | cont =>
   obtain ⟨σ3, H3, I3, n3⟩ := q3
   obtain ⟨m', hm, w3⟩ := hN σ3 H3 n3
   exact ⟨m', hm, σ3, H3, I3, w3⟩
  | brk => exact q3
  | ret v => exact q3
 | false =>
  rw [if_neg Bool.false_ne_true]
  exact wpAny_execs_nil ⟨σ1, H2, I2, q2⟩
end
structure It where
 go : Nat -> Hp -> Prop
 yld : Nat -> Hp -> V -> Hp -> Prop
 stop : Nat -> Hp -> Prop
noncomputable def FpOk (X : Cx) (pins : List (Addr × Obj)) (H : Hp) (b : Addr) : Prop :=
 H b = none /\ b ≠ X.env.locals /\ b ∉ X.fs /\ (b ∈ X.ex \/ X.s₀.heap.objs.size <= b) /\ (∀ x c, X.env.cells.lookup x = some c -> c ≠ b) /\ ∀ p ∈ X.pn ++ pins, p.1 ≠ b
theorem Inv.fpOk {X : Cx} {pins : List (Addr × Obj)} {σ : St} {H H' : Hp} {s : Shared} {b : Addr} (I : Inv X pins σ H s) (hb : s.heap.objs.size <= b) (hn : H' b = none) : FpOk X pins H' b := by
 refine ⟨hn, Nat.ne_of_gt (Nat.lt_of_lt_of_le I.lt hb), I.nofs hb, .inr (Nat.le_trans I.sz hb), fun x c e z => ?_, fun p hp z => ?_⟩
 ·obtain ⟨v, q⟩ := I.cell x c e
  exact absurd (Nat.lt_of_lt_of_le q.lt (by rw [z]; exact hb)) (Nat.lt_irrefl _)
 ·exact absurd (Nat.lt_of_lt_of_le (Heap.lt_size (I.pin p hp).1) (by rw [z]; exact hb)) (Nat.lt_irrefl _)
structure Turn (P : Program) (w : World) (K : PySem.W.Frag) (tg : Expr) (J : It) (fp : List Addr) (it : Addr) (tn : Nat -> Heap -> Prop) : Prop where
 mem : it ∈ fp
 obj : ∀ i h, tn i h -> ∀ b ∈ fp, ∃ o, h.get? b = some o /\ ∀ v, o.data ≠ .cell v
 keep : ∀ i h h', tn i h -> (∀ b ∈ fp, ∀ o, h.get? b = some o -> h'.get? b = some o) -> tn i h'
 item : ∀ (X : Cx), X.prog = P -> X.w = w -> X.K = K -> X.calm = true -> ∀ (i : Nat) (pins : List (Addr × Obj)) (s : Shared) (σ : St) (H : Hp) (E : Value -> Shared -> Prop), Inv X pins σ H s -> (∀ b ∈ fp, FpOk X pins H b) -> tn i s.heap -> J.go i H ->
  wpAny (model P w) X.A (pyNext (.ref it)) (fun r s1 => ∃ u, r = some u /\
   wpAny (model P w) X.A (letOwnedTupleGo tg (.ref it) u) (fun _ s2 => ∃ x H', Inv X pins σ H' s2 /\ RelV x u /\ J.yld i H x H' /\ tn (i + 1) s2.heap /\ ∀ b ∈ fp, H' b = none) E s1) E s
 done : ∀ (X : Cx), X.prog = P -> X.w = w -> X.K = K -> X.calm = true -> ∀ (i : Nat) (pins : List (Addr × Obj)) (s : Shared) (σ : St) (H : Hp) (E : Value -> Shared -> Prop), Inv X pins σ H s -> (∀ b ∈ fp, FpOk X pins H b) -> tn i s.heap -> J.stop i H ->
  wpAny (model P w) X.A (pyNext (.ref it)) (fun r s1 => r = none /\ Inv X pins σ H s1) E s
 self : ∀ (A : Around) (i : Nat) (s : Shared) (Q : Value -> Shared -> Prop) (E : Value -> Shared -> Prop), tn i s.heap -> Q (.ref it) s -> wpAny (model P w) A (pyIter (.ref it)) Q E s
noncomputable abbrev TI := St -> Hp -> (It -> Hp -> Prop) -> Prop
noncomputable def PIE (X : Cx) (pins : List (Addr × Obj)) (σ : St) (tg : Expr) (R : It -> Hp -> Prop) (itv : Value) (s2 : Shared) : Prop :=
 ∃ (it : Addr) (fp : List Addr) (tn : Nat -> Heap -> Prop) (J : It) (H' : Hp), itv = .ref it /\ Inv X pins σ H' s2 /\ Turn X.prog X.w X.K tg J fp it tn /\ tn 0 s2.heap /\ (∀ b ∈ fp, FpOk X pins H' b) /\ R J H'
noncomputable def PI (X : Cx) (tg iter : Expr) (wi : TI) : Prop :=
 ∀ (pins : List (Addr × Obj)) (s : Shared) (σ : St) (H : Hp) (R : It -> Hp -> Prop), Inv X pins σ H s -> wi σ H R ->
  wpAny (model X.prog X.w) X.A (eval iter X.env) (fun v s1 => wpAny (model X.prog X.w) X.A (pyIter v) (PIE X pins σ tg R) X.xe s1) X.xe s
theorem go_of {M : Model} {A : Around} {E : Value -> Shared -> Prop} {s : Shared} {tg : Expr} {it : Addr} {u : Value} {o : Obj} {n : String} {vs : Array Value} {Q : Unit -> Shared -> Prop} (ho : s.heap.get? it = some o) (hc : o.cls = .type n) (hd : o.data = .fields vs)
    (hn : ["enumerate", "zip", "dict_itemiterator", "dict_reverseitemiterator", "odict_iterator", "itertools.zip_longest", "itertools.pairwise"].contains n = false) (hQ : Q () s) : wpAny M A (letOwnedTupleGo tg (.ref it) u) Q E s := by
  unfold letOwnedTupleGo
  cases tg <;> first
    | exact wpAny_pure hQ
    | (cases u <;> first
        | exact wpAny_pure hQ
        | (refine wpAny_bind (wpAny_load ho ?_)
           rw [hc, hd]
           show wpAny M A (if (["enumerate", "zip", "dict_itemiterator", "dict_reverseitemiterator", "odict_iterator", "itertools.zip_longest", "itertools.pairwise"].contains n && vs[0]? == some (rawInt _)) = true then _ else _) Q E s
           rw [if_neg (by intro h; rw [hn, Bool.false_and] at h; cases h)]
           exact wpAny_pure hQ))
noncomputable def Itl (K : PySem.W.Frag) (a : Addr) : It :=
 ⟨fun i H => ∃ xs x, SqL K H a xs /\ xs[i]? = some x, fun i H x H' => H' = H /\ ∀ xs, SqL K H a xs -> xs[i]? = some x, fun i H => ∃ xs, SqL K H a xs /\ xs.length <= i⟩
noncomputable def Itt (K : PySem.W.Frag) (a : Addr) : It :=
 ⟨fun i H => ∃ xs x, SqT K H a xs /\ xs[i]? = some x, fun i H x H' => H' = H /\ ∀ xs, SqT K H a xs -> xs[i]? = some x, fun i H => ∃ xs, SqT K H a xs /\ xs.length <= i⟩
noncomputable def Itr (lo : Int) (n : Nat) : It := ⟨fun i _ => i < n, fun i H x H' => H' = H /\ x = .int (lo + i), fun i _ => n <= i⟩
theorem turn_list {P : Program} {w : World} {K : PySem.W.Frag} {tg : Expr} (a it : Addr) : Turn P w K tg (Itl K a) [it] it (fun i h => h.IsListIter it a i) where
 mem := by simp
 obj := fun i h st b hb => by
  have e : b = it := by simpa using hb
  subst e
  obtain ⟨o, e, c, d⟩ := st
  exact ⟨o, e, fun v z => by rw [d] at z; cases z⟩
 keep := fun i h h' st k => st.at fun o e => k it (by simp) o e
 item := by
  intro X hP hw hK hc i pins s σ H E I hf st hg
  subst hP hw hK
  obtain ⟨xs, x, hq, hx⟩ := hg
  obtain ⟨its, rv, p, hz⟩ := I.list hq
  obtain ⟨u, hu, ru⟩ := rv.get hx
  obtain ⟨f0, f1, f2, f3, f4, f5⟩ := hf it (by simp)
  refine wpAny_pyNext_list_item st p.isList (x := u) (by simpa using hu) fun h' st' sb => ?_
  have I1 : Inv X pins σ H { s with heap := h' } := I.turned (t' := s.toks) (fun b o hb e => (sb.2 b hb).trans e) f0 f1 f3 f4 f5
  obtain ⟨o, e, c, d⟩ := id st'
  exact ⟨u, rfl, go_of (s := { s with heap := h' }) e c d (by decide) ⟨x, H, I1, ru, ⟨rfl, fun ys hy => by rw [I.list_inj hy hq]; exact hx⟩, st', fun b hb => (hf b hb).1⟩⟩
 done := by
  intro X hP hw hK hc i pins s σ H E I hf st hg
  subst hP hw hK
  obtain ⟨xs, hq, hx⟩ := hg
  obtain ⟨its, rv, p, hz⟩ := I.list hq
  obtain ⟨f0, f1, f2, f3, f4, f5⟩ := hf it (by simp)
  have hl := rv.length
  exact wpAny_pyNext_list_end (I.ok.hd hc) st p.isList (by simp; omega) fun h' eb => ⟨rfl, I.turned (t' := s.toks) (fun b o hb e => eb b o hb e) f0 f1 f3 f4 f5⟩
 self := fun _ _ _ _ _ st h => wpAny_pyIter_listiter st h
theorem turn_tuple {P : Program} {w : World} {K : PySem.W.Frag} {tg : Expr} (a it : Addr) : Turn P w K tg (Itt K a) [it] it (fun i h => h.IsTupleIter it a i) where
 mem := by simp
 obj := fun i h st b hb => by
  have e : b = it := by simpa using hb
  subst e
  obtain ⟨o, e, c, d⟩ := st
  exact ⟨o, e, fun v z => by rw [d] at z; cases z⟩
 keep := fun i h h' st k => st.at fun o e => k it (by simp) o e
 item := by
  intro X hP hw hK hc i pins s σ H E I hf st hg
  subst hP hw hK
  obtain ⟨xs, x, hq, hx⟩ := hg
  obtain ⟨its, rv, p, hz⟩ := I.tuple hq
  obtain ⟨u, hu, ru⟩ := rv.get hx
  obtain ⟨f0, f1, f2, f3, f4, f5⟩ := hf it (by simp)
  refine wpAny_pyNext_tuple_item st (show s.heap.IsTuple a its.toArray from p) (x := u) (by simpa using hu) fun h' st' sb => ?_
  have I1 : Inv X pins σ H { s with heap := h' } := I.turned (t' := s.toks) (fun b o hb e => (sb.2 b hb).trans e) f0 f1 f3 f4 f5
  obtain ⟨o, e, c, d⟩ := id st'
  exact ⟨u, rfl, go_of (s := { s with heap := h' }) e c d (by decide) ⟨x, H, I1, ru, ⟨rfl, fun ys hy => by rw [I.tuple_inj hy hq]; exact hx⟩, st', fun b hb => (hf b hb).1⟩⟩
 done := by
  intro X hP hw hK hc i pins s σ H E I hf st hg
  subst hP hw hK
  obtain ⟨xs, hq, hx⟩ := hg
  obtain ⟨its, rv, p, hz⟩ := I.tuple hq
  obtain ⟨f0, f1, f2, f3, f4, f5⟩ := hf it (by simp)
  have hl := rv.length
  exact wpAny_pyNext_tuple_end (I.ok.hd hc) st (show s.heap.IsTuple a its.toArray from p) (by simp; omega) fun h' eb => ⟨rfl, I.turned (t' := s.toks) (fun b o hb e => eb b o hb e) f0 f1 f3 f4 f5⟩
 self := fun _ _ _ _ _ st h => wpAny_pyIter_tupleiter st h
theorem turn_range {P : Program} {w : World} {K : PySem.W.Frag} {tg : Expr} (it : Addr) (lo : Int) (n : Nat) : Turn P w K tg (Itr lo n) [it] it (fun i h => IsRangeIter h it (lo + (i : Nat) * 1) ((n : Int) - (i : Nat)) 1) where
 mem := by simp
 obj := fun i h st b hb => by
  have e : b = it := by simpa using hb
  subst e
  exact ⟨_, st, fun v z => by
   have z' : Data.fields _ = Data.cell v := z
   cases z'⟩
 keep := fun i h h' st k => k it (by simp) _ st
 item := by
  intro X hP hw hK hc i pins s σ H E I hf st hg
  subst hP hw hK
  obtain ⟨f0, f1, f2, f3, f4, f5⟩ := hf it (by simp)
  have W := Walks.range (prog := X.prog) (w := X.w) (I.ok.hd hc) it lo 1 n
  refine W.item i s _ _ hg st fun v h' tk hv st' kk => ?_
  obtain ⟨t, rfl⟩ := hv
  have I1 : Inv X pins σ H { s with heap := h', toks := tk } := I.turned (fun b o hb e => kk b o (by simpa using hb) e) f0 f1 f3 f4 f5
  refine ⟨_, rfl, go_of (s := { s with heap := h', toks := tk }) (n := "range_iterator") st' rfl rfl (by decide) ⟨.int (lo + i), H, I1, ⟨t, ?_⟩, ⟨rfl, rfl⟩, st', fun b hb => (hf b hb).1⟩⟩
  rw [Int.mul_one]
 done := by
  intro X hP hw hK hc i pins s σ H E I hf st hg
  subst hP hw hK
  obtain ⟨f0, f1, f2, f3, f4, f5⟩ := hf it (by simp)
  exact wpAny_pyNext_range_end (I.ok.hd hc) st (by have : n <= i := hg; omega) fun h' eb => ⟨rfl, I.turned (t' := s.toks) (fun b o hb e => eb b o hb e) f0 f1 f3 f4 f5⟩
 self := fun _ _ _ _ _ st h => wpAny_pyIter_rangeiter st h
end L2
namespace L2
open PySem PySem.Spec PyProof.Rows
section
variable {X : Cx} {tg : Expr}
noncomputable def iList (K : PySem.W.Frag) (tl : TE) : TI := fun σ H R => tl σ H fun x H1 => ∃ a, x = .ref a /\ (∃ xs, SqL K H1 a xs) /\ R (Itl K a) H1
noncomputable def iTup (K : PySem.W.Frag) (tl : TE) : TI := fun σ H R => tl σ H fun x H1 => ∃ a, x = .ref a /\ (∃ xs, SqT K H1 a xs) /\ R (Itt K a) H1
theorem pi_list {l : Expr} {tl : TE} (hl : PE X l tl) : PI X tg l (iList X.K tl) := by
 intro pins s σ H R I h
 refine thn (hl pins s σ H _ I h) fun v s1 ⟨x, H1, I1, r1, q1⟩ => ?_
 obtain ⟨a, e, ⟨xs, hq⟩, q⟩ := q1
 subst e
 cases r1
 obtain ⟨its, rv, p, hz⟩ := I1.list hq
 refine wpAny_pyIter_list p.isList ?_
 refine ⟨s1.heap.objs.size, [s1.heap.objs.size], _, _, H1, rfl, I1.kept (t' := s1.toks) fun b o e => Heap.get?_push_of_some _ e, turn_list a _, ⟨_, Heap.get?_push_size _ rfl, rfl, rfl⟩, fun b hb => ?_, q⟩
 have e : b = s1.heap.objs.size := by simpa using hb
 subst e
 exact I1.fpOk (Nat.le_refl _) (I1.hok.fresh (Nat.le_refl _))
theorem pi_tup {l : Expr} {tl : TE} (hl : PE X l tl) : PI X tg l (iTup X.K tl) := by
 intro pins s σ H R I h
 refine thn (hl pins s σ H _ I h) fun v s1 ⟨x, H1, I1, r1, q1⟩ => ?_
 obtain ⟨a, e, ⟨xs, hq⟩, q⟩ := q1
 subst e
 cases r1
 obtain ⟨its, rv, p, hz⟩ := I1.tuple hq
 refine wpAny_pyIter_tuple (show s1.heap.IsTuple a its.toArray from p) ?_
 refine ⟨s1.heap.objs.size, [s1.heap.objs.size], _, _, H1, rfl, I1.kept (t' := s1.toks) fun b o e => Heap.get?_push_of_some _ e, turn_tuple a _, ⟨_, Heap.get?_push_size _ rfl, rfl, rfl⟩, fun b hb => ?_, q⟩
 have e : b = s1.heap.objs.size := by simpa using hb
 subst e
 exact I1.fpOk (Nat.le_refl _) (I1.hok.fresh (Nat.le_refl _))
theorem range_it {pins : List (Addr × Obj)} {σ : St} {H : Hp} {s : Shared} {R : It -> Hp -> Prop} {E : Value -> Shared -> Prop} {lo hi : Int} {t u v : Tok} {tk : Nat} (I : Inv X pins σ H s) (h1 : -(2 ^ 62) <= lo) (h2 : lo < 2 ^ 62) (h3 : -(2 ^ 62) <= hi) (h4 : hi < 2 ^ 62)
  (q : R (Itr lo (hi - lo).toNat) H) : wpAny (model X.prog X.w) X.A (pyIter (.ref s.heap.objs.size)) (PIE X pins σ tg R) E { s with heap := s.heap.push { cls := .type "range", data := .fields #[.int lo t, .int hi u, .int 1 v] }, toks := tk } := by
 refine wpAny_pyIter_range (IsRange.new ..) (small_one h1 h2 h3 h4) ?_
 have I1 : Inv X pins σ H { s with heap := s.heap.push { cls := .type "range", data := .fields #[.int lo t, .int hi u, .int 1 v] }, toks := tk } := I.kept fun b o e => Heap.get?_push_of_some _ e
 refine ⟨(s.heap.push { cls := .type "range", data := .fields #[.int lo t, .int hi u, .int 1 v] }).objs.size, [(s.heap.push { cls := .type "range", data := .fields #[.int lo t, .int hi u, .int 1 v] }).objs.size], _, _, H, rfl,
  I1.kept (t' := tk) fun b o e => Heap.get?_push_of_some _ e, turn_range _ lo (hi - lo).toNat, ?_, fun b hb => ?_, q⟩
 ·have e1 : lo + ((0 : Nat) : Int) * 1 = lo := by simp
  have e2 : (((hi - lo).toNat : Nat) : Int) - ((0 : Nat) : Int) = Builtin.Range.rangeSize lo hi 1 := by rw [rangeSize_one]; split <;> omega
  show IsRangeIter _ _ (lo + ((0 : Nat) : Int) * 1) ((((hi - lo).toNat : Nat) : Int) - ((0 : Nat) : Int)) 1
  rw [e1, e2]
  exact Heap.get?_push_size _ rfl
 ·have e : b = (s.heap.push { cls := .type "range", data := .fields #[.int lo t, .int hi u, .int 1 v] }).objs.size := by simpa using hb
  subst e
  exact I1.fpOk (Nat.le_refl _) (I1.hok.fresh (Nat.le_refl _))
noncomputable def iRng1 (ta : TA) : TI := fun σ H R => ta σ H fun vs H1 => ∃ j : Int, vs = [.int j] /\ -(2 ^ 62) <= j /\ j < 2 ^ 62 /\ R (Itr 0 j.toNat) H1
theorem pi_range1 {a : Expr} {ta : TA} {p pos : Pos} (hg : Gl X "range") (hm : X.mg "range" = none) (ha : PA X [a] ta) (hs : starEach [a] X.env = [(false, eval a X.env)] := by rfl) : PI X tg (.Call (.Name "range" p) [a] [] pos) (iRng1 ta) := by
 intro pins s σ H R I h
 refine Call_ (ld_blt I hg hm boot_range (PyProof.Rows.callWith_type1 (thn (ha pos pins s σ H _ I h) fun us s1 ⟨vs, H1, I1, r1, q1⟩ => ?_) hs rfl))
 obtain ⟨j, e, q1, q2, q⟩ := q1
 subst e
 cases r1 with
 | cons r rr =>
  cases rr
  obtain ⟨t, rfl⟩ := r
  exact call_range_1 (range_it I1 (by omega) (by omega) q1 q2 (by simpa using q))
noncomputable def tFor (wi : TI) (g : TG) (tb : TS) : TS := fun D σ H => wi σ H fun J H1 => ∃ W : Nat -> Nat -> St -> Hp -> Prop, (∃ m, W 0 m σ H1) /\ ∀ i m σ H, W i m σ H ->
 (J.stop i H /\ D.nx σ H) \/ (J.go i H /\ ∃ N : St -> Hp -> Prop, (∀ σ' H', N σ' H' -> ∃ m', m' < m /\ W (i + 1) m' σ' H') /\ ∀ x H', J.yld i H x H' -> g x σ H' fun σ2 H2 => tb { D with nx := N, ct := N, bk := D.nx } σ2 H2)
noncomputable def pinsAt (fp : List Addr) (h : Heap) : List (Addr × Obj) := fp.filterMap fun b => (h.get? b).map fun o => (b, o)
theorem mem_pinsAt {fp : List Addr} {h : Heap} {b : Addr} {o : Obj} (hb : b ∈ fp) (e : h.get? b = some o) : (b, o) ∈ pinsAt fp h := List.mem_filterMap.mpr ⟨b, hb, by rw [e]; rfl⟩
theorem of_pinsAt {fp : List Addr} {h : Heap} {p : Addr × Obj} (hp : p ∈ pinsAt fp h) : p.1 ∈ fp /\ h.get? p.1 = some p.2 := by
 obtain ⟨b, hb, e⟩ := List.mem_filterMap.mp hp
 cases q : h.get? b with
 | none => rw [q] at e; cases e
 | some o =>
  rw [q] at e
  have e' : (b, o) = p := Option.some.inj e
  subst e'
  exact ⟨hb, q⟩
theorem Inv.pinned {pins : List (Addr × Obj)} {σ : St} {H : Hp} {s : Shared} {fp : List Addr} (I : Inv X pins σ H s) (hf : ∀ b ∈ fp, FpOk X pins H b) (ho : ∀ b ∈ fp, ∃ o, s.heap.get? b = some o /\ ∀ v, o.data ≠ .cell v) : Inv X (pins ++ pinsAt fp s.heap) σ H s :=
 I.pins_of fun p hp => (List.mem_append.mp hp).elim (fun z => I.pin p (List.mem_append_right _ z)) fun z => by
  obtain ⟨hb, e⟩ := of_pinsAt z
  obtain ⟨f0, f1, f2, _⟩ := hf p.1 hb
  obtain ⟨o, e', d⟩ := ho p.1 hb
  rw [e] at e'; cases e'
  exact ⟨e, f0, f1, f2, d⟩
theorem Inv.unpinned {pins pl : List (Addr × Obj)} {σ : St} {H : Hp} {s : Shared} (I : Inv X (pins ++ pl) σ H s) : Inv X pins σ H s := I.pins_of fun p hp => I.pin p (List.mem_append_right _ (List.mem_append_left _ hp))
theorem ps_for {iter : Expr} {body : List Stmt} {wi : TI} {g : TG} {tb : TS} {pos : Pos} (hp : PassesOwn (model X.prog X.w) X.A X.env X.xe) (hc : X.calm = true) (hi : PI X tg iter wi) (hg : PG X tg g) (hb : PSs X body tb)
  (hs : ∀ x, foldedSetIterable iter X.env x = pure x := by intro _; rfl) : PS X (.For tg iter body [] pos) (tFor wi g tb) := by
 intro pins s σ H D I h
 refine wpAny_For (thn (hi pins s σ H _ I h) fun v s1 h1 => thn h1 fun itv s2 h2 => ?_) hs
 obtain ⟨it, fp, tn, J, H2, e, I2, T, st2, f2, W, ⟨m0, w0⟩, turn⟩ := h2
 subst e
 have stat : ∀ {H' : Hp}, (∀ b ∈ fp, H' b = none) -> ∀ b ∈ fp, FpOk X pins H' b := fun hn b hb => ⟨hn b hb, (f2 b hb).2⟩
 refine codeAny_forLoop_any (fun n s' => ∃ i σ' H', Inv X pins σ' H' s' /\ tn i s'.heap /\ (∀ b ∈ fp, H' b = none) /\ W i n σ' H') ?_ m0 ⟨0, σ, H2, I2, st2, fun b hb => (f2 b hb).1, w0⟩
 rintro n s3 ⟨i, σ3, H3, I3, st3, fr3, w3⟩
 rcases turn i n σ3 H3 w3 with ⟨stop, qn⟩ | ⟨go, N, hN, step⟩
 ·refine wpAny_passesOwn hp (thn (T.done X rfl rfl rfl hc i pins s3 σ3 H3 X.xe I3 (stat fr3) st3 stop) fun r s4 ⟨hr, I4⟩ => ?_)
  subst hr
  exact wpAny_execs_nil ⟨σ3, H3, I4, qn⟩
 ·refine wpAny_passesOwn hp (thn (T.item X rfl rfl rfl hc i pins s3 σ3 H3 X.xe I3 (stat fr3) st3 go) fun r s4 ⟨u, hr, h4⟩ => ?_)
  subst hr
  refine wpAny_passesOwn hp (thn h4 fun _ s5 ⟨x, H5, I5, r5, y5, st5, fr5⟩ => ?_)
  have I5' := I5.pinned (stat fr5) (T.obj _ _ st5)
  refine wpAny_passesOwn hp (thn (hg _ s5 σ3 H5 x u _ I5' r5 (step x H5 y5)) fun _ s6 ⟨σ6, H6, I6, q6⟩ => ?_)
  refine wpAny_passesOwn hp (thn (hb _ s6 σ6 H6 _ I6 q6) fun f s7 q7 => ?_)
  have again : ∀ {σ7 : St} {H7 : Hp}, Inv X (pins ++ pinsAt fp s5.heap) σ7 H7 s7 -> N σ7 H7 -> ∃ m, m < n /\ ∃ i σ' H', Inv X pins σ' H' s7 /\ tn i s7.heap /\ (∀ b ∈ fp, H' b = none) /\ W i m σ' H' := fun {σ7 H7} I7 n7 => by
   obtain ⟨m', hm, w7⟩ := hN σ7 H7 n7
   refine ⟨m', hm, i + 1, σ7, H7, I7.unpinned, T.keep _ _ _ st5 fun b hb o e => (I7.pin (b, o) (List.mem_append_right _ (List.mem_append_right _ (mem_pinsAt hb e)))).1, fun b hb => ?_, w7⟩
   obtain ⟨o, e, d⟩ := T.obj _ _ st5 b hb
   exact (I7.pin (b, o) (List.mem_append_right _ (List.mem_append_right _ (mem_pinsAt hb e)))).2.1
  cases f with
  | next => obtain ⟨σ7, H7, I7, n7⟩ := q7; exact again I7 n7
  | cont => obtain ⟨σ7, H7, I7, n7⟩ := q7; exact again I7 n7
  | brk => obtain ⟨σ7, H7, I7, q7⟩ := q7; exact ⟨σ7, H7, I7.unpinned, q7⟩
  | ret v => obtain ⟨x7, σ7, H7, I7, r7, q7⟩ := q7; exact ⟨x7, σ7, H7, I7.unpinned, r7, q7⟩
end
theorem for_list {K : PySem.W.Frag} {a : Addr} {xs : List V} {g : TG} {tb : TS} {D : Ends} {σ : St} {H : Hp} (Pv : Nat -> St -> Hp -> Prop) (h0 : Pv 0 σ H) (hl : ∀ i σ H, i <= xs.length -> Pv i σ H -> SqL K H a xs)
  (hs : ∀ i x σ H, xs[i]? = some x -> Pv i σ H -> g x σ H fun σ2 H2 => tb { D with nx := Pv (i + 1), ct := Pv (i + 1), bk := D.nx } σ2 H2) (hd : ∀ σ H, Pv xs.length σ H -> D.nx σ H) :
  ∃ W : Nat -> Nat -> St -> Hp -> Prop, (∃ m, W 0 m σ H) /\ ∀ i m σ H, W i m σ H ->
   ((Itl K a).stop i H /\ D.nx σ H) \/ ((Itl K a).go i H /\ ∃ N : St -> Hp -> Prop, (∀ σ' H', N σ' H' -> ∃ m', m' < m /\ W (i + 1) m' σ' H') /\ ∀ x H', (Itl K a).yld i H x H' -> g x σ H' fun σ2 H2 => tb { D with nx := N, ct := N, bk := D.nx } σ2 H2) := by
 refine ⟨fun i m σ H => m = xs.length - i /\ i <= xs.length /\ Pv i σ H, ⟨xs.length, by simp, Nat.zero_le _, h0⟩, ?_⟩
 rintro i m σ H ⟨rfl, hi, p⟩
 have q := hl i σ H hi p
 by_cases hlt : i < xs.length
 ·refine .inr ⟨⟨xs, xs[i], q, by simp [hlt]⟩, Pv (i + 1), fun σ' H' p' => ⟨xs.length - (i + 1), by omega, rfl, hlt, p'⟩, fun x H' y => ?_⟩
  obtain ⟨e, y⟩ := y
  subst e
  exact hs i x σ _ (y xs q) p
 ·have e : i = xs.length := by omega
  subst e
  exact .inl ⟨⟨xs, q, Nat.le_refl _⟩, hd σ H p⟩
theorem for_tup {K : PySem.W.Frag} {a : Addr} {xs : List V} {g : TG} {tb : TS} {D : Ends} {σ : St} {H : Hp} (Pv : Nat -> St -> Hp -> Prop) (h0 : Pv 0 σ H) (hl : ∀ i σ H, i <= xs.length -> Pv i σ H -> SqT K H a xs)
  (hs : ∀ i x σ H, xs[i]? = some x -> Pv i σ H -> g x σ H fun σ2 H2 => tb { D with nx := Pv (i + 1), ct := Pv (i + 1), bk := D.nx } σ2 H2) (hd : ∀ σ H, Pv xs.length σ H -> D.nx σ H) :
  ∃ W : Nat -> Nat -> St -> Hp -> Prop, (∃ m, W 0 m σ H) /\ ∀ i m σ H, W i m σ H ->
   ((Itt K a).stop i H /\ D.nx σ H) \/ ((Itt K a).go i H /\ ∃ N : St -> Hp -> Prop, (∀ σ' H', N σ' H' -> ∃ m', m' < m /\ W (i + 1) m' σ' H') /\ ∀ x H', (Itt K a).yld i H x H' -> g x σ H' fun σ2 H2 => tb { D with nx := N, ct := N, bk := D.nx } σ2 H2) := by
 refine ⟨fun i m σ H => m = xs.length - i /\ i <= xs.length /\ Pv i σ H, ⟨xs.length, by simp, Nat.zero_le _, h0⟩, ?_⟩
 rintro i m σ H ⟨rfl, hi, p⟩
 have q := hl i σ H hi p
 by_cases hlt : i < xs.length
 ·refine .inr ⟨⟨xs, xs[i], q, by simp [hlt]⟩, Pv (i + 1), fun σ' H' p' => ⟨xs.length - (i + 1), by omega, rfl, hlt, p'⟩, fun x H' y => ?_⟩
  obtain ⟨e, y⟩ := y
  subst e
  exact hs i x σ _ (y xs q) p
 ·have e : i = xs.length := by omega
  subst e
  exact .inl ⟨⟨xs, q, Nat.le_refl _⟩, hd σ H p⟩
theorem for_range {lo : Int} {n : Nat} {g : TG} {tb : TS} {D : Ends} {σ : St} {H : Hp} (Pv : Nat -> St -> Hp -> Prop) (h0 : Pv 0 σ H)
  (hs : ∀ i σ H, i < n -> Pv i σ H -> g (.int (lo + i)) σ H fun σ2 H2 => tb { D with nx := Pv (i + 1), ct := Pv (i + 1), bk := D.nx } σ2 H2) (hd : ∀ σ H, Pv n σ H -> D.nx σ H) :
  ∃ W : Nat -> Nat -> St -> Hp -> Prop, (∃ m, W 0 m σ H) /\ ∀ i m σ H, W i m σ H ->
   ((Itr lo n).stop i H /\ D.nx σ H) \/ ((Itr lo n).go i H /\ ∃ N : St -> Hp -> Prop, (∀ σ' H', N σ' H' -> ∃ m', m' < m /\ W (i + 1) m' σ' H') /\ ∀ x H', (Itr lo n).yld i H x H' -> g x σ H' fun σ2 H2 => tb { D with nx := N, ct := N, bk := D.nx } σ2 H2) := by
 refine ⟨fun i m σ H => m = n - i /\ i <= n /\ Pv i σ H, ⟨n, by simp, Nat.zero_le _, h0⟩, ?_⟩
 rintro i m σ H ⟨rfl, hi, p⟩
 by_cases hlt : i < n
 ·refine .inr ⟨hlt, Pv (i + 1), fun σ' H' p' => ⟨n - (i + 1), by omega, rfl, hlt, p'⟩, fun x H' y => ?_⟩
  obtain ⟨e, y⟩ := y
  subst e y
  exact hs i σ _ hlt p
 ·have e : i = n := by omega
  subst e
  exact .inl ⟨Nat.le_refl _, hd σ H p⟩
end L2
namespace L2
open PySem PySem.Spec PyProof.Rows
noncomputable abbrev R2 := V -> V -> Hp -> VK -> Prop
noncomputable def OpR (X : Cx) (f : Value -> Value -> Sem Value) (r : R2) : Prop :=
 ∀ (pins : List (Addr × Obj)) (s : Shared) (σ : St) (H : Hp) (x y : V) (v u : Value) (Q : VK), Inv X pins σ H s -> RelV x v -> RelV y u -> r x y H Q ->
  wpAny (model X.prog X.w) X.A (f v u) (EP X pins σ Q) X.xe s
noncomputable def CallR (X : Cx) (f : Value) (r : List V -> Hp -> VK -> Prop) : Prop :=
 ∀ (pins : List (Addr × Obj)) (s : Shared) (σ : St) (H : Hp) (xs : List V) (us : List Value) (Q : VK), Inv X pins σ H s -> Vals xs us -> r xs H Q ->
  wpAny (model X.prog X.w) X.A (call f us) (EP X pins σ Q) X.xe s
noncomputable def TruR (X : Cx) (r : V -> Hp -> (Bool -> Hp -> Prop) -> Prop) : Prop :=
 ∀ (pins : List (Addr × Obj)) (s : Shared) (σ : St) (H : Hp) (x : V) (v : Value) (Q : Bool -> Hp -> Prop), Inv X pins σ H s -> RelV x v -> r x H Q ->
  wpAny (model X.prog X.w) X.A (truthy v) (TP X pins σ Q) X.xe s
noncomputable def tOp (r : R2) (ta tb : TE) : TE := fun σ H Q => ta σ H fun x H1 => tb σ H1 fun y H2 => r x y H2 Q
noncomputable def rI (C : Int -> Int -> Prop) (g : Int -> Int -> V) : R2 := fun x y H Q => ∃ i j, x = .int i /\ y = .int j /\ C i j /\ Q (g i j) H
noncomputable def rI0 (g : Int -> Int -> V) : R2 := fun x y H Q => ∃ i j, x = .int i /\ y = .int j /\ Q (g i j) H
section
variable {X : Cx} {a b c : Expr} {ta tb tc : TE} {pos : Pos}
theorem binT (ha : PE X a ta) (hb : PE X b tb) {pins : List (Addr × Obj)} {s : Shared} {σ : St} {H : Hp} {R : V -> V -> Hp -> Prop} (I : Inv X pins σ H s)
  (h : ta σ H fun x H1 => tb σ H1 fun y H2 => R x y H2) {Q : Value -> Shared -> Prop} {f : Value -> Value -> Sem Value}
  (hf : ∀ v u s2 x y H2, Inv X pins σ H2 s2 -> RelV x v -> RelV y u -> R x y H2 -> wpAny (model X.prog X.w) X.A (f v u) Q X.xe s2) :
  wpAny (model X.prog X.w) X.A (eval a X.env) (fun v s₁ => wpAny (model X.prog X.w) X.A (eval b X.env) (fun u s₂ => wpAny (model X.prog X.w) X.A (f v u) Q X.xe s₂) X.xe s₁) X.xe s := by
 refine thn (ha pins s σ H _ I h) fun v s1 ⟨x, H1, I1, r1, q1⟩ => ?_
 refine thn (hb pins s1 σ H1 _ I1 q1) fun u s2 ⟨y, H2, I2, r2, q2⟩ => ?_
 exact hf v u s2 x y H2 I2 r1 r2 q2
theorem pe_op {op : Operator} {r : R2} (ho : OpR X (binaryOp op) r) (ha : PE X a ta) (hb : PE X b tb) : PE X (.BinOp a op b pos) (tOp r ta tb) := by
 intro pins s σ H Q I h
 exact wpAny_BinOp (binT ha hb I h fun v u s2 x y H2 I2 rx ry q => ho pins s2 σ H2 x y v u Q I2 rx ry q)
theorem opI {f : Value -> Value -> Sem Value} {C : Int -> Int -> Prop} {g : Int -> Int -> Int}
  (rule : ∀ (i j : Int) (t u : Tok) (s : Shared) (Q : Value -> Shared -> Prop) (E : Value -> Shared -> Prop), C i j -> Q (.int (g i j) s.toks) { s with toks := s.toks + 1 } -> wpAny (model X.prog X.w) X.A (f (.int i t) (.int j u)) Q E s) :
  OpR X f (rI C fun i j => .int (g i j)) := by
 intro pins s σ H x y v u Q I rx ry h
 obtain ⟨i, j, rfl, rfl, hc, q⟩ := h
 obtain ⟨t, rfl⟩ := rx
 obtain ⟨t', rfl⟩ := ry
 exact rule i j t t' s _ _ hc ⟨.int (g i j), H, I.tok _, ⟨_, rfl⟩, q⟩
theorem opI0 {f : Value -> Value -> Sem Value} {g : Int -> Int -> Int}
  (rule : ∀ (i j : Int) (t u : Tok) (s : Shared) (Q : Value -> Shared -> Prop) (E : Value -> Shared -> Prop), Q (.int (g i j) s.toks) { s with toks := s.toks + 1 } -> wpAny (model X.prog X.w) X.A (f (.int i t) (.int j u)) Q E s) :
  OpR X f (rI0 fun i j => .int (g i j)) := by
 intro pins s σ H x y v u Q I rx ry h
 obtain ⟨i, j, rfl, rfl, q⟩ := h
 obtain ⟨t, rfl⟩ := rx
 obtain ⟨t', rfl⟩ := ry
 exact rule i j t t' s _ _ ⟨.int (g i j), H, I.tok _, ⟨_, rfl⟩, q⟩
theorem opB0 {f : Value -> Value -> Sem Value} {g : Int -> Int -> Bool}
  (rule : ∀ (i j : Int) (t u : Tok) (s : Shared) (Q : Value -> Shared -> Prop) (E : Value -> Shared -> Prop), Q (.bool (g i j)) s -> wpAny (model X.prog X.w) X.A (f (.int i t) (.int j u)) Q E s) :
  OpR X f (rI0 fun i j => .bl (g i j)) := by
 intro pins s σ H x y v u Q I rx ry h
 obtain ⟨i, j, rfl, rfl, q⟩ := h
 obtain ⟨t, rfl⟩ := rx
 obtain ⟨t', rfl⟩ := ry
 exact rule i j t t' s _ _ ⟨.bl (g i j), H, I, rfl, q⟩
noncomputable def CDiv (i j : Int) : Prop := 0 < j /\ j < 1073741824
noncomputable def CPow (i j : Int) : Prop := 0 <= j /\ j <= 1000000 /\ i.natAbs < 2 ^ 64
noncomputable def CMul (i j : Int) : Prop := (-(2 ^ 64) < i /\ i < 2 ^ 64) \/ (-(2 ^ 64) < j /\ j < 2 ^ 64)
theorem CMul.ok {i j : Int} (h : CMul i j) : IntMulOk i j := by
 rcases h with ⟨h1, h2⟩ | ⟨h1, h2⟩
 ·exact .of_left (intBits_le_64 h1 h2)
 ·exact .of_right (intBits_le_64 h1 h2)
theorem op_add : OpR X (binaryOp .Add) (rI0 fun i j => .int (i + j)) := opI0 fun _ _ _ _ _ _ _ q => add_int q
theorem op_sub : OpR X (binaryOp .Sub) (rI0 fun i j => .int (i - j)) := opI0 fun _ _ _ _ _ _ _ q => sub_int q
theorem op_mul : OpR X (binaryOp .Mult) (rI CMul fun i j => .int (i * j)) := opI fun _ _ _ _ _ _ _ hc q => mul_int q hc.ok
theorem op_fdiv : OpR X (binaryOp .FloorDiv) (rI CDiv fun i j => .int (i / j)) := opI fun i j _ _ _ _ _ hc q => by
 have h1 : (0 : Int) < j := hc.1
 have h2 : j < 1073741824 := hc.2
 exact floordiv_int (by omega) (by rw [Int.fdiv_eq_ediv_of_nonneg i (by omega)]; exact q) (.inl (PyProof.noPylong_small (by omega)))
theorem op_mod : OpR X (binaryOp .Mod) (rI (fun _ j => 0 < j) fun i j => .int (i % j)) := opI fun i j _ _ _ _ _ hc q => by
 have h1 : (0 : Int) < j := hc
 exact mod_int' (by omega) (by rw [Int.fmod_eq_emod_of_nonneg i (by omega)]; exact q)
theorem op_pow : OpR X (binaryOp .Pow) (rI CPow fun i j => .int (i ^ j.toNat)) := opI fun _ _ _ _ _ _ _ hc q => pow_int_small hc.1 hc.2.1 hc.2.2 q
theorem op_xor : OpR X (binaryOp .BitXor) (rI0 fun i j => .int (Builtin.bitXor i j)) := opI0 fun _ _ _ _ _ _ _ q => xor_int q
end
noncomputable def scal : V -> V -> Bool
 | .non, .non => true | .non, .int _ => true | .int _, .non => true | .non, .bl _ => true | .bl _, .non => true | .non, .str _ => true | .str _, .non => true
 | .int _, .int _ => true | .bl _, .bl _ => true | .str _, .str _ => true | .byt _, .byt _ => true
 | .int _, .str _ => true | .str _, .int _ => true | .bl _, .str _ => true | .str _, .bl _ => true
 | _, _ => false
noncomputable def rEq : R2 := fun x y H Q => scal x y = true /\ Q (.bl (decide (x = y))) H
noncomputable def rNe : R2 := fun x y H Q => scal x y = true /\ Q (.bl (!decide (x = y))) H
theorem dec_int {i j : Int} : decide (V.int i = V.int j) = (i == j) := by
 rw [Bool.eq_iff_iff]
 simp
theorem dec_bl {i j : Bool} : decide (V.bl i = V.bl j) = (i == j) := by
 rw [Bool.eq_iff_iff]
 simp
theorem dec_str {i j : Str} : decide (V.str i = V.str j) = (i == j) := by
 rw [Bool.eq_iff_iff]
 simp
theorem dec_byt {i j : Array UInt8} : decide (V.byt i = V.byt j) = (i.toList == j.toList) := by
 rw [Bool.eq_iff_iff]
 cases i
 cases j
 simp
section
variable {X : Cx} {a b c : Expr} {ta tb tc : TE} {pos : Pos}
theorem fin_bl {pins : List (Addr × Obj)} {σ : St} {H : Hp} {s : Shared} {Q : VK} {k k' : Bool} (I : Inv X pins σ H s) (q : Q (.bl k) H) (e : k = k') : EP X pins σ Q (.bool k') s := by
 subst e
 exact ⟨.bl k, H, I, rfl, q⟩
theorem op_eq : OpR X (compareOp .Eq) rEq := by
 intro pins s σ H x y v u Q I rx ry h
 obtain ⟨hs, q⟩ := h
 cases x with
 | non =>
  cases rx
  cases y with
  | non => cases ry; exact PySem.EqNone.eq_none_none (fin_bl I q (by simp))
  | bl j => cases ry; exact PySem.EqNone.eq_none_bool (fin_bl I q (by simp))
  | int j => obtain ⟨t', rfl⟩ := ry; exact PySem.EqNone.eq_none_int (fin_bl I q (by simp))
  | str j => obtain ⟨t', rfl⟩ := ry; exact PySem.EqNone.eq_none_str (fin_bl I q (by simp))
  | _ => exact absurd (show false = true from hs) Bool.false_ne_true
 | bl i =>
  cases rx
  cases y with
  | non => cases ry; exact PySem.EqNone.eq_bool_none (fin_bl I q (by simp))
  | bl j => cases ry; exact eq_bool (fin_bl I q dec_bl)
  | str j => obtain ⟨t', rfl⟩ := ry; exact PySem.EqMixed.eq_bool_str (fin_bl I q (by simp))
  | _ => exact absurd (show false = true from hs) Bool.false_ne_true
 | int i =>
  obtain ⟨t, rfl⟩ := rx
  cases y with
  | non => cases ry; exact PySem.EqNone.eq_int_none (fin_bl I q (by simp))
  | int j => obtain ⟨t', rfl⟩ := ry; exact eq_int (fin_bl I q dec_int)
  | str j => obtain ⟨t', rfl⟩ := ry; exact PySem.EqMixed.eq_int_str (fin_bl I q (by simp))
  | _ => exact absurd (show false = true from hs) Bool.false_ne_true
 | str i =>
  obtain ⟨t, rfl⟩ := rx
  cases y with
  | non => cases ry; exact PySem.EqNone.eq_str_none (fin_bl I q (by simp))
  | bl j => cases ry; exact PySem.EqMixed.eq_str_bool (fin_bl I q (by simp))
  | int j => obtain ⟨t', rfl⟩ := ry; exact PySem.EqMixed.eq_str_int (fin_bl I q (by simp))
  | str j => obtain ⟨t', rfl⟩ := ry; exact eq_str (fin_bl I q dec_str)
  | _ => exact absurd (show false = true from hs) Bool.false_ne_true
 | byt i =>
  obtain ⟨t, rfl⟩ := rx
  cases y with
  | byt j => obtain ⟨t', rfl⟩ := ry; exact PySem.W.eq_bytes (fin_bl I q dec_byt)
  | _ => exact absurd (show false = true from hs) Bool.false_ne_true
 | _ => cases y <;> exact absurd (show false = true from hs) Bool.false_ne_true
theorem op_ne : OpR X (compareOp .NotEq) rNe := by
 intro pins s σ H x y v u Q I rx ry h
 obtain ⟨hs, q⟩ := h
 cases x with
 | non =>
  cases rx
  cases y with
  | non => cases ry; exact PySem.EqNone.ne_none_none (fin_bl I q (by simp))
  | bl j => cases ry; exact PySem.EqNone.ne_none_bool (fin_bl I q (by simp))
  | int j => obtain ⟨t', rfl⟩ := ry; exact PySem.EqNone.ne_none_int (fin_bl I q (by simp))
  | str j => obtain ⟨t', rfl⟩ := ry; exact PySem.EqNone.ne_none_str (fin_bl I q (by simp))
  | _ => exact absurd (show false = true from hs) Bool.false_ne_true
 | bl i =>
  cases rx
  cases y with
  | non => cases ry; exact PySem.EqNone.ne_bool_none (fin_bl I q (by simp))
  | bl j => cases ry; exact ne_bool (fin_bl I q (congrArg not dec_bl))
  | str j => obtain ⟨t', rfl⟩ := ry; exact PySem.EqMixed.ne_bool_str (fin_bl I q (by simp))
  | _ => exact absurd (show false = true from hs) Bool.false_ne_true
 | int i =>
  obtain ⟨t, rfl⟩ := rx
  cases y with
  | non => cases ry; exact PySem.EqNone.ne_int_none (fin_bl I q (by simp))
  | int j => obtain ⟨t', rfl⟩ := ry; exact ne_int (fin_bl I q (congrArg not dec_int))
  | str j => obtain ⟨t', rfl⟩ := ry; exact PySem.EqMixed.ne_int_str (fin_bl I q (by simp))
  | _ => exact absurd (show false = true from hs) Bool.false_ne_true
 | str i =>
  obtain ⟨t, rfl⟩ := rx
  cases y with
  | non => cases ry; exact PySem.EqNone.ne_str_none (fin_bl I q (by simp))
  | bl j => cases ry; exact PySem.EqMixed.ne_str_bool (fin_bl I q (by simp))
  | int j => obtain ⟨t', rfl⟩ := ry; exact PySem.EqMixed.ne_str_int (fin_bl I q (by simp))
  | str j => obtain ⟨t', rfl⟩ := ry; exact ne_str (fin_bl I q (congrArg not dec_str))
  | _ => exact absurd (show false = true from hs) Bool.false_ne_true
 | byt i =>
  obtain ⟨t, rfl⟩ := rx
  cases y with
  | byt j => obtain ⟨t', rfl⟩ := ry; exact PySem.W.ne_bytes (fin_bl I q (congrArg not dec_byt))
  | _ => exact absurd (show false = true from hs) Bool.false_ne_true
 | _ => cases y <;> exact absurd (show false = true from hs) Bool.false_ne_true
theorem op_lt : OpR X (compareOp .Lt) (rI0 fun i j => .bl (decide (i < j))) := opB0 fun _ _ _ _ _ _ _ q => lt_int q
theorem op_gt : OpR X (compareOp .Gt) (rI0 fun i j => .bl (decide (j < i))) := opB0 fun _ _ _ _ _ _ _ q => gt_int q
theorem nomark (b : Expr) {op : CmpOp} (h : op ≠ .In := by decide) (h2 : op ≠ .NotIn := by decide) : behindInMarks op b = false := by
 have e1 : (op == CmpOp.In) = false := by cases op <;> first | rfl | exact absurd rfl h
 have e2 : (op == CmpOp.NotIn) = false := by cases op <;> first | rfl | exact absurd rfl h2
 cases b <;> simp [behindInMarks, e1, e2]
theorem pe_cmpR {op : CmpOp} {r : R2} (ho : OpR X (compareOp op) r) (ha : PE X a ta) (hb : PE X b tb) (hm : behindInMarks op b = false) : PE X (.Compare a [op] [b] pos) (tOp r ta tb) := by
 intro pins s σ H Q I h
 exact wpAny_Compare1 (binT ha hb I h fun v u s2 x y H2 I2 rx ry q => ho pins s2 σ H2 x y v u Q I2 rx ry q) hm
noncomputable def tTest (t : TE) : TT := fun σ H Q => t σ H fun x H' => ∃ k, x = .bl k /\ Q k H'
theorem pt_cmpR {op : CmpOp} {r : R2} (ho : OpR X (compareOp op) r) (ha : PE X a ta) (hb : PE X b tb) (hm : behindInMarks op b = false) : PT X (.Compare a [op] [b] pos) (tTest (tOp r ta tb)) := by
 intro pins s σ H Q I h
 refine wpAny_isTrue_Compare1 (thn (ha pins s σ H _ I h) fun v s1 ⟨x, H1, I1, r1, q1⟩ => thn (hb pins s1 σ H1 _ I1 q1) fun u s2 ⟨y, H2, I2, r2, q2⟩ =>
  thn (ho pins s2 σ H2 x y v u _ I2 r1 r2 q2) fun c s3 ⟨z, H3, I3, r3, k, e, q3⟩ => ?_) hm
 subst e
 cases r3
 exact wpAny_truthy_bool ⟨H3, I3, q3⟩
noncomputable def TruV (K : PySem.W.Frag) (x : V) (H : Hp) (k : Bool) : Prop :=
 match x with
 | .non => k = false
 | .bl b => k = b
 | .int i => k = (i != 0)
 | .str y => y.length <= sizeLine /\ k = ((y.length : Int) != 0)
 | .byt y => y.size <= sizeLine /\ k = ((y.size : Int) != 0)
 | .ref p => (∃ xs, SqL K H p xs /\ k = !xs.isEmpty) \/ (∃ xs, SqT K H p xs /\ k = !xs.isEmpty) \/ ∃ kvs, H p = some (.dK kvs) /\ k = !kvs.isEmpty
 | _ => False
theorem isEmpty_kv {κ : Type} {kvs : List (κ × V)} {vs : List (κ × Value)} (r : KV kvs vs) : (!vs.isEmpty) = !kvs.isEmpty := by
 cases r <;> rfl
theorem isEmpty_of {xs : List V} {its : List Value} (r : Vals xs its) : (!its.toArray.isEmpty) = !xs.isEmpty := by
 cases r <;> simp
theorem line63 : (sizeLine : Nat) < 2 ^ 63 := by rw [sizeLine_eq]; decide
theorem tru_ok : TruR X (fun x H Q => ∃ k, TruV X.K x H k /\ Q k H) := by
 intro pins s σ H x v Q I rx h
 obtain ⟨k, e, q⟩ := h
 have hl := line63
 have hs : sizeLine = 16777216 := sizeLine_eq
 cases x with
 | non =>
  cases rx
  have e' : k = false := e
  subst e'
  exact truthy_none ⟨H, I, q⟩
 | bl b =>
  cases rx
  have e' : k = b := e
  subst e'
  exact wpAny_truthy_bool ⟨H, I, q⟩
 | int i =>
  obtain ⟨t, rfl⟩ := rx
  have e' : k = (i != 0) := e
  subst e'
  exact PySem.P.truthy_int ⟨H, I, q⟩
 | str y =>
  obtain ⟨t, rfl⟩ := rx
  obtain ⟨hy, e'⟩ : y.length <= sizeLine /\ k = ((y.length : Int) != 0) := e
  subst e'
  exact PySem.P.truthy_str (by omega) ⟨H, I.tok _, q⟩
 | byt y =>
  obtain ⟨t, rfl⟩ := rx
  obtain ⟨hy, e'⟩ : y.size <= sizeLine /\ k = ((y.size : Int) != 0) := e
  subst e'
  exact PySem.W.truthy_bytes (by exact Om.b1 ‹_› rfl) ⟨H, I.tok _, q⟩
 | ref p =>
  cases rx
  have e' : (∃ xs, SqL X.K H p xs /\ k = !xs.isEmpty) \/ (∃ xs, SqT X.K H p xs /\ k = !xs.isEmpty) \/ ∃ kvs, H p = some (.dK kvs) /\ k = !kvs.isEmpty := e
  rcases e' with ⟨xs, hx, e'⟩ | ⟨xs, hx, e'⟩ | ⟨kvs, hx, e'⟩
  ·subst e'
   obtain ⟨its, r, pl, hz⟩ := I.list hx
   have hlen := r.length
   exact wpAny_truthy_list pl.isList (by simp only [List.size_toArray]; omega) ⟨H, I.tok _, by rw [isEmpty_of r]; exact q⟩
  ·subst e'
   obtain ⟨its, r, pl, hz⟩ := I.tuple hx
   have hlen := r.length
   exact truthy_tuple pl (by simp only [List.size_toArray]; omega) ⟨H, I.tok _, by rw [isEmpty_of r]; exact q⟩
  ·subst e'
   obtain ⟨hz, hS, vs, r, m⟩ : kvs.length <= sizeLine /\ (p == sysModules) = false /\ ∃ vs, KV kvs vs /\ s.heap.DictOf (mixKind X.prog X.w) p vs := I.hok p _ hx
   have hlen : kvs.length = vs.length := Paired.length r
   exact wpAny_truthy_dict hS m (by omega) ⟨H, I.tok _, by rw [isEmpty_kv r]; exact q⟩
 | _ => exact (show False from e).elim
theorem pt_truth (ha : PE X a ta) (he : ∀ whole, isTrue a X.env whole = (do let v <- whole; standAt a.pos; holding [v] (truthy v))) :
  PT X a (fun σ H Q => ta σ H fun x H' => ∃ k, TruV X.K x H' k /\ Q k H') := by
 intro pins s σ H Q I h
 exact isTrue_plain (thn (ha pins s σ H _ I h) fun v s1 zz0 => by obtain ⟨x, H1, I1, r1, q1⟩ := zz0; exact tru_ok pins s1 σ H1 x v Q I1 r1 q1) (he _)
theorem vals1 {x : V} {us : List Value} (r : Vals [x] us) : ∃ u, us = [u] /\ RelV x u := by
 cases r with
 | cons r1 r2 => cases r2; exact ⟨_, rfl, r1⟩
theorem vals2 {x y : V} {us : List Value} (r : Vals [x, y] us) : ∃ u w', us = [u, w'] /\ RelV x u /\ RelV y w' := by
 cases r with
 | cons r1 r2 =>
  cases r2 with
  | cons r3 r4 => cases r4; exact ⟨_, _, rfl, r1, r3⟩
theorem call_max2 (hc : X.calm = true) : CallR X (.builtin "max") (fun xs H Q => ∃ i j, xs = [.int i, .int j] /\ Q (.int (if j > i then j else i)) H) := by
 intro pins s σ H xs us Q I r h
 obtain ⟨i, j, rfl, q⟩ := h
 obtain ⟨u, w', rfl, ⟨t, rfl⟩, ⟨t', rfl⟩⟩ := vals2 r
 refine max_two_ints (I.ok.hd hc) fun h' tk k => ⟨_, H, I.kept k, ?_, q⟩
 by_cases hj : j > i
 ·rw [if_pos hj, if_pos hj]; exact ⟨_, rfl⟩
 ·rw [if_neg hj, if_neg hj]; exact ⟨_, rfl⟩
theorem call_int1 : CallR X (.type "int") (fun xs H Q => (∃ i, xs = [.int i] /\ Q (.int i) H) \/ ∃ k, xs = [.bl k] /\ Q (.int (if k then 1 else 0)) H) := by
 intro pins s σ H xs us Q I r h
 rcases h with ⟨i, rfl, q⟩ | ⟨k, rfl, q⟩
 ·obtain ⟨u, rfl, t, rfl⟩ := vals1 r
  exact call_int_int ⟨.int i, H, I, ⟨_, rfl⟩, q⟩
 ·obtain ⟨u, rfl, r1⟩ := vals1 r
  cases r1
  exact call_int_bool ⟨.int (if k then 1 else 0), H, I.tok _, ⟨_, rfl⟩, q⟩
end
end L2
namespace L2
open PySem PySem.Spec PyProof.Rows
section
variable {prog : Program} {w : World} {A : Around} {E : Value -> Shared -> Prop} {s : Shared} {K : PySem.W.Frag} {x dx C f : Addr} {mA : Str -> Option Value} {name : Str} {v : Value}
end
section
variable {P : Program} {w : World} {H H' : Hp} {h h' : Heap} {a C dx : Addr} {fs fs' : List (Str × V)}
end
section
variable {X : Cx} {pins : List (Addr × Obj)} {σ : St} {H : Hp} {s : Shared} {a C dx : Addr} {fs : List (Str × V)} {f : Str} {v : V} {A : Around} {E : Value -> Shared -> Prop}
end
section
variable {X : Cx} {o e value : Expr} {f : Str} {pos pos' tpos : Pos} {ta tv : TE}
end
section
variable {X : Cx} {pins : List (Addr × Obj)} {σ : St} {H : Hp} {s : Shared} {A : Around} {E : Value -> Shared -> Prop} {Q : Value -> Shared -> Prop} {c : Value} {b : Bool}
end
end L2
namespace L2
open PySem PySem.Spec PyProof.Rows
structure Room (k : Nat) (A : Around) : Prop where
 hd : A.handled = none
 dp : A.depth + 3 * k + 5 < recursionLimit
 un : A.units + 16 * k + 200 < cLine
theorem Room.mono {j k : Nat} {A : Around} (r : Room k A) (h : j <= k) : Room j A := ⟨r.hd, by have := r.dp; omega, by have := r.un; omega⟩
theorem Room.deeper {k : Nat} {A : Around} (r : Room (k + 1) A) (env : Env) : Room k (A.deeper env) :=
 ⟨r.hd, by have := r.dp; show A.depth + 1 + 3 * k + 5 < _; omega, by have := r.un; show A.units + 3 + 16 * k + 200 < _; omega⟩
theorem Room.depth {k : Nat} {A : Around} (r : Room k A) : A.depth < recursionLimit := by have := r.dp; omega
noncomputable def tNil : TA := fun _ H Q => Q [] H
noncomputable def tCons (ta : TE) (tr : TA) : TA := fun σ H Q => ta σ H fun x H1 => tr σ H1 fun xs H2 => Q (x :: xs) H2
section
variable {X : Cx} {e : Expr} {es : List Expr} {te : TE} {t : TA} {pos : Pos}
theorem pa_nil : PA X [] tNil := fun _ _ _ _ H Q I h => Calls.spliced_nil ⟨[], H, I, .nil, h⟩
theorem pa_cons (ha : PE X e te) (hr : PA X es t) (hs : starEach (e :: es) X.env = (false, eval e X.env) :: starEach es X.env := by rfl) : PA X (e :: es) (tCons te t) := by
 intro pos pins s σ H Q I h
 rw [hs]
 show wpAny _ _ (spliced ((false, eval e X.env) :: backTo pos (starEach es X.env))) _ _ s
 refine Calls.spliced_cons (thn (ha pins s σ H _ I h) fun u s1 ⟨x, H1, I1, r1, q1⟩ => ?_)
 exact thn (hr pos pins s1 σ H1 _ I1 q1) fun us s2 ⟨xs, H2, I2, r2, q2⟩ => ⟨x :: xs, H2, I2, .cons r1 r2, q2⟩
noncomputable def tTup (t : TA) : TE := fun σ H Q => t σ H fun xs H1 => xs.length <= sizeLine /\ ∀ p, H1 p = none -> Q (.ref p) (upd H1 p (.tup xs))
noncomputable def tLst (t : TA) : TE := fun σ H Q => t σ H fun xs H1 => xs.length <= sizeLine /\ ∀ p, H1 p = none -> Q (.ref p) (upd H1 p (.lst xs))
theorem pe_tup {x1} (h : PA X es t) : PE X (.Tuple es x1 pos) (tTup t) := by
 intro pins s σ H Q I hq
 refine wpAny_Tuple_spliced (thn (h pos pins s σ H _ I hq) fun us s1 ⟨xs, H1, I1, r, z, q⟩ => ⟨by rw [<- r.length]; exact z, ?_⟩)
 have hf : H1 s1.heap.objs.size = none := I1.hok.fresh (Nat.le_refl _)
 refine ⟨.ref s1.heap.objs.size, upd H1 s1.heap.objs.size (.tup xs), I1.laid (t' := s1.toks) (fun b u e => Heap.get?_push_of_some _ e) (Nat.le_refl _) ?_, rfl, q _ hf⟩
 exact ⟨z, us, r, ⟨_, Heap.get?_push_size _ rfl, rfl, _, rfl⟩⟩
theorem pe_lst (h : PA X es t) : PE X (.List es pos) (tLst t) := by
 intro pins s σ H Q I hq
 refine wpAny_List_spliced (thn (h pos pins s σ H _ I hq) fun us s1 ⟨xs, H1, I1, r, z, q⟩ => ⟨by rw [<- r.length]; exact z, ?_⟩)
 have hf : H1 s1.heap.objs.size = none := I1.hok.fresh (Nat.le_refl _)
 refine ⟨.ref s1.heap.objs.size, upd H1 s1.heap.objs.size (.lst xs), I1.laid (t' := s1.toks) (fun b u e => Heap.get?_push_of_some _ e) (Nat.le_refl _) ?_, rfl, q _ hf⟩
 exact ⟨z, us, 0, r, Heap.get?_push_size _ rfl⟩
end
noncomputable abbrev Sp := List V -> Hp -> VK -> XK -> Prop
noncomputable abbrev CXT := List Env -> Hp -> Shared -> XK -> Value -> Shared -> Prop
structure Env0 (P : Program) (w : World) (K : PySem.W.Frag) (mg : Str -> Option Value) (base : Heap) (A : Around) (outer : List Env) (s : Shared) (H : Hp) : Prop where
 frames : A.frames = some outer
 mod : Mod K mg base
 bs : ∀ b o, base.get? b = some o -> s.heap.get? b = some o /\ H b = none
 bsz : base.objs.size <= s.heap.objs.size
 funs : s.heap.FunFrames base outer
 frf : ∀ b ∈ frs outer, H b = none
 hok : HOk P w H s.heap
 bare : AllBare s.gens
noncomputable def CE (outer : List Env) (P : Program) (w : World) (H : Hp) (s : Shared) (Q : VK) (u : Value) (s' : Shared) : Prop :=
 ∃ v H', s'.os = s.os /\ AllBare s'.gens /\ Un (frs outer) [] H H' s.heap s'.heap /\ HOk P w H' s'.heap /\ RelV v u /\ Q v H'
noncomputable def CR (CX : CXT) (outer : List Env) (P : Program) (w : World) (H : Hp) (s : Shared) (Q : VK) (E : XK) (r : Result) (s' : Shared) : Prop :=
 match r with
 | .ok (.ret u) => CE outer P w H s Q u s'
 | .ok _ => False
 | .error e => CX outer H s E e s'
structure FnOk (P : Program) (w : World) (K : PySem.W.Frag) (mg : Str -> Option Value) (base : Heap) (CX : CXT) (k : Nat) (f : Addr) (fd : FuncData) (ps : List Str) (sp : Sp) : Prop where
 len : ∀ vs H Q E, sp vs H Q E -> vs.length = ps.length
 run : ∀ (A : Around) (outer : List Env) (s : Shared) (H : Hp) (args : Args) (us : List Value) (vs : List V) (Q : VK) (E : XK), Room k A -> Env0 P w K mg base A outer s H -> BindsTo s fd args (ps.zip us) -> Vals vs us -> sp vs H Q E ->
  codeAny (model P w) A (.call (.ref f) args) (CR CX outer P w H s Q E) s
theorem FnOk.mono {P : Program} {w : World} {K : PySem.W.Frag} {mg : Str -> Option Value} {base : Heap} {CX : CXT} {j k : Nat} {f : Addr} {fd : FuncData} {ps : List Str} {sp : Sp} (F : FnOk P w K mg base CX j f fd ps sp) (h : j <= k) :
  FnOk P w K mg base CX k f fd ps sp := ⟨F.len, fun A outer s H args us vs Q E hr => F.run A outer s H args us vs Q E (hr.mono h)⟩
section
variable {X : Cx} {pins : List (Addr × Obj)} {σ : St} {H : Hp} {s s' : Shared}
theorem Inv.env0 (I : Inv X pins σ H s) : Env0 X.prog X.w X.K X.mg X.base X.A X.stack s H :=
 ⟨I.ok.frames, I.ok.mod, I.bs, Nat.le_trans I.ok.bsz I.sz, I.stack, I.stkFree, I.hok, I.bare⟩
theorem Inv.after {Q : VK} {u : Value} (I : Inv X pins σ H s) (h : CE X.stack X.prog X.w H s Q u s') : EP X pins σ Q u s' := by
 obtain ⟨v, H', os, bare, un, hok, r, q⟩ := h
 obtain ⟨hh, g, d, t, os'⟩ := s'
 obtain rfl : os' = s.os := os
 exact ⟨v, H', I.call (h' := hh) (g' := g) (d' := d) (t' := t) (ch := []) un hok bare (fun b z => absurd z (by simp)), r, q⟩
end
noncomputable def tCall (sp : Sp) (dvs : List V) (E : XK) (t : TA) : TE := fun σ H Q => t σ H fun vs H1 => sp (vs ++ dvs) H1 Q E
noncomputable def Binds (K : PySem.W.Frag) (fd : FuncData) (ps : List Str) (ds : List Value) : Prop :=
 ∀ (s : Shared) (us : List Value), K.In s.heap -> (us ++ ds).length = ps.length -> BindsTo s fd ⟨us, []⟩ (ps.zip (us ++ ds))
theorem Binds.all {K : PySem.W.Frag} {fd : FuncData} {ps : List Str} (h : ∀ us : List Value, us.length = ps.length -> bindArgs fd ⟨us, []⟩ = pure (ps.zip us)) : Binds K fd ps [] := fun s us _ hl => by
 rw [List.append_nil] at hl ⊢
 exact .of_eq (h us hl)
noncomputable def Passes (CX : CXT) (X : Cx) (E : XK) : Prop := ∀ (pins : List (Addr × Obj)) (σ : St) (H : Hp) (s : Shared) (e : Value) (s' : Shared), Inv X pins σ H s -> CX X.stack H s E e s' -> X.xe e s'
section
variable {X : Cx} {CX : CXT} {k : Nat} {f C : Addr} {fd : FuncData} {ps : List Str} {sp : Sp} {dvs : List V} {ds : List Value} {E : XK} {x m : Str} {p pos apos : Pos} {e o : Expr} {es : List Expr} {ta : TE} {t : TA}
theorem run_fn {pins : List (Addr × Obj)} {σ : St} {H : Hp} {s : Shared} {Q : VK} {us : List Value} {vs : List V} (F : FnOk X.prog X.w X.K X.mg X.base CX k f fd ps sp) (hr : Room k X.A) (hb : Binds X.K fd ps ds) (hd : Vals dvs ds) (hx : Passes CX X E)
  (I : Inv X pins σ H s) (r : Vals vs us) (h : sp (vs ++ dvs) H Q E) : wpAny (model X.prog X.w) X.A (call (.ref f) us) (EP X pins σ Q) X.xe s := by
 have r2 : Vals (vs ++ dvs) (us ++ ds) := r.append hd
 have hl : (us ++ ds).length = ps.length := by rw [<- r2.length]; exact F.len _ _ _ _ h
 refine wpAny_call (codeAny_mono (F.run X.A X.stack s H ⟨us, []⟩ (us ++ ds) (vs ++ dvs) Q E hr I.env0 (hb s us I.kIn hl) r2 h) fun r s' hq => ?_)
 cases r with
 | error e => exact hx pins σ H s e s' I hq
 | ok fl =>
  cases fl with
  | ret u => exact I.after hq
  | next => exact False.elim hq
  | brk => exact False.elim hq
  | cont => exact False.elim hq
theorem pe_call (F : FnOk X.prog X.w X.K X.mg X.base CX k f fd ps sp) (hr : Room k X.A) (hg : Gl X x) (hm : X.mg x = some (.ref f)) (hk : PySem.W.keepIn X.K (.ref f) = true) (hb : Binds X.K fd ps ds) (hd : Vals dvs ds) (hx : Passes CX X E)
  (ha : PA X (e :: es) t) (hdb : (x == ("__debug__" : Str)) = false := by decide) (he : starEach (e :: es) X.env = (false, eval e X.env) :: starEach es X.env := by rfl) (hpl : (backTo pos (starEach es X.env)).any (·.1) = false := by rfl) :
  PE X (.Call (.Name x p) (e :: es) [] pos) (tCall sp dvs E t) := by
 intro pins s σ H Q I h
 refine wpAny_Call_Name_kw (ld_glob I hg hm ?_ hdb)
 refine PySem.W.callWith_K (h₀ := X.base) I.ok.mod.kin hk (thn (ha pos pins s σ H _ I h) fun us s1 ⟨vs, H1, I1, r, q⟩ => ⟨I1.kIn, ?_⟩) he hpl
 exact run_fn F hr hb hd hx I1 r q
end
section
variable {X : Cx} {CX : CXT} {k : Nat} {f C : Addr} {fd : FuncData} {ps ks : List Str} {sp : Sp} {E : XK} {x m : Str} {p pos apos kpos : Pos} {e o : Expr} {es : List Expr} {kws : List Keyword} {te ta : TE} {t tk : TA} {nm : Option Str}
variable {g : List Value -> List Value -> List Value} {gV : List V -> List V -> List V}
end
structure FnScope (N P : List Str) (sc : Scope) : Prop where
 kind : sc.kind = .function
 co : sc.isCoroutine = false
 gen : sc.isGenerator = false
 nd : N.Nodup
 pre : N.take P.length = P
 par : ∀ x ∈ P, sc.names.lookup x = some .local \/ sc.names.lookup x = some .cell
 nofree : ∀ y ∈ sc.names, y.2 ≠ .free
theorem bindL_out {kindOf : Str -> Option NameKind} {x : Str} : ∀ {binds : List (Str × Value)} {m : Str -> Option Value}, (∀ v, (x, v) ∉ binds) -> bindL kindOf binds m x = m x
 | [], _, _ => rfl
 | (n, v) :: r, m, h => by
  unfold bindL
  rw [bindL_out fun w hw => h w (List.mem_cons_of_mem _ hw)]
  split
  ·have : x ≠ n := by rintro rfl; exact h v List.mem_cons_self
   simp [this]
  ·rfl
theorem bindC_out {kindOf : Str -> Option NameKind} {x : Str} : ∀ {binds : List (Str × Value)} {m : Str -> Option Value}, (∀ v, (x, v) ∉ binds) -> bindC kindOf binds m x = m x
 | [], _, _ => rfl
 | (n, v) :: r, m, h => by
  unfold bindC
  rw [bindC_out fun w hw => h w (List.mem_cons_of_mem _ hw)]
  split
  ·rfl
  ·have : x ≠ n := by rintro rfl; exact h v List.mem_cons_self
   simp [this]
theorem bindL_get {kindOf : Str -> Option NameKind} {x : Str} {v : Value} : ∀ {P : List Str} {vs : List Value} {i : Nat} {m : Str -> Option Value}, P.Nodup -> P[i]? = some x -> vs[i]? = some v -> kindOf x = some .local ->
  bindL kindOf (P.zip vs) m x = some v
 | [], _, _, _, _, h, _, _ => by simp at h
 | _ :: _, [], _, _, _, _, h, _ => by simp at h
 | p :: P, w :: vs, 0, m, nd, h1, h2, hk => by
  simp at h1 h2; subst h1; subst h2
  show bindL kindOf ((p, w) :: P.zip vs) m p = _
  unfold bindL
  rw [bindL_out fun v hv => (List.nodup_cons.mp nd).1 (List.of_mem_zip hv).1, if_pos hk]
  simp
 | p :: P, w :: vs, i + 1, m, nd, h1, h2, hk => by
  show bindL kindOf ((p, w) :: P.zip vs) m x = _
  unfold bindL
  exact bindL_get (i := i) (List.nodup_cons.mp nd).2 (by simpa using h1) (by simpa using h2) hk
theorem bindC_get {kindOf : Str -> Option NameKind} {x : Str} {v : Value} : ∀ {P : List Str} {vs : List Value} {i : Nat} {m : Str -> Option Value}, P.Nodup -> P[i]? = some x -> vs[i]? = some v -> kindOf x ≠ some .local ->
  bindC kindOf (P.zip vs) m x = some v
 | [], _, _, _, _, h, _, _ => by simp at h
 | _ :: _, [], _, _, _, _, h, _ => by simp at h
 | p :: P, w :: vs, 0, m, nd, h1, h2, hk => by
  simp at h1 h2; subst h1; subst h2
  show bindC kindOf ((p, w) :: P.zip vs) m p = _
  unfold bindC
  rw [bindC_out fun v hv => (List.nodup_cons.mp nd).1 (List.of_mem_zip hv).1, if_neg hk]
  simp
 | p :: P, w :: vs, i + 1, m, nd, h1, h2, hk => by
  show bindC kindOf ((p, w) :: P.zip vs) m x = _
  unfold bindC
  exact bindC_get (i := i) (List.nodup_cons.mp nd).2 (by simpa using h1) (by simpa using h2) hk
noncomputable def start (N : List Str) (vs : List V) : St := vs.map some ++ List.replicate (N.length - vs.length) none
noncomputable def cxOf (CX : CXT) (P : Program) (w : World) (K : PySem.W.Frag) (mg : Str -> Option Value) (base : Heap) (N : List Str) (qual : Str) (scope : Scope) (f : Addr) (cd : Value) (A : Around) (outer : List Env) (s : Shared) (H : Hp) (E : XK) : Cx where
 prog := P
 w := w
 K := K
 mg := mg
 base := base
 A := A.deeper (envOfC qual scope s.heap.objs.size f cd)
 N := N
 s₀ := s
 H₀ := H
 env := envOfC qual scope s.heap.objs.size f cd
 outer := outer
 stack := envOfC qual scope s.heap.objs.size f cd :: outer
 ex := []
 calm := true
 fn := fun _ => true
 pn := []
 xe := fun e s' => wpAny (model P w) (A.deeper (envOfC qual scope s.heap.objs.size f cd)) (leaving (envOfC qual scope s.heap.objs.size f cd) e) (fun _ s'' => CX outer H s E e s'') (fun e' s'' => CX outer H s E e' s'') s'
theorem cell_has {sc : Scope} {n : Nat} {x : Str} (h : sc.names.lookup x = some .cell) : ∃ c, (cellsFrom n sc.names []).lookup x = some c := by
 have q := PySem.W.cellsFrom_some sc.names n [] (.inl h)
 exact Option.isSome_iff_exists.mp q
theorem inv_start {CX : CXT} {P : Program} {w : World} {K : PySem.W.Frag} {mg : Str -> Option Value} {base : Heap} {N ps : List Str} {qual : Str} {scope : Scope} {f : Addr} {cd : Value} {A : Around} {outer : List Env} {s s1 : Shared} {H : Hp} {E : XK} {us : List Value} {vs : List V}
  (S : FnScope N ps scope) (hd : A.handled = none) (e0 : Env0 P w K mg base A outer s H) (hl : vs.length = ps.length) (r : Vals vs us)
  (x : InCallC s s.heap.objs.size (bindL (envOfC qual scope s.heap.objs.size f cd).kindOf (ps.zip us) fun _ => none) (cellsFrom (s.heap.objs.size + 1) scope.names []) (bindC (envOfC qual scope s.heap.objs.size f cd).kindOf (ps.zip us) fun _ => none) s1) :
  Inv (cxOf CX P w K mg base N qual scope f cd A outer s H E) [] (start N vs) H s1 := by
 have hpl : ps.length <= N.length := by have := congrArg List.length S.pre; rw [List.length_take] at this; omega
 obtain ⟨h1, tk, rfl, hk⟩ := x.done
 have noA : ∀ b : Addr, b ∉ (cxOf CX P w K mg base N qual scope f cd A outer s H E).ex := fun b z => absurd (show b ∈ ([] : List Addr) from z) (by simp)
 refine ⟨⟨e0.mod, S.kind, rfl, rfl, Nat.le_refl _, fun y z c h1 h2 => ?_, fun y hy => ?_, fun y c _ h => ?_, fun _ => hd, Around.frames_deeper e0.frames, .inr ⟨rfl, rfl⟩, fun b z => absurd z (noA b), e0.bs, e0.bsz, fun b _ _ => noA b, fun b z => absurd z (noA b), e0.funs, e0.frf⟩,
  rfl, e0.bare, Un.kept hk, ⟨_, x.toInCall.ns, fun i y v h1 h2 h3 => ?_⟩, fun y c h => ⟨_, x.cell y c h⟩, e0.hok.fresh (Nat.le_refl _), fun y c h => ?_, fun p hp => absurd (show p ∈ ([] : List (Addr × Obj)) from hp) (by simp), e0.hok.kept hk, ?_⟩
 ·exact name_of_addr x.apart (PySem.mem_of_lookup h1) (PySem.mem_of_lookup h2)
 ·have hy : scope.names.lookup y = some .cell \/ scope.names.lookup y = some .free := hy
  rcases hy with hy | hy
  ·exact cell_has hy
  ·exact absurd rfl (S.nofree _ (PySem.mem_of_lookup hy))
 ·exact Nat.le_of_lt (x.above y c (PySem.mem_of_lookup h))
 ·have hi : i < vs.length := by
   unfold start at h2
   by_cases hi : i < vs.length
   ·exact hi
   ·rw [List.getElem?_append_right (by simpa using hi)] at h2
    rw [List.getElem?_replicate] at h2
    split at h2 <;> cases h2
  have ha : vs[i]? = some v := by
   unfold start at h2
   rw [List.getElem?_append_left (by simpa using hi), List.getElem?_map] at h2
   cases e : vs[i]? with
   | none => rw [e] at h2; cases h2
   | some a => rw [e] at h2; cases h2; rfl
  obtain ⟨u, hu, rv⟩ := r.get ha
  have hp : ps[i]? = some y := by
   rw [<- S.pre, List.getElem?_take_of_lt (by exact Om.a2 ‹_› ‹_›)]; exact h1
  have ndP : ps.Nodup := by rw [<- S.pre]; exact S.nd.sublist (List.take_sublist _ _)
  refine ⟨u, rv, ?_⟩
  rcases S.par y (List.mem_of_getElem? hp) with k | k
  ·exact .inl ⟨k, bindL_get ndP hp hu k⟩
  ·obtain ⟨c, e⟩ := cell_has (n := s.heap.objs.size + 1) k
   refine .inr ⟨.inl k, c, e, ?_⟩
   have q := x.cell y c e
   rw [bindC_get ndP hp hu (by show scope.names.lookup y ≠ _; rw [k]; decide)] at q
   exact q
 ·exact e0.hok.fresh (Nat.le_of_lt (x.above y c (PySem.mem_of_lookup h)))
 ·unfold start
  show _ = N.length
  rw [List.length_append, List.length_map, List.length_replicate]
  omega
theorem fn_of {CX : CXT} {P : Program} {w : World} {K : PySem.W.Frag} {mg : Str -> Option Value} {base : Heap} {k : Nat} {f : Addr} {name qual : Str} {params : Arguments} {body : List Stmt} {scope : Scope} {dV kV doc pm cdv ct oc : Value} {an od : Option Addr}
  {osl : Array (Option Value)} {N ps : List Str} {sp : Sp} (lk : K.lookup f = some ⟨oc, od, .func (PySem.W.fnOf name qual params body scope dV kV doc pm an cdv ct), osl⟩) (hcd : PySem.W.codeIn K cdv qual = true) (S : FnScope N ps scope)
  (len : ∀ vs H Q E, sp vs H Q E -> vs.length = ps.length)
  (hbody : ∀ (A : Around) (outer : List Env) (s : Shared) (H : Hp) (vs : List V) (Q : VK) (E : XK), Room k (A.deeper (envOfC qual scope s.heap.objs.size f cdv)) -> sp vs H Q E ->
   ∃ t, PSs (cxOf CX P w K mg base N qual scope f cdv A outer s H E) body t /\ t { nx := fun _ H' => Q .non H', rt := Q } (start N vs) H) :
  FnOk P w K mg base CX (k + 1) f (PySem.W.fnOf name qual params body scope dV kV doc pm an cdv ct) ps sp := by
 refine ⟨len, fun A outer s H args us vs Q E hr e0 hb r hsp => ?_⟩
 have hl := len _ _ _ _ hsp
 have KX : K.In s.heap := e0.mod.kin.keeps fun b o e => (e0.bs b o e).1
 have lim : s.heap.NoLimit := e0.mod.nolimit.keeps fun b o e => (e0.bs b o e).1
 have hkind : ∀ y ∈ ps.zip us, scope.names.lookup y.1 = some .local \/ (scope.names.lookup y.1 = some .cell /\ ((cellsFrom (s.heap.objs.size + 1) scope.names []).lookup y.1).isSome = true) := fun ⟨n, v⟩ hy => by
  rcases S.par n (List.of_mem_zip hy).1 with q | q
  ·exact .inl q
  ·exact .inr ⟨q, PySem.W.cellsFrom_some _ _ _ (.inl q)⟩
 refine codeAny_call_function hr.depth (KX _ _ lk) rfl S.co S.gen rfl (PySem.W.codeRec_of KX hcd) (hb _ _ _ _ ?_)
 refine wpAny_newFunctionEnv_cells S.kind hkind fun env he s1 x => ?_
 subst he
 refine ⟨lim.keeps x.toInCall.keep, codeAny_func ?_⟩
 obtain ⟨t, ht, hq⟩ := hbody A outer s H vs Q E (hr.deeper _) hsp
 have I : Inv (cxOf CX P w K mg base N qual scope f cdv A outer s H E) [] (start N vs) H s1 := inv_start S hr.hd e0 hl r x
 refine wpAny_mono (ht [] s1 (start N vs) H _ I hq) (fun fl s' hs => ?_) fun e s' hs => hs
 have fin : ∀ {σ' : St} {H' : Hp} {v : V} {u : Value}, Inv (cxOf CX P w K mg base N qual scope f cdv A outer s H E) [] σ' H' s' -> RelV v u -> Q v H' -> CE outer P w H s Q u s' :=
  fun {σ' H' v u} J rv q => ⟨v, H', J.os, J.bare, J.base, J.hok, rv, q⟩
 cases fl with
 | ret u =>
  obtain ⟨v, σ', H', J, rv, q⟩ := hs
  exact fin J rv q
 | next =>
  obtain ⟨σ', H', J, q⟩ := hs
  exact fin (v := V.non) (u := Value.none) J rfl q
 | brk =>
  obtain ⟨_, _, _, q⟩ := hs
  exact False.elim q
 | cont =>
  obtain ⟨_, _, _, q⟩ := hs
  exact False.elim q
end L2
namespace L2
open PySem PySem.Spec PyProof.Rows
section
variable {X : Cx} {x : Str} {p pos : Pos} {e : Expr} {es : List Expr} {t : TA} {id T : String} {r : List V -> Hp -> VK -> Prop}
noncomputable def tCB (r : List V -> Hp -> VK -> Prop) (t : TA) : TE := fun σ H Q => t σ H fun vs H1 => r vs H1 Q
theorem pe_callB (hc : CallR X (.builtin id) r) (hg : Gl X x) (hm : X.mg x = none) (hv : bootBuiltins x = some (.builtin id)) (ha : PA X (e :: es) t) (hn : x ≠ "__name__" := by decide) (hdb : (x == ("__debug__" : Str)) = false := by decide)
  (he : starEach (e :: es) X.env = (false, eval e X.env) :: starEach es X.env := by rfl) (hpl : (backTo pos (starEach es X.env)).any (·.1) = false := by rfl) : PE X (.Call (.Name x p) (e :: es) [] pos) (tCB r t) := by
 intro pins s σ H Q I h
 refine wpAny_Call_Name_kw (ld_blt I hg hm hv ?_ hn hdb)
 exact PyProof.Rows.callWith_builtin1 (thn (ha pos pins s σ H _ I h) fun us s1 zz0 => by obtain ⟨vs, H1, I1, r1, q1⟩ := zz0; exact hc pins s1 σ H1 vs us Q I1 r1 q1) he hpl
theorem pe_callTy (hc : CallR X (.type T) r) (hg : Gl X x) (hm : X.mg x = none) (hv : bootBuiltins x = some (.type T)) (ha : PA X (e :: es) t) (hn : x ≠ "__name__" := by decide) (hdb : (x == ("__debug__" : Str)) = false := by decide)
  (he : starEach (e :: es) X.env = (false, eval e X.env) :: starEach es X.env := by rfl) (hpl : (backTo pos (starEach es X.env)).any (·.1) = false := by rfl) : PE X (.Call (.Name x p) (e :: es) [] pos) (tCB r t) := by
 intro pins s σ H Q I h
 refine wpAny_Call_Name_kw (ld_blt I hg hm hv ?_ hn hdb)
 exact PyProof.Rows.callWith_type1 (thn (ha pos pins s σ H _ I h) fun us s1 zz0 => by obtain ⟨vs, H1, I1, r1, q1⟩ := zz0; exact hc pins s1 σ H1 vs us Q I1 r1 q1) he hpl
end
end L2
namespace HT
open PySem PyProof.Rows
noncomputable def lexLt : List Int -> List Int -> Bool
 | [], [] => false
 | [], _ :: _ => true
 | _ :: _, [] => false
 | x :: xs, y :: ys => if x = y then lexLt xs ys else decide (x < y)
section
open PySem.SeqAt
open PySem.AutoSeq1 (wpAny_loadPart')
open PySem.MeetsSeq PySem.MeetsSeq2 PySem.MeetsSeq3
end
section
variable {prog : Program} {w : World} {A : Around} {E : Value -> Shared -> Prop} {s : Shared}
theorem cat_tup {t b : Addr} {vs ws : List Value} {Q : Value -> Shared -> Prop} (ht : IsTup s.heap t vs.toArray) (hb : IsTup s.heap b ws.toArray) (hv : vs ≠ [])
  (h1 : ws = [] -> Q (.ref t) s) (h2 : ws ≠ [] -> Q (.ref s.heap.objs.size) { s with heap := s.heap.push { cls := .type "tuple", data := .seq (vs ++ ws).toArray } })
  (hsz : vs.length + ws.length <= sizeLine) : wpAny (model prog w) A (binaryOp .Add (.ref t) (.ref b)) Q E s := by
 obtain ⟨⟨cls, dd, data, sl⟩, ho, hc, n, hd⟩ := id ht
 obtain ⟨⟨cls2, dd2, data2, sl2⟩, ho2, hc2, n2, hd2⟩ := id hb
 simp only at hc hd hc2 hd2
 subst hc hd hc2 hd2
 have e : vs.toArray ++ ws.toArray = (vs ++ ws).toArray := by simp
 by_cases hw : ws = []
 ·exact concat_meets ⟨_, ho, rfl⟩ ⟨_, ho2, rfl⟩ noFill_tuple_add seq_tuple_add PySem.F.slot_tuple_add PySem.F.entry_tuple_add (PySem.F.args_tuple_add_2 _ _)
   (tuple_addW1 t b vs.toArray ws.toArray n n2 dd dd2 sl sl2 (by simpa using hv) (by simp [hw])) ⟨ho, ho2, h1 hw⟩
 ·refine concat_meets ⟨_, ho, rfl⟩ ⟨_, ho2, rfl⟩ noFill_tuple_add seq_tuple_add PySem.F.slot_tuple_add PySem.F.entry_tuple_add (PySem.F.args_tuple_add_2 _ _)
   (tuple_addW2 t b vs.toArray ws.toArray n n2 dd dd2 sl sl2 (by simpa using hv) (by simpa using hw) (by rw [List.size_toArray, List.size_toArray]; exact hsz)) ⟨ho, ho2, ?_⟩
  rw [e]
  exact h2 hw
noncomputable def sIx (n d : Nat) : Option Int -> Nat
 | none => d
 | some v => if v < 0 then (v + (n : Int)).toNat else min v.toNat n
theorem sIx_none (n d : Nat) : sIx n d none = d := rfl
theorem sIx_nat (n d k : Nat) : sIx n d (some (k : Int)) = min k n := by
 show (if (k : Int) < 0 then ((k : Int) + (n : Int)).toNat else min (k : Int).toNat n) = min k n
 rw [if_neg (by omega), Int.toNat_natCast]
end
end HT
namespace L2
open PySem PySem.Spec PyProof.Rows
noncomputable abbrev TO := St -> Hp -> (Option Int -> Hp -> Prop) -> Prop
noncomputable def PO (X : Cx) (e : Option Expr) (t : TO) : Prop :=
 ∀ (pins : List (Addr × Obj)) (s : Shared) (σ : St) (H : Hp) (Q : Option Int -> Hp -> Prop), Inv X pins σ H s -> t σ H Q ->
  wpAny (model X.prog X.w) X.A (evalPart e X.env) (fun u s' => ∃ o H', Inv X pins σ H' s' /\ IsPart u o /\ Q o H') X.xe s
noncomputable def tNoPart : TO := fun _ H Q => Q none H
noncomputable def tPart (t : TE) : TO := fun σ H Q => t σ H fun x H1 => ∃ i, x = .int i /\ Q (some i) H1
theorem intsAre_of {ns : List Int} : ∀ {us : List Value}, Vals (ns.map V.int) us -> IntsAre us ns := by
 induction ns with
 | nil => intro us r; rw [List.map_nil] at r; cases r; exact .nil
 | cons n ns ih =>
  intro us r
  rw [List.map_cons] at r
  cases r with
  | cons r1 r2 =>
   obtain ⟨t, e⟩ := r1
   subst e
   exact .cons n t (ih r2)
section
variable {X : Cx} {e : Expr} {te : TE} {lo hi : Option Expr} {tl th : TO} {pos p2 : Pos}
theorem po_none : PO X none tNoPart := by
 intro pins s σ H Q I h
 rw [evalPart_none]
 exact wpAny_pure ⟨none, H, I, .none, h⟩
theorem po_some (h : PE X e te) : PO X (some e) (tPart te) := by
 intro pins s σ H Q I hw
 rw [evalPart_some]
 refine thn (h pins s σ H _ I hw) fun u s1 ⟨x, H1, I1, r1, q1⟩ => ?_
 obtain ⟨i, rfl, q⟩ := q1
 obtain ⟨t, rfl⟩ := r1
 exact ⟨some i, H1, I1, .int i t, q⟩
noncomputable def SlR (X : Cx) (r : V -> Option Int -> Option Int -> Hp -> VK -> Prop) : Prop :=
 ∀ (pins : List (Addr × Obj)) (s : Shared) (σ : St) (H : Hp) (x : V) (v vl vu : Value) (lo hi : Option Int) (sl : Addr) (Q : VK), Inv X pins σ H s -> RelV x v -> s.heap.IsSliceOf sl vl vu .none -> IsPart vl lo -> IsPart vu hi -> r x lo hi H Q ->
  ∃ T id, typeLookup (.type T) "__getitem__" = pure (some (.builtin id)) /\ s.TypeIs v T /\ wpAny (model X.prog X.w) X.A (getItem v (.ref sl)) (EP X pins σ Q) X.xe s
noncomputable def tSl (r : V -> Option Int -> Option Int -> Hp -> VK -> Prop) (te : TE) (tl th : TO) : TE := fun σ H Q => te σ H fun x H1 => tl σ H1 fun l H2 => th σ H2 fun u H3 => r x l u H3 Q
theorem pe_slice {r : V -> Option Int -> Option Int -> Hp -> VK -> Prop} (hr : SlR X r) (he : PE X e te) (hl : PO X lo tl) (hu : PO X hi th) : PE X (.Subscript e (.Slice lo hi none p2) pos) (tSl r te tl th) := by
 intro pins s σ H Q I h
 refine Subscript_ (thn (he pins s σ H _ I h) fun v s1 ⟨x, H1, I1, r1, q1⟩ => ?_)
 refine wpAny_Slice (thn (hl pins s1 σ H1 _ I1 q1) fun vl s2 ⟨l, H2, I2, pl, q2⟩ => thn (hu pins s2 σ H2 _ I2 q2) fun vu s3 ⟨u, H3, I3, pu, q3⟩ => ?_)
 rw [evalPart_none]
 refine wpAny_pure ?_
 have I4 : Inv X pins σ H3 { s3 with heap := s3.heap.push { cls := .type "slice", data := .fields #[vl, vu, .none] } } := I3.kept (t' := s3.toks) fun b ob q => Heap.get?_push_of_some _ q
 obtain ⟨T, id, hT, ht, hg⟩ := hr pins { s3 with heap := s3.heap.push { cls := .type "slice", data := .fields #[vl, vu, .none] } } σ H3 x v vl vu l u s3.heap.objs.size Q I4 r1 (Heap.IsSliceOf.new ..) pl pu q3
 show wpAny (model X.prog X.w) X.A (subscriptTail e (.Slice lo hi none p2) v (.ref s3.heap.objs.size)) (EP X pins σ Q) X.xe { s3 with heap := s3.heap.push { cls := .type "slice", data := .fields #[vl, vu, .none] } }
 exact tail_any (ops := [.ref s3.heap.objs.size, v]) ht hT hg (by with_unfolding_all rfl)
noncomputable def cutV (xs : List V) (lo hi : Option Int) : List V := (xs.drop (HT.sIx xs.length 0 lo)).take (HT.sIx xs.length xs.length hi - HT.sIx xs.length 0 lo)
theorem cutV_length (xs : List V) (lo hi : Option Int) : (cutV xs lo hi).length <= xs.length := by
 unfold cutV
 rw [List.length_take, List.length_drop]
 omega
noncomputable def rCatT (K : PySem.W.Frag) : R2 := fun x y H Q => ∃ a b xs ys, x = .ref a /\ y = .ref b /\ SqT K H a xs /\ SqT K H b ys /\ xs ≠ [] /\ xs.length + ys.length <= sizeLine /\
 (ys = [] -> Q (.ref a) H) /\ (ys ≠ [] -> ∀ p, H p = none -> Q (.ref p) (upd H p (.tup (xs ++ ys))))
theorem Vals.nil_iff {xs : List V} {us : List Value} (r : Vals xs us) : us = [] ↔ xs = [] := by
 cases r with
 | nil => simp
 | cons _ _ => simp
theorem op_catT : OpR X (binaryOp .Add) (rCatT X.K) := by
 intro pins s σ H x y v u Q I rx ry h
 obtain ⟨a, b, xs, ys, rfl, rfl, ha, hb, hx, hz, q1, q2⟩ := h
 cases rx
 cases ry
 obtain ⟨its, r1, p1, _⟩ := I.tuple ha
 obtain ⟨its2, r2, p2, _⟩ := I.tuple hb
 refine HT.cat_tup p1 p2 (fun z => hx (r1.nil_iff.mp z)) (fun z => ⟨.ref a, H, I, rfl, q1 (r2.nil_iff.mp z)⟩) (fun z => ?_) (by rw [<- r1.length, <- r2.length]; exact hz)
 refine ⟨.ref s.heap.objs.size, _, I.laid (t' := s.toks) (o := .tup (xs ++ ys)) (fun b ob q => Heap.get?_push_of_some _ q) (Nat.le_refl _) ?_, rfl, q2 (fun w => z (r2.nil_iff.mpr w)) _ (I.hok.fresh (Nat.le_refl _))⟩
 exact ⟨by rw [List.length_append]; exact hz, _, r1.append r2, IsTupN.new _ _⟩
end
end L2
namespace L2
open PySem PySem.Spec PyProof.Rows
noncomputable def ixN (n : Nat) (i : Int) : Option Nat := if 0 <= i then (if i < n then some i.toNat else none) else if -(n : Int) <= i then some (i + n).toNat else none
noncomputable def atI {α : Type} (xs : List α) (i : Int) : Option α := (ixN xs.length i).bind fun j => xs[j]?
theorem ixN_seq {n : Nat} {i : Int} {j : Nat} (h : ixN n i = some j) : seqIndex? i n = some j /\ j < n /\ -(n : Int) <= i /\ i < n := by
 unfold ixN at h
 by_cases h0 : 0 <= i
 ·rw [if_pos h0] at h
  by_cases h1 : i < n
  ·rw [if_pos h1] at h
   have e : i.toNat = j := Option.some.inj h
   exact ⟨by rw [seqIndex_of h0 h1, e], by omega, by omega, h1⟩
  ·rw [if_neg h1] at h; cases h
 ·rw [if_neg h0] at h
  by_cases h1 : -(n : Int) <= i
  ·rw [if_pos h1] at h
   have e : (i + n).toNat = j := Option.some.inj h
   exact ⟨by rw [seqIndex_neg (by omega) h1, e], by omega, h1, by omega⟩
  ·rw [if_neg h1] at h; cases h
theorem atI_get {α : Type} {xs : List α} {i : Int} {v : α} (h : atI xs i = some v) : ∃ j, seqIndex? i xs.length = some j /\ xs[j]? = some v /\ j < xs.length /\ -(xs.length : Int) <= i /\ i < xs.length := by
 unfold atI at h
 cases e : ixN xs.length i with
 | none => rw [e] at h; cases h
 | some j =>
  rw [e] at h
  obtain ⟨h1, h2, h3, h4⟩ := ixN_seq e
  exact ⟨j, h1, h, h2, h3, h4⟩
theorem atI_nat {α : Type} {xs : List α} {j : Nat} {v : α} (h : xs[j]? = some v) : atI xs (j : Int) = some v := by
 have hj : j < xs.length := (List.getElem?_eq_some_iff.mp h).1
 have e : ixN xs.length (j : Int) = some j := by
  unfold ixN
  rw [if_pos (by exact Om.c6), if_pos (by exact Om.c5 ‹_›)]; simp
 unfold atI; rw [e]; exact h
noncomputable def PlainIx (b : Expr) : Prop := ∀ o i, subscripted b false o i = operate [o, i] (getItem o i)
noncomputable def IxR (X : Cx) (r : R2) : Prop :=
 ∀ (value slice : Expr) (pins : List (Addr × Obj)) (s : Shared) (σ : St) (H : Hp) (x y : V) (v u : Value) (Q : VK), Inv X pins σ H s -> RelV x v -> RelV y u -> r x y H Q ->
  subscripted slice false v u = operate [v, u] (getItem v u) -> wpAny (model X.prog X.w) X.A (subscriptTail value slice v u) (EP X pins σ Q) X.xe s
noncomputable def MtR (X : Cx) (id : String) (r : V -> List V -> Hp -> VK -> Prop) : Prop :=
 ∀ (pins : List (Addr × Obj)) (s : Shared) (σ : St) (H : Hp) (x : V) (xs : List V) (v : Value) (us : List Value) (Q : VK), Inv X pins σ H s -> RelV x v -> Vals xs us -> r x xs H Q ->
  wpAny (model X.prog X.w) X.A (call (.builtin id) (v :: us)) (EP X pins σ Q) X.xe s
section
variable {X : Cx} {a b : Expr} {ta tb : TE} {pos : Pos}
theorem pe_ix {r : R2} (hr : IxR X r) (ha : PE X a ta) (hb : PE X b tb) (hs : PlainIx b) : PE X (.Subscript a b pos) (tOp r ta tb) := by
 intro pins s σ H Q I h
 exact Subscript_ (binT ha hb I h fun v u s2 x y H2 I2 rx ry q => hr a b pins s2 σ H2 x y v u Q I2 rx ry q (hs _ _))
noncomputable def rIxL (K : PySem.W.Frag) : R2 := fun x y H Q => ∃ p xs i v, x = .ref p /\ y = .int i /\ SqL K H p xs /\ atI xs i = some v /\ Q v H
noncomputable def rIxT (K : PySem.W.Frag) : R2 := fun x y H Q => ∃ p xs i v, x = .ref p /\ y = .int i /\ SqT K H p xs /\ atI xs i = some v /\ Q v H
theorem ix_list : IxR X (rIxL X.K) := by
 intro value slice pins s σ H x y v u Q I rx ry h hs
 obtain ⟨p, xs, i, z, rfl, rfl, hq, he, q⟩ := h
 cases rx
 obtain ⟨t, rfl⟩ := ry
 obtain ⟨its, r, pl, hz⟩ := I.list hq
 obtain ⟨j, h1, h2, h3, h4, h5⟩ := atI_get he
 obtain ⟨w, ew, rw'⟩ := r.get h2
 have hl := r.length
 have hn := line63
 have fin : EP X pins σ Q w s := ⟨z, H, I, rw', q⟩
 by_cases h0 : 0 <= i
 ·have hj : i.toNat = j := by
   rw [seqIndex_of h0 h5] at h1
   exact Option.some.inj h1
  exact item_listR pl.isList h0 (by omega) (by rw [hj]; simpa using ew) fin hs
 ·have hj : (i + (its.toArray.size : Int)).toNat = j := by
   rw [seqIndex_neg (by omega) h4] at h1
   rw [List.size_toArray, <- hl]
   exact Option.some.inj h1
  exact subscriptTail_builtinR (x := w) pl.isList.typeIs slot_list_getitem.lookup
   (wpAny_getItem_list_neg (Q := fun r s' => r = w /\ EP X pins σ Q r s') pl.isList (by omega) (by rw [List.size_toArray] <;> omega) (by omega) (by rw [hj]; simpa using ew) ⟨rfl, fin⟩) hs
theorem ix_tup : IxR X (rIxT X.K) := by
 intro value slice pins s σ H x y v u Q I rx ry h hs
 obtain ⟨p, xs, i, z, rfl, rfl, hq, he, q⟩ := h
 cases rx
 obtain ⟨t, rfl⟩ := ry
 obtain ⟨its, r, pl, hz⟩ := I.tuple hq
 obtain ⟨j, h1, h2, h3, h4, h5⟩ := atI_get he
 obtain ⟨w, ew, rw'⟩ := r.get h2
 have hl := r.length
 have hn := line63
 have fin : EP X pins σ Q w s := ⟨z, H, I, rw', q⟩
 exact subscriptTail_builtinR (x := w) pl.typeIs slot_tuple_getitem.lookup
  (getItem_tuple (j := j) (Q := fun r s' => r = w /\ EP X pins σ Q r s') pl (by omega) (by omega) (by rw [List.size_toArray, <- hl]; exact h1) (by simpa using ew) ⟨rfl, fin⟩) hs
theorem mapSeq_set (its : List Value) (n j : Nat) (u : Value) : Obj.mapSeq (·.setIfInBounds j u) { cls := .type "list", data := .seq its.toArray n } = { cls := .type "list", data := .seq (its.set j u).toArray n } := by
 simp [Obj.mapSeq]
theorem Inv.lst {pins : List (Addr × Obj)} {σ : St} {H : Hp} {s : Shared} {p : Addr} {xs : List V} (I : Inv X pins σ H s) (h : H p = some (.lst xs)) :
  ∃ (its : List Value) (n : Nat), Vals xs its /\ s.heap.get? p = some { cls := .type "list", data := .seq its.toArray n } /\ xs.length <= sizeLine := by
 obtain ⟨z, its, n, r, e⟩ := I.hok p _ h
 exact ⟨its, n, r, e, z⟩
theorem Inv.lstUpd {pins : List (Addr × Obj)} {σ : St} {H : Hp} {s : Shared} {p : Addr} {xs ys : List V} {its its' : List Value} {n n' : Nat} {f : Obj -> Obj} (I : Inv X pins σ H s) (h : H p = some (.lst xs))
  (ho : s.heap.get? p = some { cls := .type "list", data := .seq its.toArray n }) (hf : f { cls := .type "list", data := .seq its.toArray n } = { cls := .type "list", data := .seq its'.toArray n' }) (r : Vals ys its') (hz : ys.length <= sizeLine) (t : Nat) :
  Inv X pins σ (upd H p (.lst ys)) { s with heap := s.heap.update p f, toks := t } := by
 have e : (s.heap.update p f).get? p = some { cls := .type "list", data := .seq its'.toArray n' } := by
  rw [Heap.get?_update_self f ho (by rw [hf] <;> rfl), hf]
 refine I.write (x := p) (e := p) (by rw [h]; trivial) (.inl rfl) (fun b u hb q => (Heap.get?_update_other _ _ (Ne.symm hb)).trans q) ⟨_, e⟩ ?_
 exact ⟨hz, its', n', r, e⟩
noncomputable def rSetL : V -> V -> V -> Hp -> (Hp -> Prop) -> Prop := fun o i v H Q => ∃ p xs k j, o = .ref p /\ i = .int k /\ H p = some (.lst xs) /\ ixN xs.length k = some j /\ Q (upd H p (.lst (xs.set j v)))
theorem set_list : PSet X rSetL := by
 intro pins s σ H o i v ov iv u Q I ro ri rv h
 obtain ⟨p, xs, k, j, rfl, rfl, hp, hj, q⟩ := h
 cases ro
 obtain ⟨t, rfl⟩ := ri
 obtain ⟨its, n, r, ho, hz⟩ := I.lst hp
 obtain ⟨h1, h2, h3, h4⟩ := ixN_seq hj
 have hl := r.length
 have hn := line63
 have I' : Inv X pins σ (upd H p (.lst (xs.set j v))) { s with heap := s.heap.update p (Obj.mapSeq (·.setIfInBounds j u)) } :=
  I.lstUpd hp ho (mapSeq_set its n j u) (r.set rv j) (by rw [List.length_set]; exact hz) s.toks
 by_cases h0 : 0 <= k
 ·have hk : k.toNat = j := by
   rw [seqIndex_of h0 h4] at h1
   exact Option.some.inj h1
  exact PySem.W.ki_setAt ho h0 (by omega) (by rw [List.size_toArray, <- hl]; exact h4) (by rw [hk]; exact ⟨_, I', q⟩)
 ·have hk : (k + (its.toArray.size : Int)).toNat = j := by
   rw [seqIndex_neg (by omega) h3] at h1
   rw [List.size_toArray, <- hl]
   exact Option.some.inj h1
  exact PySem.W.ki_setBack ho (by omega) (by rw [List.size_toArray, <- hl]; exact h3) (by omega) (by rw [hk]; exact ⟨_, I', q⟩)
theorem slice_bounds (lo hi : Option Int) (n : Nat) : (sliceBounds lo hi none n).1 = ((HT.sIx n 0 lo : Nat) : Int) /\ (sliceBounds lo hi none n).2.1 = ((HT.sIx n n hi : Nat) : Int) /\ (sliceBounds lo hi none n).2.2 = 1 := by
 refine ⟨?_, ?_, rfl⟩
 ·cases lo with
  | none => simp [sliceBounds, HT.sIx]
  | some i =>
   simp only [sliceBounds, HT.sIx, Option.getD_none, show (1 : Int) > 0 by decide, if_true]
   by_cases h : i < 0
   ·simp only [h, if_true] <;> omega
   ·simp only [h, if_false] <;> omega
 ·cases hi with
  | none => simp [sliceBounds, HT.sIx]
  | some i =>
   simp only [sliceBounds, HT.sIx, Option.getD_none, show (1 : Int) > 0 by decide, if_true]
   by_cases h : i < 0
   ·simp only [h, if_true] <;> omega
   ·simp only [h, if_false] <;> omega
theorem slicePick_cut (its : List Value) (lo hi : Option Int) : slicePick its.toArray lo hi none = ((its.drop (HT.sIx its.length 0 lo)).take (HT.sIx its.length its.length hi - HT.sIx its.length 0 lo)).toArray := by
 obtain ⟨h1, h2, h3⟩ := slice_bounds lo hi its.toArray.size
 unfold slicePick
 rw [h1, h2, h3]
 simp only [sliceRange_one, pick_run, List.size_toArray] <;> rfl
noncomputable def rSlL (K : PySem.W.Frag) : V -> Option Int -> Option Int -> Hp -> VK -> Prop := fun x lo hi H Q => ∃ a xs, x = .ref a /\ SqL K H a xs /\ ∀ p, H p = none -> Q (.ref p) (upd H p (.lst (cutV xs lo hi)))
theorem sl_list : SlR X (rSlL X.K) := by
 intro pins s σ H x v vl vu lo hi sl Q I rx hs pl pu h
 obtain ⟨a, xs, rfl, hx, q⟩ := h
 cases rx
 obtain ⟨its, r, ht, hz⟩ := I.list hx
 have hlen := r.length
 refine ⟨"list", _, slot_list_getitem.lookup, ht.isList.typeIs, ?_⟩
 refine wpAny_getItem_list_slice ht.isList hs pl pu .none (by simp) ?_ (by rw [List.size_toArray] <;> exact Om.y2 ‹_› ‹_› rfl)
 rw [slicePick_cut, <- hlen]
 refine ⟨.ref s.heap.objs.size, _, I.laid (t' := s.toks) (o := .lst (cutV xs lo hi)) (fun b ob q => Heap.get?_push_of_some _ q) (Nat.le_refl _) ?_, rfl, q _ (I.hok.fresh (Nat.le_refl _))⟩
 exact ⟨Nat.le_trans (cutV_length xs lo hi) hz, _, 0, (r.drop (HT.sIx xs.length 0 lo)).take (HT.sIx xs.length xs.length hi - HT.sIx xs.length 0 lo), Heap.get?_push_size _ rfl⟩
noncomputable def flatV : V -> Bool
 | .non => true
 | .bl _ => true
 | .int _ => true
 | .str _ => true
 | _ => false
noncomputable def eqV : V -> V -> Bool
 | .non, .non => true
 | .bl a, .bl b => a == b
 | .bl a, .int b => (if a then 1 else 0) == b
 | .int a, .bl b => a == (if b then 1 else 0)
 | .int a, .int b => a == b
 | .str a, .str b => a == b
 | _, _ => false
theorem eqAt_V {A : Around} {s : Shared} {y x : V} {u v : Value} (ry : RelV y u) (rx : RelV x v) (fy : flatV y = true) (fx : flatV x = true) : SeqAt.EqAt A s u v (eqV y x) := by
 cases y with
 | non =>
  cases ry
  cases x with
  | non => cases rx; exact SeqAt.EqAt.same _
  | bl b => cases rx; exact SeqAt.EqAt.none_bool b
  | int b => obtain ⟨t, rfl⟩ := rx; exact SeqAt.EqAt.none_int b t
  | str b => obtain ⟨t, rfl⟩ := rx; exact SeqAt.EqAt.none_str b t
  | _ => exact absurd (show false = true from fx) Bool.false_ne_true
 | bl a =>
  cases ry
  cases x with
  | non => cases rx; exact SeqAt.EqAt.bool_none a
  | bl b => cases rx; exact SeqAt.EqAt.bool_bool a b
  | int b => obtain ⟨t, rfl⟩ := rx; exact SeqAt.EqAt.bool_int a b t
  | str b => obtain ⟨t, rfl⟩ := rx; exact SeqAt.EqAt.bool_str a b t
  | _ => exact absurd (show false = true from fx) Bool.false_ne_true
 | int a =>
  obtain ⟨t', rfl⟩ := ry
  cases x with
  | non => cases rx; exact SeqAt.EqAt.int_none a t'
  | bl b => cases rx; exact SeqAt.EqAt.int_bool a t' b
  | int b => obtain ⟨t, rfl⟩ := rx; exact SeqAt.EqAt.int_int a t' b t
  | str b => obtain ⟨t, rfl⟩ := rx; exact SeqAt.EqAt.int_str a t' b t
  | _ => exact absurd (show false = true from fx) Bool.false_ne_true
 | str a =>
  obtain ⟨t', rfl⟩ := ry
  cases x with
  | non => cases rx; exact SeqAt.EqAt.str_none a t'
  | bl b => cases rx; exact SeqAt.EqAt.str_bool a t' b
  | int b => obtain ⟨t, rfl⟩ := rx; exact SeqAt.EqAt.str_int a t' b t
  | str b => obtain ⟨t, rfl⟩ := rx; exact SeqAt.EqAt.str_str a t' b t
  | _ => exact absurd (show false = true from fx) Bool.false_ne_true
 | _ => exact absurd (show false = true from fy) Bool.false_ne_true
noncomputable def eqU (x : V) (u : Value) : Bool := match u with
 | .none => eqV .non x
 | .bool b => eqV (.bl b) x
 | .int i _ => eqV (.int i) x
 | .str z _ => eqV (.str z) x
 | _ => false
theorem eqU_of {x y : V} {u : Value} (r : RelV y u) (f : flatV y = true) : eqU x u = eqV y x := by
 cases y with
 | non => cases r; rfl
 | bl b => cases r; rfl
 | int i => obtain ⟨t, rfl⟩ := r; rfl
 | str z => obtain ⟨t, rfl⟩ := r; rfl
 | _ => exact absurd (show false = true from f) Bool.false_ne_true
theorem any_eqU {x : V} : ∀ {xs : List V} {us : List Value}, Vals xs us -> xs.all flatV = true -> us.any (eqU x) = xs.any fun y => eqV y x
 | _, _, .nil, _ => rfl
 | y :: xs, u :: us, .cons r t, f => by
  rw [List.all_cons, Bool.and_eq_true] at f
  rw [List.any_cons, List.any_cons, eqU_of r f.1, any_eqU t f.2]
theorem mem_eqAt {A : Around} {s : Shared} {x : V} {v : Value} (rx : RelV x v) (fx : flatV x = true) : ∀ {xs : List V} {us : List Value}, Vals xs us -> xs.all flatV = true -> ∀ u ∈ us, SeqAt.EqAt A s u v (eqU x u)
 | _, _, .nil, _ => fun u hu => by cases hu
 | y :: xs, u :: us, .cons r t, f => fun u' hu => by
  rw [List.all_cons, Bool.and_eq_true] at f
  rcases List.mem_cons.mp hu with rfl | hu
  ·rw [eqU_of r f.1]; exact eqAt_V r rx f.1 fx
  ·exact mem_eqAt rx fx t f.2 u' hu
noncomputable def inV (x : V) (xs : List V) : Bool := xs.any fun y => eqV y x
noncomputable def rIn (K : PySem.W.Frag) (neg : Bool) : R2 := fun x y H Q => ∃ p xs, y = .ref p /\ (SqL K H p xs \/ SqT K H p xs) /\ flatV x = true /\ xs.all flatV = true /\ Q (.bl (if neg then !inV x xs else inV x xs)) H
theorem op_notIn_seq : OpR X (compareOp .NotIn) (rIn X.K true) := by
 intro pins s σ H x y v u Q I rx ry h
 obtain ⟨p, xs, rfl, hq, fx, fs, q⟩ := h
 cases ry
 rcases hq with hq | hq
 ·obtain ⟨its, r, pl, hz⟩ := I.list hq
  refine SeqAt.notIn_listAt (eqU x) pl.isList (fun w hw => mem_eqAt rx fx r fs w (by simpa using hw)) ⟨.bl _, H, I, rfl, ?_⟩
  rw [show its.toArray.any (eqU x) = its.any (eqU x) by simp, any_eqU r fs]
  exact q
 ·obtain ⟨its, r, pl, hz⟩ := I.tuple hq
  refine SeqAt.notIn_tupleAt (eqU x) pl (fun w hw => mem_eqAt rx fx r fs w (by simpa using hw)) ⟨.bl _, H, I, rfl, ?_⟩
  rw [show its.toArray.any (eqU x) = its.any (eqU x) by simp, any_eqU r fs]
  exact q
theorem call_len_seq : CallR X (.builtin "len") (fun xs H Q => ∃ p ys, xs = [.ref p] /\ (SqL X.K H p ys \/ SqT X.K H p ys) /\ Q (.int ys.length) H) := by
 intro pins s σ H xs us Q I r h
 obtain ⟨p, ys, rfl, hq, q⟩ := h
 obtain ⟨u, rfl, rx⟩ := vals1 r
 cases rx
 have hn := line63
 rcases hq with hq | hq
 ·obtain ⟨its, r', pl, hz⟩ := I.list hq
  have hlen := r'.length
  exact Calls.call_len_list pl.isList (by simp only [List.size_toArray] <;> omega) ⟨.int ys.length, H, I.tok _, ⟨s.toks + 1, by rw [List.size_toArray, hlen]⟩, q⟩
 ·obtain ⟨its, r', pl, hz⟩ := I.tuple hq
  have hlen := r'.length
  exact len_tuple pl (by simp only [List.size_toArray] <;> omega) ⟨.int ys.length, H, I.tok _, ⟨s.toks + 1, by rw [List.size_toArray, hlen]⟩, q⟩
theorem call_list_of : CallR X (.type "list") (fun xs H Q => ∃ p ys, xs = [.ref p] /\ (SqL X.K H p ys \/ SqT X.K H p ys) /\ ∀ l, H l = none -> Q (.ref l) (upd H l (.lst ys))) := by
 intro pins s σ H xs us Q I r h
 obtain ⟨p, ys, rfl, hq, q⟩ := h
 obtain ⟨u, rfl, rx⟩ := vals1 r
 cases rx
 have fin : ∀ (its : List Value), Vals ys its -> ys.length <= sizeLine -> ∀ (h' : Heap) (c' : Nat), (∀ b o', s.heap.get? b = some o' -> h'.get? b = some o') ->
   h'.get? s.heap.objs.size = some { cls := .type "list", dict := none, data := .seq its.toArray c', slots := #[] } -> EP X pins σ Q (.ref s.heap.objs.size) { s with heap := h' } := fun its r' hz h' c' kp e =>
  ⟨.ref s.heap.objs.size, _, I.laid (t' := s.toks) kp (Nat.le_refl _) (show ObjOk X.prog X.w _ h' _ (.lst ys) from ⟨hz, its, c', r', e⟩), rfl, q _ (I.hok.fresh (Nat.le_refl _))⟩
 rcases hq with hq | hq
 ·obtain ⟨its, r', pl, hz⟩ := I.list hq
  have hlen := r'.length
  obtain ⟨o, ho, hc, n, hd⟩ := pl.isList
  exact call_list_seq p (.inl rfl) ho hc hd (fun h' c' kp e => fin its r' hz h' c' kp e) (by simp only [List.size_toArray] <;> exact Om.y2 ‹_› ‹_› rfl)
 ·obtain ⟨its, r', pl, hz⟩ := I.tuple hq
  have hlen := r'.length
  obtain ⟨o, ho, hc, n, hd⟩ := pl
  exact call_list_seq p (.inr rfl) ho hc hd (fun h' c' kp e => fin its r' hz h' c' kp e) (by simp only [List.size_toArray] <;> exact Om.y2 ‹_› ‹_› rfl)
theorem call_tuple_of : CallR X (.type "tuple") (fun xs H Q => ∃ p ys, xs = [.ref p] /\ ((SqL X.K H p ys /\ ∀ l, H l = none -> Q (.ref l) (upd H l (.tup ys))) \/ (SqT X.K H p ys /\ Q (.ref p) H))) := by
 intro pins s σ H xs us Q I r h
 obtain ⟨p, ys, rfl, h⟩ := h
 obtain ⟨u, rfl, rx⟩ := vals1 r
 cases rx
 rcases h with ⟨hq, q⟩ | ⟨hq, q⟩
 ·obtain ⟨its, r', pl, hz⟩ := I.list hq
  have hlen := r'.length
  refine call_tuple_list pl.isList (fun h' kp => ?_) (by simp only [List.size_toArray] <;> exact Om.y2 ‹_› ‹_› rfl)
  have I1 : Inv X pins σ H { s with heap := h' } := I.kept (t' := s.toks) kp
  have I2 : Inv X pins σ (upd H h'.objs.size (.tup ys)) { s with heap := h'.push { cls := .type "tuple", data := .seq its.toArray } } :=
   I1.laid (t' := s.toks) (fun b o e => Heap.get?_push_of_some _ e) (Nat.le_refl _) (show ObjOk X.prog X.w _ _ _ (.tup ys) from ⟨hz, its, r', IsTupN.new _ _⟩)
  exact ⟨.ref h'.objs.size, _, I2, rfl, q _ (I1.hok.fresh (Nat.le_refl _))⟩
 ·obtain ⟨its, r', pl, hz⟩ := I.tuple hq
  exact call_tuple_same pl ⟨.ref p, H, I, rfl, q⟩
noncomputable def tyV (K : PySem.W.Frag) (T : String) (x : V) (H : Hp) : Prop := match x with
 | .str _ => T = "str"
 | .int _ => T = "int"
 | .ref p => (T = "list" /\ ∃ xs, SqL K H p xs) \/ (T = "tuple" /\ ∃ o, K.lookup p = some o /\ o.cls = .type "tuple" /\ o.dict = none) \/
   (T = "dict" /\ ((∃ kvs, H p = some (.dK kvs)) \/ ∃ kvs, H p = some (.dT kvs))) \/ (T = "set" /\ ∃ S n, H p = some (.set S n))
 | _ => False
theorem tyV_is {pins : List (Addr × Obj)} {σ : St} {H : Hp} {s : Shared} {T : String} {x : V} {v : Value} (I : Inv X pins σ H s) (r : RelV x v) (ty : tyV X.K T x H) :
  s.TypeIs v T /\ ∀ a, v = .ref a -> ∃ ob, s.heap.get? a = some ob /\ ob.dict = none := by
 cases x with
 | str z =>
  obtain ⟨t, rfl⟩ := r
  cases (show T = "str" from ty)
  exact ⟨typeIs_str s z t, fun _ e => nomatch e⟩
 | int i =>
  obtain ⟨t, rfl⟩ := r
  cases (show T = "int" from ty)
  exact ⟨typeIs_int s i t, fun _ e => nomatch e⟩
 | ref p =>
  cases r
  rcases ty with ⟨rfl, xs, hq⟩ | ⟨rfl, o, hk, hc, hd⟩ | ⟨rfl, hk⟩ | ⟨rfl, S, n, hk⟩
  ·obtain ⟨its, _, pl, _⟩ := I.list hq
   refine ⟨pl.isList.typeIs, fun a e => ?_⟩
   cases e
   obtain ⟨o, n, e, c, hd, _⟩ := pl
   exact ⟨o, e, hd⟩
  ·refine ⟨⟨o, I.kIn p o hk, hc⟩, fun a e => ?_⟩
   cases e
   exact ⟨o, I.kIn _ o hk, hd⟩
  ·have z : ∃ o, s.heap.get? p = some o /\ o.ExactDict := by
    rcases hk with ⟨kvs, hk⟩ | ⟨kvs, hk⟩
    ·obtain ⟨_, _, _, _, o, _, _, e, ex, _⟩ := I.hok p _ hk
     exact ⟨o, e, ex⟩
    ·obtain ⟨_, _, _, _, o, _, _, e, ex, _⟩ := I.hok p _ hk
     exact ⟨o, e, ex⟩
   obtain ⟨o, e, ex⟩ := z
   refine ⟨⟨o, e, ex.1⟩, fun a e2 => ?_⟩
   cases e2
   exact ⟨o, e, ex.2.1⟩
  ·obtain ⟨o, _, _, _, e, ex, _⟩ := I.hok p _ hk
   refine ⟨⟨o, e, ex.1⟩, fun a e2 => ?_⟩
   cases e2
   exact ⟨o, e, ex.2.1⟩
 | _ => exact False.elim ty
noncomputable def tBM (K : PySem.W.Frag) (T : String) (r : V -> List V -> Hp -> VK -> Prop) (to : TE) (t : TA) : TE := fun σ H Q => to σ H fun x H1 => tyV K T x H1 /\ t σ H1 fun xs H2 => r x xs H2 Q
variable {o e : Expr} {es : List Expr} {to : TE} {t : TA} {name : Str} {apos cpos : Pos} {T id : String} {r : V -> List V -> Hp -> VK -> Prop}
theorem pe_bm (pa : PlainAttrs T) (slot : Slot T name id) (hty : typeOf (.builtin id) = pure (.type "method_descriptor")) (hm : MtR X id r) (ho : PE X o to) (ha : PA X (e :: es) t)
  (hbase : attributeBase o name X.env (eval o X.env) = eval o X.env := by rfl)
  (hfew : ((backTo cpos (starEach (e :: es) X.env)).all (fun x => !x.1) && (backToKw cpos (keywordEach [] X.env)).all (fun x => x.1.isSome)
   && decide ((e :: es).length + ([] : List Keyword).length + (if ([] : List Keyword).isEmpty then 0 else 1) < 30)) = true := by rfl)
  (hline : (apos.endLine == cpos.line) = true := by rfl) (hs : starEach (e :: es) X.env = (false, eval e X.env) :: starEach es X.env := by rfl) (hplain : (backTo cpos (starEach es X.env)).any (·.1) = false := by rfl) :
  PE X (.Call (.Attribute o name apos) (e :: es) [] cpos) (tBM X.K T r to t) := by
 intro pins s σ H Q I h
 refine wpAny_Call_method_late hbase hfew hline rfl (thn (ho pins s σ H _ I h) fun v s1 ⟨x, H1, I1, r1, ty, q1⟩ => ?_)
 obtain ⟨h1, h2⟩ := tyV_is I1 r1 ty
 refine ⟨T, id, pa, slot, hty, h1, h2, ?_⟩
 have hA := ha cpos pins s1 σ H1 _ I1 q1
 rw [hs] at hA ⊢
 refine Calls.callWith_builtin (by show (false || (backTo cpos (starEach es X.env)).any (·.1)) = false; rw [hplain] <;> rfl) (Calls.evalArgs_plain ?_)
 exact thn hA fun us s2 ⟨vs, H2, I2, r2, q2⟩ => hm pins s2 σ H2 x vs v us Q I2 r1 r2 q2
end
end L2
namespace L2
open PySem PySem.Spec PyProof.Rows
noncomputable def MtM (X : Cx) (id : String) (r : V -> List V -> Hp -> VK -> Prop) : Prop :=
 ∀ (pins : List (Addr × Obj)) (s : Shared) (σ : St) (H : Hp) (x : V) (xs : List V) (v : Value) (us : List Value) (Q : VK), Inv X pins σ H s -> RelV x v -> Vals xs us -> r x xs H Q ->
  wpAny (model X.prog X.w) X.A (call (.builtin id) (v :: us)) (EP X pins σ Q) X.xe s
theorem Vals.one : ∀ {x : V} {us : List Value}, Vals [x] us -> ∃ u, us = [u] /\ RelV x u
 | _, _, .cons r .nil => ⟨_, rfl, r⟩
theorem Vals.eraseIdx : ∀ {xs : List V} {us : List Value} (i : Nat), Vals xs us -> Vals (xs.eraseIdx i) (us.eraseIdx i)
 | _, _, _, .nil => .nil
 | _, _, 0, .cons _ t => t
 | _, _, i + 1, .cons r t => .cons r (Vals.eraseIdx i t)
theorem len_erase {α : Type} : ∀ (l : List α) (i : Nat), (l.eraseIdx i).length <= l.length
 | [], _ => Nat.le_refl _
 | _ :: _, 0 => Nat.le_succ _
 | _ :: r, i + 1 => Nat.succ_le_succ (len_erase r i)
section
variable {X : Cx} {pins : List (Addr × Obj)} {σ : St} {H : Hp} {s : Shared} {l b : Addr} {xs ys zs : List V}
theorem Inv.lset {its its' : List Value} {n : Nat} {f : Array Value -> Array Value} {t' : Nat} (I : Inv X pins σ H s) (hH : H l = some (.lst xs))
  (e : s.heap.get? l = some { cls := .type "list", data := .seq its.toArray n }) (hf : f its.toArray = its'.toArray) (hv : Vals ys its') (hz : ys.length <= sizeLine) :
  Inv X pins σ (upd H l (.lst ys)) { s with heap := s.heap.update l (Obj.mapSeq f), toks := t' } := by
 have q := PySem.IsL.update e f
 rw [hf] at q
 refine I.write (x := l) (e := l) (by rw [hH]; exact trivial) (.inl rfl) (fun b' u hb hu => (Heap.get?_update_other s.heap (Obj.mapSeq f) (Ne.symm hb)).trans hu) ⟨_, q⟩ ?_
 exact ⟨hz, its', _, hv, q⟩
theorem Inv.lnew {its : List Value} {t' : Nat} (I : Inv X pins σ H s) (hv : Vals ys its) (hz : ys.length <= sizeLine) :
  Inv X pins σ (upd H s.heap.objs.size (.lst ys)) { s with heap := s.heap.push { cls := .type "list", data := .seq its.toArray }, toks := t' } :=
 I.laid (fun _ _ q => Heap.get?_push_of_some _ q) (Nat.le_refl _) ⟨hz, its, 0, hv, Heap.get?_push_size _ rfl⟩
theorem Inv.fresh (I : Inv X pins σ H s) : H s.heap.objs.size = none := I.hok.fresh (Nat.le_refl _)
theorem Inv.lstM (I : Inv X pins σ H s) (hH : H l = some (.lst xs)) : xs.length <= sizeLine /\ ∃ (its : List Value) (n : Nat), Vals xs its /\ xs.length = its.length /\ s.heap.get? l = some { cls := .type "list", data := .seq its.toArray n } := by
 obtain ⟨z, its, n, r, e⟩ := I.hok l _ hH
 exact ⟨z, its, n, r, r.length, e⟩
theorem notLongL {n : Nat} (h : n <= sizeLine) : Builtin.List.listTooLong n = false := by
 unfold Builtin.List.listTooLong
 exact decide_eq_false (by omega)
end
section
variable {X : Cx}
noncomputable def rAppend : V -> List V -> Hp -> VK -> Prop := fun x vs H Q => ∃ l xs y, x = .ref l /\ vs = [y] /\ H l = some (.lst xs) /\ xs.length < sizeLine /\ Q .non (upd H l (.lst (xs ++ [y])))
theorem mt_append : MtM X "list.append" rAppend := by
 intro pins s σ H x vs v us Q I rx rv h
 obtain ⟨l, xs, y, rfl, rfl, hH, hz, q⟩ := h
 cases rx
 obtain ⟨u, rfl, ru⟩ := rv.one
 obtain ⟨z, its, n, r, hl, e⟩ := I.lstM hH
 refine call_meets F.slot_list_append ⟨_, e, rfl⟩ F.entry_list_append (F.args_list_append_2 _ _) (PySem.list_append l its.toArray n u (by rw [List.size_toArray]; exact Om.y2 ‹_› ‹_› rfl)) ⟨e, ?_⟩
 refine ⟨.non, _, I.lset (its' := its ++ [u]) hH e (by simp) (r.append (.cons ru .nil)) ?_, rfl, q⟩
 rw [List.length_append, List.length_singleton]
 exact Om.f1 ‹_›
noncomputable def rExtend : V -> List V -> Hp -> VK -> Prop := fun x vs H Q => ∃ l b xs zs, x = .ref l /\ vs = [.ref b] /\ H l = some (.lst xs) /\ H b = some (.lst zs) /\ xs.length + zs.length <= sizeLine /\ Q .non (upd H l (.lst (xs ++ zs)))
theorem mt_extend : MtM X "list.extend" rExtend := by
 intro pins s σ H x vs v us Q I rx rv h
 obtain ⟨l, b, xs, zs, rfl, rfl, hH, hB, hz, q⟩ := h
 cases rx
 obtain ⟨u, rfl, ru⟩ := rv.one
 cases ru
 obtain ⟨z, its, n, r, hl, e⟩ := I.lstM hH
 obtain ⟨z2, its2, n2, r2, hl2, e2⟩ := I.lstM hB
 have hsz : its.toArray.size + its2.toArray.size <= sizeLine := by rw [List.size_toArray, List.size_toArray]; omega
 have hlong : ¬ (!its.toArray.isEmpty && Builtin.List.listTooLong (its.toArray.size + its2.toArray.size)) = true := by
  rw [notLongL hsz, Bool.and_false]
  exact Bool.false_ne_true
 refine call_meets F.slot_list_extend ⟨_, e, rfl⟩ F.entry_list_extend (F.args_list_extend_2 _ _)
  (AutoSeq1.list_extend_list_list_0 l its.toArray n b its2.toArray n2 hlong (by rw [List.size_toArray]; exact Om.y2 ‹_› ‹_› rfl) (by exact Om.b1 ‹_› rfl)) ⟨e, e2, ?_⟩
 refine ⟨.non, _, I.lset (its' := its ++ its2) hH e (by simp) (r.append r2) ?_, rfl, q⟩
 rw [List.length_append]
 assumption
noncomputable def rPopAt : V -> List V -> Hp -> VK -> Prop := fun x vs H Q => ∃ l xs i k y, x = .ref l /\ vs = [.int i] /\ H l = some (.lst xs) /\ -(2 ^ 63) <= i /\ i < 2 ^ 63 /\ seqIndex? i xs.length = some k /\ xs[k]? = some y /\ Q y (upd H l (.lst (xs.eraseIdx k)))
theorem mt_popAt : MtM X "list.pop" rPopAt := by
 intro pins s σ H x vs v us Q I rx rv h
 obtain ⟨l, xs, i, k, y, rfl, rfl, hH, h1, h2, hk, hy, q⟩ := h
 cases rx
 obtain ⟨u, rfl, ru⟩ := rv.one
 obtain ⟨t, rfl⟩ := ru
 obtain ⟨z, its, n, r, hl, e⟩ := I.lstM hH
 obtain ⟨w, hw, rw'⟩ := r.get hy
 refine call_meets F.slot_list_pop ⟨_, e, rfl⟩ F.entry_list_pop (F.args_list_pop_2 _ _)
  (MeetsSeq.list_pop_at l its.toArray n i t k w (fitsIndex_both h1 h2) (by rw [List.size_toArray, <- hl]; exact hk) (by rw [<- Array.getElem?_toList]; exact hw) (by rw [List.size_toArray]; exact Om.y2 ‹_› ‹_› rfl)) ⟨e, ?_⟩
 refine ⟨y, _, I.lset (its' := its.eraseIdx k) hH e ?_ (r.eraseIdx k) ?_, rw', q⟩
 ·show its.toArray.eraseIdxIfInBounds k = (its.eraseIdx k).toArray
  rw [List.eraseIdxIfInBounds_toArray]
 ·have := len_erase xs k
  exact Om.b3 ‹_› ‹_› rfl
noncomputable def rCat : R2 := fun x y H Q => ∃ l b xs zs, x = .ref l /\ y = .ref b /\ H l = some (.lst xs) /\ H b = some (.lst zs) /\ xs.length + zs.length <= sizeLine /\ ∀ p, H p = none -> Q (.ref p) (upd H p (.lst (xs ++ zs)))
theorem op_cat : OpR X (binaryOp .Add) rCat := by
 intro pins s σ H x y v u Q I rx ry h
 obtain ⟨l, b, xs, zs, rfl, rfl, hH, hB, hz, q⟩ := h
 cases rx
 cases ry
 obtain ⟨z, its, n, r, hl, e⟩ := I.lstM hH
 obtain ⟨z2, its2, n2, r2, hl2, e2⟩ := I.lstM hB
 refine PySem.P.add_list e e2 ?_ (by rw [List.size_toArray, List.size_toArray]; omega)
 have ea : its.toArray ++ its2.toArray = (its ++ its2).toArray := by simp
 rw [ea]
 exact ⟨.ref _, _, I.lnew (t' := s.toks) (r.append r2) (by rw [List.length_append]; assumption), rfl, q _ I.fresh⟩
end
section
variable {prog : Program} {w : World} {A : Around} {E : Value -> Shared -> Prop} {s : Shared}
end
section
variable {X : Cx}
end
end L2
namespace Att
open PySem PySem.W PySem.Calls PyProof.Rows
theorem ints_of_wellAll {P : Params} {h : Heap} : ∀ (ns : List Int) (vs : List Value), WellAll P h vs (ns.map WData.int) -> IntsAre vs ns := by
 intro ns
 induction ns with
 | nil =>
  intro vs w
  rw [List.map_nil] at w
  cases w
  exact .nil
 | cons n ns ih =>
  intro vs w
  rw [List.map_cons] at w
  cases w with
  | cons a b =>
   cases a
   exact .cons _ _ (ih _ b)
theorem script_of {l : OpenLaw} {n : Nat} (hn : l.most = some n) {P : Params} {h : Heap} {args : List WData} {vals : List Value}
  (hpre : l.row.toRowW.claim.pre args = true) (hwl : WellAll P h vals args) :
  ∃ a vs ns, vals = [Value.ref a] /\ args = [WData.list (ns.map WData.int)] /\ h.get? a = some { cls := .type "list", data := .seq vs.toArray } /\ IntsAre vs ns /\ ns.length <= n := by
 have hsh : WShape.hasAll [] args [.list .int] = true := (pre_splitW hpre).1
 have hc : l.pre.holds [] { args := args } = true := (pre_splitW hpre).2
 obtain ⟨d, r, rfl, h1, h2⟩ := hasAllW_cons hsh
 obtain rfl := hasAllW_nil h2
 obtain ⟨xs, rfl, h3⟩ := hasW_list h1
 obtain ⟨ns, rfl⟩ := items_int h3
 have hlen : ns.length <= n := by
  unfold OpenLaw.pre at hc
  have h4 : (WTm.not (.lt (.lit (.int (n : Int))) (.len (.arg 0)))).holds [] { args := [.list (ns.map .int)] } = true := by
   have h4 := (holds_andW hc).1
   rw [hn] at h4
   exact h4
  have h5 := condW_of h4 (w_not (w_lt w_lit (w_len_list (w_arg rfl))))
  rw [List.length_map] at h5
  refine Nat.le_of_not_lt fun q => ?_
  have q' : (n : Int) < ((ns.length : Nat) : Int) := by exact Om.c5 ‹_›
  first
   | (rw [decide_eq_true q'] at h5; exact absurd h5 (by decide))
   | (simp at h5; omega)
 cases hwl with
 | cons w1 w2 =>
  cases w2
  cases w1 with
  | list ho hall => exact ⟨_, _, ns, rfl, rfl, ho, ints_of_wellAll ns _ hall, hlen⟩
theorem post_true (l : OpenLaw) (args : List WData) : l.row.toRowW.claim.post args (.bool true) args = true :=
 postW_of (r := l.row.toRowW) (X := (true == true))
  (show WShape.has [] (.bool true) .bool = true by first | rfl | decide | simp [WShape.has, WShape.arms, WShape.armsAll])
  (show (WTm.eq .res (.lit (.bool true))).value [] { args := args, res := some (.bool true), after := args } = some (.bool (true == true)) from w_eq_bool (w_res rfl) w_lit) rfl
theorem attach_call {l : OpenLaw} {n : Nat} {q : Program} {loose : List Str} {XP : (Str -> Option Value) -> Heap -> Prop} {YP : World -> Heap -> Prop} {d : DefRec}
  (hn : l.most = some n) (hdf : d.params.defaults = [])
  (call : ∀ (w : World) (s₀ s₁ : Shared) (mg mb : Str -> Option Value) (fa : Addr) (o : Obj) (pm cd doc : Value) (a : Addr) (vs : List Value) (ns : List Int),
   Ground q loose [] XP w s₀ mg mb s₁.heap -> YP w s₁.heap ->
   s₁.heap.get? fa = some o -> o.data = .func (docDef d.name d.params d.body d.scope pm cd doc) -> s₁.heap.CodeRec cd d.name -> mg d.name = some (.ref fa) ->
   s₁.heap.get? a = some { cls := .type "list", data := .seq vs.toArray } -> IntsAre vs ns -> ns.length <= n -> s₁.gens = #[] ->
   codeAny (model l.prog w) callerA (.call (.ref fa) ⟨[.ref a], []⟩) (fun r s' => r = .ok (.ret (.bool true)) /\ OldK s₁.heap s'.heap /\ s'.os = s₁.os /\ AllBare s'.gens) s₁) :
  WalkO q loose XP YP l.row.toRowW d [] (fun f vs => PySem.call f vs) := by
 intro w s₀ s₁ mg mb G Y fa o pm cd doc dV kV ho hd hcd hD hmg hg args vals as hpre hlay hrd hwl hlo
 obtain rfl : dV = .none := Dflts.none hD hdf
 obtain rfl : kV = .none := Dflts.noKw hD
 obtain ⟨a, vs, ns, rfl, rfl, hobj, hints, hlen⟩ := script_of hn hpre hwl
 refine enter_call (codeAny_mono (call w s₀ s₁ mg mb fa o pm cd doc a vs ns G Y ho (fd_plain hd) hcd hmg hobj hints hlen hg) fun r s' hq => ?_)
 obtain ⟨rfl, h2, h3, h4⟩ := hq
 exact ⟨.inl ⟨.bool true, .bool true, [], rfl, fun _ => rfl, .bool true, post_true l _, fun _ => ⟨List.Pairwise.nil, fun _ hm => (nomatch hm)⟩⟩, h2, h3, h4⟩
section
variable {prog : Program} {w : World} {A : Around} {E : Value -> Shared -> Prop} {s : Shared} {K : Frag}
end
end Att
namespace L2
open PySem PySem.Spec PyProof.Rows
theorem vals_ints : ∀ {vs : List Value} {ns : List Int}, IntsAre vs ns -> Vals (ns.map V.int) vs
 | _, _, .nil => .nil
 | _, _, .cons n t h => .cons ⟨t, rfl⟩ (vals_ints h)
noncomputable def Only (H : Hp) : Prop := ∀ b, H b = none \/ ∃ o xs, H b = some (.frz o (.lst xs))
theorem law_call {P : Program} {w : World} {K : PySem.W.Frag} {mg mb : Str -> Option Value} {CX : CXT} {k : Nat} {fa a : Addr} {fd : FuncData} {x : Str} {sp : Sp} {s₁ : Shared} {vs : List Value} {ns : List Int}
  (KX : K.In s₁.heap) (hns : s₁.heap.Ns mainGlobals mg) (hb : s₁.heap.Ns builtinsNs mb) (hbb : ∀ x : Str, x ≠ "__name__" -> mb x = bootBuiltins x) (hlim : s₁.heap.NoLimit) (hg : s₁.gens = #[])
  (ha : s₁.heap.get? a = some { cls := .type "list", data := .seq vs.toArray }) (hi : IntsAre vs ns) (hl : ns.length <= sizeLine) (hr : Room k callerA)
  (F : ∀ base : Heap, K.In base -> base.Ns mainGlobals mg -> FnOk P w K mg base CX k fa fd [x] sp) (hbind : ∀ (s : Shared) (u : Value), BindsTo s fd ⟨[u], []⟩ [(x, u)])
  (hsp : ∀ H : Hp, Only H -> SqL K H a (ns.map V.int) -> sp [.ref a] H (fun v _ => v = .bl true) fun _ _ _ => False)
  (hCX : ∀ H e s', CX [] H s₁ (fun _ _ _ => False) e s' -> False) :
  codeAny (model P w) callerA (.call (.ref fa) ⟨[.ref a], []⟩) (fun r s' => r = .ok (.ret (.bool true)) /\ OldK s₁.heap s'.heap /\ s'.os = s₁.os /\ AllBare s'.gens) s₁ := by
 have rv := vals_ints hi
 have lenV := hi.length
 have core : ∀ H : Hp, Only H -> SqL K H a (ns.map V.int) -> HOk P w H s₁.heap -> (∀ b, H b ≠ none -> b = a) -> (H a ≠ none -> K.lookup a = none) ->
   codeAny (model P w) callerA (.call (.ref fa) ⟨[.ref a], []⟩) (fun r s' => r = .ok (.ret (.bool true)) /\ OldK s₁.heap s'.heap /\ s'.os = s₁.os /\ AllBare s'.gens) s₁ := by
  intro H hO hS hok hA hK
  have base_of : ∀ {b : Addr} {o : Obj}, s₁.heap.get? b = some o -> H b = none -> (hidT s₁.heap H).get? b = some o := fun e n => hidT_get e n
  have noA : ∀ {b : Addr} {o : Obj} {es : Array DictEntry} {ep : Nat}, s₁.heap.get? b = some o -> o.data = .dict es ep -> H b = none := fun {b o es ep} e d => by
   cases q : H b with
   | none => rfl
   | some u =>
    have e' : b = a := hA b (by rw [q]; simp)
    subst e'
    rw [ha] at e; cases e
    have d' : Data.seq vs.toArray _ = Data.dict es ep := d
    cases d'
  have nsK : ∀ {b : Addr} {m : Str -> Option Value}, s₁.heap.Ns b m -> (hidT s₁.heap H).Ns b m := fun {b m} ⟨o, es, ep, e, d, r⟩ => ⟨o, es, ep, base_of e (noA e d), d, r⟩
  have hKb : K.In (hidT s₁.heap H) := fun b o e => base_of (KX b o e) (by
   cases q : H b with
   | none => rfl
   | some u =>
    have e' : b = a := hA b (by rw [q]; simp)
    subst e'
    rw [hK (by rw [q]; simp)] at e; cases e)
  have hM : Mod K mg (hidT s₁.heap H) := ⟨hKb, nsK hns, ⟨mb, nsK hb, hbb⟩, let ⟨mc, h1, h2⟩ := hlim; ⟨mc, nsK h1, h2⟩⟩
  have e0 : Env0 P w K mg (hidT s₁.heap H) callerA [] s₁ H := ⟨rfl, hM, fun b o e => of_hidT e, Nat.le_of_eq (hidT_size _ _), trivial, fun b hb => absurd (show b ∈ ([] : List Addr) from hb) (by simp), hok, .of_eq hg⟩
  refine codeAny_mono ((F _ hKb (nsK hns)).run callerA [] s₁ H ⟨[.ref a], []⟩ [.ref a] [.ref a] _ _ hr e0 (hbind s₁ (.ref a)) (.cons rfl .nil) (hsp H hO hS)) fun r s' h => ?_
  cases r with
  | error e => exact (hCX H e s' h).elim
  | ok fl =>
   cases fl with
   | next => exact False.elim h
   | brk => exact False.elim h
   | cont => exact False.elim h
   | ret u =>
    obtain ⟨v, H', os, bare, un, hok', r', q⟩ := h
    have q' : v = .bl true := q
    subst q'
    obtain rfl : u = Value.bool true := r'
    refine ⟨rfl, OldK.of_keep fun b o e => ?_, os, bare⟩
    cases q : H b with
    | none => exact un.keep b o e q (by intro z; exact absurd (show b ∈ ([] : List Addr) from z) (by simp)) (by simp)
    | some u =>
     rcases hO b with z | ⟨ob, xs, z⟩
     ·rw [q] at z; cases z
     ·have z2 := un.frzs b ob _ z
      obtain ⟨e1, _⟩ := hok b _ z
      obtain ⟨e2, _⟩ := hok' b _ z2
      rw [e] at e1; cases e1
      exact e2
 cases hk : K.lookup a with
 | some o =>
  have e := KX a o hk
  rw [ha] at e
  cases e
  refine core (fun _ => none) (fun _ => .inl rfl) (.inr ⟨_, vs.toArray, _, hk, rfl, rfl, rfl, by rw [List.size_toArray, lenV]; exact hl, by simpa using rv⟩) (fun b u z => by have z' : (none : Option HO) = some u := z; cases z') (fun b z => absurd rfl z) fun z => absurd rfl z
 | none =>
  refine core (fun b => if b = a then some (.frz { cls := .type "list", data := .seq vs.toArray } (.lst (ns.map V.int))) else none) (fun b => ?_) (.inl (.inr ⟨{ cls := .type "list", data := .seq vs.toArray }, if_pos rfl⟩)) (fun b u z => ?_) (fun b z => ?_) fun _ => hk
  ·by_cases hb : b = a
   ·exact .inr ⟨_, _, if_pos hb⟩
   ·exact .inl (if_neg hb)
  ·by_cases hb : b = a
   ·have z' := (if_pos hb).symm.trans z
    cases z'
    subst hb
    exact ⟨ha, by rw [List.length_map]; exact hl, vs, _, rv, ha⟩
   ·have z' := (if_neg hb).symm.trans z
    cases z'
  ·by_cases hb : b = a
   ·exact hb
   ·exact absurd (if_neg hb) z
end L2
namespace L2
open PySem PySem.Spec PyProof.Rows
theorem walk_of {l : PySem.W.OpenLaw} {n k : Nat} {q : Program} {loose : List Str} {XP : (Str -> Option Value) -> Heap -> Prop} {YP : World -> Heap -> Prop} {d : DefRec} {K : Params -> PySem.W.Frag} {CX : World -> CXT} {sp : World -> Sp} {x : Str}
  (hn : l.most = some n) (hn2 : n <= sizeLine) (hdf : d.params.defaults = []) (hr : Room k callerA)
  (hY : ∀ (w : World) (h : Heap), YP w h -> (K w.params).In h)
  (F : ∀ (w : World) (mg : Str -> Option Value) (fa : Addr) (h : Heap), (K w.params).In h -> h.Ns mainGlobals mg -> mg d.name = some (.ref fa) ->
   ∃ fd : FuncData, (∀ (s : Shared) (u : Value), BindsTo s fd ⟨[u], []⟩ [(x, u)]) /\
    ∀ base : Heap, (K w.params).In base -> base.Ns mainGlobals mg -> FnOk l.prog w (K w.params) mg base (CX w) k fa fd [x] (sp w))
  (hsp : ∀ (w : World) (H : Hp) (a : Addr) (ns : List Int), ns.length <= n -> Only H -> SqL (K w.params) H a (ns.map V.int) -> sp w [.ref a] H (fun v _ => v = .bl true) fun _ _ _ => False)
  (hCX : ∀ (w : World) (H : Hp) (s : Shared) (e : Value) (s' : Shared), CX w [] H s (fun _ _ _ => False) e s' -> False) :
  PySem.W.WalkO q loose XP YP l.row.toRowW d [] (fun f vs => PySem.call f vs) := by
 refine Att.attach_call hn hdf fun w s₀ s₁ mg mb fa o pm cd doc a vs ns G Y ho hd hcd hmg hobj hints hlen hg => ?_
 have KX := hY w _ Y
 obtain ⟨fd, hb, hF⟩ := F w mg fa _ KX G.T.g hmg
 exact law_call KX G.T.g G.T.b G.T.builtins G.T.nolimit hg hobj hints (Nat.le_trans hlen hn2) hr hF hb (fun H hO hS => hsp w H a ns hlen hO hS) fun H e s' => hCX w H s₁ e s'
end L2
namespace L2
open PySem PySem.Spec PyProof.Rows
noncomputable def defArgs (s : Stmt) : Arguments := match s with
 | .FunctionDef _ a _ _ _ _ _ _ _ _ => a
 | _ => { posonlyargs := [], args := [], vararg := none, kwonlyargs := [], kw_defaults := [], kwarg := none, defaults := [] }
noncomputable def defBody (s : Stmt) : List Stmt := match s with
 | .FunctionDef _ _ b _ _ _ _ _ _ _ => b
 | _ => []
noncomputable def defScope (s : Stmt) : Scope := match s with
 | .FunctionDef _ _ _ _ _ _ sc _ _ _ => sc
 | _ => { kind := .function, names := [], isGenerator := false, isCoroutine := false }
noncomputable abbrev CX0 : CXT := fun _ _ _ _ _ _ => False
noncomputable abbrev E0 : XK := fun _ _ _ => False
theorem pass0 {X : Cx} : Passes CX0 X E0 := fun _ _ _ _ _ _ _ h => h.elim
structure Fun (K : PySem.W.Frag) (x qual : Str) (st : Stmt) (f : Addr) (fd : FuncData) : Prop where
 ex : ∃ (oc : Value) (od : Option Addr) (kV doc pm : Value) (an : Option Addr) (cdv ct : Value) (osl : Array (Option Value)),
  fd = PySem.W.fnOf x qual (defArgs st) (defBody st) (defScope st) .none kV doc pm an cdv ct /\ K.lookup f = some ⟨oc, od, .func fd, osl⟩ /\ PySem.W.codeIn K cdv qual = true
 kp : PySem.W.keepIn K (.ref f) = true
section
variable {P : Program} {w : World} {K : PySem.W.Frag} {mg : Str -> Option Value} {base : Heap}
theorem Fun.ok {x qual : Str} {st : Stmt} {f : Addr} {fd : FuncData} {N ps : List Str} {k : Nat} {sp : Sp} (F : Fun K x qual st f fd) (S : FnScope N ps (defScope st)) (len : ∀ vs H Q E, sp vs H Q E -> vs.length = ps.length)
  (hbody : ∀ (cdv : Value) (A : Around) (outer : List Env) (s : Shared) (H : Hp) (vs : List V) (Q : VK) (E : XK), Room k (A.deeper (envOfC qual (defScope st) s.heap.objs.size f cdv)) -> sp vs H Q E ->
   ∃ t, PSs (cxOf CX0 P w K mg base N qual (defScope st) f cdv A outer s H E).nox (defBody st) t /\ t { nx := fun _ H' => Q .non H', rt := Q } (start N vs) H) : FnOk P w K mg base CX0 (k + 1) f fd ps sp := by
 obtain ⟨oc, od, kV, doc, pm, an, cdv, ct, osl, rfl, lk, hcd⟩ := F.ex
 refine fn_of lk hcd S len fun A outer s H vs Q E hr hsp => ?_
 obtain ⟨t, h, q⟩ := hbody cdv A outer s H vs Q E hr hsp
 exact ⟨t, h.nox, q⟩
theorem Fun.binds {x qual : Str} {st : Stmt} {f : Addr} {fd : FuncData} {ps : List Str} (F : Fun K x qual st f fd)
  (h : ∀ (kV doc pm : Value) (an : Option Addr) (cdv ct : Value) (us : List Value), us.length = ps.length -> bindArgs (PySem.W.fnOf x qual (defArgs st) (defBody st) (defScope st) .none kV doc pm an cdv ct) ⟨us, []⟩ = pure (ps.zip us)) : Binds K fd ps [] := by
 obtain ⟨oc, od, kV, doc, pm, an, cdv, ct, osl, rfl, lk, hcd⟩ := F.ex
 exact .all (h kV doc pm an cdv ct)
theorem fun_mk {x qual : Str} {st : Stmt} {f : Addr} {oc : Value} {od an : Option Addr} {osl : Array (Option Value)} {kV doc pm cdv ct : Value} (l : K.lookup f = some ⟨oc, od, .func (PySem.W.fnOf x qual (defArgs st) (defBody st) (defScope st) .none kV doc pm an cdv ct), osl⟩)
  (c : PySem.W.codeIn K cdv qual = true) (k : PySem.W.keepIn K (.ref f) = true) : Fun K x qual st f (PySem.W.fnOf x qual (defArgs st) (defBody st) (defScope st) .none kV doc pm an cdv ct) := ⟨⟨oc, od, kV, doc, pm, an, cdv, ct, osl, rfl, l, c⟩, k⟩
end
theorem small1000 {n : Nat} (h : n <= 1000) : n < sizeLine := Nat.lt_of_le_of_lt h (by decide)
section
variable {X : Cx}
theorem pv (i : Nat) {x : Str} {pos : Pos} (hN : X.N[i]? = some x := by rfl) (hv : Vis X.env.scope x := by first | exact Or.inl rfl | exact Or.inr (Or.inl rfl) | exact Or.inr (Or.inr rfl)) (hd : (x == ("__debug__" : Str)) = false := by decide)
  (hcd : (x == ("__classdict__" : Str)) = false := by decide) : PE X (.Name x pos) (tVar i) := pe_var hN hv hd hcd
end
theorem iteF {A B : Prop} (h : B) : if false = true then A else B := by
 rw [if_neg Bool.false_ne_true]
 exact h
theorem iteT {A B : Prop} (h : A) : if true = true then A else B := by
 rw [if_pos rfl]
 exact h
theorem ite2 {c A B : Prop} [Decidable c] (h1 : c -> A) (h2 : ¬ c -> B) : if c then A else B := by
 by_cases h : c
 ·rw [if_pos h]
  exact h1 h
 ·rw [if_neg h]
  exact h2 h
noncomputable def Same (H H' : Hp) : Prop := ∀ b o, H b = some o -> H' b = some o
theorem Same.refl (H : Hp) : Same H H := fun _ _ h => h
theorem Same.trans {H H1 H2 : Hp} (a : Same H H1) (b : Same H1 H2) : Same H H2 := fun c o h => b c o (a c o h)
theorem Same.free {H H' : Hp} (e : Same H H') {l : Addr} (h : H' l = Option.none) : H l = Option.none := by
 cases q : H l with
 | none => rfl
 | some o =>
  rw [e l o q] at h
  cases h
theorem Same.seq {K : PySem.W.Frag} {H H' : Hp} {a : Addr} {xs : List V} (e : Same H H') (h : SqL K H a xs) : SqL K H' a xs := by
 rcases h with (h | ⟨o, h⟩) | h
 ·exact .inl (.inl (e _ _ h))
 ·exact .inl (.inr ⟨o, e _ _ h⟩)
 ·exact .inr h
end L2
namespace L2
open PySem PySem.Spec PyProof.Rows
theorem forIn_yields {α β : Type} {f : α -> β -> Sem (ForInStep β)} {g : α -> β -> β} : ∀ (l : List α) (b : β), (∀ x ∈ l, ∀ c, f x c = pure (.yield (g x c))) -> forIn l b f = pure (l.foldl (fun c x => g x c) b)
 | [], b, _ => rfl
 | x :: l, b, h => by
  rw [List.forIn_cons, h x List.mem_cons_self, pure_bind]
  exact forIn_yields l _ fun y hy => h y (List.mem_cons_of_mem _ hy)
noncomputable def closStep (cells : List (Str × Addr)) (x : Str × NameKind) (cs : List (Str × Addr)) : List (Str × Addr) :=
 if (x.2 == NameKind.free) = true then (x.1, (cells.lookup x.1).getD 0) :: cs else cs
noncomputable def closOf (cells : List (Str × Addr)) (names : List (Str × NameKind)) (cs : List (Str × Addr)) : List (Str × Addr) := names.foldl (fun cs x => closStep cells x cs) cs
theorem closureFor_eq {scope : Scope} {env : Env} (h : ∀ y ∈ scope.names, y.2 = .free -> ∃ c, env.cells.lookup y.1 = some c) : closureFor scope env = pure (closOf env.cells scope.names []) := by
 simp only [closureFor]
 rw [forIn_yields (g := fun x cs => closStep env.cells x cs) scope.names [] (fun x hx c => by
  obtain ⟨n, kind⟩ := x
  cases hk : (kind == NameKind.free) with
  | false => simp only [hk, closStep, Bool.false_eq_true, if_false]
  | true =>
   obtain ⟨a, ha⟩ := h (n, kind) hx (by simpa using hk)
   have hc : cellOf env n = pure a := by
    unfold cellOf
    have ha' : env.cells.lookup n = some a := ha
    rw [ha']
   have ha' : env.cells.lookup n = some a := ha
   simp only [hk, closStep, if_true, hc, pure_bind, ha', Option.getD_some])]
 rfl
theorem closOf_sub {cells : List (Str × Addr)} : ∀ (names : List (Str × NameKind)) (cs : List (Str × Addr)), (∀ y ∈ names, y.2 = .free -> ∃ c, cells.lookup y.1 = some c) ->
  (∀ x c, cs.lookup x = some c -> cells.lookup x = some c) -> ∀ x c, (closOf cells names cs).lookup x = some c -> cells.lookup x = some c
 | [], cs, _, h => h
 | (n, k) :: r, cs, hf, h => by
  refine closOf_sub r (closStep cells (n, k) cs) (fun y hy => hf y (List.mem_cons_of_mem _ hy)) fun x c e => ?_
  unfold closStep at e
  split at e
  ·rename_i hk
   obtain ⟨a, ha⟩ := hf (n, k) List.mem_cons_self (by simpa using hk)
   have ha' : cells.lookup n = some a := ha
   rw [List.lookup_cons] at e
   cases hx : (x == n) with
   | true =>
    simp only [hx, ha', Option.getD_some] at e
    have : x = n := by simpa using hx
    rw [this, ha', e]
   | false =>
    simp only [hx] at e
    exact h x c e
  ·exact h x c e
theorem closOf_has {cells : List (Str × Addr)} : ∀ (names : List (Str × NameKind)) (cs : List (Str × Addr)) (x : Str), ((∃ c, cs.lookup x = some c) \/ (x, NameKind.free) ∈ names) -> ∃ c, (closOf cells names cs).lookup x = some c
 | [], cs, x, h => by
  rcases h with h | h
  ·exact h
  ·cases h
 | (n, k) :: r, cs, x, h => by
  refine closOf_has r (closStep cells (n, k) cs) x ?_
  rcases h with ⟨c, h⟩ | h
  ·left
   unfold closStep
   split
   ·rw [List.lookup_cons]
    cases hx : (x == n) with
    | true => exact ⟨_, rfl⟩
    | false => exact ⟨c, h⟩
   ·exact ⟨c, h⟩
  ·rcases List.mem_cons.mp h with e | h
   ·left
    cases e
    unfold closStep
    rw [if_pos (show ((n, NameKind.free).2 == NameKind.free) = true from rfl), List.lookup_cons]
    simp
   ·exact .inr h
noncomputable def PTs (X : Cx) (ifs : List Expr) (t : TT) : Prop :=
 ∀ (pins : List (Addr × Obj)) (s : Shared) (σ : St) (H : Hp) (Q : Bool -> Hp -> Prop), Inv X pins σ H s -> t σ H Q ->
  wpAny (model X.prog X.w) X.A (forIn ifs true fun c r => if r = true then do let ok <- isTrue c X.env (eval c X.env); pure (ForInStep.yield ok) else pure (ForInStep.yield r)) (TP X pins σ Q) X.xe s
noncomputable def tYes : TT := fun _ H Q => Q true H
theorem pts_nil {X : Cx} : PTs X [] tYes := fun pins s σ H Q I h => wpAny_tests_nil ⟨H, I, h⟩
theorem pts_one {X : Cx} {c : Expr} {t : TT} (h : PT X c t) : PTs X [c] t := fun pins s σ H Q I q => wpAny_tests_one (h pins s σ H Q I q)
noncomputable def cxComp (X : Cx) (Nc : List Str) (scope : Scope) (cl : List (Str × Addr)) (C : Addr) (s₁ : Shared) (H₁ : Hp) (fp : List Addr) : Cx where
 prog := X.prog
 w := X.w
 K := X.K
 mg := X.mg
 base := X.base
 A := X.A
 N := Nc
 s₀ := s₁
 H₀ := H₁
 env := compEnvC scope cl C X.env
 outer := X.stack
 stack := X.stack
 ex := fp
 fn := fun _ => false
 calm := X.calm
 pn := []
 xe := fun _ _ => False
noncomputable def capt (fm : List (Option Nat)) (σ : St) : St := fm.map fun o => match o with
 | none => none
 | some j => (σ[j]?).join
structure Capt (X : Cx) (Nc : List Str) (scope : Scope) (fm : List (Option Nat)) : Prop where
 kind : scope.kind = .function
 nocell : ∀ y ∈ scope.names, y.2 ≠ .cell
 names : ∀ y ∈ scope.names, y.2 = .local -> scope.names.lookup y.1 = some .local
 free : ∀ y ∈ scope.names, y.2 = .free -> X.env.kindOf y.1 = some .cell \/ X.env.kindOf y.1 = some .free
 len : fm.length = Nc.length
 at_ : ∀ (p : Option Nat × Str), p ∈ fm.zip Nc -> ∀ j, p.1 = some j -> X.N[j]? = some p.2 /\ (p.2, NameKind.free) ∈ scope.names /\ scope.names.lookup p.2 = some .free
noncomputable def captOk (N : List Str) (sc : Scope) (Nc : List Str) (scope : Scope) (fm : List (Option Nat)) : Bool :=
 decide (scope.kind = .function) && scope.names.all (fun y => decide (y.2 ≠ .cell) && (decide (y.2 ≠ .local) || decide (scope.names.lookup y.1 = some .local)) &&
  (decide (y.2 ≠ .free) || (decide (sc.names.lookup y.1 = some .cell) || decide (sc.names.lookup y.1 = some .free)))) && decide (fm.length = Nc.length) &&
  (fm.zip Nc).all (fun p => match p.1 with
   | none => true
   | some j => decide (N[j]? = some p.2) && decide ((p.2, NameKind.free) ∈ scope.names) && decide (scope.names.lookup p.2 = some .free))
theorem captOk.capt {X : Cx} {Nc : List Str} {scope : Scope} {fm : List (Option Nat)} (h : captOk X.N X.env.scope Nc scope fm = true) : Capt X Nc scope fm := by
 unfold captOk at h
 rw [Bool.and_eq_true, Bool.and_eq_true, Bool.and_eq_true] at h
 obtain ⟨⟨⟨h1, h2⟩, h3⟩, h4⟩ := h
 rw [List.all_eq_true] at h2 h4
 have g : ∀ y ∈ scope.names, (y.2 ≠ .cell /\ (y.2 ≠ .local \/ scope.names.lookup y.1 = some .local)) /\ (y.2 ≠ .free \/ (X.env.scope.names.lookup y.1 = some .cell \/ X.env.scope.names.lookup y.1 = some .free)) := fun y hy => by
  have := h2 y hy
  simpa only [Bool.and_eq_true, Bool.or_eq_true, decide_eq_true_eq] using this
 refine ⟨of_decide_eq_true h1, fun y hy => (g y hy).1.1, fun y hy e => ?_, fun y hy e => ?_, of_decide_eq_true h3, fun p hp j e => ?_⟩
 ·rcases (g y hy).1.2 with z | z
  ·exact absurd e z
  ·exact z
 ·rcases (g y hy).2 with z | z
  ·exact absurd e z
  ·exact z
 ·have := h4 p hp
  obtain ⟨a, b⟩ := p
  cases e
  simp only [Bool.and_eq_true, decide_eq_true_eq] at this
  exact ⟨this.1.1, this.1.2, this.2⟩
theorem lookup_relabel_free {env : Env} : ∀ {names : List (Str × NameKind)} {x : Str}, names.lookup x = some .free ->
    ((names.map fun (n, k) => if (k == NameKind.free && env.scope.kind == .function && env.kindOf n == some .cell) then (n, NameKind.cell) else (n, k)).lookup x = some .cell \/
     (names.map fun (n, k) => if (k == NameKind.free && env.scope.kind == .function && env.kindOf n == some .cell) then (n, NameKind.cell) else (n, k)).lookup x = some .free)
  | [], _, h => by simp at h
  | (n, k) :: r, x, h => by
    have ih := @lookup_relabel_free env r x
    rw [List.map_cons]
    cases hx : x == n with
    | true =>
      simp only [List.lookup_cons, hx] at h
      cases h
      dsimp only
      split
      · left
        simp only [List.lookup_cons, hx]
      · right
        simp only [List.lookup_cons, hx]
    | false =>
      simp only [List.lookup_cons, hx] at h
      dsimp only
      split
      · simp only [List.lookup_cons, hx]
        exact ih h
      · simp only [List.lookup_cons, hx]
        exact ih h
theorem free_of_relabel {env : Env} : ∀ {names : List (Str × NameKind)} {x : Str}, (∀ y ∈ names, y.2 ≠ .cell) ->
    ((names.map fun (n, k) => if (k == NameKind.free && env.scope.kind == .function && env.kindOf n == some .cell) then (n, NameKind.cell) else (n, k)).lookup x = some .cell \/
     (names.map fun (n, k) => if (k == NameKind.free && env.scope.kind == .function && env.kindOf n == some .cell) then (n, NameKind.cell) else (n, k)).lookup x = some .free) -> (x, NameKind.free) ∈ names
  | [], _, _, h => by simp at h
  | (n, k) :: r, x, hc, h => by
    have ih := @free_of_relabel env r x (fun y hy => hc y (List.mem_cons_of_mem _ hy))
    rw [List.map_cons] at h
    cases hx : x == n with
    | true =>
      have hxn : x = n := by simpa using hx
      dsimp only at h
      split at h
      · rename_i hk
        rw [Bool.and_eq_true, Bool.and_eq_true] at hk
        have : k = .free := by simpa using hk.1.1
        rw [hxn, this]
        exact List.mem_cons_self
      · simp only [List.lookup_cons, hx] at h
        rcases h with h | h
        · cases h
          exact absurd rfl (hc (n, .cell) List.mem_cons_self)
        · cases h
          rw [hxn]
          exact List.mem_cons_self
    | false =>
      dsimp only at h
      split at h
      · simp only [List.lookup_cons, hx] at h
        exact List.mem_cons_of_mem _ (ih h)
      · simp only [List.lookup_cons, hx] at h
        exact List.mem_cons_of_mem _ (ih h)
noncomputable def tComp (fm : List (Option Nat)) (wi : TI) (g : TG) (tt : TT) (te : TE) : TE := fun σ H Q => wi σ H fun J H1 => ∀ l, H1 l = none ->
  ∃ W : Nat -> Nat -> List V -> St -> Hp -> Prop, (∃ m, W 0 m [] (capt fm σ) (upd H1 l (.lst []))) /\
    ∀ i m ys σ' H', W i m ys σ' H' -> H' l = some (.lst ys) /\
      ((J.stop i H' /\ Q (.ref l) H') \/
       (J.go i H' /\ ∃ N : List V -> St -> Hp -> Prop, (∀ zs σ2 H2, N zs σ2 H2 -> ∃ m', m' < m /\ W (i + 1) m' zs σ2 H2) /\ ∀ x H2, J.yld i H' x H2 -> g x σ' H2 fun σ3 H3 => tt σ3 H3 fun b H4 =>
          if b = true then te σ3 H4 fun y H5 => H5 l = some (.lst ys) /\ ys.length < sizeLine /\ N (ys ++ [y]) σ3 (upd H5 l (.lst (ys ++ [y])))
          else N ys σ3 H4))
section
variable {prog : Program} {w : World} {A : Around} {R : Result -> Shared -> Prop} {s : Shared}
noncomputable abbrev NoX : Value -> Shared -> Prop := fun _ _ => False
theorem compLoop_T {elt target iter : Expr} {ifs : List Expr} {scope : Scope} {pos : Pos} {it acc : Value} {env : Env} (I : Nat -> Shared -> Prop)
  (turn : ∀ n s, I n s -> wpAny (model prog w) A (pyNext it) (fun r s₁ => match r with
   | none => R (.ok .next) s₁
   | some v => wpAny (model prog w) A (letOwnedTupleGo target it v) (fun _ s₁' => wpAny (model prog w) A (assign target env v) (fun _ s₂ =>
     wpAny (model prog w) A (forIn ifs true fun c r => if r = true then do let ok <- isTrue c env (eval c env); pure (ForInStep.yield ok) else pure (ForInStep.yield r)) (fun ok s₃ =>
      if ok = true then wpAny (model prog w) A (eval elt env) (fun x s₄ =>
       wpAny (model prog w) A (call (.builtin "list.append") [acc, x]) (fun _ s₅ => ∃ m, m < n /\ I m s₅) NoX s₄) NoX s₃
      else ∃ m, m < n /\ I m s₃) NoX s₂) NoX s₁') NoX s₁) NoX s)
  (n : Nat) (h : I n s) :
  codeAny (model prog w) A (.compLoop (.ListComp elt [⟨target, iter, ifs, 0⟩] scope pos) 0 it acc env) R s := by
 refine codeAny_loop rfl I (fun n s hI => ?_) n h
 show wpAny _ A ((compTurn (.ListComp elt [⟨target, iter, ifs, 0⟩] scope pos) 0 it acc env).onRaise (fun x => do noteFrame x env; theTreesLotGoes x)) _ _ s
 refine wpAny_noted ?_
 rw [compTurn_list]
 refine wpAny_bind (wpAny_standAt (wpAny_bind (wpAny_mono (turn n s hI) (fun r s₁ h₁ => ?_) fun _ _ f => f.elim)))
 cases r with
 | none => exact wpAny_pure h₁
 | some v =>
  refine wpAny_bind (wpAny_mono h₁ (fun _ s₁' h₁' => ?_) fun _ _ f => f.elim)
  refine wpAny_bind (wpAny_mono h₁' (fun _ s₂ h₂ => wpAny_bind (wpAny_mono h₂ (fun ok s₃ h₃ => ?_) fun _ _ f => f.elim)) fun _ _ f => f.elim)
  cases ok with
  | false => exact wpAny_pure ⟨rfl, h₃⟩
  | true =>
   exact wpAny_bind (wpAny_bind (wpAny_mono h₃ (fun x s₄ h₄ => wpAny_bind (wpAny_mono h₄ (fun _ s₅ h₅ => wpAny_pure (wpAny_pure ⟨rfl, h₅⟩)) fun _ _ f => f.elim)) fun _ _ f => f.elim))
end
section
variable {X : Cx} {pins : List (Addr × Obj)} {σ : St} {H₁ : Hp} {s₁ : Shared}
theorem comp_inv {Nc : List Str} {scope : Scope} {fm : List (Option Nat)} {fp : List Addr} {h₁ : Heap} {tk : Nat} {m : Str -> Option Value} (c : Capt X Nc scope fm) (I : Inv X pins σ H₁ s₁) (hf : ∀ b ∈ fp, FpOk X pins H₁ b) (hfp : ∀ b ∈ fp, b < s₁.heap.objs.size)
  (old : ∀ b o, s₁.heap.get? b = some o -> h₁.get? b = some o) (hD : h₁.get? s₁.heap.objs.size = some { cls := .type "list", data := .seq ([] : List Value).toArray }) (hns : h₁.Ns (s₁.heap.objs.size + 1) m) :
  Inv (cxComp X Nc scope (closOf X.env.cells scope.names []) (s₁.heap.objs.size + 1) s₁ H₁ fp) [] (capt fm σ) (upd H₁ s₁.heap.objs.size (.lst [])) { s₁ with heap := h₁, toks := tk } := by
 have hfree : ∀ y ∈ scope.names, y.2 = .free -> ∃ a, X.env.cells.lookup y.1 = some a := fun y hy e => I.ok.has y.1 (c.free y hy e)
 have sub : ∀ x a, (closOf X.env.cells scope.names []).lookup x = some a -> X.env.cells.lookup x = some a := closOf_sub _ _ hfree (fun x a e => by simp at e)
 have lt : ∀ x a, X.env.cells.lookup x = some a -> a < s₁.heap.objs.size := fun x a e => (I.cell x a e).elim fun v q => q.lt
 have hDn : H₁ s₁.heap.objs.size = none := I.hok.fresh (Nat.le_refl _)
 have hCn : H₁ (s₁.heap.objs.size + 1) = none := I.hok.fresh (Nat.le_succ _)
 refine ⟨⟨I.ok.mod, c.kind, I.ok.glob, I.ok.blt, Nat.le_succ _, fun x y a e1 e2 => I.ok.inj x y a (sub x a e1) (sub y a e2), fun x hx => ?_, fun x a z => absurd z (by intro q; cases q), I.ok.hd, I.ok.frames, .inl rfl, fun b hb => ?_, I.bs, Nat.le_trans I.ok.bsz I.sz, fun b o e hb => ?_, fun b hb hfs => ?_, I.stack, I.stkFree⟩,
  rfl, I.bare, Un.laid old (Nat.le_refl _) hDn, ⟨m, hns, fun i x v e1 e2 e3 => ?_⟩, fun x a e => ?_, ?_, fun x a e => ?_, fun p hp => absurd (show p ∈ ([] : List (Addr × Obj)) from hp) (by simp), ?_, ?_⟩
 ·exact closOf_has _ _ x (.inr (free_of_relabel (env := X.env) c.nocell hx))
 ·exact ⟨Nat.ne_of_lt (Nat.lt_succ_of_lt (hfp b hb)), fun x a e => (hf b hb).2.2.2.2.1 x a (sub x a e)⟩
 ·rcases (hf b hb).2.2.2.1 with z | z
  ·exact I.ok.noex b o e z
  ·exact absurd (Nat.lt_of_lt_of_le (Heap.lt_size e) (Nat.le_trans I.ok.bsz z)) (Nat.lt_irrefl _)
 ·rcases List.mem_cons.mp (I.stkSub b hfs) with z | z
  ·exact (hf b hb).2.1 z
  ·exact (hf b hb).2.2.1 z
 ·-- the names taken over
  have hz : ∃ j, fm[i]? = some (some j) /\ σ[j]? = some (some v) := by
   unfold capt at e2
   rw [List.getElem?_map] at e2
   cases q : fm[i]? with
   | none => rw [q] at e2; cases e2
   | some o =>
    rw [q] at e2
    cases o with
    | none => cases e2
    | some j =>
     refine ⟨j, rfl, ?_⟩
     have e2' : (σ[j]?).join = some v := Option.some.inj e2
     cases q2 : σ[j]? with
     | none => rw [q2] at e2'; cases e2'
     | some u => rw [q2] at e2'; cases u with
      | none => cases e2'
      | some u => cases e2'; rfl
  obtain ⟨j, hfm, hσ⟩ := hz
  have hp : ((some j : Option Nat), x) ∈ fm.zip Nc := by
   have : (fm.zip Nc)[i]? = some (some j, x) := by rw [List.getElem?_zip_eq_some]; exact ⟨hfm, e1⟩
   exact List.mem_of_getElem? this
  obtain ⟨hN, hmem, hlk⟩ := c.at_ _ hp j rfl
  have hk := c.free _ hmem rfl
  obtain ⟨m0, hn0, hl0⟩ := I.loc
  have hvis : Vis X.env.scope x := hk.elim (fun z => .inr (.inl z)) (fun z => .inr (.inr z))
  obtain ⟨u, ru, lk⟩ := hl0 j x v hN hσ hvis
  refine ⟨u, ru, .inr ⟨lookup_relabel_free (env := X.env) hlk, ?_⟩⟩
  rcases lk with ⟨z, _⟩ | ⟨_, a, ea, o, ho, hd⟩
  ·rcases hk with q | q
   ·rw [show X.env.kindOf x = _ from q] at z; cases z
   ·rw [show X.env.kindOf x = _ from q] at z; cases z
  ·obtain ⟨a', ea'⟩ := closOf_has (cells := X.env.cells) scope.names [] x (.inr hmem)
   have := sub x a' ea'
   rw [ea] at this
   cases this
   exact ⟨a, ea', o, old a o ho, hd⟩
 ·obtain ⟨v, o, ho, hd⟩ := I.cell x a (sub x a e)
  exact ⟨v, o, old a o ho, hd⟩
 ·show upd H₁ s₁.heap.objs.size (.lst []) (s₁.heap.objs.size + 1) = none
  rw [upd_ne (Nat.succ_ne_self _)]
  exact hCn
 ·show upd H₁ s₁.heap.objs.size (.lst []) a = none
  rw [upd_ne (Nat.ne_of_lt (lt x a (sub x a e)))]
  exact I.freeC x a (sub x a e)
 ·exact I.hok.laid old (Nat.le_refl _) ⟨Nat.zero_le _, [], 0, .nil, hD⟩
 ·show (capt fm σ).length = Nc.length
  unfold capt
  rw [List.length_map]
  exact c.len
theorem comp_back {Nc : List Str} {scope : Scope} {cl : List (Str × Addr)} {C : Addr} {fp : List Addr} {σ' : St} {H' : Hp} {s' : Shared} (I : Inv X pins σ H₁ s₁) (hf : ∀ b ∈ fp, FpOk X pins H₁ b) (J : Inv (cxComp X Nc scope cl C s₁ H₁ fp) [] σ' H' s') :
  Inv X pins σ H' s' := I.call' (ch := fp) J.os J.base J.hok J.bare fun b hb => ⟨(hf b hb).2.2.2.1, (hf b hb).2.1, (hf b hb).2.2.2.2.1, (hf b hb).2.2.2.2.2⟩
theorem comp_go {Nc : List Str} {scope : Scope} {cl : List (Str × Addr)} {fp : List Addr} {σ' : St} {H' : Hp} {s' : Shared} {σ2 : St} {s2 : Shared} {h'' : Heap} (I : Inv X pins σ H₁ s₁) (J : Inv (cxComp X Nc scope cl (s₁.heap.objs.size + 1) s₁ H₁ fp) [] σ' H' s')
  (I2 : Inv X pins σ2 H' s2) (sb : Heap.SameBut (s₁.heap.objs.size + 1) s2.heap h'') : Inv X pins σ2 H' { s2 with heap := h'' } := by
 have hle : s₁.heap.objs.size <= s₁.heap.objs.size + 1 := Nat.le_succ _
 refine I2.turned (t' := s2.toks) (it := s₁.heap.objs.size + 1) (fun b o hb e => (sb.2 b hb).trans e) J.free (Nat.ne_of_gt (Nat.lt_of_lt_of_le I.lt hle)) (.inr (Nat.le_trans I.sz hle)) (fun x c e z => ?_) (fun p hp z => ?_)
 ·obtain ⟨v, q⟩ := I.cell x c e
  exact absurd (Nat.lt_of_lt_of_le q.lt (by rw [z]; exact hle)) (Nat.lt_irrefl _)
 ·exact absurd (Nat.lt_of_lt_of_le (Heap.lt_size (I.pin p hp).1) (by rw [z]; exact hle)) (Nat.lt_irrefl _)
theorem comp_block {elt tg iter : Expr} {ifs : List Expr} {scope : Scope} {pos : Pos} {Nc : List Str} {fm : List (Option Nat)} {g : TG} {tt : TT} {te : TE} {it : Addr} {fp : List Addr} {tn : Nat -> Heap -> Prop} {J : It} {Q : VK} {E : Value -> Shared -> Prop} {RR : Value -> Addr -> Result -> Shared -> Prop}
    (hc : X.calm = true) (c : Capt X Nc scope fm) (I : Inv X pins σ H₁ s₁) (T : Turn X.prog X.w X.K tg J fp it tn) (st : tn 0 s₁.heap) (hf : ∀ b ∈ fp, FpOk X pins H₁ b)
    (hg : ∀ cl C s₁ H₁ fp, PG (cxComp X Nc scope cl C s₁ H₁ fp) tg g) (ht : ∀ cl C s₁ H₁ fp, PTs (cxComp X Nc scope cl C s₁ H₁ fp) ifs tt) (he : ∀ cl C s₁ H₁ fp, PE (cxComp X Nc scope cl C s₁ H₁ fp) elt te)
    (h : ∀ l, H₁ l = none -> ∃ W : Nat -> Nat -> List V -> St -> Hp -> Prop, (∃ m, W 0 m [] (capt fm σ) (upd H₁ l (.lst []))) /\
      ∀ i m ys σ' H', W i m ys σ' H' -> H' l = some (.lst ys) /\
        ((J.stop i H' /\ Q (.ref l) H') \/
         (J.go i H' /\ ∃ N : List V -> St -> Hp -> Prop, (∀ zs σ2 H2, N zs σ2 H2 -> ∃ m', m' < m /\ W (i + 1) m' zs σ2 H2) /\ ∀ x H2, J.yld i H' x H2 -> g x σ' H2 fun σ3 H3 => tt σ3 H3 fun b H4 =>
            if b = true then te σ3 H4 fun y H5 => H5 l = some (.lst ys) /\ ys.length < sizeLine /\ N (ys ++ [y]) σ3 (upd H5 l (.lst (ys ++ [y])))
            else N ys σ3 H4)))
    (fin : ∀ σ' H' s', Inv (cxComp X Nc scope (closOf X.env.cells scope.names []) (s₁.heap.objs.size + 1) s₁ H₁ fp) [] σ' H' s' -> Q (.ref s₁.heap.objs.size) H' -> RR (.ref s₁.heap.objs.size) (s₁.heap.objs.size + 1) (.ok .next) s') :
    wpAny (model X.prog X.w) X.A (newList []) (fun acc s₃ => wpAny (model X.prog X.w) X.A (newFunctionEnv scope X.env.globals (closOf X.env.cells scope.names []) [] X.env.qual none .none (some X.env)) (fun cenv s₄ =>
      codeAny (model X.prog X.w) X.A (.compStart (.ListComp elt [⟨tg, iter, ifs, 0⟩] scope pos) 0 (.ref it) acc { cenv with scope := relabel scope X.env }) (RR acc cenv.locals) s₄) E s₃) E s₁ := by
  have hfp : ∀ b ∈ fp, b < s₁.heap.objs.size := fun b hb => by
    obtain ⟨o, ho, _⟩ := T.obj 0 _ st b hb
    exact Heap.lt_size ho
  refine wpAny_newObj_type (wpAny_newFunctionEnv c.nocell (by intro y hy; simp at hy) (fun h₁ hns₁ hsb₁ => ?_) c.kind)
  dsimp only at hns₁ hsb₁ ⊢
  generalize hH2 : s₁.heap.push { cls := .type "list", dict := none, data := .seq ([] : List Value).toArray } = H2 at hns₁ hsb₁ ⊢
  have hC : H2.objs.size = s₁.heap.objs.size + 1 := by rw [<- hH2, Heap.size_push]
  rw [hC] at hns₁ hsb₁
  show codeAny _ _ (.compStart _ 0 _ _ (compEnvC scope (closOf X.env.cells scope.names []) H2.objs.size X.env)) (RR _ H2.objs.size) _
  rw [hC]
  have old : ∀ b o, s₁.heap.get? b = some o -> h₁.get? b = some o := fun b o e => hsb₁.extBut b o (Nat.ne_of_lt (Nat.lt_succ_of_lt (Heap.lt_size e))) (Heap.get?_push_of_some _ (hH2 ▸ Heap.get?_push_of_some _ e))
  have hD : h₁.get? s₁.heap.objs.size = some { cls := .type "list", data := .seq ([] : List Value).toArray } := hsb₁.extBut _ _ (Nat.ne_of_lt (Nat.lt_succ_self _)) (Heap.get?_push_of_some _ (hH2 ▸ Heap.get?_push_size _ rfl))
  have st1 : tn 0 h₁ := T.keep _ _ _ st fun b _ o e => old b o e
  have hDn : H₁ s₁.heap.objs.size = none := I.hok.fresh (Nat.le_refl _)
  obtain ⟨W, ⟨m0, w0⟩, turn⟩ := h _ hDn
  have loop : ∀ tk : Nat, codeAny (model X.prog X.w) X.A (.compLoop (.ListComp elt [⟨tg, iter, ifs, 0⟩] scope pos) 0 (.ref it) (.ref s₁.heap.objs.size) (compEnvC scope (closOf X.env.cells scope.names []) (s₁.heap.objs.size + 1) X.env))
      (RR (.ref s₁.heap.objs.size) (s₁.heap.objs.size + 1)) { s₁ with heap := h₁, toks := tk } := by
    intro tk
    have I0 := comp_inv (tk := tk) c I hf hfp old hD hns₁
    have stat : ∀ {H' : Hp}, (∀ b ∈ fp, H' b = none) -> ∀ b ∈ fp, FpOk (cxComp X Nc scope (closOf X.env.cells scope.names []) (s₁.heap.objs.size + 1) s₁ H₁ fp) [] H' b := fun hn b hb =>
      ⟨hn b hb, (I0.ok.exf b hb).1, I0.ok.exfs b hb, .inl hb, (I0.ok.exf b hb).2, fun p hp => absurd (show p ∈ ([] : List (Addr × Obj)) from hp) (by simp)⟩
    refine compLoop_T (fun n s' => ∃ i ys σ' H', Inv (cxComp X Nc scope (closOf X.env.cells scope.names []) (s₁.heap.objs.size + 1) s₁ H₁ fp) [] σ' H' s' /\ tn i s'.heap /\ (∀ b ∈ fp, H' b = none) /\ W i n ys σ' H') ?_ m0
      ⟨0, [], _, _, I0, st1, fun b hb => by rw [upd_ne (Nat.ne_of_lt (hfp b hb))]; exact (hf b hb).1, w0⟩
    rintro n s3 ⟨i, ys, σ3, H3, I3, st3, fr3, w3⟩
    obtain ⟨hl, alt⟩ := turn i n ys σ3 H3 w3
    rcases alt with ⟨stop, qn⟩ | ⟨go, N, hN, step⟩
    · refine thn (T.done (cxComp X Nc scope (closOf X.env.cells scope.names []) (s₁.heap.objs.size + 1) s₁ H₁ fp) rfl rfl rfl hc i [] s3 σ3 H3 NoX I3 (stat fr3) st3 stop) fun r s4 ⟨hr, I4⟩ => ?_
      subst hr
      exact fin σ3 H3 s4 I4 qn
    · refine thn (T.item (cxComp X Nc scope (closOf X.env.cells scope.names []) (s₁.heap.objs.size + 1) s₁ H₁ fp) rfl rfl rfl hc i [] s3 σ3 H3 NoX I3 (stat fr3) st3 go) fun r s4 ⟨u, hr, h4⟩ => ?_
      subst hr
      refine thn h4 fun _ s5 ⟨x, H5, I5, r5, y5, st5, fr5⟩ => ?_
      have I5' := I5.pinned (stat fr5) (T.obj _ _ st5)
      have again : ∀ {σ7 : St} {H7 : Hp} {s7 : Shared} {zs : List V} {m' : Nat}, Inv (cxComp X Nc scope (closOf X.env.cells scope.names []) (s₁.heap.objs.size + 1) s₁ H₁ fp) ([] ++ pinsAt fp s5.heap) σ7 H7 s7 -> m' < n -> W (i + 1) m' zs σ7 H7 ->
          ∃ m, m < n /\ ∃ i ys σ' H', Inv (cxComp X Nc scope (closOf X.env.cells scope.names []) (s₁.heap.objs.size + 1) s₁ H₁ fp) [] σ' H' s7 /\ tn i s7.heap /\ (∀ b ∈ fp, H' b = none) /\ W i m ys σ' H' := fun {σ7 H7 s7 zs m'} I7 hm w7 => by
        refine ⟨m', hm, i + 1, zs, σ7, H7, I7.unpinned, T.keep _ _ _ st5 fun b hb o e => (I7.pin (b, o) (List.mem_append_right _ (List.mem_append_right _ (mem_pinsAt hb e)))).1, fun b hb => ?_, w7⟩
        obtain ⟨o, e, d⟩ := T.obj _ _ st5 b hb
        exact (I7.pin (b, o) (List.mem_append_right _ (List.mem_append_right _ (mem_pinsAt hb e)))).2.1
      refine thn (hg _ _ _ _ _ _ s5 σ3 H5 x u _ I5' r5 (step x H5 y5)) fun _ s6 ⟨σ6, H6, I6, q6⟩ => ?_
      refine thn (ht _ _ _ _ _ _ s6 σ6 H6 _ I6 q6) fun ok s7 ⟨H7, I7, q7⟩ => ?_
      cases ok with
      | false =>
        rw [if_neg Bool.false_ne_true] at q7 ⊢
        obtain ⟨m', hm, w7⟩ := hN _ _ _ q7
        exact again I7 hm w7
      | true =>
        rw [if_pos rfl] at q7 ⊢
        refine thn (he _ _ _ _ _ _ s7 σ6 H7 _ I7 q7) fun y s8 ⟨v8, H8, I8, r8, hl8, hz8, n8⟩ => ?_
        obtain ⟨m', hm, w8⟩ := hN _ _ _ n8
        refine thn (mt_append _ s8 σ6 H8 (.ref s₁.heap.objs.size) [v8] (.ref s₁.heap.objs.size) [y] (fun v H' => H' = upd H8 s₁.heap.objs.size (.lst (ys ++ [v8]))) I8 rfl (.cons r8 .nil) ⟨_, ys, v8, rfl, rfl, hl8, hz8, rfl⟩) fun _ s9 ⟨_, H9, I9, _, e9⟩ => ?_
        subst e9
        exact again I9 hm w8
  exact codeAny_compStart_list (loop _) (T.self _ 0 _ _ _ st1 (loop _))
end
section
variable {X : Cx} {elt tg iter : Expr} {ifs : List Expr} {scope : Scope} {pos spos : Pos} {wi : TI} {g : TG} {tt : TT} {te : TE}
theorem pe_lc (Nc : List Str) (fm : List (Option Nat)) (hc : X.calm = true) (hk : captOk X.N X.env.scope Nc scope fm = true) (hi : PI X tg iter wi)
  (hg : ∀ cl C s₁ H₁ fp, PG (cxComp X Nc scope cl C s₁ H₁ fp) tg g) (ht : ∀ cl C s₁ H₁ fp, PTs (cxComp X Nc scope cl C s₁ H₁ fp) ifs tt) (he : ∀ cl C s₁ H₁ fp, PE (cxComp X Nc scope cl C s₁ H₁ fp) elt te)
  (hs : ∀ x, foldedSetIterable iter X.env x = pure x := by intro _; rfl) : PE X (.ListComp elt [⟨tg, iter, ifs, 0⟩] scope pos) (tComp fm wi g tt te) := by
 intro pins s σ H Q I h
 have c := captOk.capt hk
 rw [eval_ListComp]
 refine wpAny_comprehension_free (use := none) rfl hs (closureFor_eq fun y hy e => I.ok.has y.1 (c.free y hy e)) c.kind c.names (thn (hi pins s σ H _ I h) fun v s1 h1 => thn h1 fun itv s2 h2 => ?_)
 obtain ⟨it, fp, tn, J, H2, e, I2, T, st2, f2, h⟩ := h2
 subst e
 refine comp_block (RR := fun acc C => compPost (model X.prog X.w) X.A X.xe none (EP X pins σ Q) acc C) hc c I2 T st2 f2 hg ht he h fun σ' H' s' J' q => ?_
 obtain ⟨m, hn, _⟩ := J'.loc
 exact ⟨m, hn, fun h'' sb => ⟨.ref s2.heap.objs.size, H', comp_go I2 J' (comp_back I2 f2 J') sb, rfl, q⟩⟩
theorem ps_lc {i : Nat} {x : Str} {px : Pos} (Nc : List Str) (fm : List (Option Nat)) (hN : X.N.Nodup) (hi' : X.N[i]? = some x) (hx : Loc X.env.scope x) (hc : X.calm = true) (hk : captOk X.N X.env.scope Nc scope fm = true) (hi : PI X tg iter wi)
  (hg : ∀ cl C s₁ H₁ fp, PG (cxComp X Nc scope cl C s₁ H₁ fp) tg g) (ht : ∀ cl C s₁ H₁ fp, PTs (cxComp X Nc scope cl C s₁ H₁ fp) ifs tt) (he : ∀ cl C s₁ H₁ fp, PE (cxComp X Nc scope cl C s₁ H₁ fp) elt te)
  (hsw : swapsWith (.ListComp elt [⟨tg, iter, ifs, 0⟩] scope pos) (some (.Name x px)) spos.line X.env = pure true := by rfl)
  (hs : ∀ x, foldedSetIterable iter X.env x = pure x := by intro _; rfl) (hf : X.fn x = true \/ X.env.scope.names.lookup x = some .local := by first | exact .inl rfl | exact .inr rfl | assumption) :
  PS X (.Assign [.Name x px] (.ListComp elt [⟨tg, iter, ifs, 0⟩] scope pos) spos) (tAsg (tComp fm wi g tt te) (gName i)) := by
 intro pins s σ H D I h
 have c := captOk.capt hk
 rw [exec_Assign_Name_used _ _ _ _ hsw]
 refine wpAny_bind (wpAny_standAt (wpAny_bind ?_))
 show wpAny _ X.A (do let _ <- comprehension (.ListComp elt [⟨tg, iter, ifs, 0⟩] scope pos) scope X.env _ (newList []) false (eval iter X.env) (some (assign (.Name x px) X.env))) _ _ s
 refine wpAny_bind (wpAny_mono (wpAny_comprehension_free (use := some (assign (.Name x px) X.env)) (Q := fun _ s' => SP X pins D .next s') rfl hs (closureFor_eq fun y hy e => I.ok.has y.1 (c.free y hy e)) c.kind c.names
  (thn (hi pins s σ H _ I h) fun v s1 h1 => thn h1 fun itv s2 h2 => ?_)) (fun _ s' hq => wpAny_pure (wpAny_pure hq)) fun _ _ e => e)
 obtain ⟨it, fp, tn, J, H2, e, I2, T, st2, f2, h⟩ := h2
 subst e
 refine comp_block (Q := fun v H' => gName i v σ H' D.nx) (RR := fun acc C => compPost (model X.prog X.w) X.A X.xe (some (assign (.Name x px) X.env)) (fun _ s' => SP X pins D .next s') acc C) hc c I2 T st2 f2 hg ht he h fun σ' H' s' J' q => ?_
 obtain ⟨m, hn, _⟩ := J'.loc
 have IB := comp_back I2 f2 J'
 show wpAny _ X.A (assign (.Name x px) X.env _) _ _ _
 refine wpAny_assign_Name (store_ok2 (v := .ref s2.heap.objs.size) IB hN hi' hx rfl (fun s'' I'' ⟨a, sa, ha⟩ => ?_) hf)
 have hle : s2.heap.objs.size <= s2.heap.objs.size + 1 := Nat.le_succ _
 have hne : s2.heap.objs.size + 1 ≠ a := by
  rcases ha with rfl | ha
  ·exact Nat.ne_of_gt (Nat.lt_of_lt_of_le I2.lt hle)
  ·obtain ⟨v, q⟩ := I2.cell x a ha
   exact Nat.ne_of_gt (Nat.lt_of_lt_of_le q.lt hle)
 exact ⟨m, hn.sameBut sa hne, fun h'' sb => ⟨_, H', comp_go I2 J' I'' sb, q⟩⟩
end
end L2
namespace L2
open PySem PySem.Spec PyProof.Rows
section
variable {X : Cx}
theorem ix_tupK (K : PySem.W.Frag) (h : X.K = K := by rfl) : IxR X (rIxT K) := by subst h; exact ix_tup
theorem ix_listK (K : PySem.W.Frag) (h : X.K = K := by rfl) : IxR X (rIxL K) := by subst h; exact ix_list
theorem op_notInK (K : PySem.W.Frag) (h : X.K = K := by rfl) : OpR X (compareOp .NotIn) (rIn K true) := by subst h; exact op_notIn_seq
noncomputable def rLen (K : PySem.W.Frag) : List V -> Hp -> VK -> Prop := fun xs H Q => ∃ p ys, xs = [.ref p] /\ (SqL K H p ys \/ SqT K H p ys) /\ Q (.int ys.length) H
theorem call_lenK (K : PySem.W.Frag) (h : X.K = K := by rfl) : CallR X (.builtin "len") (rLen K) := by subst h; exact call_len_seq
theorem pi_tupK {tg l : Expr} {tl : TE} (K : PySem.W.Frag) (hl : PE X l tl) (h : X.K = K := by rfl) : PI X tg l (iTup K tl) := by subst h; exact pi_tup hl
theorem pi_listK {tg l : Expr} {tl : TE} (K : PySem.W.Frag) (hl : PE X l tl) (h : X.K = K := by rfl) : PI X tg l (iList K tl) := by subst h; exact pi_list hl
noncomputable def eqVs (xs ys : List V) : Bool := decide (xs.length = ys.length) && (xs.zip ys).all fun p => eqV p.1 p.2
theorem eqV_refl {x : V} (h : flatV x = true) : eqV x x = true := by
 cases x <;> simp_all [eqV, flatV]
theorem range_eqVs {xs ys : List V} (hl : xs.length = ys.length) : (List.range xs.length).all (fun j => match xs[j]?, ys[j]? with | some a, some b => eqV a b | _, _ => false) = eqVs xs ys := by
 unfold eqVs
 rw [decide_eq_true hl, Bool.true_and, Bool.eq_iff_iff, List.all_eq_true, List.all_eq_true]
 constructor
 ·intro h p hp
  obtain ⟨i, hi, rfl⟩ := List.mem_iff_getElem.mp hp
  rw [List.length_zip] at hi
  have := h i (List.mem_range.mpr (by omega))
  have h1 : i < xs.length := by omega
  have h2 : i < ys.length := by exact Om.a2 ‹_› ‹_›
  simpa [h1, h2] using this
 ·intro h i hi
  have h1 := List.mem_range.mp hi
  have h2 : i < ys.length := by exact Om.a2 ‹_› ‹_›
  have hi' : i < (xs.zip ys).length := by rw [List.length_zip]; omega
  have := h ((xs.zip ys)[i]) (List.getElem_mem hi')
  simpa [h1, h2] using this
theorem listEqAt {A : Around} {s : Shared} {xs ys : List V} {its its2 : List Value} (r1 : Vals xs its) (r2 : Vals ys its2) (f1 : xs.all flatV = true) (f2 : ys.all flatV = true) : ∀ j (h1 : j < its.toArray.size) (h2 : j < its2.toArray.size),
  SeqAt.EqAt A s its.toArray[j] its2.toArray[j] (match xs[j]?, ys[j]? with | some a, some b => eqV a b | _, _ => false) := fun j h1 h2 => by
 have l1 := r1.length
 have l2 := r2.length
 rw [List.size_toArray] at h1 h2
 have hx : xs[j]? = some (xs[j]'(by exact Om.a1 ‹_› ‹_›)) := by simp
 have hy : ys[j]? = some (ys[j]'(by exact Om.a1 ‹_› ‹_›)) := by simp
 obtain ⟨u, hu, ru⟩ := r1.get hx
 obtain ⟨v, hv, rv⟩ := r2.get hy
 have e1 : its.toArray[j] = u := by
  have : its[j]? = some its[j] := by simp [h1]
  rw [this] at hu
  simpa using Option.some.inj hu
 have e2 : its2.toArray[j] = v := by
  have : its2[j]? = some its2[j] := by simp [h2]
  rw [this] at hv
  simpa using Option.some.inj hv
 rw [e1, e2, hx, hy]
 exact eqAt_V ru rv (List.all_eq_true.mp f1 _ (List.getElem_mem _)) (List.all_eq_true.mp f2 _ (List.getElem_mem _))
noncomputable def rLL (K : PySem.W.Frag) (neg : Bool) : R2 := fun x y H Q => ∃ a b xs ys, x = .ref a /\ y = .ref b /\ SqL K H a xs /\ SqL K H b ys /\ ((xs.all flatV = true /\ ys.all flatV = true) \/ xs.length ≠ ys.length) /\ Q (.bl (if neg then !eqVs xs ys else eqVs xs ys)) H
theorem op_eqL (hu : X.A.units < cLine) (K : PySem.W.Frag) (hK : X.K = K := by rfl) : OpR X (compareOp .Eq) (rLL K false) := by
 subst hK
 intro pins s σ H x y v u Q I rx ry h
 obtain ⟨a, b, xs, ys, rfl, rfl, h1, h2, hf, q⟩ := h
 cases rx
 cases ry
 obtain ⟨its, r1, p1, z1⟩ := I.list h1
 obtain ⟨its2, r2, p2, z2⟩ := I.list h2
 have l1 := r1.length
 have l2 := r2.length
 by_cases hl : xs.length = ys.length
 ·have hf' := hf.resolve_right (fun z => z hl)
  refine SeqAt.eq_listAt p1.isList p2.isList (by rw [List.size_toArray, List.size_toArray]; omega) hu (listEqAt r1 r2 hf'.1 hf'.2) ⟨.bl _, H, I, rfl, ?_⟩
  rw [List.size_toArray, <- l1, range_eqVs hl]
  exact q
 ·have e : eqVs xs ys = false := by unfold eqVs; rw [decide_eq_false hl, Bool.false_and]
  refine SeqAt.eq_list_lengthsAt p1.isList p2.isList (by simp only [List.size_toArray, bne_iff_ne]; omega) hu ⟨.bl _, H, I, rfl, ?_⟩
  rw [<- e]
  exact q
theorem op_neL (hu : X.A.units < cLine) (K : PySem.W.Frag) (hK : X.K = K := by rfl) : OpR X (compareOp .NotEq) (rLL K true) := by
 subst hK
 intro pins s σ H x y v u Q I rx ry h
 obtain ⟨a, b, xs, ys, rfl, rfl, h1, h2, hf, q⟩ := h
 cases rx
 cases ry
 obtain ⟨its, r1, p1, z1⟩ := I.list h1
 obtain ⟨its2, r2, p2, z2⟩ := I.list h2
 have l1 := r1.length
 have l2 := r2.length
 by_cases hl : xs.length = ys.length
 ·have hf' := hf.resolve_right (fun z => z hl)
  refine SeqAt.RcNeAt.lists p1.isList p2.isList (by rw [List.size_toArray, List.size_toArray]; omega) hu (listEqAt r1 r2 hf'.1 hf'.2) _ _ _ _ ⟨.bl _, H, I, rfl, ?_⟩
  rw [List.size_toArray, <- l1, range_eqVs hl]
  exact q
 ·have e : eqVs xs ys = false := by unfold eqVs; rw [decide_eq_false hl, Bool.false_and]
  refine SeqAt.RcNeAt.lists_lengths p1.isList p2.isList (by simp only [List.size_toArray, bne_iff_ne]; omega) hu _ _ _ _ ⟨.bl _, H, I, rfl, ?_⟩
  have q' : Q (.bl (!eqVs xs ys)) H := q
  rw [e] at q'
  exact q'
end
structure Wlk (J : It) (xs : List V) (P : Hp -> Prop) : Prop where
 go : ∀ i H, P H -> i < xs.length -> J.go i H
 yld : ∀ i H x H', P H -> J.yld i H x H' -> i < xs.length -> H' = H /\ xs[i]? = some x
 stop : ∀ i H, P H -> xs.length <= i -> J.stop i H
theorem wlk_tup {K : PySem.W.Frag} {a : Addr} {xs : List V} : Wlk (Itt K a) xs (fun H => SqT K H a xs) :=
 ⟨fun i H h hi => ⟨xs, xs[i], h, by simp [hi]⟩, fun i H x H' h y _ => ⟨y.1, y.2 xs h⟩, fun i H h hi => ⟨xs, h, hi⟩⟩
theorem wlk_list {K : PySem.W.Frag} {a : Addr} {xs : List V} : Wlk (Itl K a) xs (fun H => SqL K H a xs) :=
 ⟨fun i H h hi => ⟨xs, xs[i], h, by simp [hi]⟩, fun i H x H' h y _ => ⟨y.1, y.2 xs h⟩, fun i H h hi => ⟨xs, h, hi⟩⟩
noncomputable def rng (n : Nat) : List V := (List.range n).map fun i : Nat => V.int (i : Int)
theorem rng_len (n : Nat) : (rng n).length = n := by unfold rng; rw [List.length_map, List.length_range]
theorem rng_at {n i : Nat} (h : i < n) : (rng n)[i]? = some (.int (i : Int)) := by
 unfold rng
 rw [List.getElem?_map, List.getElem?_range h]
 rfl
theorem rng_get {n i : Nat} {x : V} (h : (rng n)[i]? = some x) : i < n /\ x = .int (i : Int) := by
 have hi : i < n := by
  have := (List.getElem?_eq_some_iff.mp h).1
  rwa [rng_len] at this
 rw [rng_at hi] at h
 exact ⟨hi, (Option.some.inj h).symm⟩
theorem wlk_range {n : Nat} : Wlk (Itr 0 n) (rng n) (fun _ => True) :=
 ⟨fun i H _ hi => by rw [rng_len] at hi; exact hi, fun i H x H' _ y hi => by
  rw [rng_len] at hi
  obtain ⟨e, rfl⟩ := y
  refine ⟨e, ?_⟩
  rw [rng_at hi, Int.zero_add], fun i H _ hi => by rw [rng_len] at hi; exact hi⟩
noncomputable def compBody (g : TG) (tt : TT) (te : TE) (x : V) (σ : St) (H : Hp) (R : Option V -> St -> Hp -> Prop) : Prop :=
 g x σ H fun σ3 H3 => tt σ3 H3 fun b H4 => if b = true then te σ3 H4 fun y H5 => R (some y) σ3 H5 else R none σ3 H4
theorem comp_of {J : It} {xs : List V} {P : Hp -> Prop} {g : TG} {tt : TT} {te : TE} {l : Addr} {QL : Hp -> Prop} {σ0 : St} {H0 : Hp} (Wk : Wlk J xs P) (Pv : Nat -> List V -> St -> Hp -> Prop) (h0 : Pv 0 [] σ0 H0)
    (hP : ∀ i ys σ H, Pv i ys σ H -> P H /\ H l = some (.lst ys))
    (hs : ∀ i x ys σ H, xs[i]? = some x -> Pv i ys σ H -> compBody g tt te x σ H fun o σ3 H5 => match o with
      | some y => H5 l = some (.lst ys) /\ ys.length < sizeLine /\ Pv (i + 1) (ys ++ [y]) σ3 (upd H5 l (.lst (ys ++ [y])))
      | none => Pv (i + 1) ys σ3 H5)
    (hd : ∀ ys σ H, Pv xs.length ys σ H -> QL H) :
    ∃ W : Nat -> Nat -> List V -> St -> Hp -> Prop, (∃ m, W 0 m [] σ0 H0) /\
    ∀ i m ys σ' H', W i m ys σ' H' -> H' l = some (.lst ys) /\
      ((J.stop i H' /\ QL H') \/
       (J.go i H' /\ ∃ N : List V -> St -> Hp -> Prop, (∀ zs σ2 H2, N zs σ2 H2 -> ∃ m', m' < m /\ W (i + 1) m' zs σ2 H2) /\ ∀ x H2, J.yld i H' x H2 -> g x σ' H2 fun σ3 H3 => tt σ3 H3 fun b H4 =>
          if b = true then te σ3 H4 fun y H5 => H5 l = some (.lst ys) /\ ys.length < sizeLine /\ N (ys ++ [y]) σ3 (upd H5 l (.lst (ys ++ [y])))
          else N ys σ3 H4)) := by
  refine ⟨fun i m ys σ H => m = xs.length - i /\ i <= xs.length /\ Pv i ys σ H, ⟨xs.length, by simp, Nat.zero_le _, h0⟩, ?_⟩
  rintro i m ys σ H ⟨rfl, hi, p⟩
  obtain ⟨hp, hl⟩ := hP i ys σ H p
  refine ⟨hl, ?_⟩
  by_cases hlt : i < xs.length
  · refine .inr ⟨Wk.go i H hp hlt, fun zs σ2 H2 => Pv (i + 1) zs σ2 H2, fun zs σ2 H2 n => ⟨xs.length - (i + 1), by omega, rfl, hlt, n⟩, fun x H2 y => ?_⟩
    obtain ⟨e, hx⟩ := Wk.yld i H x H2 hp y hlt
    subst e
    exact hs i x ys σ _ hx p
  · have e : i = xs.length := by omega
    subst e
    exact .inl ⟨Wk.stop _ H hp (Nat.le_refl _), hd ys σ H p⟩
theorem Same.upd_new {H H' : Hp} {l : Addr} {o : HO} (e : Same H H') (h : H l = none) : Same H (upd H' l o) := fun b u q => by
 rw [upd_ne (ne_of_none q h)]
 exact e b u q
theorem Same.new {H : Hp} {l : Addr} {o : HO} (h : H l = none) : Same H (upd H l o) := (Same.refl H).upd_new h
theorem range_filterMap {β : Type} {F : Nat -> Option β} {i : Nat} : (List.range (i + 1)).filterMap F = (List.range i).filterMap F ++ (F i).toList := by
 rw [List.range_succ, List.filterMap_append]
 cases e : F i <;> simp [e]
theorem filterMap_len {β : Type} {F : Nat -> Option β} {i : Nat} : ((List.range i).filterMap F).length <= i := by
 have h := List.length_filterMap_le F (List.range i)
 rw [List.length_range] at h
 exact h
theorem filterMap_some {α β : Type} (h : α -> β) (l : List α) : (l.filterMap fun i => some (h i)) = l.map h := by
 induction l with
 | nil => rfl
 | cons a l ih => rw [List.filterMap_cons, List.map_cons, ih]
theorem comp_pure {J : It} {xs : List V} {P : Hp -> Prop} {g : TG} {tt : TT} {te : TE} {l : Addr} {QL : Hp -> Prop} {σ0 : St} {H1 : Hp} (F : Nat -> Option V) (S : St -> Prop) (Wk : Wlk J xs P) (hz : xs.length <= sizeLine) (hl : H1 l = none)
    (hPm : ∀ H, Same H1 H -> P H) (hS : S σ0)
    (hs : ∀ i x σ H (R : Option V -> St -> Hp -> Prop), xs[i]? = some x -> S σ -> Same H1 H -> (∀ σ' H', S σ' -> Same H H' -> R (F i) σ' H') -> compBody g tt te x σ H R)
    (hd : ∀ H, Same H1 H -> H l = some (.lst ((List.range xs.length).filterMap F)) -> QL H) :
    ∃ W : Nat -> Nat -> List V -> St -> Hp -> Prop, (∃ m, W 0 m [] σ0 (upd H1 l (.lst []))) /\
    ∀ i m ys σ' H', W i m ys σ' H' -> H' l = some (.lst ys) /\
      ((J.stop i H' /\ QL H') \/
       (J.go i H' /\ ∃ N : List V -> St -> Hp -> Prop, (∀ zs σ2 H2, N zs σ2 H2 -> ∃ m', m' < m /\ W (i + 1) m' zs σ2 H2) /\ ∀ x H2, J.yld i H' x H2 -> g x σ' H2 fun σ3 H3 => tt σ3 H3 fun b H4 =>
          if b = true then te σ3 H4 fun y H5 => H5 l = some (.lst ys) /\ ys.length < sizeLine /\ N (ys ++ [y]) σ3 (upd H5 l (.lst (ys ++ [y])))
          else N ys σ3 H4)) := by
  refine comp_of Wk (fun i ys σ H => Same H1 H /\ H l = some (.lst ys) /\ S σ /\ ys = (List.range i).filterMap F) ⟨Same.new hl, upd_same, hS, rfl⟩ (fun i ys σ H p => ⟨hPm H p.1, p.2.1⟩) ?_ ?_
  · rintro i x ys σ H hx ⟨sm, hl', hσ, rfl⟩
    refine hs i x σ H _ hx hσ sm fun σ' H' hσ' sm' => ?_
    have hi : i < xs.length := (List.getElem?_eq_some_iff.mp hx).1
    cases e : F i with
    | none =>
      refine ⟨sm.trans sm', sm' _ _ hl', hσ', ?_⟩
      rw [range_filterMap, e]
      simp
    | some y =>
      refine ⟨sm' _ _ hl', ?_, (sm.trans sm').upd_new hl, upd_same, hσ', ?_⟩
      · have h1 := filterMap_len (F := F) (i := i)
        omega
      · rw [range_filterMap, e]
        rfl
  · rintro ys σ H ⟨sm, hl', hσ, rfl⟩
    exact hd H sm hl'
theorem Paired.getL {α β : Type} {F : α -> β -> Prop} : ∀ {l₁ : List α} {l₂ : List β} {i : Nat} {a : α}, Paired F l₁ l₂ -> l₁[i]? = some a -> ∃ b, l₂[i]? = some b /\ F a b
 | _, _, _, _, .nil, e => by simp at e
 | _, _, 0, _, .cons r _, e => by simp at e; subst e; exact ⟨_, rfl, r⟩
 | _, _, i + 1, a, .cons _ t, e => by
  obtain ⟨u, h1, h2⟩ := Paired.getL (i := i) (a := a) t (by simpa using e)
  exact ⟨u, by simpa using h1, h2⟩
theorem Paired.getR {α β : Type} {F : α -> β -> Prop} : ∀ {l₁ : List α} {l₂ : List β} {i : Nat} {b : β}, Paired F l₁ l₂ -> l₂[i]? = some b -> ∃ a, l₁[i]? = some a /\ F a b
 | _, _, _, _, .nil, e => by simp at e
 | _, _, 0, _, .cons r _, e => by simp at e; subst e; exact ⟨_, rfl, r⟩
 | _, _, i + 1, b, .cons _ t, e => by
  obtain ⟨u, h1, h2⟩ := Paired.getR (i := i) (b := b) t (by simpa using e)
  exact ⟨u, by simpa using h1, h2⟩
theorem atI_of {xs : List V} {i : Nat} {v : V} (h : xs[i]? = some v) : atI xs (i : Int) = some v := atI_nat h
theorem small6 {n : Nat} (h : n <= 1000) : n <= sizeLine := Nat.le_of_lt (small1000 h)
theorem map_ints_flat (ns : List Int) : (ns.map V.int).all flatV = true := by
 rw [List.all_map]
 exact List.all_eq_true.mpr fun _ _ => rfl
theorem eqVs_nil (xs : List V) : eqVs xs [] = xs.isEmpty := by
 cases xs <;> simp [eqVs]
theorem Paired.append {α β : Type} {F : α -> β -> Prop} : ∀ {l₁ m₁ : List α} {l₂ m₂ : List β}, Paired F l₁ l₂ -> Paired F m₁ m₂ -> Paired F (l₁ ++ m₁) (l₂ ++ m₂)
 | _, _, _, _, .nil, s => s
 | _, _, _, _, .cons r t, s => .cons r (Paired.append t s)
theorem bt_list : bootBuiltins "list" = some (Value.type "list") := by decide +kernel
theorem bt_tuple : bootBuiltins "tuple" = some (Value.type "tuple") := by decide +kernel
theorem bt_int : bootBuiltins "int" = some (Value.type "int") := by decide +kernel
theorem pg_c {X : Cx} {Nc : List Str} {scope : Scope} {cl : List (Str × Addr)} {C : Addr} {s₁ : Shared} {H₁ : Hp} {fp : List Addr} (i : Nat) {x : Str} {pos : Pos} (hN : Nc.Nodup := by decide +kernel) (hi : Nc[i]? = some x := by rfl)
  (hx : (relabel scope X.env).names.lookup x = some .local := by rfl) : PG (cxComp X Nc scope cl C s₁ H₁ fp) (.Name x pos) (gName i) := pg_name hN hi (.inl hx) (.inr hx)
end L2
namespace L2
open PySem PySem.Spec PyProof.Rows
section
variable {P : Program} {w : World} {outer : List Env} {H H' : Hp} {s s' s'' : Shared} {e : Addr} {cls a0 : Value} {B : Heap}
end
section
variable {P : Program} {w : World} {K : PySem.W.Frag} {mg : Str -> Option Value} {base : Heap} {N : List Str} {qual : Str} {scope : Scope} {f : Addr} {cd : Value} {A : Around} {outer : List Env} {s₀ : Shared} {H₀ : Hp} {E : XK}
end
section
variable {X : Cx} {pins ps' : List (Addr × Obj)} {σ : St} {H : Hp} {s : Shared} {xe : Value -> Shared -> Prop}
end
section
variable {X : Cx} {CX : CXT} {k : Nat} {f : Addr} {fd : FuncData} {ps : List Str} {sp : Sp} {dvs : List V} {ds : List Value} {E : XK} {x : Str} {p pos : Pos} {e : Expr} {es : List Expr} {t : TA}
end
section
variable {X : Cx} {pins : List (Addr × Obj)} {σ : St} {H : Hp} {s : Shared} {e : Addr}
end
section
variable {X : Cx}
end
end L2
namespace L2
open PySem
noncomputable def GridT (H : Hp) (a : Addr) (B : List (List V)) : Prop := ∃ ps : List Addr, H a = some (.tup (ps.map V.ref)) /\ Paired (fun p row => H p = some (.tup row)) ps B
theorem GridT.same {H H' : Hp} {a : Addr} {B : List (List V)} (g : GridT H a B) (e : Same H H') : GridT H' a B :=
 let ⟨ps, h, r⟩ := g
 ⟨ps, e _ _ h, Paired.mapP r fun _ _ q => e _ _ q⟩
theorem cut_to (xs : List V) {c : Nat} (h : c <= xs.length) : cutV xs none (some (c : Int)) = xs.take c := by
 unfold cutV
 rw [HT.sIx_none, HT.sIx_nat, List.drop_zero, Nat.sub_zero]
 congr 1
 exact Om.m2 ‹_›
theorem cut_from (xs : List V) {c : Nat} (h : c <= xs.length) : cutV xs (some (c : Int)) none = xs.drop c := by
 unfold cutV
 rw [HT.sIx_none, HT.sIx_nat]
 have e : min c xs.length = c := by exact Om.m2 ‹_›
 rw [e, List.take_of_length_le]
 rw [List.length_drop]
 exact Nat.le_refl _
noncomputable def rSumT (K : PySem.W.Frag) : R2 := fun x y H Q => ∃ a b xs ys, x = .ref a /\ y = .ref b /\ H a = some (.tup xs) /\ H b = some (.tup ys) /\ xs.length + ys.length <= sizeLine /\ ∀ p H', Same H H' -> H' p = some (.tup (xs ++ ys)) -> Q (.ref p) H'
theorem op_sumT {X : Cx} (K : PySem.W.Frag) : OpR X (binaryOp .Add) (rSumT K) := by
 intro pins s σ H x y v u Q I rx ry h
 obtain ⟨a, b, xs, ys, rfl, rfl, ha, hb, hz, q⟩ := h
 cases rx
 cases ry
 by_cases hx : xs = []
 ·subst hx
  obtain ⟨its, r1, p1, _⟩ := I.tuple (SqT.of ha)
  obtain ⟨its2, r2, p2, _⟩ := I.tuple (SqT.of hb)
  have e0 : its = [] := r1.nil_iff.mpr rfl
  subst e0
  obtain ⟨⟨cls, dd, data, sl⟩, ho, hc, n, hd⟩ := id p1
  obtain ⟨⟨cls2, dd2, data2, sl2⟩, ho2, hc2, n2, hd2⟩ := id p2
  simp only at hc hd hc2 hd2
  subst hc hd hc2 hd2
  exact concat_meets ⟨_, ho, rfl⟩ ⟨_, ho2, rfl⟩ noFill_tuple_add seq_tuple_add PySem.F.slot_tuple_add PySem.F.entry_tuple_add (PySem.F.args_tuple_add_2 _ _) (PyProof.Rows.tuple_addW0 a b _ _ n n2 dd dd2 sl sl2 rfl) ⟨ho, ho2, .ref b, H, I, rfl, q b H (Same.refl H) hb⟩
 ·refine op_catT pins s σ H (.ref a) (.ref b) _ _ Q I rfl rfl ⟨a, b, xs, ys, rfl, rfl, SqT.of ha, SqT.of hb, hx, hz, fun e => ?_, fun _ p hp => q p _ (Same.new hp) upd_same⟩
  subst e
  rw [List.append_nil] at q
  exact q a H (Same.refl H) ha
end L2
namespace L2
open PySem PySem.Spec PyProof.Rows PySem.W
section
variable {prog : Program} {w : World} {A : Around} {E : Value -> Shared -> Prop} {K : PySem.W.Frag} {h : Heap} {g : Array GenState} {d : Drawn} {t : Nat} {os : OsState} {a C : Addr} {o : Obj}
end
end L2
namespace L2
open PySem PySem.Spec PyProof.Rows
section
variable {X : Cx} {pins : List (Addr × Obj)} {σ : St} {H : Hp} {s : Shared}
end
section
variable {X : Cx}
end
section
variable {X : Cx} {k : Nat} {f : Addr} {fd : FuncData} {ps : List Str} {sp : Sp} {x : Str} {p pos : Pos} {e : Expr} {es : List Expr} {t : TA}
end
end L2
namespace L2
open PySem PySem.Spec PyProof.Rows
inductive EqD (K : PySem.W.Frag) (H : Hp) : Nat -> V -> V -> Bool -> Prop where
 | flat {d : Nat} {x y : V} (fx : flatV x = true) (fy : flatV y = true) : EqD K H d x y (eqV x y)
 | tups {d : Nat} {a c : Addr} {xs ys : List V} {e : Nat -> Bool} (h1 : SqT K H a xs) (h2 : SqT K H c ys) (he : ∀ j x y, xs[j]? = some x -> ys[j]? = some y -> EqD K H d x y (e j)) : EqD K H (d + 1) (.ref a) (.ref c) (decide (xs.length = ys.length) && (List.range xs.length).all fun j => decide (j < ys.length) && e j)
 | lsts {d : Nat} {a c : Addr} {xs ys : List V} {e : Nat -> Bool} (h1 : SqL K H a xs) (h2 : SqL K H c ys) (he : xs.length = ys.length -> ∀ j x y, xs[j]? = some x -> ys[j]? = some y -> EqD K H d x y (e j)) : EqD K H (d + 1) (.ref a) (.ref c) (decide (xs.length = ys.length) && (List.range xs.length).all fun j => decide (j < ys.length) && e j)
 | tupF {d : Nat} {a : Addr} {xs : List V} {y : V} (h1 : SqT K H a xs) (fy : flatV y = true) : EqD K H d (.ref a) y false
 | Ftup {d : Nat} {a : Addr} {xs : List V} {y : V} (h1 : SqT K H a xs) (fy : flatV y = true) : EqD K H d y (.ref a) false
 | lstF {d : Nat} {a : Addr} {xs : List V} {y : V} (h1 : SqL K H a xs) (fy : flatV y = true) : EqD K H d (.ref a) y false
 | Flst {d : Nat} {a : Addr} {xs : List V} {y : V} (h1 : SqL K H a xs) (fy : flatV y = true) : EqD K H d y (.ref a) false
 | tupL {d : Nat} {a c : Addr} {xs ys : List V} (h1 : SqT K H a xs) (h2 : SqL K H c ys) : EqD K H d (.ref a) (.ref c) false
 | lstT {d : Nat} {a c : Addr} {xs ys : List V} (h1 : SqL K H a xs) (h2 : SqT K H c ys) : EqD K H d (.ref a) (.ref c) false
theorem rcAt_V {A : Around} {s : Shared} {y x : V} {u v : Value} (ry : RelV y u) (rx : RelV x v) (fy : flatV y = true) (fx : flatV x = true) : SeqAt.RcAt A s u v (eqV y x) /\ SeqAt.RcNeAt A s u v (!eqV y x) := by
 cases y with
 | non =>
  cases ry
  cases x with
  | non => cases rx; exact ⟨SeqAt.RcAt.none_none, SeqAt.RcNeAt.none_none⟩
  | bl b => cases rx; exact ⟨SeqAt.RcAt.none_bool b, SeqAt.RcNeAt.none_bool b⟩
  | int b => obtain ⟨t, rfl⟩ := rx; exact ⟨SeqAt.RcAt.none_int b t, SeqAt.RcNeAt.none_int b t⟩
  | str b => obtain ⟨t, rfl⟩ := rx; exact ⟨SeqAt.RcAt.none_str b t, SeqAt.RcNeAt.none_str b t⟩
  | _ => exact absurd (show false = true from fx) Bool.false_ne_true
 | bl a =>
  cases ry
  cases x with
  | non => cases rx; exact ⟨SeqAt.RcAt.bool_none a, SeqAt.RcNeAt.bool_none a⟩
  | bl b => cases rx; exact ⟨SeqAt.RcAt.bool_bool a b, SeqAt.RcNeAt.bool_bool a b⟩
  | int b => obtain ⟨t, rfl⟩ := rx; exact ⟨SeqAt.RcAt.bool_int a b t, SeqAt.RcNeAt.bool_int a b t⟩
  | str b => obtain ⟨t, rfl⟩ := rx; exact ⟨SeqAt.RcAt.bool_str a b t, SeqAt.RcNeAt.bool_str a b t⟩
  | _ => exact absurd (show false = true from fx) Bool.false_ne_true
 | int a =>
  obtain ⟨t', rfl⟩ := ry
  cases x with
  | non => cases rx; exact ⟨SeqAt.RcAt.int_none a t', SeqAt.RcNeAt.int_none a t'⟩
  | bl b => cases rx; exact ⟨SeqAt.RcAt.int_bool a t' b, SeqAt.RcNeAt.int_bool a t' b⟩
  | int b => obtain ⟨t, rfl⟩ := rx; exact ⟨SeqAt.RcAt.int_int a t' b t, SeqAt.RcNeAt.int_int a t' b t⟩
  | str b => obtain ⟨t, rfl⟩ := rx; exact ⟨SeqAt.RcAt.int_str a t' b t, SeqAt.RcNeAt.int_str a t' b t⟩
  | _ => exact absurd (show false = true from fx) Bool.false_ne_true
 | str a =>
  obtain ⟨t', rfl⟩ := ry
  cases x with
  | non => cases rx; exact ⟨SeqAt.RcAt.str_none a t', SeqAt.RcNeAt.str_none a t'⟩
  | bl b => cases rx; exact ⟨SeqAt.RcAt.str_bool a t' b, SeqAt.RcNeAt.str_bool a t' b⟩
  | int b => obtain ⟨t, rfl⟩ := rx; exact ⟨SeqAt.RcAt.str_int a t' b t, SeqAt.RcNeAt.str_int a t' b t⟩
  | str b => obtain ⟨t, rfl⟩ := rx; exact ⟨SeqAt.RcAt.str_str a t' b t, SeqAt.RcNeAt.str_str a t' b t⟩
  | _ => exact absurd (show false = true from fx) Bool.false_ne_true
 | _ => exact absurd (show false = true from fy) Bool.false_ne_true
section
variable {A : Around} {s : Shared} {l : Addr} {its : Array Value}
theorem tupF_at (hl : s.heap.IsTuple l its) {y : V} {v : Value} (r : RelV y v) (fy : flatV y = true) (hu : A.units < cLine) :
  (SeqAt.EqAt A s (.ref l) v false /\ SeqAt.RcAt A s (.ref l) v false /\ SeqAt.RcNeAt A s (.ref l) v true) /\ (SeqAt.EqAt A s v (.ref l) false /\ SeqAt.RcAt A s v (.ref l) false /\ SeqAt.RcNeAt A s v (.ref l) true) := by
 cases y with
 | non => cases r; exact ⟨⟨.tuple_none hl hu, .tuple_none hl hu, .tuple_none hl hu⟩, .none_tuple hl hu, .none_tuple hl hu, .none_tuple hl hu⟩
 | bl b => cases r; exact ⟨⟨.tuple_bool b hl hu, .tuple_bool b hl hu, .tuple_bool b hl hu⟩, .bool_tuple b hl hu, .bool_tuple b hl hu, .bool_tuple b hl hu⟩
 | int b => obtain ⟨t, rfl⟩ := r; exact ⟨⟨.tuple_int b t hl hu, .tuple_int b t hl hu, .tuple_int b t hl hu⟩, .int_tuple b t hl hu, .int_tuple b t hl hu, .int_tuple b t hl hu⟩
 | str b => obtain ⟨t, rfl⟩ := r; exact ⟨⟨.tuple_str b t hl hu, .tuple_str b t hl hu, .tuple_str b t hl hu⟩, .str_tuple b t hl hu, .str_tuple b t hl hu, .str_tuple b t hl hu⟩
 | _ => exact absurd (show false = true from fy) Bool.false_ne_true
theorem lstF_at (hl : s.heap.IsList l its) {y : V} {v : Value} (r : RelV y v) (fy : flatV y = true) (hu : A.units < cLine) :
  (SeqAt.EqAt A s (.ref l) v false /\ SeqAt.RcAt A s (.ref l) v false /\ SeqAt.RcNeAt A s (.ref l) v true) /\ (SeqAt.EqAt A s v (.ref l) false /\ SeqAt.RcAt A s v (.ref l) false /\ SeqAt.RcNeAt A s v (.ref l) true) := by
 cases y with
 | non => cases r; exact ⟨⟨.list_none hl hu, .list_none hl hu, .list_none hl hu⟩, .none_list hl hu, .none_list hl hu, .none_list hl hu⟩
 | bl b => cases r; exact ⟨⟨.list_bool b hl hu, .list_bool b hl hu, .list_bool b hl hu⟩, .bool_list b hl hu, .bool_list b hl hu, .bool_list b hl hu⟩
 | int b => obtain ⟨t, rfl⟩ := r; exact ⟨⟨.list_int b t hl hu, .list_int b t hl hu, .list_int b t hl hu⟩, .int_list b t hl hu, .int_list b t hl hu, .int_list b t hl hu⟩
 | str b => obtain ⟨t, rfl⟩ := r; exact ⟨⟨.list_str b t hl hu, .list_str b t hl hu, .list_str b t hl hu⟩, .str_list b t hl hu, .str_list b t hl hu, .str_list b t hl hu⟩
 | _ => exact absurd (show false = true from fy) Bool.false_ne_true
end
theorem min_all {n m : Nat} {e : Nat -> Bool} : ((List.range (min n m)).all e && (n == m)) = (decide (n = m) && (List.range n).all fun j => decide (j < m) && e j) := by
 by_cases h : n = m
 ·subst h
  rw [Nat.min_self, beq_self_eq_true, Bool.and_true, decide_eq_true rfl, Bool.true_and, Bool.eq_iff_iff, List.all_eq_true, List.all_eq_true]
  constructor
  ·intro h j hj
   rw [decide_eq_true (List.mem_range.mp hj), Bool.true_and]
   exact h j hj
  ·intro h j hj
   have := h j hj
   rw [Bool.and_eq_true] at this
   exact this.2
 ·rw [decide_eq_false h, Bool.false_and, show (n == m) = false by simpa using h, Bool.and_false]
theorem all_lt {n : Nat} {e : Nat -> Bool} : ((List.range n).all fun j => decide (j < n) && e j) = (List.range n).all e := by
 rw [Bool.eq_iff_iff, List.all_eq_true, List.all_eq_true]
 constructor
 ·intro h j hj
  have := h j hj
  rw [Bool.and_eq_true] at this
  exact this.2
 ·intro h j hj
  rw [decide_eq_true (List.mem_range.mp hj), Bool.true_and]
  exact h j hj
section
variable {X : Cx} {pins : List (Addr × Obj)} {σ : St} {H : Hp} {s : Shared}
theorem EqD.refl' (I : Inv X pins σ H s) {d : Nat} {x y : V} {b : Bool} (h : EqD X.K H d x y b) : x = y -> b = true := by
 induction h with
 | flat fx fy => rintro rfl; exact eqV_refl fx
 | tups h1 h2 he ih =>
  intro e
  cases e
  have := I.tuple_inj h1 h2
  subst this
  rw [decide_eq_true rfl, Bool.true_and, all_lt, List.all_eq_true]
  intro j hj
  have hj' := List.mem_range.mp hj
  exact ih j _ _ (List.getElem?_eq_getElem hj') (List.getElem?_eq_getElem hj') rfl
 | lsts h1 h2 he ih =>
  intro e
  cases e
  have := I.list_inj h1 h2
  subst this
  rw [decide_eq_true rfl, Bool.true_and, all_lt, List.all_eq_true]
  intro j hj
  have hj' := List.mem_range.mp hj
  exact ih rfl j _ _ (List.getElem?_eq_getElem hj') (List.getElem?_eq_getElem hj') rfl
 | tupF h1 fy => rintro rfl; cases fy
 | Ftup h1 fy => rintro rfl; cases fy
 | lstF h1 fy => rintro rfl; cases fy
 | Flst h1 fy => rintro rfl; cases fy
 | tupL h1 h2 =>
  intro e
  cases e
  obtain ⟨_, _, p, _⟩ := I.tuple h1
  obtain ⟨_, _, q, _⟩ := I.list h2
  obtain ⟨o, ho, hc, _⟩ := p
  obtain ⟨o', _, ho', hc', _⟩ := q
  rw [ho] at ho'
  cases ho'
  rw [hc] at hc'
  exact absurd hc' (by decide)
 | lstT h1 h2 =>
  intro e
  cases e
  obtain ⟨_, _, p, _⟩ := I.tuple h2
  obtain ⟨_, _, q, _⟩ := I.list h1
  obtain ⟨o, ho, hc, _⟩ := p
  obtain ⟨o', _, ho', hc', _⟩ := q
  rw [ho] at ho'
  cases ho'
  rw [hc] at hc'
  exact absurd hc' (by decide)
theorem Vals.at {xs : List V} {its : List Value} (r : Vals xs its) {j : Nat} (h : j < its.toArray.size) : ∃ x, xs[j]? = some x /\ RelV x its.toArray[j] := by
 rw [List.size_toArray] at h
 have hx : j < xs.length := by rw [r.length]; exact h
 have e1 : xs[j]? = some xs[j] := List.getElem?_eq_getElem hx
 obtain ⟨u, hu, ru⟩ := r.get e1
 refine ⟨_, e1, ?_⟩
 rw [List.getElem?_eq_getElem h] at hu
 cases hu
 simpa using ru
theorem EqD.all (I : Inv X pins σ H s) {d : Nat} {x y : V} {b : Bool} (h : EqD X.K H d x y b) : ∀ {A : Around} {u v : Value}, RelV x u -> RelV y v -> A.units + d < cLine ->
  SeqAt.EqAt A s u v b /\ SeqAt.RcAt A s u v b /\ SeqAt.RcNeAt A s u v (!b) := by
 induction h with
 | flat fx fy => exact fun {A u v} rx ry hu => ⟨eqAt_V rx ry fx fy, rcAt_V rx ry fx fy⟩
 | @tups d a c xs ys e h1 h2 he ih =>
  intro A u v rx ry hu
  cases rx
  cases ry
  obtain ⟨its, r1, p1, _⟩ := I.tuple h1
  obtain ⟨its2, r2, p2, _⟩ := I.tuple h2
  have el : ∀ j (q1 : j < its.toArray.size) (q2 : j < its2.toArray.size), SeqAt.EqAt A.in1 s its.toArray[j] its2.toArray[j] (e j) := fun j q1 q2 => by
   obtain ⟨x, e1, rx⟩ := r1.at q1
   obtain ⟨y, e2, ry⟩ := r2.at q2
   exact (ih j x y e1 e2 rx ry (by show A.units + 1 + d < cLine; omega)).1
  have sz : its.toArray.size = xs.length /\ its2.toArray.size = ys.length := by
   rw [List.size_toArray, List.size_toArray, r1.length, r2.length]
   exact ⟨rfl, rfl⟩
  have g1 := SeqAt.RcAt.tuples (A := A) p1 p2 (by omega) el
  have g2 := SeqAt.RcNeAt.tuples (A := A) p1 p2 (by omega) el
  rw [sz.1, sz.2, min_all] at g1 g2
  refine ⟨?_, g1, g2⟩
  by_cases hac : a = c
  ·subst hac
   rw [EqD.refl' I (.tups h1 h2 he) rfl]
   exact SeqAt.EqAt.same _
  ·exact SeqAt.EqAt.of_refs hac g1
 | @lsts d a c xs ys e h1 h2 he ih =>
  intro A u v rx ry hu
  cases rx
  cases ry
  obtain ⟨its, r1, p1, _⟩ := I.list h1
  obtain ⟨its2, r2, p2, _⟩ := I.list h2
  have sz : its.toArray.size = xs.length /\ its2.toArray.size = ys.length := by
   rw [List.size_toArray, List.size_toArray, r1.length, r2.length]
   exact ⟨rfl, rfl⟩
  have g : SeqAt.RcAt A s (.ref a) (.ref c) (decide (xs.length = ys.length) && (List.range xs.length).all fun j => decide (j < ys.length) && e j) /\ SeqAt.RcNeAt A s (.ref a) (.ref c) (!(decide (xs.length = ys.length) && (List.range xs.length).all fun j => decide (j < ys.length) && e j)) := by
   by_cases hl : xs.length = ys.length
   ·have el : ∀ j (q1 : j < its.toArray.size) (q2 : j < its2.toArray.size), SeqAt.EqAt A.in1 s its.toArray[j] its2.toArray[j] (e j) := fun j q1 q2 => by
     obtain ⟨x, e1, rx⟩ := r1.at q1
     obtain ⟨y, e2, ry⟩ := r2.at q2
     exact (ih hl j x y e1 e2 rx ry (by show A.units + 1 + d < cLine; omega)).1
    have g1 := SeqAt.RcAt.lists (A := A) p1.isList p2.isList (by rw [sz.1, sz.2, hl]) (by omega) el
    have g2 := SeqAt.RcNeAt.lists (A := A) p1.isList p2.isList (by rw [sz.1, sz.2, hl]) (by omega) el
    rw [sz.1] at g1 g2
    rw [decide_eq_true hl, Bool.true_and, <- hl, all_lt]
    exact ⟨g1, g2⟩
   ·rw [decide_eq_false hl, Bool.false_and]
    have hz : (its.toArray.size != its2.toArray.size) = true := by rw [sz.1, sz.2]; simpa using hl
    exact ⟨.lists_lengths p1.isList p2.isList hz (by omega), .lists_lengths p1.isList p2.isList hz (by omega)⟩
  refine ⟨?_, g⟩
  by_cases hac : a = c
  ·subst hac
   rw [EqD.refl' I (.lsts h1 h2 he) rfl]
   exact SeqAt.EqAt.same _
  ·exact SeqAt.EqAt.of_refs hac g.1
 | tupF h1 fy =>
  intro A u v rx ry hu
  cases rx
  obtain ⟨its, r1, p1, _⟩ := I.tuple h1
  exact (tupF_at p1 ry fy (by omega)).1
 | Ftup h1 fy =>
  intro A u v rx ry hu
  cases ry
  obtain ⟨its, r1, p1, _⟩ := I.tuple h1
  exact (tupF_at p1 rx fy (by omega)).2
 | lstF h1 fy =>
  intro A u v rx ry hu
  cases rx
  obtain ⟨its, r1, p1, _⟩ := I.list h1
  exact (lstF_at p1.isList ry fy (by omega)).1
 | Flst h1 fy =>
  intro A u v rx ry hu
  cases ry
  obtain ⟨its, r1, p1, _⟩ := I.list h1
  exact (lstF_at p1.isList rx fy (by omega)).2
 | tupL h1 h2 =>
  intro A u v rx ry hu
  cases rx
  cases ry
  obtain ⟨its, r1, p1, _⟩ := I.tuple h1
  obtain ⟨its2, r2, p2, _⟩ := I.list h2
  exact ⟨.tuple_list p1 p2.isList (by omega), .tuple_list p1 p2.isList (by omega), .tuple_list p1 p2.isList (by omega)⟩
 | lstT h1 h2 =>
  intro A u v rx ry hu
  cases rx
  cases ry
  obtain ⟨its, r1, p1, _⟩ := I.list h1
  obtain ⟨its2, r2, p2, _⟩ := I.tuple h2
  exact ⟨.list_tuple p1.isList p2 (by omega), .list_tuple p1.isList p2 (by omega), .list_tuple p1.isList p2 (by omega)⟩
end
noncomputable def rEqD (K : PySem.W.Frag) (d : Nat) (neg : Bool) : R2 := fun x y H Q => ∃ b, EqD K H d x y b /\ Q (.bl (if neg then !b else b)) H
section
variable {X : Cx}
theorem op_eqD {d : Nat} (hu : X.A.units + d < cLine) (K : PySem.W.Frag) (hK : X.K = K := by rfl) : OpR X (compareOp .Eq) (rEqD K d false) := by
 subst hK
 intro pins s σ H x y v u Q I rx ry h
 obtain ⟨b, e, q⟩ := h
 exact (e.all I rx ry hu).2.1 _ _ _ _ ⟨.bl b, H, I, rfl, q⟩
end
end L2
namespace L2
open PySem PySem.Spec PyProof.Rows
section
variable {prog : Program} {w : World} {A : Around} {E : Value -> Shared -> Prop}
end
end L2
namespace L2
open PySem PySem.Spec PyProof.Rows
theorem EqD.cast {K : PySem.W.Frag} {H : Hp} {d : Nat} {x y : V} {b b' : Bool} (h : EqD K H d x y b) (e : b = b') : EqD K H d x y b' := e ▸ h
theorem eqVs_range {xs ys : List V} : (decide (xs.length = ys.length) && (List.range xs.length).all fun j => decide (j < ys.length) && eqV (xs.getD j .non) (ys.getD j .non)) = eqVs xs ys := by
 by_cases hl : xs.length = ys.length
 ·rw [decide_eq_true hl, Bool.true_and, <- hl, all_lt, <- range_eqVs hl]
  refine Bool.eq_iff_iff.mpr ?_
  rw [List.all_eq_true, List.all_eq_true]
  refine forall_congr' fun j => forall_congr' fun hj => ?_
  have h1 := List.mem_range.mp hj
  have h2 : j < ys.length := by exact Om.a2 ‹_› ‹_›
  rw [List.getElem?_eq_getElem h1, List.getElem?_eq_getElem h2, List.getD_eq_getElem?_getD, List.getD_eq_getElem?_getD, List.getElem?_eq_getElem h1, List.getElem?_eq_getElem h2]
  rfl
 ·unfold eqVs
  rw [decide_eq_false hl, Bool.false_and, Bool.false_and]
theorem flat_at {xs : List V} (f : xs.all flatV = true) {j : Nat} {x : V} (h : xs[j]? = some x) : flatV x = true := List.all_eq_true.mp f _ (List.mem_of_getElem? h)
section
variable {K : PySem.W.Frag} {H : Hp} {d : Nat} {a c : Addr} {xs ys : List V}
theorem eqd_tup (h1 : SqT K H a xs) (h2 : SqT K H c ys) (f1 : xs.all flatV = true) (f2 : ys.all flatV = true) : EqD K H (d + 1) (.ref a) (.ref c) (eqVs xs ys) := by
 rw [<- eqVs_range]
 refine .tups h1 h2 fun j x y e1 e2 => ?_
 have g1 : xs.getD j .non = x := by rw [List.getD_eq_getElem?_getD, e1]; rfl
 have g2 : ys.getD j .non = y := by rw [List.getD_eq_getElem?_getD, e2]; rfl
 rw [g1, g2]
 exact .flat (flat_at f1 e1) (flat_at f2 e2)
end
end L2
namespace L2
open PySem PySem.Spec PyProof.Rows
structure Dfn (K : PySem.W.Frag) (mg : Str -> Option Value) (x : Str) (st : Stmt) (ps : List Str) (f : Addr) (fd : FuncData) : Prop where
 F : Fun K x x st f fd
 b : Binds K fd ps []
 m : mg x = some (.ref f)
section
variable {X : Cx}
theorem call_tupleK (K : PySem.W.Frag) (h : X.K = K := by rfl) : CallR X (.type "tuple") (fun xs H Q => ∃ p ys, xs = [.ref p] /\ ((SqL K H p ys /\ ∀ l, H l = none -> Q (.ref l) (upd H l (.tup ys))) \/ (SqT K H p ys /\ Q (.ref p) H))) := by subst h; exact call_tuple_of
theorem call_listK (K : PySem.W.Frag) (h : X.K = K := by rfl) : CallR X (.type "list") (fun xs H Q => ∃ p ys, xs = [.ref p] /\ (SqL K H p ys \/ SqT K H p ys) /\ ∀ l, H l = none -> Q (.ref l) (upd H l (.lst ys))) := by subst h; exact call_list_of
end
end L2
namespace L2
open PySem PySem.Spec PyProof.Rows
section
variable {M : Model} {A : Around} {E : Value -> Shared -> Prop} {s : Shared}
end
end L2
namespace L2
open PySem PySem.Spec PyProof.Rows PySem.W
section
variable {prog : Program} {w : World} {A : Around} {E : Value -> Shared -> Prop} {h : Heap} {g : Array GenState} {d : Drawn} {t : Nat} {os : OsState}
variable {nm q : Str} {C N : Addr} {bs bm bmB : List Value} {hdct : Bool} {sn : List Str} {sub : List Value} {ab : Bool} {col : Option Bool} {dd : Option Addr} {k0 k1 k2 k3 k5 : Option Value} {B newId initId : String}
end
section
variable {prog : Program} {w : World} {A : Around} {E : Value -> Shared -> Prop} {K : Frag} {h : Heap} {g : Array GenState} {d : Drawn} {t : Nat} {os : OsState}
variable {nm q f : Str} {C N x : Addr} {bs bm : List Value} {sn : List Str} {sub : List Value} {ab : Bool} {col : Option Bool} {dd : Option Addr} {k0 k1 k2 k3 k5 : Option Value} {newId : String} {o : Obj} {v : Value}
end
end L2
namespace L2
open PySem PySem.Spec PyProof.Rows
section
variable {X : Cx} {pins : List (Addr × Obj)} {σ : St} {H : Hp} {s : Shared}
end
section
variable {X : Cx} {o e value : Expr} {f : Str} {pos pos' : Pos} {ta tv : TE}
end
section
variable {X : Cx} {k : Nat} {f C : Addr} {fd : FuncData} {ps : List Str} {sp : Sp} {x : Str} {p pos : Pos} {e : Expr} {es : List Expr} {t : TA}
end
end L2
namespace L2
open PySem PySem.Spec PyProof.Rows
section
variable {M : Model} {A : Around} {E : Value -> Shared -> Prop} {env : Env}
variable {nm q : Str} {C N : Addr} {bs bm : List Value} {hdct : Bool} {sn : List Str} {sub : List Value} {ab : Bool} {col : Option Bool} {dd : Option Addr} {k0 k1 k2 k3 k5 : Option Value} {newId : String}
end
section
variable {P : Program} {w : World} {K : PySem.W.Frag} {mg : Str -> Option Value} {base : Heap} {N : List Str} {qual : Str} {scope : Scope} {f : Addr} {cd : Value} {A : Around} {outer : List Env} {s₀ : Shared} {H₀ : Hp} {E : XK}
end
section
variable {P : Program} {w : World} {K : PySem.W.Frag} {mg : Str -> Option Value} {base : Heap} {E : XK}
end
section
variable {X : Cx}
end
end L2
namespace L2
open PySem PySem.Spec PyProof.Rows
section
variable {X : Cx}
theorem call_rangeV : CallR X (.type "range") (fun xs H Q => ∃ n : Nat, xs = [.int (n : Int)] /\ ∀ p, H p = none -> Q (.ref p) (upd H p (.rng 0 n))) := by
 intro pins s σ H xs us Q I r h
 obtain ⟨n, rfl, q⟩ := h
 obtain ⟨u, rfl, rx⟩ := vals1 r
 obtain ⟨t, rfl⟩ := rx
 refine call_range_1 ⟨.ref s.heap.objs.size, _, I.laid (t' := s.toks + 1 + 1) (o := .rng 0 n) (fun b o e => Heap.get?_push_of_some _ e) (Nat.le_refl _) ⟨_, _, _, Heap.get?_push_size _ rfl⟩, rfl, q _ (I.hok.fresh (Nat.le_refl _))⟩
theorem rng_vals : ∀ (n : Nat) (its : List Value), its.length = n -> (∀ (j : Nat) v, its[j]? = some v -> ∃ t, v = .int (j : Int) t) -> Vals (rng n) its := by
 have go : ∀ (xs : List V) (its : List Value), xs.length = its.length -> (∀ (j : Nat) x v, xs[j]? = some x -> its[j]? = some v -> RelV x v) -> Vals xs its := by
  intro xs
  induction xs with
  | nil =>
   intro its hl _
   cases its with
   | nil => exact .nil
   | cons _ _ => cases hl
  | cons x xs ih =>
   intro its hl h
   cases its with
   | nil => cases hl
   | cons v its => exact .cons (h 0 x v rfl rfl) (ih its (Nat.succ.inj hl) fun j y u e1 e2 => h (j + 1) y u (by simpa using e1) (by simpa using e2))
 intro n its hl h
 refine go _ _ (by rw [rng_len, hl]) fun j x v e1 e2 => ?_
 obtain ⟨_, rfl⟩ := rng_get e1
 exact h j v e2
theorem call_listR (hc : X.calm = true) : CallR X (.type "list") (fun xs H Q => ∃ (p : Addr) (n : Nat), xs = [.ref p] /\ H p = some (.rng 0 n) /\ n <= 1000 /\ ∀ l, H l = none -> Q (.ref l) (upd H l (.lst (rng n)))) := by
 intro pins s σ H xs us Q I r h
 obtain ⟨p, n, rfl, hp, hn, q⟩ := h
 obtain ⟨u, rfl, rx⟩ := vals1 r
 cases rx
 obtain ⟨t, u, v, e⟩ := I.hok p _ hp
 have e2 : Builtin.Range.rangeSize 0 (n : Int) 1 = n := by rw [rangeSize_one]; split <;> omega
 refine call_list_range (n := n) (I.ok.hd hc) e (small_one (by omega) (by omega) (by exact Om.c2) (by exact Om.c1 ‹_› rfl)) e2 (by exact Om.b1 ‹_› rfl) fun h' tk acc c' kp e' hi => ?_
 refine ⟨.ref s.heap.objs.size, _, I.laid (t' := tk) kp (Nat.le_refl _) (show ObjOk X.prog X.w _ h' _ (.lst (rng n)) from ⟨by rw [rng_len]; exact small6 hn, acc.toList, c', rng_vals n _ (by rw [Array.length_toList]; exact hi.1) fun j w ew => ?_, by rw [e']⟩), rfl, q _ (I.hok.fresh (Nat.le_refl _))⟩
 obtain ⟨t', ht⟩ := hi.2 j w (by simpa using ew)
 refine ⟨t', ?_⟩
 rw [ht, Int.zero_add, Int.mul_one]
end
section
variable (l : Addr) (its : List Value) (n : Nat) (dd : Option Addr) (sl : Array (Option Value)) (k : Int) (t : Tok)
end
end L2
namespace L2
open PySem PySem.Spec PyProof.Rows
section
variable {κ : Type} [DecidableEq κ]
end
section
variable {P : Program} {w : World} {H : Hp} {h : Heap} {a : Addr}
end
section
variable {X : Cx} {pins : List (Addr × Obj)} {σ : St} {H : Hp} {s : Shared} {a : Addr} {y v : V} {u r : Value} {o : Option V} {A : Around} {E : Value -> Shared -> Prop}
end
section
variable {X : Cx} {pins : List (Addr × Obj)} {σ : St} {H : Hp} {s : Shared} {a : Addr} {kvs : List (Key × V)} {k : Key} {u : Value} {A : Around} {E : Value -> Shared -> Prop}
end
section
variable {X : Cx} {o i e value : Expr} {pos pos' tpos : Pos} {td ty tv : TE}
end
section
variable {X : Cx} {pos : Pos}
end
section
variable {X : Cx} {pins : List (Addr × Obj)} {σ : St} {H : Hp} {s : Shared} {a : Addr} {y d : V} {u r : Value} {o : Option V} {A : Around} {E : Value -> Shared -> Prop}
end
section
variable {X : Cx} {o e f : Expr} {apos cpos : Pos} {td ty tx : TE}
end
section
variable {X : Cx} {pins : List (Addr × Obj)} {σ : St} {H : Hp} {s : Shared} {a : Addr} {kvs : List (Key × V)} {A : Around} {E : Value -> Shared -> Prop}
end
section
variable {X : Cx} {pins : List (Addr × Obj)} {σ : St} {H : Hp} {s : Shared} {a : Addr} {y : V} {u : Value} {A : Around} {E : Value -> Shared -> Prop}
end
end L2
namespace L2
open PySem PySem.Spec PyProof.Rows
section
variable {X : Cx}
end
section
variable {κ : Type} [DecidableEq κ]
end
end L2
namespace L2
open PySem PySem.Spec PyProof.Rows
section
variable {X : Cx} {es : List Expr} {te : TE} {t : TA} {p : Pos}
end
end L2
namespace L2
open PySem PySem.Spec PyProof.Rows
section
variable {X : Cx} {pins : List (Addr × Obj)} {σ : St} {H : Hp} {s : Shared} {a : Addr} {kvs : List (Key × V)}
end
noncomputable def rSorted (K : PySem.W.Frag) : List V -> Hp -> VK -> Prop := fun xs H Q => ∃ (p : Addr) (ns : List Int), xs = [.ref p] /\ SqL K H p (ns.map V.int) /\ ns.length < 64 /\ ∀ (l : Addr) (ns' : List Int), H l = none -> ns'.Perm ns -> ns'.Pairwise (· <= ·) -> Q (.ref l) (upd H l (.lst (ns'.map V.int)))
theorem call_sorted {X : Cx} (K : PySem.W.Frag) (hK : X.K = K := by rfl) : CallR X (.builtin "sorted") (rSorted K) := by
 subst hK
 intro pins s σ H xs us Q I r h
 obtain ⟨p, ns, rfl, hq, hl, q⟩ := h
 obtain ⟨u, rfl, rx⟩ := vals1 r
 cases rx
 obtain ⟨its, rv, ht, hz⟩ := I.list hq
 have hlen : its.length = ns.length := by rw [<- rv.length, List.length_map]
 refine sorted_ints (vs := its) (ns := ns) ht.isList (intsAre_of rv) (by rw [hlen]; exact hl) fun out ns' a1 a2 a3 => ?_
 obtain ⟨e, he⟩ := sortedAll_at s.heap its out
 have hn : H (s.heap.objs.size + 1) = none := I.hok.fresh (Nat.le_succ _)
 have vv := vals_ints a1
 refine ⟨.ref (s.heap.objs.size + 1), _, I.laid (t' := s.toks) (fun b o e => sortedAll_old e) (Nat.le_succ _) ?_, rfl, q _ ns' hn a2 a3⟩
 exact ⟨Nat.le_trans (m := 64) (by rw [List.length_map, a2.length_eq]; exact Om.d1 ‹_›) (by decide), out.toList, e, vv, by simpa using he⟩
end L2
namespace L2
open PySem PySem.Spec PyProof.Rows
end L2
namespace L2
open PySem PySem.Spec PyProof.Rows
section
variable {prog : Program} {w : World} {A : Around} {R : Result -> Shared -> Prop} {κ : Type} [DecidableEq κ] {knd : PySem.KeyKind prog w κ}
end
end L2
namespace L2
open PySem PySem.Spec PyProof.Rows
end L2
namespace L2
open PySem PySem.Spec PyProof.Rows
theorem Inv.turnedL {X : Cx} {pins : List (Addr × Obj)} {σ : St} {H : Hp} {s : Shared} {h' : Heap} {t' : Nat} {fp : List Addr} (I : Inv X pins σ H s) (k : ∀ b o, b ∉ fp -> s.heap.get? b = some o -> h'.get? b = some o) (hf : ∀ b ∈ fp, FpOk X pins H b) : Inv X pins σ H { s with heap := h', toks := t' } := by
 have nit : ∀ b u, H b = some u -> b ∉ fp := fun b u e z => by rw [(hf b z).1] at e; cases e
 refine I.step (g' := s.gens) (d' := s.drawn) (ch := fp) (fun b hb => ?_) (fun b o _ _ hc e _ => k b o hc e) (fun b o _ _ hc e _ => ⟨o.slots, k b o hc e⟩) (fun _ _ _ _ n => n)
  (fun b o hc e => ⟨o, k b o hc e⟩) (fun _ _ e => e) (fun _ _ _ e => e) (fun b ps e => ⟨#[], by rw [e]; simp⟩) (fun m hm => ?_) (fun b u e => ?_) I.bare
 ·obtain ⟨f0, f1, f2, f3, f4, f5⟩ := hf b hb
  exact ⟨f3, f1, f4, f5⟩
 ·obtain ⟨o, es, ep, ho, r⟩ := hm
  exact ⟨o, es, ep, k _ o (fun z => (hf _ z).2.1 rfl) ho, r⟩
 ·refine (I.hok b u e).stay (fun c v hc q => k c v ?_ q) (fun _ q => q) fun _ _ q => q
  rcases hc with z | z
  ·rw [z]; exact nit b u e
  ·exact nit c _ z
end L2
namespace L2
open PySem PySem.Spec PyProof.Rows
end L2
namespace L2
open PySem PySem.Spec PyProof.Rows
section
variable {prog : Program} {w : World} {A : Around} {E : Value -> Shared -> Prop} {s : Shared}
end
theorem for_of2 {J : It} {n : Nat} {Y : Nat -> Hp -> V -> Hp -> Prop} {P : Hp -> Prop} {g : TG} {tb : TS} {D : Ends} {σ : St} {H : Hp} (hgo : ∀ i H, P H -> i < n -> J.go i H) (hy : ∀ i H x H', P H -> J.yld i H x H' -> i < n -> Y i H x H') (hst : ∀ i H, P H -> n <= i -> J.stop i H)
  (Pv : Nat -> St -> Hp -> Prop) (h0 : Pv 0 σ H) (hP : ∀ i σ H, Pv i σ H -> P H)
  (hs : ∀ i x σ H H2, i < n -> Pv i σ H -> Y i H x H2 -> g x σ H2 fun σ2 H3 => tb { D with nx := Pv (i + 1), ct := Pv (i + 1), bk := D.nx } σ2 H3) (hd : ∀ σ H, Pv n σ H -> D.nx σ H) :
  ∃ W : Nat -> Nat -> St -> Hp -> Prop, (∃ m, W 0 m σ H) /\ ∀ i m σ H, W i m σ H ->
   (J.stop i H /\ D.nx σ H) \/ (J.go i H /\ ∃ N : St -> Hp -> Prop, (∀ σ' H', N σ' H' -> ∃ m', m' < m /\ W (i + 1) m' σ' H') /\ ∀ x H', J.yld i H x H' -> g x σ H' fun σ2 H2 => tb { D with nx := N, ct := N, bk := D.nx } σ2 H2) := by
 refine ⟨fun i m σ H => m = n - i /\ i <= n /\ Pv i σ H, ⟨n, by simp, Nat.zero_le _, h0⟩, ?_⟩
 rintro i m σ H ⟨rfl, hi, p⟩
 have hp := hP i σ H p
 by_cases hlt : i < n
 ·exact .inr ⟨hgo i H hp hlt, fun σ2 H2 => Pv (i + 1) σ2 H2, fun σ2 H2 q => ⟨n - (i + 1), by omega, rfl, hlt, q⟩, fun x H2 y => hs i x σ H H2 hlt p (hy i H x H2 hp y hlt)⟩
 ·have e : i = n := by omega
  subst e
  exact .inl ⟨hst _ H hp (Nat.le_refl _), hd σ H p⟩
end L2
namespace L2
open PySem PySem.Spec PyProof.Rows
end L2
namespace L2
open PySem PySem.Spec PyProof.Rows
section
variable {prog : Program} {w : World} {A : Around} {E : Value -> Shared -> Prop} {s : Shared}
end
end L2
namespace L2
open PySem PySem.Spec PyProof.Rows
section
variable {prog : Program} {w : World} {A : Around} {R : Result -> Shared -> Prop} {I : Addr} {fp wr : List Addr} {G : Array GenState -> Array GenState -> Prop} {P : Nat -> Value -> Prop} {St : Nat -> Shared -> Prop}
end
section
variable {prog : Program} {w : World} {A : Around} {E : Value -> Shared -> Prop} {s : Shared}
end
end L2
namespace L2
open PySem PySem.Spec PyProof.Rows
section
variable {prog : Program} {w : World} {A : Around} {E : Value -> Shared -> Prop} {s : Shared}
end
end L2
namespace L2
open PySem PySem.Spec PyProof.Rows
end L2
namespace L2
open PySem PySem.Spec PyProof.Rows
section
variable {prog : Program} {w : World} {A : Around} {E : Value -> Shared -> Prop} {s : Shared} {d : Addr} {es : Array (Int × Value)} {ep : Nat} {ns : List Nat}
end
end L2
namespace L2
open PySem PySem.Spec PyProof.Rows
section
variable {prog : Program} {w : World} {A : Around} {E : Value -> Shared -> Prop} {s : Shared} {d : Addr} {ns : List Nat}
end
end L2
namespace L2
open PySem PySem.Spec PyProof.Rows
section
variable {prog : Program} {w : World} {A : Around} {E : Value -> Shared -> Prop} {s : Shared}
end
end L2
namespace L2
open PySem PySem.Spec PyProof.Rows
open AutoSeq1 (wpAny_loadPart')
section
variable (l : Addr) (its : List Value) (n : Nat) (dd : Option Addr) (sl : Array (Option Value)) (t : Tok)
end
section
variable {prog : Program} {w : World} {A : Around} {E : Value -> Shared -> Prop} {s : Shared}
open HT in
end
end L2
namespace L2
open PySem PySem.Spec PyProof.Rows
open AutoSeq1 (wpAny_loadPart')
section
variable {prog : Program} {w : World} {A : Around} {E : Value -> Shared -> Prop} {s : Shared}
theorem collect_range {R : List Value -> Shared -> Prop} {r : Addr} {n : Nat} {t u v : Tok} (hh : A.handled = none) (hr : IsRange s.heap r 0 (n : Int) 1 t u v) (hn : n <= 1000)
  (h : ∀ (h' : Heap) (tk : Nat) (acc : Array Value), (∀ b o, s.heap.get? b = some o -> h'.get? b = some o) -> ItemsOf (fun i v => ∃ t, v = .int (i : Int) t) acc n -> R acc.toList { s with heap := h', toks := tk }) :
  wpAny (model prog w) A (collect (.ref r)) R E s := by
 have e2 : Builtin.Range.rangeSize 0 (n : Int) 1 = n := by rw [rangeSize_one]; split <;> omega
 unfold collect
 refine wpAny_bind (wpAny_runValue (codeAny_builtin entry_proto_collect' ?_))
 rw [Around.under_plainId PySem.F.plain_proto_collect _]
 refine wpAny_bind (m := newList []) (wpAny_newObj_type (wpAny_pure ⟨plainId_quiet PySem.F.plain_list_iadd _, codeAny_builtin entry_list_iadd' ?_⟩))
 rw [Around.under_plainId PySem.F.plain_list_iadd _]
 have g1 : (s.heap.push { cls := .type "list", data := .seq ([] : List Value).toArray }).get? s.heap.objs.size = some { cls := .type "list", data := .seq #[] } := Heap.get?_push_size _ rfl
 have key := wpAny_extend_range (prog := prog) (w := w) (A := A) (s := { s with heap := s.heap.push { cls := .type "list", data := .seq ([] : List Value).toArray } }) (n := n)
  (R := fun (q : Result) (s' : Shared) => ∃ (h' : Heap) (tk : Nat) (acc' : Array Value) (c' : Nat), q = .ok (.ret (.ref s.heap.objs.size)) /\ s' = { s with heap := h', toks := tk } /\ (∀ b o, s.heap.get? b = some o -> h'.get? b = some o) /\
   h'.get? s.heap.objs.size = some { cls := .type "list", dict := none, data := .seq acc' c', slots := #[] } /\ ItemsOf (fun i v => ∃ t, v = .int (i : Int) t) acc' n)
  hh (Heap.get?_push_of_some _ hr) (small_one (by omega) (by omega) (by exact Om.c2) (by exact Om.c1 ‹_› rfl)) e2 (by exact Om.b1 ‹_› rfl) s.heap.objs.size (.ref s.heap.objs.size) 0 g1
  fun h' tk acc' c' hk hS' hacc => ⟨h', tk, acc', c', rfl, rfl, fun b o e => hk b o (Nat.ne_of_lt (Heap.lt_size e)) (Heap.get?_push_of_some _ e), hS', hacc.1, fun i w hw => by
   obtain ⟨t', e⟩ := hacc.2 i w hw
   exact ⟨t', by rw [e, Int.zero_add, Int.mul_one]⟩⟩
 refine wpAny_mono key (fun fin s' x => ?_) fun e s' x => by obtain ⟨_, _, _, _, e', _⟩ := x; cases e'
 cases fin with
 | done f =>
  obtain ⟨h', tk, acc', c', e, rfl, hk, hS', hacc⟩ := x
  cases e
  exact wpAny_bind (m := load s.heap.objs.size) (wpAny_load hS' (wpAny_pure (h h' tk acc' hk hacc)))
 | again c1 =>
  refine ⟨x.1, codeAny_mono x.2 fun q s2 y => ?_⟩
  obtain ⟨h', tk, acc', c', rfl, rfl, hk, hS', hacc⟩ := y
  exact wpAny_bind (m := load s.heap.objs.size) (wpAny_load hS' (wpAny_pure (h h' tk acc' hk hacc)))
theorem tuple_range_new {R : Value -> Shared -> Prop} {r : Addr} {n : Nat} {t u v : Tok} (hh : A.handled = none) (hr : IsRange s.heap r 0 (n : Int) 1 t u v) (hn : n <= 1000)
  (h : ∀ (h1 : Heap) (tk : Nat) (acc : Array Value), (∀ b o, s.heap.get? b = some o -> h1.get? b = some o) -> ItemsOf (fun i v => ∃ t, v = .int (i : Int) t) acc n -> R (.ref h1.objs.size) { s with heap := h1.push { cls := .type "tuple", data := .seq acc }, toks := tk }) :
  wpAny (model prog w) A (Builtin.«tuple.__new__» ⟨[.type "tuple", .ref r], []⟩) (fun fin s' => ∃ v, fin = .done (.ret v) /\ R v s') E s := by
 obtain ⟨hp, g, d, tk, os⟩ := s
 have hsub := sub_tuple_self
 have hinit := init_tuple_lookup
 have hmh := madeHere_tuple
 have hT : Shared.TypeIs ⟨hp, g, d, tk, os⟩ (.ref r) "range" := ⟨_, hr, rfl⟩
 wp_walk using wpAny_loadPart' hr, wpAny_typeOf hT, collect_range hh hr hn
 intro h1 tk1 acc hk hi
 refine wpAny_bind (m := Builtin.Tuple.tupleExact acc.toList.toArray) ?_
 unfold Builtin.Tuple.tupleExact
 refine wpAny_newObj_type ?_ (by show acc.toList.toArray.size <= sizeLine; rw [show acc.toList.toArray = acc by simp, hi.1, sizeLine_eq]; exact Om.b1 ‹_› rfl)
 rw [show acc.toList.toArray = acc by simp]
 exact wpAny_pure ⟨_, rfl, h h1 tk1 acc hk hi⟩
theorem call_tuple_range {r : Addr} {n : Nat} {t u v : Tok} {Q : Value -> Shared -> Prop} (hh : A.handled = none) (hr : IsRange s.heap r 0 (n : Int) 1 t u v) (hn : n <= 1000)
  (h : ∀ (h1 : Heap) (tk : Nat) (acc : Array Value), (∀ b o, s.heap.get? b = some o -> h1.get? b = some o) -> ItemsOf (fun i v => ∃ t, v = .int (i : Int) t) acc n -> Q (.ref h1.objs.size) { s with heap := h1.push { cls := .type "tuple", data := .seq acc }, toks := tk }) :
  wpAny (model prog w) A (call (.type "tuple") [.ref r]) Q E s := by
 have g : Meets (Builtin.«tuple.__new__» ⟨[.type "tuple", .ref r], []⟩) (fun A R s => A.handled = none /\ IsRange s.heap r 0 (n : Int) 1 t u v /\ ∀ (h1 : Heap) (tk : Nat) (acc : Array Value), (∀ b o, s.heap.get? b = some o -> h1.get? b = some o) -> ItemsOf (fun i v => ∃ t, v = .int (i : Int) t) acc n -> R (.ok (.ret (.ref h1.objs.size))) { s with heap := h1.push { cls := .type "tuple", data := .seq acc }, toks := tk }) :=
  .of_wp fun prog w A R s h => by
   obtain ⟨h1, h2, h3⟩ := h
   exact tuple_range_new (R := fun v s' => R (.ok (.ret v)) s') (by simpa using h1) h2 hn h3
 exact callType_new F.called_tuple (by decide) (F.typeCall_tuple_1 _) (F.newCall_tuple_1 _) (fun obj => F.args_object_init_2 obj _) F.entry_tuple_new g
  ⟨by simpa using hh, hr, fun h1 tk acc hk hi => ⟨⟨_, Heap.get?_push_size _ rfl, rfl⟩, h h1 tk acc hk hi⟩⟩
theorem call_tupleR {X : Cx} (hc : X.calm = true) : CallR X (.type "tuple") (fun xs H Q => ∃ (p : Addr) (n : Nat), xs = [.ref p] /\ H p = some (.rng 0 n) /\ n <= 1000 /\ ∀ l, H l = none -> Q (.ref l) (upd H l (.tup (rng n)))) := by
 intro pins s σ H xs us Q I r h
 obtain ⟨p, n, rfl, hp, hn, q⟩ := h
 obtain ⟨u, rfl, rx⟩ := vals1 r
 cases rx
 obtain ⟨t, u, v, e⟩ := I.hok p _ hp
 refine call_tuple_range (n := n) (I.ok.hd hc) e hn fun h1 tk acc kp hi => ?_
 have I1 : Inv X pins σ H { s with heap := h1, toks := tk } := I.kept kp
 refine ⟨.ref h1.objs.size, _, I1.laid (t' := tk) (o := .tup (rng n)) (fun b o e => Heap.get?_push_of_some _ e) (Nat.le_refl _) (show ObjOk X.prog X.w _ _ _ (.tup (rng n)) from ⟨by rw [rng_len]; exact small6 hn, acc.toList, rng_vals n _ (by rw [Array.length_toList]; exact hi.1) fun j w ew => ?_, by simpa using IsTupN.new _ _⟩), rfl, q _ (I1.hok.fresh (Nat.le_refl _))⟩
 exact hi.2 j w (by simpa using ew)
end
end L2
namespace L2
open PySem PySem.Spec PyProof.Rows
section
variable {X : Cx} {o i : Expr} {pos : Pos} {td ty : TE}
end
end L2
namespace L2
open PySem PySem.Spec PyProof.Rows
theorem no2 {n a : Nat} (h : a < n) (e : a = n + 2) : False := by omega
theorem ne2 {n a b : Nat} (h : b < n) (e : a = n + 2) : a ≠ b := by omega
theorem add2 (n : Nat) : n + 2 ≠ n := by omega
theorem cells_none : ∀ (names : List (Str × NameKind)) (n : Nat) (acc : List (Str × Addr)) (h : Heap), names.filter (fun y => y.2 == .cell) = [] -> cellsFrom n names acc = acc /\ pushCells h names = h
 | [], _, _, _, _ => ⟨rfl, rfl⟩
 | (x, k) :: r, n, acc, h, e => by
  unfold cellsFrom pushCells
  cases hk : (k == NameKind.cell) with
  | true => rw [List.filter_cons_of_pos (by simpa using hk)] at e; cases e
  | false =>
   rw [List.filter_cons_of_neg (by simpa using hk)] at e
   simp only [Bool.false_eq_true, if_false]
   exact cells_none r n acc h e
theorem cells_one {x0 : Str} : ∀ (names : List (Str × NameKind)) (n : Nat) (acc : List (Str × Addr)) (h : Heap), names.filter (fun y => y.2 == .cell) = [(x0, .cell)] -> cellsFrom n names acc = (x0, n) :: acc /\ pushCells h names = h.push { cls := .type "cell", data := .cell none }
 | [], _, _, _, e => by cases e
 | (x, k) :: r, n, acc, h, e => by
  unfold cellsFrom pushCells
  cases hk : (k == NameKind.cell) with
  | true =>
   rw [List.filter_cons_of_pos (by simpa using hk)] at e
   injection e with e1 e2
   cases e1
   simp only [if_true]
   exact cells_none r (n + 1) ((x0, n) :: acc) _ e2
  | false =>
   rw [List.filter_cons_of_neg (by simpa using hk)] at e
   simp only [Bool.false_eq_true, if_false]
   exact cells_one r n acc h e
section
variable {M : Model} {A : Around} {E : Value -> Shared -> Prop} {s : Shared}
theorem newEnv_cell {scope : Scope} {globals : Addr} {closure : List (Str × Addr)} {qual : Str} {env : Env} {x0 : Str} {Q : Env -> Shared -> Prop} (h1 : scope.names.filter (fun y => y.2 == .cell) = [(x0, .cell)])
  (h : Q { scope, locals := s.heap.objs.size, globals, cells := (x0, s.heap.objs.size + 1) :: closure, qual, func := none, code := env.code, frame := env.frame, builtins := env.builtins } { s with heap := (s.heap.push { cls := .type "dict", data := .dict #[] }).push { cls := .type "cell", data := .cell none } }) :
  wpAny M A (newFunctionEnv scope globals closure [] qual none .none (some env)) Q E s := by
 simp only [newFunctionEnv, Option.isSome_some, if_true]
 refine wpAny_bind (wpAny_alloc ?_)
 refine wpAny_bind (wpAny_layCells _ (fun name kind cells => by cases hkc : kind == NameKind.cell <;> simp [hkc]) _ _ _ _ ?_)
 obtain ⟨e1, e2⟩ := cells_one scope.names (s.heap.push { cls := .type "dict", data := .dict #[] }).objs.size closure (s.heap.push { cls := .type "dict", data := .dict #[] }) h1
 rw [Heap.size_push] at e1
 show wpAny M A _ Q E { s with heap := pushCells (s.heap.push { cls := .type "dict", data := .dict #[] }) scope.names }
 rw [e2]
 rw [List.forIn_nil]
 refine wpAny_bind (wpAny_pure (wpAny_pure ?_))
 rw [show ({ s with heap := s.heap.push { cls := .type "dict", data := .dict #[] } } : Shared).heap.objs.size = s.heap.objs.size + 1 from Heap.size_push ..]
 rw [e1]
 exact h
end
noncomputable def cxCompC (X : Cx) (x0 : Str) (Nc : List Str) (scope : Scope) (cl : List (Str × Addr)) (C : Addr) (s₁ : Shared) (H₁ : Hp) (fp : List Addr) : Cx where
 prog := X.prog
 w := X.w
 K := X.K
 mg := X.mg
 base := X.base
 A := X.A
 N := Nc
 s₀ := s₁
 H₀ := H₁
 env := compEnvC scope cl C X.env
 outer := X.stack
 stack := X.stack
 ex := fp
 fn := fun x => x == x0
 calm := X.calm
 pn := []
 xe := fun _ _ => False
structure CaptC (X : Cx) (x0 : Str) (Nc : List Str) (scope : Scope) (fm : List (Option Nat)) : Prop where
 kind : scope.kind = .function
 one : scope.names.filter (fun y => y.2 == .cell) = [(x0, .cell)]
 nofr : (x0, NameKind.free) ∉ scope.names
 names : ∀ y ∈ scope.names, y.2 = .local -> scope.names.lookup y.1 = some .local
 free : ∀ y ∈ scope.names, y.2 = .free -> X.env.kindOf y.1 = some .cell \/ X.env.kindOf y.1 = some .free
 len : fm.length = Nc.length
 at_ : ∀ (p : Option Nat × Str), p ∈ fm.zip Nc -> ∀ j, p.1 = some j -> X.N[j]? = some p.2 /\ (p.2, NameKind.free) ∈ scope.names /\ scope.names.lookup p.2 = some .free
noncomputable def captOkC (N : List Str) (sc : Scope) (x0 : Str) (Nc : List Str) (scope : Scope) (fm : List (Option Nat)) : Bool :=
 decide (scope.kind = .function) && (decide (scope.names.filter (fun y => y.2 == .cell) = [(x0, .cell)]) && (decide ((x0, NameKind.free) ∉ scope.names) && (scope.names.all (fun y => (decide (y.2 ≠ .local) || decide (scope.names.lookup y.1 = some .local)) &&
  (decide (y.2 ≠ .free) || (decide (sc.names.lookup y.1 = some .cell) || decide (sc.names.lookup y.1 = some .free)))) && (decide (fm.length = Nc.length) &&
  (fm.zip Nc).all (fun p => match p.1 with
   | none => true
   | some j => decide (N[j]? = some p.2) && decide ((p.2, NameKind.free) ∈ scope.names) && decide (scope.names.lookup p.2 = some .free))))))
theorem captOkC.capt {X : Cx} {x0 : Str} {Nc : List Str} {scope : Scope} {fm : List (Option Nat)} (h : captOkC X.N X.env.scope x0 Nc scope fm = true) : CaptC X x0 Nc scope fm := by
 unfold captOkC at h
 rw [Bool.and_eq_true, Bool.and_eq_true, Bool.and_eq_true, Bool.and_eq_true, Bool.and_eq_true] at h
 obtain ⟨h1, h5, h6, h2, h3, h4⟩ := h
 rw [List.all_eq_true] at h2 h4
 have g : ∀ y ∈ scope.names, (y.2 ≠ .local \/ scope.names.lookup y.1 = some .local) /\ (y.2 ≠ .free \/ (X.env.scope.names.lookup y.1 = some .cell \/ X.env.scope.names.lookup y.1 = some .free)) := fun y hy => by
  have := h2 y hy
  simpa only [Bool.and_eq_true, Bool.or_eq_true, decide_eq_true_eq] using this
 refine ⟨of_decide_eq_true h1, of_decide_eq_true h5, of_decide_eq_true h6, fun y hy e => ?_, fun y hy e => ?_, of_decide_eq_true h3, fun p hp j e => ?_⟩
 ·rcases (g y hy).1 with z | z
  ·exact absurd e z
  ·exact z
 ·rcases (g y hy).2 with z | z
  ·exact absurd e z
  ·exact z
 ·have := h4 p hp
  obtain ⟨a, b⟩ := p
  cases e
  simp only [Bool.and_eq_true, decide_eq_true_eq] at this
  exact ⟨this.1.1, this.1.2, this.2⟩
theorem free_of_relabelC {env : Env} {x0 : Str} : ∀ {names : List (Str × NameKind)} {x : Str}, (∀ y ∈ names, y.2 = .cell -> y.1 = x0) ->
    ((names.map fun (n, k) => if (k == NameKind.free && env.scope.kind == .function && env.kindOf n == some .cell) then (n, NameKind.cell) else (n, k)).lookup x = some .cell \/
     (names.map fun (n, k) => if (k == NameKind.free && env.scope.kind == .function && env.kindOf n == some .cell) then (n, NameKind.cell) else (n, k)).lookup x = some .free) -> x = x0 \/ (x, NameKind.free) ∈ names
  | [], _, _, h => by simp at h
  | (n, k) :: r, x, hc, h => by
    have ih := @free_of_relabelC env x0 r x (fun y hy => hc y (List.mem_cons_of_mem _ hy))
    rw [List.map_cons] at h
    cases hx : x == n with
    | true =>
      have hxn : x = n := by simpa using hx
      dsimp only at h
      split at h
      · rename_i hk
        rw [Bool.and_eq_true, Bool.and_eq_true] at hk
        have : k = .free := by simpa using hk.1.1
        rw [hxn, this]
        exact .inr List.mem_cons_self
      · simp only [List.lookup_cons, hx] at h
        rcases h with h | h
        · cases h
          exact .inl (hxn.trans (hc (n, .cell) List.mem_cons_self rfl))
        · cases h
          rw [hxn]
          exact .inr List.mem_cons_self
    | false =>
      dsimp only at h
      split at h
      · simp only [List.lookup_cons, hx] at h
        exact (ih h).imp id (List.mem_cons_of_mem _)
      · simp only [List.lookup_cons, hx] at h
        exact (ih h).imp id (List.mem_cons_of_mem _)
section
variable {X : Cx} {pins : List (Addr × Obj)} {σ : St} {H₁ : Hp} {s₁ : Shared}
theorem comp_invC {x0 : Str} {Nc : List Str} {scope : Scope} {fm : List (Option Nat)} {fp : List Addr} {h₁ : Heap} {tk : Nat} {m : Str -> Option Value} (c : CaptC X x0 Nc scope fm) (I : Inv X pins σ H₁ s₁) (hf : ∀ b ∈ fp, FpOk X pins H₁ b) (hfp : ∀ b ∈ fp, b < s₁.heap.objs.size)
  (old : ∀ b o, s₁.heap.get? b = some o -> h₁.get? b = some o) (hD : h₁.get? s₁.heap.objs.size = some { cls := .type "list", data := .seq ([] : List Value).toArray }) (hns : h₁.Ns (s₁.heap.objs.size + 1) m) (hcl : h₁.IsCell (s₁.heap.objs.size + 2) none) :
  Inv (cxCompC X x0 Nc scope ((x0, s₁.heap.objs.size + 2) :: closOf X.env.cells scope.names []) (s₁.heap.objs.size + 1) s₁ H₁ fp) [] (capt fm σ) (upd H₁ s₁.heap.objs.size (.lst [])) { s₁ with heap := h₁, toks := tk } := by
 have hfree : ∀ y ∈ scope.names, y.2 = .free -> ∃ a, X.env.cells.lookup y.1 = some a := fun y hy e => I.ok.has y.1 (c.free y hy e)
 have sub0 : ∀ x a, (closOf X.env.cells scope.names []).lookup x = some a -> X.env.cells.lookup x = some a := closOf_sub _ _ hfree (fun x a e => by simp at e)
 have lt : ∀ x a, X.env.cells.lookup x = some a -> a < s₁.heap.objs.size := fun x a e => (I.cell x a e).elim fun v q => q.lt
 have look : ∀ x a, ((x0, s₁.heap.objs.size + 2) :: closOf X.env.cells scope.names []).lookup x = some a -> (x = x0 /\ a = s₁.heap.objs.size + 2) \/ X.env.cells.lookup x = some a := fun x a e => by
  rw [List.lookup_cons] at e
  cases hx : (x == x0) with
  | true =>
   rw [hx] at e
   cases e
   exact .inl ⟨by simpa using hx, rfl⟩
  | false =>
   rw [hx] at e
   exact .inr (sub0 x a e)
 have own : ∀ y ∈ scope.names, y.2 = .cell -> y.1 = x0 := fun y hy e => by
  have : y ∈ scope.names.filter (fun y => y.2 == .cell) := List.mem_filter.mpr ⟨hy, by rw [e]; rfl⟩
  rw [c.one] at this
  rw [List.mem_singleton.mp this]
 have hDn : H₁ s₁.heap.objs.size = none := I.hok.fresh (Nat.le_refl _)
 have hCn : H₁ (s₁.heap.objs.size + 1) = none := I.hok.fresh (Nat.le_succ _)
 have hLn : H₁ (s₁.heap.objs.size + 2) = none := I.hok.fresh (by omega)
 refine ⟨⟨I.ok.mod, c.kind, I.ok.glob, I.ok.blt, Nat.le_succ _, fun x y a e1 e2 => ?_, fun x hx => ?_, fun x a z e => ?_, I.ok.hd, I.ok.frames, .inl rfl, fun b hb => ?_, I.bs, Nat.le_trans I.ok.bsz I.sz, fun b o e hb => ?_, fun b hb hfs => ?_, I.stack, I.stkFree⟩,
  rfl, I.bare, Un.laid old (Nat.le_refl _) hDn, ⟨m, hns, fun i x v e1 e2 e3 => ?_⟩, fun x a e => ?_, ?_, fun x a e => ?_, fun p hp => absurd (show p ∈ ([] : List (Addr × Obj)) from hp) (by simp), ?_, ?_⟩
 ·rcases look x a e1 with ⟨z1, z2⟩ | z1
  ·rcases look y a e2 with ⟨w1, w2⟩ | w1
   ·rw [z1, w1]
   ·exact (no2 (lt y a w1) z2).elim
  ·rcases look y a e2 with ⟨w1, w2⟩ | w1
   ·exact (no2 (lt x a z1) w2).elim
   ·exact I.ok.inj x y a z1 w1
 ·show ∃ c, ((x0, s₁.heap.objs.size + 2) :: closOf X.env.cells scope.names []).lookup x = some c
  rw [List.lookup_cons]
  cases hx0 : (x == x0) with
  | true => exact ⟨_, rfl⟩
  | false =>
   rcases free_of_relabelC (env := X.env) own hx with z | z
   ·rw [z] at hx0
    simp at hx0
   ·exact closOf_has _ _ x (.inr z)
 ·have z' : x = x0 := by simpa using (show (x == x0) = true from z)
  rcases look x a e with ⟨_, w2⟩ | w
  ·show s₁.heap.objs.size <= a
   omega
  ·rw [show ((cxCompC X x0 Nc scope ((x0, s₁.heap.objs.size + 2) :: closOf X.env.cells scope.names []) (s₁.heap.objs.size + 1) s₁ H₁ fp)).env.cells.lookup x = ((x0, s₁.heap.objs.size + 2) :: closOf X.env.cells scope.names []).lookup x from rfl, List.lookup_cons, z'] at e
   simp at e
   show s₁.heap.objs.size <= a
   omega
 ·refine ⟨Nat.ne_of_lt (Nat.lt_succ_of_lt (hfp b hb)), fun x a e => ?_⟩
  rcases look x a e with ⟨_, w2⟩ | w
  ·exact ne2 (hfp b hb) w2
  ·exact (hf b hb).2.2.2.2.1 x a w
 ·rcases (hf b hb).2.2.2.1 with z | z
  ·exact I.ok.noex b o e z
  ·exact absurd (Nat.lt_of_lt_of_le (Heap.lt_size e) (Nat.le_trans I.ok.bsz z)) (Nat.lt_irrefl _)
 ·rcases List.mem_cons.mp (I.stkSub b hfs) with z | z
  ·exact (hf b hb).2.1 z
  ·exact (hf b hb).2.2.1 z
 ·-- the names taken over
  have hz : ∃ j, fm[i]? = some (some j) /\ σ[j]? = some (some v) := by
   unfold capt at e2
   rw [List.getElem?_map] at e2
   cases q : fm[i]? with
   | none => rw [q] at e2; cases e2
   | some o =>
    rw [q] at e2
    cases o with
    | none => cases e2
    | some j =>
     refine ⟨j, rfl, ?_⟩
     have e2' : (σ[j]?).join = some v := Option.some.inj e2
     cases q2 : σ[j]? with
     | none => rw [q2] at e2'; cases e2'
     | some u => rw [q2] at e2'; cases u with
      | none => cases e2'
      | some u => cases e2'; rfl
  obtain ⟨j, hfm, hσ⟩ := hz
  have hp : ((some j : Option Nat), x) ∈ fm.zip Nc := by
   have : (fm.zip Nc)[i]? = some (some j, x) := by rw [List.getElem?_zip_eq_some]; exact ⟨hfm, e1⟩
   exact List.mem_of_getElem? this
  obtain ⟨hN, hmem, hlk⟩ := c.at_ _ hp j rfl
  have hk := c.free _ hmem rfl
  obtain ⟨m0, hn0, hl0⟩ := I.loc
  have hvis : Vis X.env.scope x := hk.elim (fun z => .inr (.inl z)) (fun z => .inr (.inr z))
  obtain ⟨u, ru, lk⟩ := hl0 j x v hN hσ hvis
  have hx0 : (x == x0) = false := by
   cases q : (x == x0) with
   | false => rfl
   | true =>
    have q' : x = x0 := by simpa using q
    exact absurd (q' ▸ hmem) c.nofr
  refine ⟨u, ru, .inr ⟨lookup_relabel_free (env := X.env) hlk, ?_⟩⟩
  rcases lk with ⟨z, _⟩ | ⟨_, a, ea, o, ho, hd⟩
  ·rcases hk with q | q
   ·rw [show X.env.kindOf x = _ from q] at z; cases z
   ·rw [show X.env.kindOf x = _ from q] at z; cases z
  ·obtain ⟨a', ea'⟩ := closOf_has (cells := X.env.cells) scope.names [] x (.inr hmem)
   have := sub0 x a' ea'
   rw [ea] at this
   cases this
   refine ⟨a, ?_, o, old a o ho, hd⟩
   show ((x0, s₁.heap.objs.size + 2) :: closOf X.env.cells scope.names []).lookup x = some a
   rw [List.lookup_cons, hx0]
   exact ea'
 ·rcases look x a e with ⟨_, w2⟩ | w
  ·rw [w2]
   exact ⟨none, hcl⟩
  ·obtain ⟨v, o, ho, hd⟩ := I.cell x a w
   exact ⟨v, o, old a o ho, hd⟩
 ·show upd H₁ s₁.heap.objs.size (.lst []) (s₁.heap.objs.size + 1) = none
  rw [upd_ne (Nat.succ_ne_self _)]
  exact hCn
 ·show upd H₁ s₁.heap.objs.size (.lst []) a = none
  rcases look x a e with ⟨_, w2⟩ | w
  ·rw [w2, upd_ne (add2 _)]
   exact hLn
  ·rw [upd_ne (Nat.ne_of_lt (lt x a w))]
   exact I.freeC x a w
 ·exact I.hok.laid old (Nat.le_refl _) ⟨Nat.zero_le _, [], 0, .nil, hD⟩
 ·show (capt fm σ).length = Nc.length
  unfold capt
  rw [List.length_map]
  exact c.len
theorem comp_backC {x0 : Str} {Nc : List Str} {scope : Scope} {cl : List (Str × Addr)} {C : Addr} {fp : List Addr} {σ' : St} {H' : Hp} {s' : Shared} (I : Inv X pins σ H₁ s₁) (hf : ∀ b ∈ fp, FpOk X pins H₁ b) (J : Inv (cxCompC X x0 Nc scope cl C s₁ H₁ fp) [] σ' H' s') :
  Inv X pins σ H' s' := I.call' (ch := fp) J.os J.base J.hok J.bare fun b hb => ⟨(hf b hb).2.2.2.1, (hf b hb).2.1, (hf b hb).2.2.2.2.1, (hf b hb).2.2.2.2.2⟩
theorem comp_goC {x0 : Str} {Nc : List Str} {scope : Scope} {cl : List (Str × Addr)} {fp : List Addr} {σ' : St} {H' : Hp} {s' : Shared} {σ2 : St} {s2 : Shared} {h'' : Heap} (I : Inv X pins σ H₁ s₁) (J : Inv (cxCompC X x0 Nc scope cl (s₁.heap.objs.size + 1) s₁ H₁ fp) [] σ' H' s')
  (I2 : Inv X pins σ2 H' s2) (sb : Heap.SameBut (s₁.heap.objs.size + 1) s2.heap h'') : Inv X pins σ2 H' { s2 with heap := h'' } := by
 have hle : s₁.heap.objs.size <= s₁.heap.objs.size + 1 := Nat.le_succ _
 refine I2.turned (t' := s2.toks) (it := s₁.heap.objs.size + 1) (fun b o hb e => (sb.2 b hb).trans e) J.free (Nat.ne_of_gt (Nat.lt_of_lt_of_le I.lt hle)) (.inr (Nat.le_trans I.sz hle)) (fun x c e z => ?_) (fun p hp z => ?_)
 ·obtain ⟨v, q⟩ := I.cell x c e
  exact absurd (Nat.lt_of_lt_of_le q.lt (by rw [z]; exact hle)) (Nat.lt_irrefl _)
 ·exact absurd (Nat.lt_of_lt_of_le (Heap.lt_size (I.pin p hp).1) (by rw [z]; exact hle)) (Nat.lt_irrefl _)
theorem comp_blockC {elt tg iter : Expr} {ifs : List Expr} {scope : Scope} {pos : Pos} {x0 : Str} {Nc : List Str} {fm : List (Option Nat)} {g : TG} {tt : TT} {te : TE} {it : Addr} {fp : List Addr} {tn : Nat -> Heap -> Prop} {J : It} {Q : VK} {E : Value -> Shared -> Prop} {RR : Value -> Addr -> Result -> Shared -> Prop}
    (hc : X.calm = true) (c : CaptC X x0 Nc scope fm) (I : Inv X pins σ H₁ s₁) (T : Turn X.prog X.w X.K tg J fp it tn) (st : tn 0 s₁.heap) (hf : ∀ b ∈ fp, FpOk X pins H₁ b)
    (hg : ∀ cl C s₁ H₁ fp, PG (cxCompC X x0 Nc scope cl C s₁ H₁ fp) tg g) (ht : ∀ cl C s₁ H₁ fp, PTs (cxCompC X x0 Nc scope cl C s₁ H₁ fp) ifs tt) (he : ∀ cl C s₁ H₁ fp, PE (cxCompC X x0 Nc scope cl C s₁ H₁ fp) elt te)
    (h : ∀ l, H₁ l = none -> ∃ W : Nat -> Nat -> List V -> St -> Hp -> Prop, (∃ m, W 0 m [] (capt fm σ) (upd H₁ l (.lst []))) /\
      ∀ i m ys σ' H', W i m ys σ' H' -> H' l = some (.lst ys) /\
        ((J.stop i H' /\ Q (.ref l) H') \/
         (J.go i H' /\ ∃ N : List V -> St -> Hp -> Prop, (∀ zs σ2 H2, N zs σ2 H2 -> ∃ m', m' < m /\ W (i + 1) m' zs σ2 H2) /\ ∀ x H2, J.yld i H' x H2 -> g x σ' H2 fun σ3 H3 => tt σ3 H3 fun b H4 =>
            if b = true then te σ3 H4 fun y H5 => H5 l = some (.lst ys) /\ ys.length < sizeLine /\ N (ys ++ [y]) σ3 (upd H5 l (.lst (ys ++ [y])))
            else N ys σ3 H4)))
    (fin : ∀ σ' H' s', Inv (cxCompC X x0 Nc scope ((x0, s₁.heap.objs.size + 2) :: closOf X.env.cells scope.names []) (s₁.heap.objs.size + 1) s₁ H₁ fp) [] σ' H' s' -> Q (.ref s₁.heap.objs.size) H' -> RR (.ref s₁.heap.objs.size) (s₁.heap.objs.size + 1) (.ok .next) s') :
    wpAny (model X.prog X.w) X.A (newList []) (fun acc s₃ => wpAny (model X.prog X.w) X.A (newFunctionEnv scope X.env.globals (closOf X.env.cells scope.names []) [] X.env.qual none .none (some X.env)) (fun cenv s₄ =>
      codeAny (model X.prog X.w) X.A (.compStart (.ListComp elt [⟨tg, iter, ifs, 0⟩] scope pos) 0 (.ref it) acc { cenv with scope := relabel scope X.env }) (RR acc cenv.locals) s₄) E s₃) E s₁ := by
  have hfp : ∀ b ∈ fp, b < s₁.heap.objs.size := fun b hb => by
    obtain ⟨o, ho, _⟩ := T.obj 0 _ st b hb
    exact Heap.lt_size ho
  refine wpAny_newObj_type (newEnv_cell c.one ?_)
  dsimp only
  generalize hH2 : s₁.heap.push { cls := .type "list", dict := none, data := .seq ([] : List Value).toArray } = H2
  have hC : H2.objs.size = s₁.heap.objs.size + 1 := by rw [<- hH2, Heap.size_push]
  show codeAny _ _ (.compStart _ 0 _ _ (compEnvC scope ((x0, H2.objs.size + 1) :: closOf X.env.cells scope.names []) H2.objs.size X.env)) (RR _ H2.objs.size) _
  have hns₁ : ((H2.push { cls := .type "dict", data := .dict #[] }).push { cls := .type "cell", data := .cell none }).Ns (s₁.heap.objs.size + 1) (fun _ => none) := by
    rw [<- hC]
    exact (Heap.Ns.new H2 (.type "dict")).keeps fun b o e => Heap.get?_push_of_some _ e
  have old2 : ∀ b o, H2.get? b = some o -> ((H2.push { cls := .type "dict", data := .dict #[] }).push { cls := .type "cell", data := .cell none }).get? b = some o := fun b o e => Heap.get?_push_of_some _ (Heap.get?_push_of_some _ e)
  have hcl : ((H2.push { cls := .type "dict", data := .dict #[] }).push { cls := .type "cell", data := .cell none }).IsCell (s₁.heap.objs.size + 2) none := by
    have e : s₁.heap.objs.size + 2 = (H2.push { cls := .type "dict", data := .dict #[] }).objs.size := by rw [Heap.size_push, hC]
    rw [e]
    exact ⟨_, Heap.get?_push_size _ rfl, rfl⟩
  generalize ((H2.push { cls := .type "dict", data := .dict #[] }).push { cls := .type "cell", data := .cell none }) = h₁ at hns₁ old2 hcl ⊢
  rw [hC]
  have old : ∀ b o, s₁.heap.get? b = some o -> h₁.get? b = some o := fun b o e => old2 b o (hH2 ▸ Heap.get?_push_of_some _ e)
  have hD : h₁.get? s₁.heap.objs.size = some { cls := .type "list", data := .seq ([] : List Value).toArray } := old2 _ _ (hH2 ▸ Heap.get?_push_size _ rfl)
  have st1 : tn 0 h₁ := T.keep _ _ _ st fun b _ o e => old b o e
  have hDn : H₁ s₁.heap.objs.size = none := I.hok.fresh (Nat.le_refl _)
  obtain ⟨W, ⟨m0, w0⟩, turn⟩ := h _ hDn
  have loop : ∀ tk : Nat, codeAny (model X.prog X.w) X.A (.compLoop (.ListComp elt [⟨tg, iter, ifs, 0⟩] scope pos) 0 (.ref it) (.ref s₁.heap.objs.size) (compEnvC scope ((x0, s₁.heap.objs.size + 2) :: closOf X.env.cells scope.names []) (s₁.heap.objs.size + 1) X.env))
      (RR (.ref s₁.heap.objs.size) (s₁.heap.objs.size + 1)) { s₁ with heap := h₁, toks := tk } := by
    intro tk
    have I0 := comp_invC (tk := tk) c I hf hfp old hD hns₁ hcl
    have stat : ∀ {H' : Hp}, (∀ b ∈ fp, H' b = none) -> ∀ b ∈ fp, FpOk (cxCompC X x0 Nc scope ((x0, s₁.heap.objs.size + 2) :: closOf X.env.cells scope.names []) (s₁.heap.objs.size + 1) s₁ H₁ fp) [] H' b := fun hn b hb =>
      ⟨hn b hb, (I0.ok.exf b hb).1, I0.ok.exfs b hb, .inl hb, (I0.ok.exf b hb).2, fun p hp => absurd (show p ∈ ([] : List (Addr × Obj)) from hp) (by simp)⟩
    refine compLoop_T (fun n s' => ∃ i ys σ' H', Inv (cxCompC X x0 Nc scope ((x0, s₁.heap.objs.size + 2) :: closOf X.env.cells scope.names []) (s₁.heap.objs.size + 1) s₁ H₁ fp) [] σ' H' s' /\ tn i s'.heap /\ (∀ b ∈ fp, H' b = none) /\ W i n ys σ' H') ?_ m0
      ⟨0, [], _, _, I0, st1, fun b hb => by rw [upd_ne (Nat.ne_of_lt (hfp b hb))]; exact (hf b hb).1, w0⟩
    rintro n s3 ⟨i, ys, σ3, H3, I3, st3, fr3, w3⟩
    obtain ⟨hl, alt⟩ := turn i n ys σ3 H3 w3
    rcases alt with ⟨stop, qn⟩ | ⟨go, N, hN, step⟩
    · refine thn (T.done (cxCompC X x0 Nc scope ((x0, s₁.heap.objs.size + 2) :: closOf X.env.cells scope.names []) (s₁.heap.objs.size + 1) s₁ H₁ fp) rfl rfl rfl hc i [] s3 σ3 H3 NoX I3 (stat fr3) st3 stop) fun r s4 ⟨hr, I4⟩ => ?_
      subst hr
      exact fin σ3 H3 s4 I4 qn
    · refine thn (T.item (cxCompC X x0 Nc scope ((x0, s₁.heap.objs.size + 2) :: closOf X.env.cells scope.names []) (s₁.heap.objs.size + 1) s₁ H₁ fp) rfl rfl rfl hc i [] s3 σ3 H3 NoX I3 (stat fr3) st3 go) fun r s4 ⟨u, hr, h4⟩ => ?_
      subst hr
      refine thn h4 fun _ s5 ⟨x, H5, I5, r5, y5, st5, fr5⟩ => ?_
      have I5' := I5.pinned (stat fr5) (T.obj _ _ st5)
      have again : ∀ {σ7 : St} {H7 : Hp} {s7 : Shared} {zs : List V} {m' : Nat}, Inv (cxCompC X x0 Nc scope ((x0, s₁.heap.objs.size + 2) :: closOf X.env.cells scope.names []) (s₁.heap.objs.size + 1) s₁ H₁ fp) ([] ++ pinsAt fp s5.heap) σ7 H7 s7 -> m' < n -> W (i + 1) m' zs σ7 H7 ->
          ∃ m, m < n /\ ∃ i ys σ' H', Inv (cxCompC X x0 Nc scope ((x0, s₁.heap.objs.size + 2) :: closOf X.env.cells scope.names []) (s₁.heap.objs.size + 1) s₁ H₁ fp) [] σ' H' s7 /\ tn i s7.heap /\ (∀ b ∈ fp, H' b = none) /\ W i m ys σ' H' := fun {σ7 H7 s7 zs m'} I7 hm w7 => by
        refine ⟨m', hm, i + 1, zs, σ7, H7, I7.unpinned, T.keep _ _ _ st5 fun b hb o e => (I7.pin (b, o) (List.mem_append_right _ (List.mem_append_right _ (mem_pinsAt hb e)))).1, fun b hb => ?_, w7⟩
        obtain ⟨o, e, d⟩ := T.obj _ _ st5 b hb
        exact (I7.pin (b, o) (List.mem_append_right _ (List.mem_append_right _ (mem_pinsAt hb e)))).2.1
      refine thn (hg _ _ _ _ _ _ s5 σ3 H5 x u _ I5' r5 (step x H5 y5)) fun _ s6 ⟨σ6, H6, I6, q6⟩ => ?_
      refine thn (ht _ _ _ _ _ _ s6 σ6 H6 _ I6 q6) fun ok s7 ⟨H7, I7, q7⟩ => ?_
      cases ok with
      | false =>
        rw [if_neg Bool.false_ne_true] at q7 ⊢
        obtain ⟨m', hm, w7⟩ := hN _ _ _ q7
        exact again I7 hm w7
      | true =>
        rw [if_pos rfl] at q7 ⊢
        refine thn (he _ _ _ _ _ _ s7 σ6 H7 _ I7 q7) fun y s8 ⟨v8, H8, I8, r8, hl8, hz8, n8⟩ => ?_
        obtain ⟨m', hm, w8⟩ := hN _ _ _ n8
        refine thn (mt_append _ s8 σ6 H8 (.ref s₁.heap.objs.size) [v8] (.ref s₁.heap.objs.size) [y] (fun v H' => H' = upd H8 s₁.heap.objs.size (.lst (ys ++ [v8]))) I8 rfl (.cons r8 .nil) ⟨_, ys, v8, rfl, rfl, hl8, hz8, rfl⟩) fun _ s9 ⟨_, H9, I9, _, e9⟩ => ?_
        subst e9
        exact again I9 hm w8
  exact codeAny_compStart_list (loop _) (T.self _ 0 _ _ _ st1 (loop _))
end
section
variable {X : Cx} {elt tg iter : Expr} {ifs : List Expr} {scope : Scope} {pos spos : Pos} {wi : TI} {g : TG} {tt : TT} {te : TE}
theorem pe_lcC (x0 : Str) (Nc : List Str) (fm : List (Option Nat)) (hc : X.calm = true) (hk : captOkC X.N X.env.scope x0 Nc scope fm = true) (hi : PI X tg iter wi)
  (hg : ∀ cl C s₁ H₁ fp, PG (cxCompC X x0 Nc scope cl C s₁ H₁ fp) tg g) (ht : ∀ cl C s₁ H₁ fp, PTs (cxCompC X x0 Nc scope cl C s₁ H₁ fp) ifs tt) (he : ∀ cl C s₁ H₁ fp, PE (cxCompC X x0 Nc scope cl C s₁ H₁ fp) elt te)
  (hs : ∀ x, foldedSetIterable iter X.env x = pure x := by intro _; rfl) : PE X (.ListComp elt [⟨tg, iter, ifs, 0⟩] scope pos) (tComp fm wi g tt te) := by
 intro pins s σ H Q I h
 have c := captOkC.capt hk
 rw [eval_ListComp]
 refine wpAny_comprehension_free (use := none) rfl hs (closureFor_eq fun y hy e => I.ok.has y.1 (c.free y hy e)) c.kind c.names (thn (hi pins s σ H _ I h) fun v s1 h1 => thn h1 fun itv s2 h2 => ?_)
 obtain ⟨it, fp, tn, J, H2, e, I2, T, st2, f2, h⟩ := h2
 subst e
 refine comp_blockC (RR := fun acc C => compPost (model X.prog X.w) X.A X.xe none (EP X pins σ Q) acc C) hc c I2 T st2 f2 hg ht he h fun σ' H' s' J' q => ?_
 obtain ⟨m, hn, _⟩ := J'.loc
 exact ⟨m, hn, fun h'' sb => ⟨.ref s2.heap.objs.size, H', comp_goC I2 J' (comp_backC I2 f2 J') sb, rfl, q⟩⟩
end
theorem pg_own {X : Cx} {x0 : Str} {Nc : List Str} {scope : Scope} {cl : List (Str × Addr)} {C : Addr} {s₁ : Shared} {H₁ : Hp} {fp : List Addr} (i : Nat) {pos : Pos} (hN : Nc.Nodup := by decide +kernel) (hi : Nc[i]? = some x0 := by rfl)
  (hx : (relabel scope X.env).names.lookup x0 = some .cell := by rfl) : PG (cxCompC X x0 Nc scope cl C s₁ H₁ fp) (.Name x0 pos) (gName i) := pg_name hN hi (.inr hx) (.inl (by show (x0 == x0) = true; simp))
end L2
namespace L2
open PySem PySem.Spec PyProof.Rows
section
variable {prog : Program} {w : World} {A : Around} {E : Value -> Shared -> Prop} {s : Shared}
theorem intsAre_len : ∀ {vs : List Value} {ns : List Int}, IntsAre vs ns -> vs.length = ns.length
 | _, _, .nil => rfl
 | _, _, .cons _ _ r => by rw [List.length_cons, List.length_cons, intsAre_len r]
theorem intsAre_at : ∀ {vs : List Value} {ns : List Int}, IntsAre vs ns -> ∀ (j : Nat) (h : j < ns.length), ∃ t, vs[j]? = some (.int ns[j] t)
 | _, _, .cons n t r, 0, _ => ⟨t, rfl⟩
 | _, _, .cons n t r, j + 1, h => intsAre_at r j (Nat.lt_of_succ_lt_succ h)
theorem idx_before {k : Int} : ∀ {ns : List Int} {j : Nat}, j < ns.idxOf k -> ∀ (h2 : j < ns.length), (ns[j] == k) = false := fun h h2 => PyProof.Rows.ne_of_lt_idxOf h h2
theorem tuple_index_tree {t : Addr} {items : Array Value} {ns : List Int} {x : Int} {u : Tok} {P : Fin -> Shared -> Prop} (ht : IsTup s.heap t items) (hi : IntsAre items.toList ns) (hk : x ∈ ns)
  (h : P (.done (.ret (.int ((ns.idxOf x : Nat) : Int) s.toks))) { s with toks := s.toks + 1 }) : wpAny (model prog w) A (Builtin.«tuple.index» ⟨[.ref t, .int x u], []⟩) P E s := by
 have hlen : items.size = ns.length := by rw [<- Array.length_toList]; exact intsAre_len hi
 have hj : ns.idxOf x < ns.length := List.idxOf_lt_length_iff.mpr hk
 show wpAny _ _ (Builtin.Tuple.tupleItemsOf (.ref t) >>= _) _ _ s
 refine wpAny_bind (tupleItemsOf_ ht ?_)
 show wpAny _ _ (forIn [0:min items.size items.size] _ _ >>= _) _ _ s
 rw [Std.Legacy.Range.forIn_eq_forIn_range']
 simp only [Std.Legacy.Range.size, Nat.sub_zero, Nat.add_sub_cancel, Nat.div_one, Nat.min_self]
 refine wpAny_bind (wpAny_forIn_list _
   (fun rest b s' => b.1 = none /\ s' = s /\ ∃ i, rest = List.range' i (items.size - i) /\ i <= ns.idxOf x)
   _ ?_ ?_ _ _ ⟨rfl, rfl, 0, by simp, Nat.zero_le _⟩)
 ·rintro y rest b s' ⟨hb, rfl, i, hr, hle⟩
  have e : items.size - i = (items.size - (i + 1)) + 1 := by omega
  rw [e, List.range'_succ] at hr
  injection hr with h1 h2
  subst h1
  obtain ⟨tk, hy⟩ := intsAre_at hi y (by omega)
  rw [Array.getElem?_toList] at hy
  simp only [hy]
  refine wpAny_bind (wpAny_eqBool_int ?_)
  cases hnx : (ns[y]'(by omega) == x) with
  | true =>
   have hyi : y = ns.idxOf x := by
    rcases Nat.lt_or_ge y (ns.idxOf x) with z | z
    ·rw [idx_before z (by omega)] at hnx
     cases hnx
    ·omega
   subst hyi
   exact wpAny_bind (wpAny_bind (wpAny_mkInt (wpAny_pure (wpAny_pure (wpAny_pure h)))))
  | false =>
   refine wpAny_pure ⟨rfl, rfl, y + 1, h2, ?_⟩
   rcases Nat.lt_or_ge y (ns.idxOf x) with z | z
   ·exact z
   ·have : y = ns.idxOf x := by omega
    subst this
    have := List.getElem_idxOf hj
    rw [this] at hnx
    simp at hnx
 ·rintro ⟨b1, b2⟩ s' ⟨hb, rfl, i, hr, hle⟩
  have : items.size - i = 0 := by
   cases hz : items.size - i with
   | zero => rfl
   | succ m => rw [hz, List.range'_succ] at hr; cases hr
  omega
end
noncomputable def tIdx (to : TE) (t : TA) : TE := fun σ H Q => to σ H fun x H1 => ∃ (p : Addr) (ns : List Int), x = .ref p /\ H1 p = some (.tup (ns.map V.int)) /\ t σ H1 fun xs H2 => ∃ k : Int, xs = [.int k] /\ H2 p = some (.tup (ns.map V.int)) /\ k ∈ ns /\ Q (.int ((ns.idxOf k : Nat) : Int)) H2
section
variable {X : Cx} {o e : Expr} {to : TE} {t : TA} {apos cpos : Pos}
theorem pe_tindex (ho : PE X o to) (ha : PA X [e] t)
  (hbase : attributeBase o "index" X.env (eval o X.env) = eval o X.env := by rfl)
  (hfew : ((backTo cpos (starEach [e] X.env)).all (fun x => !x.1) && (backToKw cpos (keywordEach [] X.env)).all (fun x => x.1.isSome)
   && decide ([e].length + ([] : List Keyword).length + (if ([] : List Keyword).isEmpty then 0 else 1) < 30)) = true := by rfl)
  (hline : (apos.endLine == cpos.line) = true := by rfl) (hs : starEach [e] X.env = (false, eval e X.env) :: starEach [] X.env := by rfl) (hplain : (backTo cpos (starEach [] X.env)).any (·.1) = false := by rfl) :
  PE X (.Call (.Attribute o "index" apos) [e] [] cpos) (tIdx to t) := by
 intro pins s σ H Q I h
 refine wpAny_Call_method_late hbase hfew hline rfl (thn (ho pins s σ H _ I h) fun v s1 ⟨x, H1, I1, r1, q1⟩ => ?_)
 obtain ⟨p, ns, rfl, hp, q1⟩ := q1
 cases r1
 obtain ⟨_, its, _, pl⟩ := I1.hok p _ hp
 have pl : IsTupN s1.heap p its.toArray := pl
 refine ⟨"tuple", "tuple.index", F.plainAttrs_tuple, F.slot_tuple_index, F.type_tuple_index, pl.is.typeIs, fun a e => (by cases e; exact pl.bare), ?_⟩
 have hA := ha cpos pins s1 σ H1 _ I1 q1
 rw [hs] at hA ⊢
 refine Calls.callWith_builtin (by show (false || (backTo cpos (starEach [] X.env)).any (·.1)) = false; rw [hplain] <;> rfl) (Calls.evalArgs_plain ?_)
 refine thn hA fun us s2 ⟨vs, H2, I2, r2, q2⟩ => ?_
 obtain ⟨k, rfl, hp2, hk, q⟩ := q2
 obtain ⟨u, rfl, t, rfl⟩ := r2.one
 obtain ⟨_, its2, rv, pl2⟩ := I2.hok p _ hp2
 have pl2 : IsTupN s2.heap p its2.toArray := pl2
 exact wpAny_call_entry F.slot_tuple_index pl2.is.typeIs F.entry_tuple_index (tuple_index_tree pl2.is (intsAre_of rv) hk ⟨_, rfl, .int _, H2, I2.tok _, ⟨_, rfl⟩, q⟩) (F.args_tuple_index_2 _ _)
end
end L2
namespace My
open PySem L2
theorem pg_tupK {X : Cx} {pos : Pos} {es : List Expr} {k : Nat} {t : TGs} {n : Nat} (K : PySem.W.Frag) (hc : X.calm = true) (h : PGs X es t) (hK : X.K = K := by rfl)
  (hn : (assignEach es X.env).length = n := by rfl) (hst : (assignEach es X.env).findIdx? (·.1) = none := by rfl) : PG X (.Tuple es k pos) (gTup K n t) := by subst hK; exact pg_tup hc h hn hst
end My
namespace L2
open PySem PySem.Spec PyProof.Rows
open PySem.SeqAt
noncomputable def rIndexL : V -> List V -> Hp -> VK -> Prop := fun x vs H Q => ∃ (l : Addr) (ns : List Int) (k : Int), x = .ref l /\ vs = [.int k] /\ H l = some (.lst (ns.map V.int)) /\ k ∈ ns /\ Q (.int ((ns.idxOf k : Nat) : Int)) H
theorem mt_lindex {X : Cx} : MtM X "list.index" rIndexL := by
 intro pins s σ H x vs v us Q I rx rv h
 obtain ⟨l, ns, k, rfl, rfl, hH, hk, q⟩ := h
 cases rx
 obtain ⟨u, rfl, t, rfl⟩ := rv.one
 obtain ⟨z, its, n, r, hl, e⟩ := I.lstM hH
 have hi : IntsAre its ns := intsAre_of r
 have hlen : its.length = ns.length := intsAre_len hi
 have hj : ns.idxOf k < ns.length := List.idxOf_lt_length_iff.mpr hk
 have hb := line63
 have hz : ns.length <= sizeLine := by have := z; rw [<- hlen]; exact Om.y2 ‹_› ‹_› rfl
 refine call_meets PySem.F.slot_list_index ⟨_, e, rfl⟩ PySem.F.entry_list_index (PySem.F.args_list_index_2 _ _)
  (list_indexAt l its.toArray n none #[] (.int k t) (isInt k) (ns.idxOf k) (by simpa [hlen] using hj) (by omega) ?_ ?_) ⟨e, fun y hy => (eq_isInt k t hi y (by simpa using hy)).at _ _, .int _, H, I.tok _, ⟨_, rfl⟩, q⟩
 ·show isInt k its[ns.idxOf k] = true
  rw [isInt_at k hi _ (by exact Om.a1 ‹_› ‹_›) hj]
  simpa using List.getElem_idxOf hj
 ·intro j hjs hlt
  show isInt k its[j] = false
  rw [isInt_at k hi j (by simpa using hjs) (by omega)]
  exact ne_of_lt_idxOf hlt _
end L2
namespace My
noncomputable abbrev HS := List (Int × Nat)
noncomputable def look (hs : HS) (x : Int) : Option Nat := (hs.find? fun p => decide (p.1 = x)).map (·.2)
noncomputable def putH (hs : HS) (x : Int) (w : Nat) : HS := if (hs.any fun p => decide (p.1 = x)) = true then hs.map (fun p => if p.1 = x then (p.1, w) else p) else hs ++ [(x, w)]
noncomputable def keysH (hs : HS) : List Int := hs.map (·.1)
theorem look_nil (x : Int) : look [] x = none := rfl
theorem look_pos {p : Int × Nat} {r : HS} {x : Int} (e : p.1 = x) : look (p :: r) x = some p.2 := by simp [look, List.find?_cons, e]
theorem look_neg {p : Int × Nat} {r : HS} {x : Int} (e : ¬ p.1 = x) : look (p :: r) x = look r x := by simp [look, List.find?_cons, e]
theorem look_none {x : Int} : ∀ {hs : HS}, look hs x = none ↔ x ∉ keysH hs
 | [] => by simp [look_nil, keysH]
 | p :: r => by
  by_cases e : p.1 = x
  ·rw [look_pos e]
   simp [keysH, e]
  ·rw [look_neg e, look_none]
   simp only [keysH, List.map_cons, List.mem_cons, not_or]
   exact ⟨fun h => ⟨fun z => e z.symm, h⟩, fun h => h.2⟩
theorem look_mem {x : Int} {v : Nat} : ∀ {hs : HS}, look hs x = some v -> (x, v) ∈ hs
 | [], h => by cases h
 | p :: r, h => by
  by_cases e : p.1 = x
  ·rw [look_pos e] at h
   cases h
   rw [<- e]
   exact List.mem_cons_self
  ·rw [look_neg e] at h
   exact List.mem_cons_of_mem _ (look_mem h)
theorem look_of_mem {x : Int} {v : Nat} : ∀ {hs : HS}, (keysH hs).Nodup -> (x, v) ∈ hs -> look hs x = some v
 | [], _, h => by cases h
 | p :: r, nd, h => by
  rcases List.mem_cons.mp h with z | z
  ·rw [look_pos (by rw [<- z])]
   rw [<- z]
  ·have hn : p.1 ∉ keysH r := (List.nodup_cons.mp nd).1
   have : ¬ p.1 = x := fun e => hn (by rw [e]; exact List.mem_map.mpr ⟨_, z, rfl⟩)
   rw [look_neg this]
   exact look_of_mem (List.nodup_cons.mp nd).2 z
theorem any_look (x : Int) : ∀ hs : HS, (hs.any fun p => decide (p.1 = x)) = (look hs x).isSome
 | [] => rfl
 | p :: r => by
  rw [List.any_cons]
  by_cases e : p.1 = x
  ·simp only [look_pos e, decide_eq_true e, Bool.true_or, Option.isSome_some]
  ·rw [look_neg e, decide_eq_false e, Bool.false_or]
   exact any_look x r
theorem look_map (x y : Int) (w : Nat) : ∀ hs : HS, look (hs.map fun p => if p.1 = x then (p.1, w) else p) y = (look hs y).map fun v => if y = x then w else v
 | [] => rfl
 | p :: r => by
  rw [List.map_cons]
  by_cases h : p.1 = x
  ·rw [if_pos h]
   by_cases e : p.1 = y
   ·rw [look_pos (p := (p.1, w)) e, look_pos e, Option.map_some, if_pos (e.symm.trans h)]
   ·rw [look_neg (p := (p.1, w)) e, look_neg e, look_map x y w r]
  ·rw [if_neg h]
   by_cases e : p.1 = y
   ·rw [look_pos e, look_pos e, Option.map_some, if_neg (fun z => h (e.trans z))]
   ·rw [look_neg e, look_neg e, look_map x y w r]
theorem look_snoc (x y : Int) (w : Nat) : ∀ hs : HS, look hs x = none -> look (hs ++ [(x, w)]) y = if y = x then some w else look hs y
 | [], _ => by
  by_cases e : x = y
  ·rw [if_pos e.symm]; exact look_pos (p := (x, w)) e
  ·rw [if_neg (fun z => e z.symm)]; exact look_neg (p := (x, w)) e
 | p :: r, hn => by
  rw [List.cons_append]
  have hk : ¬ p.1 = x := fun z => by rw [look_pos z] at hn; cases hn
  rw [look_neg hk] at hn
  by_cases e : p.1 = y
  ·rw [look_pos e, look_pos e, if_neg (fun z => hk (e.trans z))]
  ·rw [look_neg e, look_neg e, look_snoc x y w r hn]
theorem look_put (hs : HS) (x y : Int) (w : Nat) : look (putH hs x w) y = if y = x then some w else look hs y := by
 unfold putH
 rw [any_look]
 cases q : look hs x with
 | none =>
  rw [if_neg (by decide)]
  exact look_snoc x y w hs q
 | some v =>
  rw [if_pos (show (some v).isSome = true from rfl), look_map]
  by_cases e : y = x
  ·rw [if_pos e, e, q, Option.map_some, if_pos rfl]
  ·rw [if_neg e]
   cases look hs y with
   | none => rfl
   | some u => rw [Option.map_some, if_neg e]
theorem keys_map (x : Int) (w : Nat) (hs : HS) : keysH (hs.map fun p => if p.1 = x then (p.1, w) else p) = keysH hs := by
 unfold keysH
 rw [List.map_map]
 refine List.map_congr_left fun p _ => ?_
 show (if p.1 = x then (p.1, w) else p).1 = p.1
 split <;> rfl
theorem nodup_put {hs : HS} (x : Int) (w : Nat) (h : (keysH hs).Nodup) : (keysH (putH hs x w)).Nodup := by
 unfold putH
 rw [any_look]
 cases q : look hs x with
 | none =>
  rw [if_neg (by decide)]
  unfold keysH
  rw [List.map_append]
  refine List.nodup_append.mpr ⟨h, by simp, fun a ha b hb => ?_⟩
  rw [List.map_cons, List.map_nil, List.mem_singleton] at hb
  rintro rfl
  have hb' : a = x := hb
  exact look_none.mp q (hb' ▸ ha)
 | some v =>
  rw [if_pos (show (some v).isSome = true from rfl), keys_map]
  exact h
theorem mem_put {hs : HS} {x : Int} {w : Nat} {p : Int × Nat} (h : p ∈ putH hs x w) : p ∈ hs \/ p = (x, w) := by
 unfold putH at h
 split at h
 ·obtain ⟨q, hq, e⟩ := List.mem_map.mp h
  split at e
  ·next z => rw [<- e, z]; exact .inr rfl
  ·rw [<- e]; exact .inl hq
 ·rcases List.mem_append.mp h with z | z
  ·exact .inl z
  ·exact .inr (List.mem_singleton.mp z)
noncomputable def cnt (hs : HS) (ts : List Int) (v : Nat) : Nat := hs.countP fun p => decide (p.1 ∉ ts) && decide (p.2 = v)
theorem cnt_one {y : Int} {ts : List Int} (hy : y ∉ ts) (v : Nat) : ∀ {hs : HS}, (keysH hs).Nodup -> cnt hs ts v = cnt hs (ts ++ [y]) v + if look hs y = some v then 1 else 0
 | [], _ => by
  rw [look_nil, if_neg (by intro z; cases z)]
  rfl
 | p :: r, nd => by
  have ih := cnt_one hy v (List.nodup_cons.mp nd).2
  unfold cnt at ih ⊢
  rw [List.countP_cons, List.countP_cons]
  by_cases e : p.1 = y
  ·have hn : look r y = none := look_none.mpr (e ▸ (List.nodup_cons.mp nd).1)
   rw [hn, if_neg (by intro z; cases z), Nat.add_zero] at ih
   rw [look_pos e, ih]
   have h1 : (decide (p.1 ∉ ts ++ [y]) && decide (p.2 = v)) = false := by
    rw [decide_eq_false (by rw [e]; simp), Bool.false_and]
   have h2 : decide (p.1 ∉ ts) = true := decide_eq_true (by rw [e]; exact hy)
   rw [h1, h2, Bool.true_and, if_neg Bool.false_ne_true, Nat.add_zero]
   by_cases z : p.2 = v
   ·rw [if_pos (decide_eq_true z), if_pos (by rw [z])]
   ·rw [if_neg (by rw [decide_eq_false z]; exact Bool.false_ne_true), if_neg (fun q => z (Option.some.inj q))]
  ·rw [look_neg e, ih]
   have h1 : (decide (p.1 ∉ ts ++ [y]) && decide (p.2 = v)) = (decide (p.1 ∉ ts) && decide (p.2 = v)) := by
    congr 1
    refine decide_eq_decide.mpr ⟨fun h z => h (List.mem_append_left _ z), fun h z => ?_⟩
    rcases List.mem_append.mp z with z | z
    ·exact h z
    ·exact e (List.mem_singleton.mp z)
   rw [h1]
   omega
theorem cnt_many {v : Nat} {hs : HS} (nd : (keysH hs).Nodup) : ∀ {new ts : List Int}, (ts ++ new).Nodup -> cnt hs ts v = cnt hs (ts ++ new) v + new.countP fun y => decide (look hs y = some v)
 | [], ts, _ => by rw [List.append_nil]; rfl
 | y :: new, ts, h => by
  have e : ts ++ y :: new = (ts ++ [y]) ++ new := by rw [List.append_assoc]; rfl
  rw [e] at h ⊢
  have hy : y ∉ ts := fun z => by
   have := (List.nodup_append.mp (List.nodup_append.mp h).1).2.2 y z y (by simp)
   exact this rfl
  rw [cnt_one hy v nd, cnt_many nd h, List.countP_cons]
  by_cases q : look hs y = some v
  ·rw [if_pos q, if_pos (decide_eq_true q)]
   omega
  ·rw [if_neg q, if_neg (by rw [decide_eq_false q]; exact Bool.false_ne_true)]
   omega
theorem cnt_put {y : Int} {ts : List Int} (hy : y ∉ ts) {hs : HS} (nd : (keysH hs).Nodup) (w v : Nat) : cnt (putH hs y w) ts v = cnt hs (ts ++ [y]) v + if v = w then 1 else 0 := by
 rw [cnt_one hy v (nodup_put y w nd), look_put, if_pos rfl]
 have h2 : cnt (putH hs y w) (ts ++ [y]) v = cnt hs (ts ++ [y]) v := by
  unfold putH cnt
  split
  ·rw [List.countP_map]
   refine List.countP_congr fun p _ => ?_
   show ((decide ((if p.1 = y then (p.1, w) else p).1 ∉ ts ++ [y]) && decide ((if p.1 = y then (p.1, w) else p).2 = v)) = true ↔ _)
   by_cases e : p.1 = y
   ·rw [if_pos e]
    have : decide (p.1 ∉ ts ++ [y]) = false := decide_eq_false (by rw [e]; simp)
    show ((decide (p.1 ∉ ts ++ [y]) && _) = true ↔ (decide (p.1 ∉ ts ++ [y]) && _) = true)
    rw [this, Bool.false_and, Bool.false_and]
   ·rw [if_neg e]
  ·rw [List.countP_append, List.countP_cons, List.countP_nil]
   have : (decide ((y, w).1 ∉ ts ++ [y]) && decide ((y, w).2 = v)) = false := by
    rw [decide_eq_false (by simp), Bool.false_and]
   rw [this, if_neg Bool.false_ne_true]
   rfl
 rw [h2]
 congr 1
 by_cases z : v = w
 ·rw [if_pos z, if_pos (by rw [z])]
 ·rw [if_neg z, if_neg (fun q => z (Option.some.inj q).symm)]
noncomputable abbrev Res := Bool × HS × List Int
noncomputable def loopF (rc : Nat -> HS -> List Int -> Res) (w : Nat) : List Int -> HS -> List Int -> Res
 | [], hs, ts => (false, hs, ts)
 | x :: xs, hs, ts => if x ∈ ts then loopF rc w xs hs ts else
  match look hs x with
  | none => (true, putH hs x w, ts ++ [x])
  | some v =>
   match rc v hs (ts ++ [x]) with
   | (true, hs', ts') => (true, putH hs' x w, ts')
   | (false, hs', ts') => loopF rc w xs hs' ts'
noncomputable def takesF (L : List (List Int)) : Nat -> Nat -> HS -> List Int -> Res
 | 0, _, hs, ts => (false, hs, ts)
 | k + 1, w, hs, ts => loopF (takesF L k) w (L.getD w []) hs ts
structure OkH (L : List (List Int)) (hs : HS) : Prop where
 nd : (keysH hs).Nodup
 ed : ∀ p ∈ hs, p.2 < L.length /\ p.1 ∈ L.getD p.2 []
structure Good (L : List (List Int)) (U : List Int) (w : Nat) (xs : List Int) (hs : HS) (ts : List Int) (r : Res) where
 new : List Int
 pre : r.2.2 = ts ++ new
 nd : r.2.2.Nodup
 sub : ∀ y ∈ new, y ∈ U
 keep : ∀ y ∈ ts, look r.2.1 y = look hs y
 ok : OkH L r.2.1
 yes : r.1 = true -> ∀ v, cnt r.2.1 ts v = cnt hs ts v + if v = w then 1 else 0
 no : r.1 = false -> r.2.1 = hs /\ (∀ x ∈ xs, x ∈ r.2.2) /\ ∀ y ∈ r.2.2, y ∉ ts -> ∃ v, look hs y = some v /\ ∀ x ∈ L.getD v [], x ∈ r.2.2
noncomputable def free (U ts : List Int) : Nat := U.countP fun y => decide (y ∉ ts)
theorem free_lt {U ts : List Int} {x : Int} (hx : x ∈ U) (hn : x ∉ ts) : free U (ts ++ [x]) < free U ts := by
 unfold free
 induction U with
 | nil => cases hx
 | cons y U ih =>
  rw [List.countP_cons, List.countP_cons]
  have mono : ∀ U : List Int, U.countP (fun y => decide (y ∉ ts ++ [x])) <= U.countP fun y => decide (y ∉ ts) := fun U => List.countP_mono_left fun y _ h => by
   simp only [List.mem_append, List.mem_singleton, not_or, decide_eq_true_eq] at h ⊢
   exact h.1
  by_cases e : y = x
  ·subst e
   rw [if_neg (by simp), if_pos (decide_eq_true hn)]
   have := mono U
   omega
  ·rcases List.mem_cons.mp hx with z | z
   ·exact (e z.symm).elim
   ·have h1 : decide (y ∉ ts ++ [x]) = decide (y ∉ ts) := by
     refine decide_eq_decide.mpr ⟨fun h q => h (List.mem_append_left _ q), fun h q => ?_⟩
     rcases List.mem_append.mp q with q | q
     ·exact h q
     ·exact e (List.mem_singleton.mp q)
    rw [h1]
    have := ih z
    omega
theorem free_le {U ts new : List Int} : free U (ts ++ new) <= free U ts := List.countP_mono_left fun y _ h => by
 simp only [List.mem_append, not_or, decide_eq_true_eq] at h ⊢
 exact h.1
theorem OkH.put {L : List (List Int)} {hs : HS} (o : OkH L hs) {x : Int} {w : Nat} (hw : w < L.length) (hx : x ∈ L.getD w []) : OkH L (putH hs x w) :=
 ⟨nodup_put x w o.nd, fun p hp => (mem_put hp).elim (o.ed p) fun e => by rw [e]; exact ⟨hw, hx⟩⟩
theorem loop_good {L : List (List Int)} {U : List Int} (hU : ∀ l ∈ L, ∀ x ∈ l, x ∈ U) {k : Nat} (ih : ∀ v hs ts, v < L.length -> OkH L hs -> ts.Nodup -> free U ts < k -> Nonempty (Good L U v (L.getD v []) hs ts (takesF L k v hs ts)))
  {w : Nat} (hw : w < L.length) : ∀ (xs : List Int) (hs : HS) (ts : List Int), (∀ x ∈ xs, x ∈ L.getD w []) -> OkH L hs -> ts.Nodup -> free U ts <= k -> Nonempty (Good L U w xs hs ts (loopF (takesF L k) w xs hs ts))
 | [], hs, ts, _, o, nt, _ => ⟨⟨[], (List.append_nil _).symm, nt, fun y h => (by cases h), fun _ _ => rfl, o, fun h => (by cases h), fun _ => ⟨rfl, fun x h => (by cases h), fun y h h' => (h' h).elim⟩⟩⟩
 | x :: xs, hs, ts, hxs, o, nt, hf => by
  have hxw : x ∈ L.getD w [] := hxs x List.mem_cons_self
  have hxs' : ∀ x ∈ xs, x ∈ L.getD w [] := fun y h => hxs y (List.mem_cons_of_mem _ h)
  have hxU : x ∈ U := by
   rw [List.getD_eq_getElem?_getD, List.getElem?_eq_getElem hw] at hxw
   exact hU _ (List.getElem_mem hw) x hxw
  by_cases e : x ∈ ts
  ·have hl : loopF (takesF L k) w (x :: xs) hs ts = loopF (takesF L k) w xs hs ts := by
    rw [loopF, if_pos e]
   rw [hl]
   obtain ⟨g⟩ := loop_good hU ih hw xs hs ts hxs' o nt hf
   refine ⟨⟨g.new, g.pre, g.nd, g.sub, g.keep, g.ok, g.yes, fun h => ⟨(g.no h).1, fun y hy => ?_, (g.no h).2.2⟩⟩⟩
   rcases List.mem_cons.mp hy with z | z
   ·rw [z, g.pre]; exact List.mem_append_left _ e
   ·exact (g.no h).2.1 y z
  ·have nt1 : (ts ++ [x]).Nodup := List.nodup_append.mpr ⟨nt, by simp, fun a ha b hb => by
    rw [List.mem_singleton] at hb
    rintro rfl
    exact e (hb ▸ ha)⟩
   cases q : look hs x with
   | none =>
    have hl : loopF (takesF L k) w (x :: xs) hs ts = (true, putH hs x w, ts ++ [x]) := by
     rw [loopF, if_neg e, q]
    rw [hl]
    refine ⟨⟨[x], rfl, nt1, fun y h => by rw [List.mem_singleton.mp h]; exact hxU, fun y hy => ?_, o.put hw hxw, fun _ v => ?_, fun h => (by cases h)⟩⟩
    ·show look (putH hs x w) y = look hs y
     rw [look_put, if_neg (fun z : y = x => e (z ▸ hy))]
    ·show cnt (putH hs x w) ts v = _
     rw [cnt_put e o.nd, cnt_one e v o.nd, q, if_neg (show ¬ (none : Option Nat) = some v from fun z => by cases z)]
     rfl
   | some v =>
    have hv : v < L.length := (o.ed _ (look_mem q)).1
    obtain ⟨g⟩ := ih v hs (ts ++ [x]) hv o nt1 (Nat.lt_of_lt_of_le (free_lt hxU e) hf)
    cases hr : takesF L k v hs (ts ++ [x]) with
    | mk b r =>
     obtain ⟨hs', ts'⟩ := r
     rw [hr] at g
     cases b with
     | true =>
      have hl : loopF (takesF L k) w (x :: xs) hs ts = (true, putH hs' x w, ts') := by
       rw [loopF, if_neg e, q]
       simp only [hr]
      rw [hl]
      have gp : ts' = ts ++ [x] ++ g.new := g.pre
      refine ⟨⟨[x] ++ g.new, by rw [<- List.append_assoc]; exact gp, g.nd, fun y h => ?_, fun y hy => ?_, g.ok.put hw hxw, fun _ u => ?_, fun h => (by cases h)⟩⟩
      ·rcases List.mem_append.mp h with z | z
       ·rw [List.mem_singleton.mp z]; exact hxU
       ·exact g.sub y z
      ·show look (putH hs' x w) y = look hs y
       rw [look_put, if_neg (fun z : y = x => e (z ▸ hy))]
       exact g.keep y (List.mem_append_left _ hy)
      ·show cnt (putH hs' x w) ts u = _
       have h1 : cnt hs' (ts ++ [x]) u = cnt hs (ts ++ [x]) u + if u = v then 1 else 0 := g.yes rfl u
       rw [cnt_put e g.ok.nd, h1, cnt_one e u o.nd, q]
       congr 2
       by_cases z : u = v
       ·rw [if_pos z, if_pos (by rw [z])]
       ·rw [if_neg z, if_neg (fun y => z (Option.some.inj y).symm)]
     | false =>
      have hl : loopF (takesF L k) w (x :: xs) hs ts = loopF (takesF L k) w xs hs' ts' := by
       rw [loopF, if_neg e, q]
       simp only [hr]
      rw [hl]
      obtain ⟨n1, n2, n3⟩ := g.no rfl
      have n1' : hs' = hs := n1
      subst n1'
      have gp : ts' = ts ++ [x] ++ g.new := g.pre
      have hf' : free U ts' <= k := by
       rw [gp, List.append_assoc]
       exact Nat.le_trans free_le hf
      obtain ⟨g2⟩ := loop_good hU ih hw xs hs' ts' hxs' o g.nd hf'
      have gp2 := g2.pre
      have hsub : ∀ y ∈ ts', y ∈ (loopF (takesF L k) w xs hs' ts').2.2 := fun y hy => by rw [gp2]; exact List.mem_append_left _ hy
      refine ⟨⟨[x] ++ g.new ++ g2.new, gp2.trans ((congrArg (· ++ g2.new) gp).trans (by simp only [List.append_assoc])), g2.nd, fun y h => ?_, fun y hy => ?_, g2.ok, fun h u => ?_, fun h => ⟨(g2.no h).1, fun y hy => ?_, fun y hy hn => ?_⟩⟩⟩
      ·rcases List.mem_append.mp h with h | h
       ·rcases List.mem_append.mp h with z | z
        ·rw [List.mem_singleton.mp z]; exact hxU
        ·exact g.sub y z
       ·exact g2.sub y h
      ·exact g2.keep y (by rw [gp]; exact List.mem_append_left _ (List.mem_append_left _ hy))
      ·have h2 := g2.yes h u
       have hnd : (ts ++ ([x] ++ g.new)).Nodup := by rw [<- List.append_assoc, <- gp]; exact g.nd
       have e1 := cnt_many (v := u) g2.ok.nd hnd
       have e2 := cnt_many (v := u) o.nd hnd
       rw [<- List.append_assoc, <- gp] at e1 e2
       have e3 : ([x] ++ g.new).countP (fun y => decide (look (loopF (takesF L k) w xs hs' ts').2.1 y = some u)) = ([x] ++ g.new).countP fun y => decide (look hs' y = some u) := by
        refine List.countP_congr fun y hy => ?_
        rw [g2.keep y (by rw [gp, List.append_assoc]; exact List.mem_append_right _ hy)]
       rw [e3] at e1
       omega
      ·rcases List.mem_cons.mp hy with z | z
       ·rw [z]
        exact hsub _ (by rw [gp]; exact List.mem_append_left _ (List.mem_append_right _ (List.mem_singleton.mpr rfl)))
       ·exact (g2.no h).2.1 y z
      ·by_cases hy' : y ∈ ts'
       ·by_cases z : y = x
        ·exact ⟨v, by rw [z]; exact q, fun a ha => hsub a (n2 a ha)⟩
        ·obtain ⟨u, hu, hc⟩ := n3 y hy' (fun m => (List.mem_append.mp m).elim hn fun m => z (List.mem_singleton.mp m))
         exact ⟨u, hu, fun a ha => hsub a (hc a ha)⟩
       ·exact (g2.no h).2.2 y hy hy'
theorem takes_good {L : List (List Int)} {U : List Int} (hU : ∀ l ∈ L, ∀ x ∈ l, x ∈ U) : ∀ (k v : Nat) (hs : HS) (ts : List Int), v < L.length -> OkH L hs -> ts.Nodup -> free U ts < k -> Nonempty (Good L U v (L.getD v []) hs ts (takesF L k v hs ts))
 | 0, _, _, _, _, _, _, h => absurd h (Nat.not_lt_zero _)
 | k + 1, v, hs, ts, hv, o, nt, h => loop_good hU (takes_good hU k) hv _ hs ts (fun _ h => h) o nt (Nat.le_of_lt_succ h)
end My
namespace My
noncomputable def stuckF (L : List (List Int)) (k : Nat) : List Nat -> HS -> Option (Nat × List Int) × HS
 | [], hs => (none, hs)
 | w :: ws, hs => match takesF L k w hs [] with
  | (true, hs', _) => stuckF L k ws hs'
  | (false, hs', ts) => (some (w, ts), hs')
noncomputable def valH (hs : HS) (y : Int) : Nat := (look hs y).getD 0
structure Paper (L : List (List Int)) (hs : HS) (u : Nat) (ts : List Int) : Prop where
 hu : u < L.length
 nd : ts.Nodup
 held : ∀ y ∈ ts, ∃ v, look hs y = some v /\ v < L.length /\ v ≠ u /\ ∀ x ∈ L.getD v [], x ∈ ts
 inj : ∀ y ∈ ts, ∀ z ∈ ts, look hs y = look hs z -> y = z
 own : ∀ x ∈ L.getD u [], x ∈ ts
theorem cnt_pos {hs : HS} (nd : (keysH hs).Nodup) {y : Int} {v : Nat} (h : look hs y = some v) : 1 <= cnt hs [] v := by
 rw [cnt_one (y := y) (ts := []) (by simp) v nd, if_pos h]
 omega
theorem cnt_two {hs : HS} (nd : (keysH hs).Nodup) {y z : Int} {v : Nat} (h : look hs y = some v) (h' : look hs z = some v) (ne : y ≠ z) : 2 <= cnt hs [] v := by
 rw [cnt_one (y := y) (ts := []) (by simp) v nd, if_pos h, cnt_one (y := z) (ts := [] ++ [y]) (by simpa using fun e => ne e.symm) v nd, if_pos h']
 omega
structure Held (L : List (List Int)) (hs : HS) (w : Nat) : Prop where
 ok : OkH L hs
 one : ∀ v, cnt hs [] v = if v < w then 1 else 0
theorem Held.inj {L : List (List Int)} {hs : HS} {w : Nat} (h : Held L hs w) {y z : Int} {v : Nat} (hy : look hs y = some v) (hz : look hs z = some v) : y = z := by
 by_cases e : y = z
 ·exact e
 ·have h2 := cnt_two h.ok.nd hy hz e
  rw [h.one v] at h2
  split at h2 <;> omega
theorem Held.lt {L : List (List Int)} {hs : HS} {w : Nat} (h : Held L hs w) {y : Int} {v : Nat} (hy : look hs y = some v) : v < w := by
 have h2 := cnt_pos h.ok.nd hy
 rw [h.one v] at h2
 split at h2
 ·assumption
 ·omega
theorem stuck_ok {L : List (List Int)} {U : List Int} (hU : ∀ l ∈ L, ∀ x ∈ l, x ∈ U) {k : Nat} (hk : U.length < k) : ∀ (m w : Nat) (hs : HS), w + m = L.length -> Held L hs w ->
  ((stuckF L k (List.range' w m) hs).1 = none -> Held L (stuckF L k (List.range' w m) hs).2 L.length) /\
   ∀ u ts, (stuckF L k (List.range' w m) hs).1 = some (u, ts) -> Paper L (stuckF L k (List.range' w m) hs).2 u ts
 | 0, w, hs, hw, h => ⟨fun _ => by rw [<- hw]; exact h, fun u ts e => by cases e⟩
 | m + 1, w, hs, hw, h => by
  have hwl : w < L.length := by omega
  have hfr : free U [] < k := Nat.lt_of_le_of_lt List.countP_le_length hk
  obtain ⟨g⟩ := takes_good hU k w hs [] hwl h.ok List.nodup_nil hfr
  rw [List.range'_succ]
  cases hr : takesF L k w hs [] with
  | mk b r =>
   obtain ⟨hs', ts'⟩ := r
   rw [hr] at g
   cases b with
   | true =>
    have e : stuckF L k (w :: List.range' (w + 1) m) hs = stuckF L k (List.range' (w + 1) m) hs' := by
     rw [stuckF]
     simp only [hr]
    rw [e]
    refine stuck_ok hU hk m (w + 1) hs' (by omega) ⟨g.ok, fun v => ?_⟩
    have := g.yes rfl v
    rw [show cnt hs' [] v = _ from this, h.one v]
    by_cases a : v < w
    ·rw [if_pos a, if_neg (by omega), if_pos (by exact Om.f2 ‹_›)]
    ·rw [if_neg a]
     by_cases b : v = w
     ·rw [if_pos b, if_pos (by omega)]
     ·rw [if_neg b, if_neg (by omega)]
   | false =>
    have e : stuckF L k (w :: List.range' (w + 1) m) hs = (some (w, ts'), hs') := by
     rw [stuckF]
     simp only [hr]
    rw [e]
    obtain ⟨n1, n2, n3⟩ := g.no rfl
    have n1' : hs' = hs := n1
    subst n1'
    refine ⟨fun z => (by cases z), fun u ts z => ?_⟩
    cases z
    refine ⟨hwl, g.nd, fun y hy => ?_, fun y hy z hz q => ?_, n2⟩
    ·obtain ⟨v, hv, hc⟩ := n3 y hy (by simp)
     have := h.lt hv
     exact ⟨v, hv, by omega, by omega, hc⟩
    ·obtain ⟨v, hv, _⟩ := n3 y hy (by simp)
     exact h.inj hv (q ▸ hv)
theorem held_nil (L : List (List Int)) : Held L [] 0 := ⟨⟨List.nodup_nil, fun p h => by cases h⟩, fun v => by rw [if_neg (by omega)]; rfl⟩
theorem len_le : ∀ {T S : List Int}, T.Nodup -> (∀ x ∈ T, x ∈ S) -> T.length <= S.length
 | [], _, _, _ => Nat.zero_le _
 | x :: T, S, nd, h => by
  have hx : x ∈ S := h x List.mem_cons_self
  have ih := len_le (T := T) (S := S.erase x) (List.nodup_cons.mp nd).2 fun y hy => by
   have : y ≠ x := fun e => (List.nodup_cons.mp nd).1 (e ▸ hy)
   exact (List.mem_erase_of_ne this).mpr (h y (List.mem_cons_of_mem _ hy))
  rw [List.length_erase_of_mem hx] at ih
  have : 0 < S.length := List.length_pos_of_mem hx
  rw [List.length_cons]
  omega
noncomputable def paperOf (hs : HS) (u : Nat) (ts : List Int) : List Int := (u : Int) :: ts.map fun y => ((valH hs y : Nat) : Int)
theorem Paper.val {L : List (List Int)} {hs : HS} {u : Nat} {ts : List Int} (p : Paper L hs u ts) {y : Int} (hy : y ∈ ts) : look hs y = some (valH hs y) := by
 obtain ⟨v, hv, _⟩ := p.held y hy
 unfold valH
 rw [hv]
 rfl
theorem Paper.nodup {L : List (List Int)} {hs : HS} {u : Nat} {ts : List Int} (p : Paper L hs u ts) : (paperOf hs u ts).Nodup := by
 refine List.nodup_cons.mpr ⟨fun h => ?_, ?_⟩
 ·obtain ⟨y, hy, e⟩ := List.mem_map.mp h
  obtain ⟨v, hv, _, hne, _⟩ := p.held y hy
  rw [p.val hy] at hv
  have := Option.some.inj hv
  omega
 ·refine List.nodup_iff_pairwise_ne.mpr (List.pairwise_map.mpr ?_)
  have nd := p.nd
  have go : ∀ {l : List Int}, (∀ x ∈ l, x ∈ ts) -> l.Nodup -> l.Pairwise fun a b => ((valH hs a : Nat) : Int) ≠ ((valH hs b : Nat) : Int) := by
   intro l
   induction l with
   | nil => intro _ _; exact .nil
   | cons a l ih =>
    intro hs' nd
    refine .cons (fun b hb e => ?_) (ih (fun x hx => hs' x (List.mem_cons_of_mem _ hx)) (List.nodup_cons.mp nd).2)
    have ha := hs' a List.mem_cons_self
    have hb' := hs' b (List.mem_cons_of_mem _ hb)
    have : a = b := p.inj a ha b hb' (by rw [p.val ha, p.val hb']; congr 1; exact Om.e1 ‹_›)
    exact (List.nodup_cons.mp nd).1 (this ▸ hb)
  exact go (fun _ h => h) nd
theorem Paper.mem {L : List (List Int)} {hs : HS} {u : Nat} {ts : List Int} (p : Paper L hs u ts) {z : Int} (h : z ∈ paperOf hs u ts) : ∃ v : Nat, z = (v : Int) /\ v < L.length /\ ∀ x ∈ L.getD v [], x ∈ ts := by
 rcases List.mem_cons.mp h with e | e
 ·exact ⟨u, e, p.hu, p.own⟩
 ·obtain ⟨y, hy, e⟩ := List.mem_map.mp e
  obtain ⟨v, hv, hl, _, hc⟩ := p.held y hy
  rw [p.val hy] at hv
  exact ⟨v, by rw [<- e, Option.some.inj hv], hl, hc⟩
end My
namespace My
noncomputable def colL (R : List (List Int)) (c : Nat) : List Int := R.map fun r => r.getD c 0
noncomputable def rngI (n : Nat) : List Int := (List.range n).map fun (k : Nat) => (k : Int)
structure OkRows (n : Nat) (R : List (List Int)) : Prop where
 len : R.length <= n
 row : ∀ r ∈ R, r.length = n /\ r.Nodup /\ ∀ x ∈ r, 0 <= x /\ x < (n : Int)
 col : ∀ c, c < n -> (colL R c).Nodup
noncomputable def lackL (n : Nat) (R : List (List Int)) (c : Nat) : List Int := (rngI n).filter fun t => decide (t ∉ colL R c)
noncomputable def lacks (n : Nat) (R : List (List Int)) : List (List Int) := (List.range n).map (lackL n R)
theorem mem_rngI {n : Nat} {x : Int} : x ∈ rngI n ↔ 0 <= x /\ x < (n : Int) := by
 unfold rngI
 rw [List.mem_map]
 constructor
 ·rintro ⟨k, hk, rfl⟩
  have := List.mem_range.mp hk
  omega
 ·intro h
  exact ⟨x.toNat, List.mem_range.mpr (by omega), by omega⟩
theorem rngI_nodup (n : Nat) : (rngI n).Nodup := by
 unfold rngI
 refine List.nodup_iff_pairwise_ne.mpr (List.pairwise_map.mpr ?_)
 exact (List.nodup_iff_pairwise_ne.mp List.nodup_range).imp fun h e => h (by exact Om.e1 ‹_›)
theorem rngI_len (n : Nat) : (rngI n).length = n := by rw [rngI, List.length_map, List.length_range]
theorem all_of_len {A B : List Int} (na : A.Nodup) (h : ∀ x ∈ A, x ∈ B) (hl : B.length <= A.length) : ∀ x ∈ B, x ∈ A := by
 intro x hx
 by_cases e : x ∈ A
 ·exact e
 ·exfalso
  have := len_le (T := A) (S := B.erase x) na fun y hy => by
   have : y ≠ x := fun z => e (z ▸ hy)
   exact (List.mem_erase_of_ne this).mpr (h y hy)
  rw [List.length_erase_of_mem hx] at this
  have : 0 < B.length := List.length_pos_of_mem hx
  omega
theorem row_has {n : Nat} {r : List Int} (hl : r.length = n) (nd : r.Nodup) (hr : ∀ x ∈ r, 0 <= x /\ x < (n : Int)) {t : Int} (ht : 0 <= t /\ t < (n : Int)) : t ∈ r :=
 all_of_len nd (fun x hx => mem_rngI.mpr (hr x hx)) (by rw [rngI_len, hl]; exact Nat.le_refl _) t (mem_rngI.mpr ht)
theorem stands_many {n : Nat} {t : Int} (ht : 0 <= t /\ t < (n : Int)) : ∀ {R : List (List Int)}, (∀ r ∈ R, r.length = n /\ r.Nodup /\ ∀ x ∈ r, 0 <= x /\ x < (n : Int)) -> (∀ c, c < n -> (colL R c).Nodup) -> R.length <= (List.range n).countP fun c => decide (t ∈ colL R c)
 | [], _, _ => Nat.zero_le _
 | r :: R, hr, hc => by
  have ih := stands_many ht (R := R) (fun r' h => hr r' (by simp [h])) fun c h => by
   have := hc c h
   exact (List.nodup_cons.mp this).2
  obtain ⟨hl, nd, hb⟩ := hr r (by simp)
  have hmem := row_has hl nd hb ht
  obtain ⟨i, hi, e⟩ := List.getElem_of_mem hmem
  have hin : i < n := by exact Om.a2 ‹_› ‹_›
  have hg : r.getD i 0 = t := by rw [List.getD_eq_getElem?_getD, List.getElem?_eq_getElem hi]; exact e
  have hni : t ∉ colL R i := by
   have : r.getD i 0 ∉ colL R i := (List.nodup_cons.mp (hc i hin)).1
   rw [hg] at this
   exact this
  have key : ∀ (l : List Nat), l.Nodup -> i ∈ l -> l.countP (fun c => decide (t ∈ colL R c)) + 1 <= l.countP fun c => decide (t ∈ colL (r :: R) c) := by
   intro l
   induction l with
   | nil => intro _ h; cases h
   | cons c l ih =>
    intro nd h
    have hsub : ∀ l : List Nat, l.countP (fun c => decide (t ∈ colL R c)) <= l.countP fun c => decide (t ∈ colL (r :: R) c) := fun l => by
     refine List.countP_mono_left fun c _ hc => ?_
     exact decide_eq_true (List.mem_cons_of_mem _ (of_decide_eq_true hc))
    rw [List.countP_cons, List.countP_cons]
    by_cases e : c = i
    ·subst e
     rw [decide_eq_false hni, decide_eq_true (show t ∈ colL (r :: R) c by show t ∈ r.getD c 0 :: _; rw [hg]; exact List.mem_cons_self)]
     have := hsub l
     simp
     assumption
    ·have hin : i ∈ l := by
      rcases List.mem_cons.mp h with z | z
      ·exact absurd z.symm e
      ·exact z
     have := ih (List.nodup_cons.mp nd).2 hin
     by_cases q : t ∈ colL R c
     ·rw [decide_eq_true q, decide_eq_true (show t ∈ colL (r :: R) c from List.mem_cons_of_mem _ q)]
      simp
      assumption
     ·rw [decide_eq_false q]
      simp
      omega
  have := key (List.range n) List.nodup_range (List.mem_range.mpr hin)
  rw [List.length_cons]
  omega
theorem countP_neg (l : List Nat) (p : Nat -> Bool) : l.countP (fun c => !p c) + l.countP p = l.length := by
 induction l with
 | nil => rfl
 | cons a l ih =>
  rw [List.countP_cons, List.countP_cons, List.length_cons]
  cases p a <;> simp <;> omega
theorem lack_len {n : Nat} {R : List (List Int)} (c : Nat) : n - R.length <= (lackL n R c).length := by
 have h : (rngI n).length <= (lackL n R c).length + (colL R c).length := by
  have := len_le (T := rngI n) (S := lackL n R c ++ colL R c) (rngI_nodup n) fun x hx => by
   by_cases e : x ∈ colL R c
   ·exact List.mem_append_right _ e
   ·exact List.mem_append_left _ (List.mem_filter.mpr ⟨hx, decide_eq_true e⟩)
  rwa [List.length_append] at this
 rw [rngI_len] at h
 unfold colL at h
 rw [List.length_map] at h
 omega
theorem dbl (T : List Int) (m : Nat -> Int -> Bool) : ∀ P : List Nat, (P.map fun p => T.countP fun t => m p t).sum = (T.map fun t => P.countP fun p => m p t).sum
 | [] => by
  induction T with
  | nil => rfl
  | cons t T ih => simpa using ih
 | p :: P => by
  rw [List.map_cons, List.sum_cons, dbl T m P]
  clear dbl
  induction T with
  | nil => rfl
  | cons t T ih =>
   rw [List.map_cons, List.map_cons, List.sum_cons, List.sum_cons, List.countP_cons, List.countP_cons]
   omega
theorem sum_ge {α : Type} {f : α -> Nat} {d : Nat} : ∀ {l : List α}, (∀ x ∈ l, d <= f x) -> l.length * d <= (l.map f).sum
 | [], _ => by simp
 | x :: l, h => by
  have := sum_ge (l := l) fun y hy => h y (by simp [hy])
  have := h x (by simp)
  rw [List.map_cons, List.sum_cons, List.length_cons, Nat.succ_mul]
  omega
theorem sum_le {α : Type} {f : α -> Nat} {d : Nat} : ∀ {l : List α}, (∀ x ∈ l, f x <= d) -> (l.map f).sum <= l.length * d
 | [], _ => by simp
 | x :: l, h => by
  have := sum_le (l := l) fun y hy => h y (by simp [hy])
  have := h x (by simp)
  rw [List.map_cons, List.sum_cons, List.length_cons, Nat.succ_mul]
  omega
theorem lacks_get {n : Nat} {R : List (List Int)} {c : Nat} (h : c < n) : (lacks n R).getD c [] = lackL n R c := by
 unfold lacks
 rw [List.getD_eq_getElem?_getD, List.getElem?_map, List.getElem?_range h]
 rfl
theorem lacks_len (n : Nat) (R : List (List Int)) : (lacks n R).length = n := by rw [lacks, List.length_map, List.length_range]
theorem filt_len {A B : List Int} (na : A.Nodup) (h : ∀ x ∈ A, x ∈ B) : A.length <= B.countP fun t => decide (t ∈ A) := by
 rw [List.countP_eq_length_filter]
 exact len_le na fun x hx => List.mem_filter.mpr ⟨h x hx, decide_eq_true hx⟩
theorem countP_sub : ∀ {A B : List Nat} (p : Nat -> Bool), A.Nodup -> (∀ x ∈ A, x ∈ B) -> A.countP p <= B.countP p
 | [], B, p, _, _ => by simp
 | a :: A, B, p, nd, h => by
  have ha := h a (by simp)
  have ih := countP_sub (A := A) (B := B.erase a) p (List.nodup_cons.mp nd).2 fun x hx => by
   have : x ≠ a := fun e => (List.nodup_cons.mp nd).1 (e ▸ hx)
   exact (List.mem_erase_of_ne this).mpr (h x (by simp [hx]))
  have e : B.countP p = (B.erase a).countP p + if p a then 1 else 0 := by
   have := (List.perm_cons_erase ha).countP_eq p
   rw [this, List.countP_cons]
  rw [List.countP_cons, e]
  omega
theorem no_paper {n : Nat} {R : List (List Int)} (ok : OkRows n R) (hlt : R.length < n) {hs : HS} {u : Nat} {ts : List Int} (pa : Paper (lacks n R) hs u ts) : False := by
 let P : List Nat := u :: ts.map (valH hs)
 have eP : paperOf hs u ts = P.map fun (k : Nat) => (k : Int) := by
  show _ = (u : Int) :: (ts.map (valH hs)).map _
  rw [List.map_map]
  rfl
 have ndP : P.Nodup := by
  have := pa.nodup
  rw [eP] at this
  exact List.nodup_iff_pairwise_ne.mpr ((List.pairwise_map.mp (List.nodup_iff_pairwise_ne.mp this)).imp fun h e => h (by rw [e]))
 have hP : ∀ p ∈ P, p < n /\ ∀ x ∈ lackL n R p, x ∈ ts := fun p hp => by
  obtain ⟨v, e, hv, hx⟩ := pa.mem (z := (p : Int)) (by rw [eP]; exact List.mem_map.mpr ⟨p, hp, rfl⟩)
  have : v = p := by omega
  subst this
  rw [lacks_len] at hv
  rw [lacks_get hv] at hx
  exact ⟨hv, hx⟩
 have h1 := sum_ge (l := P) (f := fun p => ts.countP fun t => decide (t ∈ lackL n R p)) (d := n - R.length) fun p hp => by
  have nd : (lackL n R p).Nodup := (rngI_nodup n).sublist List.filter_sublist
  exact Nat.le_trans (lack_len p) (filt_len nd (hP p hp).2)
 rw [dbl ts (fun p t => decide (t ∈ lackL n R p)) P] at h1
 have h2 := sum_le (l := ts) (f := fun t => P.countP fun p => decide (t ∈ lackL n R p)) (d := n - R.length) fun t _ => by
  by_cases ht : 0 <= t /\ t < (n : Int)
  ·have hs := stands_many ht ok.row ok.col
   have hn := countP_neg (List.range n) fun c => decide (t ∈ colL R c)
   rw [List.length_range] at hn
   have hle : P.countP (fun p => decide (t ∈ lackL n R p)) <= (List.range n).countP fun c => !decide (t ∈ colL R c) := by
    refine Nat.le_trans (countP_sub (B := List.range n) _ ndP fun x hx => List.mem_range.mpr (hP x hx).1) (List.countP_mono_left fun c _ hc => ?_)
    have := (List.mem_filter.mp (of_decide_eq_true hc)).2
    simpa using this
   omega
  ·have : P.countP (fun p => decide (t ∈ lackL n R p)) = 0 := by
    rw [List.countP_eq_zero]
    intro p _ hc
    exact ht (mem_rngI.mp (List.mem_filter.mp (of_decide_eq_true hc)).1)
   omega
 have hl : P.length = ts.length + 1 := by show (u :: ts.map (valH hs)).length = _; rw [List.length_cons, List.length_map]
 rw [hl, Nat.succ_mul] at h1
 have h3 : 0 < n - R.length := by omega
 omega
theorem OkRows.more {n : Nat} {R : List (List Int)} (ok : OkRows n R) (hlt : R.length < n) {r : List Int} (hl : r.length = n) (nd : r.Nodup) (hm : ∀ c, c < n -> r.getD c 0 ∈ lackL n R c) : OkRows n (R ++ [r]) := by
 have hb : ∀ x ∈ r, 0 <= x /\ x < (n : Int) := fun x hx => by
  obtain ⟨i, hi, e⟩ := List.getElem_of_mem hx
  have := hm i (by exact Om.a2 ‹_› ‹_›)
  rw [List.getD_eq_getElem?_getD, List.getElem?_eq_getElem hi] at this
  have := (List.mem_filter.mp this).1
  have h2 := mem_rngI.mp this
  rw [<- e]
  exact h2
 refine ⟨by rw [List.length_append]; exact hlt, fun r' h => ?_, fun c hc => ?_⟩
 ·rcases List.mem_append.mp h with h | h
  ·exact ok.row r' h
  ·rw [List.mem_singleton.mp h]
   exact ⟨hl, nd, hb⟩
 ·unfold colL
  rw [List.map_append]
  refine List.nodup_append.mpr ⟨ok.col c hc, by simp, fun a ha b hb' e => ?_⟩
  have hb2 : b = r.getD c 0 := by simpa using hb'
  have h2 := (List.mem_filter.mp (hm c hc)).2
  have h3 : r.getD c 0 ∉ colL R c := by simpa using h2
  exact h3 (by rw [<- hb2, <- e]; exact ha)
end My
namespace My
theorem Held.has {L : List (List Int)} {hs : HS} {n v : Nat} (h : Held L hs n) (hv : v < n) : ∃ y, look hs y = some v := by
 have h1 := h.one v
 rw [if_pos hv] at h1
 unfold cnt at h1
 have h2 : 0 < hs.countP fun p => decide (p.1 ∉ ([] : List Int)) && decide (p.2 = v) := by omega
 obtain ⟨p, hp, hq⟩ := List.countP_pos_iff.mp h2
 simp only [Bool.and_eq_true, decide_eq_true_eq] at hq
 exact ⟨p.1, look_of_mem h.ok.nd (by rw [<- hq.2]; exact hp)⟩
structure OkRow (n : Nat) (A : List (List Int)) (r : List Int) : Prop where
 len : r.length = n
 nd : r.Nodup
 at_ : ∀ c, c < n -> r.getD c 0 ∈ lackL n A c
theorem row_exists {n : Nat} {R : List (List Int)} (ok : OkRows n R) (hlt : R.length < n) : ∃ r, OkRow n R r := by
 have hU : ∀ l ∈ lacks n R, ∀ x ∈ l, x ∈ rngI n := fun l hl x hx => by
  obtain ⟨c, _, rfl⟩ := List.mem_map.mp hl
  exact (List.mem_filter.mp hx).1
 have g := stuck_ok (L := lacks n R) (U := rngI n) hU (k := n + 1) (by rw [rngI_len]; omega) (lacks n R).length 0 [] (by omega) (held_nil _)
 generalize stuckF (lacks n R) (n + 1) (List.range' 0 (lacks n R).length) [] = z at g
 obtain ⟨o, hs⟩ := z
 cases o with
 | some p => exact (no_paper ok hlt (g.2 p.1 p.2 rfl)).elim
 | none =>
  have hd := g.1 rfl
  rw [lacks_len] at hd
  let pick : Nat -> Int := fun v => if h : v < n then Classical.choose (hd.has h) else 0
  have hp : ∀ v, v < n -> look hs (pick v) = some v := fun v hv => by
   show look hs (if h : v < n then Classical.choose (hd.has h) else 0) = some v
   rw [dif_pos hv]
   exact Classical.choose_spec (hd.has hv)
  refine ⟨(List.range n).map pick, by rw [List.length_map, List.length_range], ?_, fun c hc => ?_⟩
  ·refine List.nodup_iff_pairwise_ne.mpr (List.pairwise_map.mpr ?_)
   refine List.Pairwise.imp_of_mem ?_ (List.nodup_iff_pairwise_ne.mp List.nodup_range)
   intro a b ha hb hne e
   have h1 := hp a (List.mem_range.mp ha)
   rw [e, hp b (List.mem_range.mp hb)] at h1
   exact hne (Option.some.inj h1).symm
  ·have e : ((List.range n).map pick).getD c 0 = pick c := by
    rw [List.getD_eq_getElem?_getD, List.getElem?_map, List.getElem?_range hc]
    rfl
   rw [e]
   have h2 := (hd.ok.ed _ (look_mem (hp c hc))).2
   rw [lacks_get hc] at h2
   exact h2
theorem OkRow.more {n : Nat} {R : List (List Int)} {r : List Int} (h : OkRow n R r) (ok : OkRows n R) (hlt : R.length < n) : OkRows n (R ++ [r]) := ok.more hlt h.len h.nd h.at_
noncomputable def nextT (n : Nat) (A : List (List Int)) (row : List Int) : List Int := (rngI n).filter fun t => decide (t ∉ row) && decide (t ∉ colL A row.length)
structure PRow (n : Nat) (A : List (List Int)) (row : List Int) : Prop where
 len : row.length <= n
 nd : row.Nodup
 at_ : ∀ c, c < row.length -> row.getD c 0 ∈ lackL n A c
theorem PRow.nil (n : Nat) (A : List (List Int)) : PRow n A [] := ⟨Nat.zero_le _, List.nodup_nil, fun c h => absurd h (Nat.not_lt_zero _)⟩
theorem PRow.full {n : Nat} {A : List (List Int)} {row : List Int} (p : PRow n A row) (h : row.length = n) : OkRow n A row := ⟨h, p.nd, fun c hc => p.at_ c (by exact Om.a1 ‹_› ‹_›)⟩
theorem PRow.next {n : Nat} {A : List (List Int)} {row : List Int} (p : PRow n A row) (h : row.length < n) {t : Int} (ht : t ∈ nextT n A row) : PRow n A (row ++ [t]) := by
 obtain ⟨h1, h2⟩ := List.mem_filter.mp ht
 simp only [Bool.and_eq_true, decide_eq_true_eq] at h2
 refine ⟨by rw [List.length_append]; exact h, List.nodup_append.mpr ⟨p.nd, by simp, fun a ha b hb => by
  rw [List.mem_singleton] at hb
  rintro rfl
  exact h2.1 (hb ▸ ha)⟩, fun c hc => ?_⟩
 rw [List.length_append] at hc
 have hc' : c < row.length + 1 := hc
 by_cases e : c < row.length
 ·have := p.at_ c e
  rw [List.getD_eq_getElem?_getD, List.getElem?_append_left e, <- List.getD_eq_getElem?_getD]
  exact this
 ·have ec : c = row.length := by omega
  subst ec
  rw [List.getD_eq_getElem?_getD, List.getElem?_append_right (Nat.le_refl _), Nat.sub_self]
  exact List.mem_filter.mpr ⟨h1, decide_eq_true h2.2⟩
theorem next_of {n : Nat} {A : List (List Int)} {row r : List Int} (h : row.length < n) (o : OkRow n A r) (hp : row <+: r) : ∃ t ∈ nextT n A row, row ++ [t] <+: r := by
 obtain ⟨tl, rfl⟩ := hp
 have hl := o.len
 rw [List.length_append] at hl
 cases tl with
 | nil => simp at hl; omega
 | cons t tl =>
  refine ⟨t, ?_, ⟨tl, by simp⟩⟩
  have h1 := o.at_ row.length (by assumption)
  rw [List.getD_eq_getElem?_getD, List.getElem?_append_right (Nat.le_refl _), Nat.sub_self] at h1
  obtain ⟨h2, h3⟩ := List.mem_filter.mp h1
  refine List.mem_filter.mpr ⟨h2, ?_⟩
  have h4 := List.nodup_append.mp o.nd
  simp only [Bool.and_eq_true]
  exact ⟨decide_eq_true fun z => h4.2.2 t z t List.mem_cons_self rfl, h3⟩
end My
namespace My
structure One (n : Nat) (s : Nat -> Nat) : Prop where
 lt : ∀ c, c < n -> s c < n
 inj : ∀ c d, c < n -> d < n -> s c = s d -> c = d
noncomputable def lastN (acc : List Nat) : Nat := acc.getLast?.getD 0
theorem lastN_app (acc : List Nat) (x : Nat) : lastN (acc ++ [x]) = x := by simp [lastN]
inductive Path (n : Nat) (s : Nat -> Nat) (c : Nat) : List Nat -> Prop
 | one : c < n -> Path n s c [c]
 | more {acc : List Nat} : Path n s c acc -> s (lastN acc) ∉ acc -> Path n s c (acc ++ [s (lastN acc)])
theorem Path.lt {n : Nat} {s : Nat -> Nat} {c : Nat} (o : One n s) {acc : List Nat} (p : Path n s c acc) : ∀ x ∈ acc, x < n := by
 induction p with
 | one h => intro x hx; rw [List.mem_singleton.mp hx]; exact h
 | @more acc p _ ih =>
  have hl : lastN acc < n := by
   cases p with
   | one h => exact h
   | @more acc' p' _ => rw [lastN_app]; exact ih _ (by simp)
  intro x hx
  rcases List.mem_append.mp hx with hx | hx
  ·exact ih x hx
  ·rw [List.mem_singleton.mp hx]
   exact o.lt _ hl
theorem Path.last_mem {n : Nat} {s : Nat -> Nat} {c : Nat} {acc : List Nat} (p : Path n s c acc) : lastN acc ∈ acc := by
 cases p with
 | one _ => exact List.mem_singleton.mpr rfl
 | more _ _ => rw [lastN_app]; simp
theorem Path.nodup {n : Nat} {s : Nat -> Nat} {c : Nat} {acc : List Nat} (p : Path n s c acc) : acc.Nodup := by
 induction p with
 | one _ => simp
 | more p h ih => exact List.nodup_append.mpr ⟨ih, by simp, fun a ha b hb e => h (by rw [<- List.mem_singleton.mp hb, <- e]; exact ha)⟩
theorem Path.head_mem {n : Nat} {s : Nat -> Nat} {c : Nat} {acc : List Nat} (p : Path n s c acc) : c ∈ acc := by
 induction p with
 | one _ => exact List.mem_singleton.mpr rfl
 | more _ _ ih => exact List.mem_append_left _ ih
theorem Path.pred {n : Nat} {s : Nat -> Nat} {c : Nat} {acc : List Nat} (p : Path n s c acc) : ∀ x ∈ acc, x ≠ c -> ∃ y ∈ acc, y ≠ lastN acc /\ s y = x := by
 induction p with
 | one _ => intro x hx hne; exact absurd (List.mem_singleton.mp hx) hne
 | @more acc p h ih =>
  intro x hx hne
  rw [lastN_app]
  rcases List.mem_append.mp hx with hx | hx
  ·obtain ⟨y, hy, _, e⟩ := ih x hx hne
   exact ⟨y, List.mem_append_left _ hy, fun z => h (z ▸ hy), e⟩
  ·exact ⟨lastN acc, List.mem_append_left _ p.last_mem, fun z => h (z ▸ p.last_mem), (List.mem_singleton.mp hx).symm⟩
theorem Path.back {n : Nat} {s : Nat -> Nat} {c : Nat} (o : One n s) {acc : List Nat} (p : Path n s c acc) (h : s (lastN acc) ∈ acc) : s (lastN acc) = c := by
 by_cases e : s (lastN acc) = c
 ·exact e
 ·obtain ⟨y, hy, hne, hs⟩ := p.pred _ h e
  exact absurd (o.inj _ _ (p.lt o _ hy) (p.lt o _ p.last_mem) hs) hne
theorem nat_len {l : List Nat} {n : Nat} (nd : l.Nodup) (h : ∀ x ∈ l, x < n) : l.length <= n := by
 have nd' : (l.map fun (c : Nat) => (c : Int)).Nodup := List.nodup_iff_pairwise_ne.mpr (List.pairwise_map.mpr ((List.nodup_iff_pairwise_ne.mp nd).imp fun h e => h (by exact Om.e1 ‹_›)))
 have := len_le nd' (S := rngI n) fun x hx => by
  obtain ⟨c, hc, rfl⟩ := List.mem_map.mp hx
  have := h c hc
  exact mem_rngI.mpr ⟨by exact Om.c6, by exact Om.c5 ‹_›⟩
 rwa [List.length_map, rngI_len] at this
noncomputable def ringF (s : Nat -> Nat) (c : Nat) : Nat -> List Nat -> List Nat
 | 0, acc => acc
 | m + 1, acc => if s (lastN acc) = c then acc else ringF s c m (acc ++ [s (lastN acc)])
noncomputable def ringL (s : Nat -> Nat) (n c : Nat) : List Nat := ringF s c n [c]
theorem Path.next {n : Nat} {s : Nat -> Nat} {c : Nat} (o : One n s) {acc : List Nat} (p : Path n s c acc) (h : s (lastN acc) ≠ c) : Path n s c (acc ++ [s (lastN acc)]) /\ acc.length < n := by
 have p' : Path n s c (acc ++ [s (lastN acc)]) := .more p fun z => h (p.back o z)
 refine ⟨p', ?_⟩
 have := nat_len p'.nodup (p'.lt o)
 rw [List.length_append] at this
 exact this
theorem ringF_ok {n : Nat} {s : Nat -> Nat} {c : Nat} (o : One n s) : ∀ (m : Nat) (acc : List Nat), Path n s c acc -> n < m + acc.length + 1 -> Path n s c (ringF s c m acc) /\ s (lastN (ringF s c m acc)) = c
 | 0, acc, p, h => by
  refine ⟨p, ?_⟩
  by_cases e : s (lastN acc) = c
  ·exact e
  ·have := (p.next o e).2
   omega
 | m + 1, acc, p, h => by
  rw [ringF]
  by_cases e : s (lastN acc) = c
  ·rw [if_pos e]
   exact ⟨p, e⟩
  ·rw [if_neg e]
   exact ringF_ok o m _ (p.next o e).1 (by rw [List.length_append]; show n < m + (acc.length + 1) + 1; omega)
theorem ring_ok {n : Nat} {s : Nat -> Nat} {c : Nat} (o : One n s) (hc : c < n) : Path n s c (ringL s n c) /\ s (lastN (ringL s n c)) = c := ringF_ok o n [c] (.one hc) (by simp; omega)
theorem ring_closed {n : Nat} {s : Nat -> Nat} {c : Nat} (o : One n s) (hc : c < n) {x : Nat} (hx : x ∈ ringL s n c) : s x ∈ ringL s n c /\ ∃ y ∈ ringL s n c, s y = x := by
 obtain ⟨p, e⟩ := ring_ok o hc
 constructor
 ·generalize ringL s n c = acc at p e hx
  have go : ∀ {acc : List Nat}, Path n s c acc -> ∀ x ∈ acc, x = lastN acc \/ s x ∈ acc := by
   intro acc p
   induction p with
   | one _ => intro x hx; exact .inl (List.mem_singleton.mp hx)
   | @more acc p h ih =>
    intro x hx
    rw [lastN_app]
    rcases List.mem_append.mp hx with hx | hx
    ·rcases ih x hx with z | z
     ·exact .inr (by rw [z]; simp)
     ·exact .inr (List.mem_append_left _ z)
    ·exact .inl (List.mem_singleton.mp hx)
  rcases go p x hx with z | z
  ·rw [z, e]
   exact p.head_mem
  ·exact z
 ·by_cases h : x = c
  ·exact ⟨_, p.last_mem, e.trans h.symm⟩
  ·obtain ⟨y, hy, _, hs⟩ := p.pred x hx h
   exact ⟨y, hy, hs⟩
theorem path_in {n : Nat} {t : Nat -> Nat} {c : Nat} {S : Nat -> Prop} (h0 : S c) (hS : ∀ x, S x -> S (t x)) {acc : List Nat} (p : Path n t c acc) : ∀ x ∈ acc, S x := by
 induction p with
 | one _ => intro x hx; rw [List.mem_singleton.mp hx]; exact h0
 | more p _ ih =>
  intro x hx
  rcases List.mem_append.mp hx with hx | hx
  ·exact ih x hx
  ·rw [List.mem_singleton.mp hx]
   exact hS _ (ih _ p.last_mem)
noncomputable def ringsTo (s : Nat -> Nat) (n : Nat) : Nat -> List (List Nat)
 | 0 => []
 | i + 1 => if (ringsTo s n i).all (fun r => decide (i ∉ r)) = true then ringsTo s n i ++ [ringL s n i] else ringsTo s n i
end My
namespace My
structure Cyc (s : Nat -> Nat) (c : List Nat) : Prop where
 pos : 0 < c.length
 nd : c.Nodup
 nx : ∀ i, i < c.length -> s (c.getD i 0) = c.getD ((i + 1) % c.length) 0
noncomputable def rot (c : List Nat) (k : Nat) : List Nat := c.drop k ++ c.take k
theorem gDN {c : List Nat} {i : Nat} (h : i < c.length) : c.getD i 0 = c[i] := by rw [List.getD_eq_getElem?_getD, List.getElem?_eq_getElem h]; rfl
theorem rot_len (c : List Nat) (k : Nat) : (rot c k).length = c.length := by
 unfold rot
 rw [List.length_append, List.length_drop, List.length_take]
 omega
theorem rot_at {c : List Nat} {k i : Nat} (hk : k < c.length) (hi : i < c.length) : (rot c k).getD i 0 = c.getD ((k + i) % c.length) 0 := by
 unfold rot
 rw [List.getD_eq_getElem?_getD, List.getD_eq_getElem?_getD]
 congr 1
 by_cases h : k + i < c.length
 ·rw [List.getElem?_append_left (by rw [List.length_drop]; omega), List.getElem?_drop, Nat.mod_eq_of_lt h]
 ·rw [List.getElem?_append_right (by rw [List.length_drop]; omega), List.length_drop, List.getElem?_take_of_lt (by omega)]
  congr 1
  rw [Nat.mod_eq_sub_mod (by omega), Nat.mod_eq_of_lt (by omega)]
  omega
theorem rot_mem {c : List Nat} {k x : Nat} : x ∈ rot c k ↔ x ∈ c := by
 unfold rot
 rw [List.mem_append, or_comm, <- List.mem_append, List.take_append_drop]
theorem rot_nd {c : List Nat} {k : Nat} (h : c.Nodup) : (rot c k).Nodup := by
 have p : (rot c k).Perm c := by
  unfold rot
  refine List.perm_append_comm.trans ?_
  rw [List.take_append_drop]
 exact p.nodup_iff.mpr h
theorem Cyc.rot {s : Nat -> Nat} {c : List Nat} (h : Cyc s c) {k : Nat} (hk : k < c.length) : Cyc s (rot c k) := by
 refine ⟨by rw [rot_len]; exact h.pos, rot_nd h.nd, fun i hi => ?_⟩
 rw [rot_len] at hi ⊢
 rw [rot_at hk hi, rot_at hk (Nat.mod_lt _ h.pos), h.nx _ (Nat.mod_lt _ h.pos), Nat.mod_add_mod, Nat.add_mod_mod, Nat.add_assoc]
theorem nd_at {c : List Nat} (h : c.Nodup) {i j : Nat} (hi : i < c.length) (hj : j < c.length) (e : c.getD i 0 = c.getD j 0) : i = j := by
 rw [gDN hi, gDN hj] at e
 exact (List.getElem_inj h).mp e
theorem mod_zero {k m L : Nat} (hk : k < L) (h : (k + m) % L = k) : m % L = 0 := by
 have : (k + m) % L = k % L := by rw [h, Nat.mod_eq_of_lt hk]
 have := Nat.sub_mod_eq_zero_of_mod_eq this
 rwa [Nat.add_sub_cancel_left] at this
theorem cyc_same {s : Nat -> Nat} {c d : List Nat} (hc : Cyc s c) (hd : Cyc s d) {k : Nat} (hk : k < d.length) (e : c.getD 0 0 = d.getD k 0) : c = rot d k := by
 have all : ∀ i, c.getD (i % c.length) 0 = d.getD ((k + i) % d.length) 0 := by
  intro i
  induction i with
  | zero => rw [Nat.zero_mod, Nat.add_zero, Nat.mod_eq_of_lt hk]; exact e
  | succ i ih =>
   have h1 := hc.nx (i % c.length) (Nat.mod_lt _ hc.pos)
   have h2 := hd.nx ((k + i) % d.length) (Nat.mod_lt _ hd.pos)
   rw [ih, h2, Nat.mod_add_mod, Nat.mod_add_mod] at h1
   rw [<- h1]
   rfl
 have l1 : c.length % d.length = 0 := by
  have h := all c.length
  rw [Nat.mod_self, e] at h
  exact mod_zero hk (nd_at hd.nd hk (Nat.mod_lt _ hd.pos) h).symm
 have l2 : d.length % c.length = 0 := by
  have h := all d.length
  rw [Nat.add_mod_right, Nat.mod_eq_of_lt hk, <- e] at h
  exact nd_at hc.nd (Nat.mod_lt _ hc.pos) hc.pos h
 have hl : c.length = d.length := Nat.dvd_antisymm (Nat.dvd_of_mod_eq_zero l2) (Nat.dvd_of_mod_eq_zero l1)
 refine List.ext_getElem (by rw [rot_len, hl]) fun i h1 h2 => ?_
 have h := all i
 rw [Nat.mod_eq_of_lt h1, gDN h1] at h
 rw [h, <- rot_at hk (by omega), gDN h2]
structure Cov (s : Nat -> Nat) (C : List (List Nat)) (U : Nat -> Prop) : Prop where
 cy : ∀ c ∈ C, Cyc s c
 dj : C.Pairwise fun c d => ∀ x ∈ c, x ∉ d
 all : ∀ x, U x ↔ ∃ c ∈ C, x ∈ c
theorem erase_mem {α : Type} {C : List α} {i : Nat} (h : i < C.length) {x : α} : x ∈ C ↔ x = C[i] \/ x ∈ C.eraseIdx i := by
 rw [List.eraseIdx_eq_take_drop_succ]
 conv => lhs; rw [<- List.take_append_drop i C, List.drop_eq_getElem_cons h]
 simp only [List.mem_append, List.mem_cons]
 constructor
 ·rintro (a | a | a)
  ·exact .inr (.inl a)
  ·exact .inl a
  ·exact .inr (.inr a)
 ·rintro (a | a | a)
  ·exact .inr (.inl a)
  ·exact .inl a
  ·exact .inr (.inr a)
theorem erase_perm {α : Type} {C : List α} {i : Nat} (h : i < C.length) : (C[i] :: C.eraseIdx i).Perm C := by
 rw [List.eraseIdx_eq_take_drop_succ]
 conv => rhs; rw [<- List.take_append_drop i C, List.drop_eq_getElem_cons h]
 exact List.perm_middle.symm
theorem pw_sym {C D : List (List Nat)} (p : C.Perm D) (h : C.Pairwise fun c d => ∀ x ∈ c, x ∉ d) : D.Pairwise fun c d => ∀ x ∈ c, x ∉ d :=
 (p.pairwise_iff fun {a b} q x hx hb => q x hb hx).mp h
theorem Cov.erase {s : Nat -> Nat} {C : List (List Nat)} {U : Nat -> Prop} (v : Cov s C U) {i : Nat} (h : i < C.length) {c : List Nat} (hc : ∀ x, x ∈ c ↔ x ∈ C[i]) : Cov s (C.eraseIdx i) (fun x => U x /\ x ∉ c) := by
 have dj := pw_sym (erase_perm h).symm v.dj
 rw [List.pairwise_cons] at dj
 refine ⟨fun d hd => v.cy d ((erase_mem h).mpr (.inr hd)), dj.2, fun x => ?_⟩
 rw [v.all x]
 constructor
 ·rintro ⟨⟨d, hd, hx⟩, hn⟩
  rcases (erase_mem h).mp hd with rfl | hd
  ·exact absurd ((hc x).mpr hx) hn
  ·exact ⟨d, hd, hx⟩
 ·rintro ⟨d, hd, hx⟩
  exact ⟨⟨d, (erase_mem h).mpr (.inr hd), hx⟩, fun z => dj.1 d hd x ((hc x).mp z) hx⟩
theorem Cov.find {s : Nat -> Nat} {C : List (List Nat)} {U : Nat -> Prop} (v : Cov s C U) {d : List Nat} (hd : Cyc s d) (hU : ∀ x ∈ d, U x) : ∃ (i : Nat) (h : i < C.length) (k : Nat), k < C[i].length /\ d = rot C[i] k := by
 have h0 : d.getD 0 0 ∈ d := by rw [gDN hd.pos]; exact List.getElem_mem _
 obtain ⟨c, hc, hx⟩ := (v.all _).mp (hU _ h0)
 obtain ⟨i, hi, rfl⟩ := List.getElem_of_mem hc
 obtain ⟨k, hk, e⟩ := List.getElem_of_mem hx
 exact ⟨i, hi, k, hk, cyc_same hd (v.cy _ hc) hk (by rw [gDN hk, e])⟩
inductive Alg (s : Nat -> Nat) : (Nat -> Prop) -> List Nat -> List Nat -> Prop
 | nil {U : Nat -> Prop} : (∀ x, ¬ U x) -> Alg s U [] []
 | step {U : Nat -> Prop} {c w ls : List Nat} : Cyc s c -> (∀ x ∈ c, U x) -> (∀ d, Cyc s d -> (∀ x ∈ d, U x) -> c.length <= d.length) -> Alg s (fun x => U x /\ x ∉ c) w ls -> Alg s U (c ++ w) (c.length :: ls)
theorem Alg.congr {s : Nat -> Nat} {U V : Nat -> Prop} {w ls : List Nat} (h : ∀ x, U x ↔ V x) (a : Alg s U w ls) : Alg s V w ls := by
 have : U = V := funext fun x => propext (h x)
 exact this ▸ a
theorem alg_lens {s : Nat -> Nat} {U : Nat -> Prop} {w ls : List Nat} (a : Alg s U w ls) : ∀ {C : List (List Nat)}, Cov s C U -> ls.Perm (C.map List.length) /\ ls.Pairwise (· <= ·) := by
 induction a with
 | nil h =>
  intro C v
  cases C with
  | nil => exact ⟨.nil, .nil⟩
  | cons c C =>
   have := (v.cy c List.mem_cons_self).pos
   exact absurd ((v.all (c.getD 0 0)).mpr ⟨c, List.mem_cons_self, by rw [gDN this]; exact List.getElem_mem _⟩) (h _)
 | @step U c w ls hc hU hm _ ih =>
  intro C v
  obtain ⟨i, hi, k, hk, e⟩ := v.find hc hU
  have hl : c.length = C[i].length := by rw [e, rot_len]
  obtain ⟨p, pw⟩ := ih (v.erase hi (c := c) fun x => by rw [e]; exact rot_mem)
  constructor
  ·refine ((p.cons c.length).trans ?_)
   rw [hl]
   exact (erase_perm hi).map List.length
  ·refine List.pairwise_cons.mpr ⟨fun m hm' => ?_, pw⟩
   obtain ⟨d, hd, rfl⟩ := List.mem_map.mp (p.mem_iff.mp hm')
   have hd' := (erase_mem hi).mpr (.inr hd)
   exact hm d (v.cy d hd') fun x hx => (v.all x).mpr ⟨d, hd', hx⟩
noncomputable def leastN (C : List (List Nat)) (m : Nat) : Prop := (∃ c ∈ C, c.length = m) /\ ∀ c ∈ C, m <= c.length
noncomputable def mnl (C : List (List Nat)) : Nat := (C.map List.length).foldl Nat.min (C.headD []).length
noncomputable def walksF : Nat -> List (List Nat) -> List (List Nat)
 | _, [] => [[]]
 | 0, _ :: _ => []
 | f + 1, c :: C => (List.range (c :: C).length).flatMap fun i => if ((c :: C).getD i []).length = mnl (c :: C) then (List.range (mnl (c :: C))).flatMap fun st => (walksF f ((c :: C).take i ++ (c :: C).drop (i + 1))).map fun w => rot ((c :: C).getD i []) st ++ w else []
theorem fold_min : ∀ (l : List Nat) (a : Nat), (l.foldl Nat.min a = a \/ l.foldl Nat.min a ∈ l) /\ l.foldl Nat.min a <= a /\ ∀ x ∈ l, l.foldl Nat.min a <= x
 | [], a => ⟨.inl rfl, Nat.le_refl _, fun x h => by cases h⟩
 | y :: l, a => by
  obtain ⟨h1, h2, h3⟩ := fold_min l (Nat.min a y)
  rw [List.foldl_cons]
  have ha : Nat.min a y <= a := Nat.min_le_left _ _
  have hy : Nat.min a y <= y := Nat.min_le_right _ _
  refine ⟨?_, Nat.le_trans h2 ha, fun x hx => ?_⟩
  ·rcases h1 with h1 | h1
   ·by_cases q : a <= y
    ·exact .inl (by rw [h1]; exact Nat.min_eq_left q)
    ·exact .inr (by rw [h1]; exact List.mem_cons.mpr (.inl (Nat.min_eq_right (by omega))))
   ·exact .inr (List.mem_cons_of_mem _ h1)
  ·rcases List.mem_cons.mp hx with rfl | hx
   ·exact Nat.le_trans h2 hy
   ·exact h3 x hx
theorem mnl_least (c : List Nat) (C : List (List Nat)) : leastN (c :: C) (mnl (c :: C)) := by
 obtain ⟨h1, h2, h3⟩ := fold_min ((c :: C).map List.length) c.length
 refine ⟨?_, fun d hd => h3 _ (List.mem_map.mpr ⟨d, hd, rfl⟩)⟩
 rcases h1 with h1 | h1
 ·exact ⟨c, List.mem_cons_self, h1.symm⟩
 ·obtain ⟨d, hd, e⟩ := List.mem_map.mp h1
  exact ⟨d, hd, e⟩
theorem gDL {C : List (List Nat)} {i : Nat} (h : i < C.length) : C.getD i [] = C[i] := by rw [List.getD_eq_getElem?_getD, List.getElem?_eq_getElem h]; rfl
theorem walks_succ (f : Nat) (c : List Nat) (C : List (List Nat)) : walksF (f + 1) (c :: C) = (List.range (c :: C).length).flatMap fun i => if ((c :: C).getD i []).length = mnl (c :: C) then (List.range (mnl (c :: C))).flatMap fun st => (walksF f ((c :: C).take i ++ (c :: C).drop (i + 1))).map fun w => rot ((c :: C).getD i []) st ++ w else [] := rfl
theorem Cyc.head {s : Nat -> Nat} {c : List Nat} (h : Cyc s c) : c.getD 0 0 ∈ c := by rw [gDN h.pos]; exact List.getElem_mem _
theorem mem_walks {f : Nat} {c : List Nat} {C : List (List Nat)} {w : List Nat} : w ∈ walksF (f + 1) (c :: C) ↔ ∃ (i : Nat) (h : i < (c :: C).length) (st : Nat) (w' : List Nat), (c :: C)[i].length = mnl (c :: C) /\ st < (c :: C)[i].length /\ w' ∈ walksF f ((c :: C).eraseIdx i) /\ w = rot (c :: C)[i] st ++ w' := by
 rw [walks_succ, List.mem_flatMap]
 constructor
 ·rintro ⟨i, hi, h⟩
  have hi' := List.mem_range.mp hi
  rw [gDL hi'] at h
  by_cases q : (c :: C)[i].length = mnl (c :: C)
  ·rw [if_pos q] at h
   obtain ⟨st, hst, h⟩ := List.mem_flatMap.mp h
   obtain ⟨w', hw, rfl⟩ := List.mem_map.mp h
   exact ⟨i, hi', st, w', q, by rw [q]; exact List.mem_range.mp hst, by rw [List.eraseIdx_eq_take_drop_succ]; exact hw, rfl⟩
  ·rw [if_neg q] at h
   cases h
 ·rintro ⟨i, hi, st, w', q, hst, hw, rfl⟩
  refine ⟨i, List.mem_range.mpr hi, ?_⟩
  rw [gDL hi, if_pos q]
  refine List.mem_flatMap.mpr ⟨st, List.mem_range.mpr (by rw [<- q]; exact hst), List.mem_map.mpr ⟨w', ?_, rfl⟩⟩
  rw [<- List.eraseIdx_eq_take_drop_succ]
  exact hw
theorem walks_alg {s : Nat -> Nat} : ∀ {f : Nat} {C : List (List Nat)} {U : Nat -> Prop} {w : List Nat}, Cov s C U -> C.length <= f -> (w ∈ walksF f C ↔ ∃ ls, Alg s U w ls)
 | f, [], U, w, v, _ => by
  have hU : ∀ x, ¬ U x := fun x h => by
   obtain ⟨c, hc, _⟩ := (v.all x).mp h
   cases hc
  have e : walksF f [] = [[]] := by cases f <;> rfl
  rw [e, List.mem_singleton]
  constructor
  ·rintro rfl
   exact ⟨[], .nil hU⟩
  ·rintro ⟨ls, a⟩
   cases a with
   | nil => rfl
   | step hc hc2 _ _ => exact absurd (hc2 _ hc.head) (hU _)
 | 0, _ :: _, _, _, _, h => by simp at h
 | f + 1, c :: C, U, w, v, hf => by
  have lst := mnl_least c C
  rw [mem_walks]
  constructor
  ·rintro ⟨i, hi, st, w', q, hst, hw, rfl⟩
   have hcy := (v.cy _ (List.getElem_mem hi)).rot hst
   have v' := v.erase hi (c := rot (c :: C)[i] st) fun x => rot_mem
   obtain ⟨ls, a⟩ := (walks_alg v' (by rw [List.length_eraseIdx_of_lt hi]; simp at hf ⊢; assumption)).mp hw
   refine ⟨_, .step hcy (fun x hx => (v.all x).mpr ⟨_, List.getElem_mem hi, rot_mem.mp hx⟩) (fun d hd hdU => ?_) a⟩
   obtain ⟨j, hj, k, hk, e⟩ := v.find hd hdU
   rw [rot_len, q, e, rot_len]
   exact lst.2 _ (List.getElem_mem hj)
  ·rintro ⟨ls, a⟩
   cases a with
   | nil h => exact absurd ((v.all _).mpr ⟨c, List.mem_cons_self, (v.cy c List.mem_cons_self).head⟩) (h _)
   | @step _ d w' ls hd hdU hm a =>
    obtain ⟨i, hi, k, hk, rfl⟩ := v.find hd hdU
    have v' := v.erase hi (c := rot (c :: C)[i] k) fun x => rot_mem
    refine ⟨i, hi, k, w', ?_, hk, (walks_alg v' (by rw [List.length_eraseIdx_of_lt hi]; simp at hf ⊢; assumption)).mpr ⟨ls, a⟩, rfl⟩
    obtain ⟨⟨d', hd', e⟩, h2⟩ := lst
    have h3 := hm d' (v.cy d' hd') fun x hx => (v.all x).mpr ⟨d', hd', hx⟩
    rw [rot_len, e] at h3
    exact Nat.le_antisymm h3 (h2 _ (List.getElem_mem hi))
termination_by f => f
theorem alg_some {s : Nat -> Nat} : ∀ {f : Nat} {C : List (List Nat)}, (∀ c ∈ C, 0 < c.length) -> C.length <= f -> ∃ w, w ∈ walksF f C
 | f, [], _, _ => ⟨[], by cases f <;> simp [walksF]⟩
 | 0, _ :: _, _, h => by simp at h
 | f + 1, c :: C, hp, hf => by
  obtain ⟨⟨d, hd, e⟩, _⟩ := mnl_least c C
  obtain ⟨i, hi, rfl⟩ := List.getElem_of_mem hd
  obtain ⟨w, hw⟩ := alg_some (s := s) (f := f) (C := (c :: C).eraseIdx i) (fun x hx => hp x ((erase_mem hi).mpr (.inr hx))) (by rw [List.length_eraseIdx_of_lt hi]; simp at hf ⊢; assumption)
  exact ⟨_, mem_walks.mpr ⟨i, hi, 0, w, e, hp _ hd, hw, rfl⟩⟩
section
variable {n : Nat} {s s' θ θi : Nat -> Nat}
structure Conj (n : Nat) (s s' θ θi : Nat -> Nat) : Prop where
 a : ∀ x, θi (θ x) = x
 b : ∀ x, θ (θi x) = x
 lt : ∀ x, x < n -> θ x < n
 lti : ∀ x, x < n -> θi x < n
 go : ∀ x, x < n -> s' (θ x) = θ (s x)
 sl : ∀ x, x < n -> s x < n
theorem Conj.sym (h : Conj n s s' θ θi) : Conj n s' s θi θ := by
 refine ⟨h.b, h.a, h.lti, h.lt, fun x hx => ?_, fun x hx => ?_⟩
 ·have := h.go (θi x) (h.lti x hx)
  rw [h.b] at this
  rw [this, h.a]
 ·have := h.go (θi x) (h.lti x hx)
  rw [h.b] at this
  rw [this]
  exact h.lt _ (h.sl _ (h.lti x hx))
theorem Conj.inj (h : Conj n s s' θ θi) {x y : Nat} (e : θ x = θ y) : x = y := by rw [<- h.a x, <- h.a y, e]
theorem map_at {c : List Nat} {θ : Nat -> Nat} {i : Nat} (h : i < c.length) : (c.map θ).getD i 0 = θ (c.getD i 0) := by
 rw [gDN (by rw [List.length_map]; exact h), gDN h, List.getElem_map]
theorem Conj.cyc (h : Conj n s s' θ θi) {c : List Nat} (hc : Cyc s c) (hn : ∀ x ∈ c, x < n) : Cyc s' (c.map θ) := by
 refine ⟨by rw [List.length_map]; exact hc.pos, ?_, fun i hi => ?_⟩
 ·refine List.nodup_iff_pairwise_ne.mpr (List.pairwise_map.mpr ((List.nodup_iff_pairwise_ne.mp hc.nd).imp fun q e => q (h.inj e)))
 ·rw [List.length_map] at hi ⊢
  have hm : c.getD i 0 ∈ c := by rw [gDN hi]; exact List.getElem_mem _
  rw [map_at hi, map_at (Nat.mod_lt _ hc.pos), h.go _ (hn _ hm), hc.nx i hi]
theorem Conj.alg (h : Conj n s s' θ θi) {U : Nat -> Prop} {w ls : List Nat} (a : Alg s U w ls) : (∀ x, U x -> x < n) -> Alg s' (fun y => U (θi y)) (w.map θ) ls := by
 induction a with
 | nil hU => intro _; exact .nil fun x => hU _
 | @step U c w ls hc hU hm _ ih =>
  intro hn
  rw [List.map_append]
  have e : c.length = (c.map θ).length := (List.length_map _).symm
  rw [e]
  refine .step (h.cyc hc fun x hx => hn x (hU x hx)) (fun x hx => ?_) (fun d hd hdU => ?_) (Alg.congr (fun y => ?_) (ih fun x hx => hn x hx.1))
  ·obtain ⟨z, hz, rfl⟩ := List.mem_map.mp hx
   show U (θi (θ z))
   rw [h.a]
   exact hU z hz
  ·have h2 := hm (d.map θi) (h.sym.cyc hd fun x hx => by have := h.lt _ (hn _ (hdU x hx)); rw [h.b] at this; exact this) fun x hx => by
    obtain ⟨z, hz, rfl⟩ := List.mem_map.mp hx
    exact hdU z hz
   rw [List.length_map] at h2 ⊢
   exact h2
  ·show U (θi y) /\ θi y ∉ c ↔ U (θi y) /\ y ∉ c.map θ
   refine and_congr_right fun _ => not_congr ⟨fun z => List.mem_map.mpr ⟨_, z, h.b y⟩, fun z => ?_⟩
   obtain ⟨x, hx, rfl⟩ := List.mem_map.mp z
   rw [h.a]
   exact hx
theorem conj_walks (h : Conj n s s' θ θi) {C C' : List (List Nat)} (v : Cov s C (· < n)) (v' : Cov s' C' (· < n)) {f f' : Nat} (hf : C.length <= f) (hf' : C'.length <= f') {w : List Nat} (hw : w ∈ walksF f C) : w.map θ ∈ walksF f' C' := by
 obtain ⟨ls, a⟩ := (walks_alg v hf).mp hw
 refine (walks_alg v' hf').mpr ⟨ls, Alg.congr (fun x => ?_) (h.alg a fun x hx => hx)⟩
 exact ⟨fun z => by have := h.lt _ z; rw [h.b] at this; exact this, fun z => h.lti _ z⟩
theorem conj_lens (h : Conj n s s' θ θi) {C C' : List (List Nat)} (v : Cov s C (· < n)) (v' : Cov s' C' (· < n)) : ∃ ls : List Nat, ls.Perm (C.map List.length) /\ ls.Perm (C'.map List.length) /\ ls.Pairwise (· <= ·) := by
 obtain ⟨w, hw⟩ := alg_some (s := s) (f := C.length) (C := C) (fun c hc => (v.cy c hc).pos) (Nat.le_refl _)
 obtain ⟨ls, a⟩ := (walks_alg v (Nat.le_refl _)).mp hw
 obtain ⟨p, pw⟩ := alg_lens a v
 have a' : Alg s' (· < n) (w.map θ) ls := Alg.congr (fun x => ⟨fun z => by have := h.lt _ z; rw [h.b] at this; exact this, fun z => h.lti _ z⟩) (h.alg a fun x hx => hx)
 exact ⟨ls, p, (alg_lens a' v').1, pw⟩
end
section
variable {n : Nat} {s : Nat -> Nat}
theorem path_nx {c : Nat} {acc : List Nat} (p : Path n s c acc) : acc.getD 0 0 = c /\ 0 < acc.length /\ lastN acc = acc.getD (acc.length - 1) 0 /\ ∀ i, i + 1 < acc.length -> acc.getD (i + 1) 0 = s (acc.getD i 0) := by
 induction p with
 | one h => exact ⟨rfl, by simp, rfl, fun i hi => by simp at hi⟩
 | @more acc p _ ih =>
  obtain ⟨h1, h2, h3, h4⟩ := ih
  have ap : ∀ i, i < acc.length -> (acc ++ [s (lastN acc)]).getD i 0 = acc.getD i 0 := fun i hi => by
   rw [List.getD_eq_getElem?_getD, List.getElem?_append_left hi, <- List.getD_eq_getElem?_getD]
  have ae : (acc ++ [s (lastN acc)]).getD acc.length 0 = s (lastN acc) := by
   rw [List.getD_eq_getElem?_getD, List.getElem?_append_right (Nat.le_refl _), Nat.sub_self]
   rfl
  refine ⟨by rw [ap 0 h2]; exact h1, by simp, ?_, fun i hi => ?_⟩
  ·rw [lastN_app, List.length_append]
   exact ae.symm
  ·rw [List.length_append] at hi
   have hi' : i < acc.length := by simp at hi; assumption
   rw [ap i hi']
   by_cases q : i + 1 < acc.length
   ·rw [ap (i + 1) q]
    exact h4 i q
   ·have e : i + 1 = acc.length := by omega
    rw [e, ae, h3, show acc.length - 1 = i by omega]
theorem ring_cyc (o : One n s) {c : Nat} (hc : c < n) : Cyc s (ringL s n c) := by
 obtain ⟨p, e⟩ := ring_ok o hc
 obtain ⟨h1, h2, h3, h4⟩ := path_nx p
 refine ⟨h2, p.nodup, fun i hi => ?_⟩
 by_cases q : i + 1 < (ringL s n c).length
 ·rw [Nat.mod_eq_of_lt q]
  exact (h4 i q).symm
 ·have e2 : i + 1 = (ringL s n c).length := by omega
  rw [e2, Nat.mod_self, h1, show i = (ringL s n c).length - 1 by omega, <- h3]
  exact e
theorem cyc_meet {c d : List Nat} (hc : Cyc s c) (hd : Cyc s d) {x : Nat} (h1 : x ∈ c) (h2 : x ∈ d) : ∀ y, y ∈ c ↔ y ∈ d := by
 obtain ⟨i, hi, e1⟩ := List.getElem_of_mem h1
 obtain ⟨j, hj, e2⟩ := List.getElem_of_mem h2
 have h := cyc_same (hc.rot hi) hd hj (by rw [rot_at hi hc.pos, Nat.add_zero, Nat.mod_eq_of_lt hi, gDN hi, gDN hj, e1, e2])
 intro y
 rw [<- rot_mem (c := c) (k := i), h, rot_mem]
theorem rings_part (o : One n s) : ∀ i, i <= n -> (∀ r ∈ ringsTo s n i, ∃ c, c < n /\ r = ringL s n c) /\ (ringsTo s n i).Pairwise (fun c d => ∀ x ∈ c, x ∉ d) /\ ∀ x, x < i -> ∃ r ∈ ringsTo s n i, x ∈ r
 | 0, _ => ⟨fun r h => (by cases h), List.Pairwise.nil, fun x h => absurd h (Nat.not_lt_zero _)⟩
 | i + 1, hi => by
  obtain ⟨h1, h2, h3⟩ := rings_part o i (by exact Om.f4 ‹_›)
  rw [ringsTo]
  by_cases q : (ringsTo s n i).all (fun r => decide (i ∉ r)) = true
  ·rw [if_pos q]
   rw [List.all_eq_true] at q
   have cyI := ring_cyc o (c := i) (by exact Om.f5 ‹_›)
   have inI : i ∈ ringL s n i := (ring_ok o (by exact Om.f5 ‹_›)).1.head_mem
   refine ⟨fun r hr => ?_, List.pairwise_append.mpr ⟨h2, List.pairwise_singleton _ _, fun c hc d hd x hx hxd => ?_⟩, fun x hx => ?_⟩
   ·rcases List.mem_append.mp hr with hr | hr
    ·exact h1 r hr
    ·exact ⟨i, by exact Om.f5 ‹_›, List.mem_singleton.mp hr⟩
   ·rw [List.mem_singleton.mp hd] at hxd
    obtain ⟨k, hk, rfl⟩ := h1 c hc
    have := (cyc_meet (ring_cyc o hk) cyI hx hxd i).mpr inI
    exact of_decide_eq_true (q _ hc) this
   ·by_cases e : x < i
    ·obtain ⟨r, hr, hx⟩ := h3 x e
     exact ⟨r, List.mem_append_left _ hr, hx⟩
    ·have : x = i := by omega
     subst this
     exact ⟨_, List.mem_append_right _ List.mem_cons_self, inI⟩
  ·rw [if_neg q]
   refine ⟨h1, h2, fun x hx => ?_⟩
   by_cases e : x < i
   ·exact h3 x e
   ·have : x = i := by omega
    subst this
    rw [List.all_eq_true] at q
    by_cases z : ∃ r ∈ ringsTo s n x, x ∈ r
    ·exact z
    ·exact absurd (fun (r : List Nat) hr => decide_eq_true (p := x ∉ r) fun h => z ⟨r, hr, h⟩) q
theorem rings_cov (o : One n s) : Cov s (ringsTo s n n) (· < n) := by
 obtain ⟨h1, h2, h3⟩ := rings_part o n (Nat.le_refl _)
 refine ⟨fun c hc => ?_, h2, fun x => ⟨fun h => h3 x h, fun ⟨c, hc, hx⟩ => ?_⟩⟩
 ·obtain ⟨k, hk, rfl⟩ := h1 c hc
  exact ring_cyc o hk
 ·obtain ⟨k, hk, rfl⟩ := h1 c hc
  exact (ring_ok o hk).1.lt o x hx
end
end My
namespace L2
open PySem PySem.Spec PyProof.Rows
section
variable {prog : Program} {w : World} {A : Around} {E : Value -> Shared -> Prop} {s : Shared}
end
end L2
namespace L2
open PySem PySem.Spec PyProof.Rows
noncomputable def ItenL (K : PySem.W.Frag) (t : Addr) : It :=
  ⟨fun i H => ∃ xs x, SqL K H t xs /\ xs[i]? = some x,
   fun i H v H' => ∃ p x, v = .ref p /\ H p = none /\ (∀ xs, SqL K H t xs -> xs[i]? = some x) /\ H' = upd H p (.tup [.int (i : Int), x]),
   fun i H => ∃ xs, SqL K H t xs /\ xs.length <= i⟩
theorem turn_enumL {P : Program} {w : World} {K : PySem.W.Frag} {elts : List Expr} {x1} {tpos : Pos} {e it t : Addr} (hei : e ≠ it) (hti : t ≠ it) (hte : t ≠ e) : Turn P w K (.Tuple elts x1 tpos) (ItenL K t) [e, it] e (fun i h => (∃ old, IsEnum h e it (i : Int) old) /\ h.IsListIter it t i) where
 mem := by simp
 obj := fun i h st b hb => by
  simp only [List.mem_cons, List.not_mem_nil, or_false] at hb
  rcases hb with rfl | rfl
  ·obtain ⟨old, z⟩ := st.1
   exact ⟨_, z, fun v q => by cases q⟩
  ·obtain ⟨o, z, c, d⟩ := st.2
   exact ⟨o, z, fun v q => by rw [d] at q; cases q⟩
 keep := fun i h h' st k => ⟨let ⟨old, z⟩ := st.1; ⟨old, k e (by simp) _ z⟩, Heap.IsListIter.at st.2 fun o z => k it (by simp) o z⟩
 item := by
  intro X hP hw hK hc i pins s σ H E I hf st hg
  subst hP hw hK
  obtain ⟨xs, x, hq, hx⟩ := hg
  obtain ⟨its, rv, p, hz⟩ := I.list hq
  obtain ⟨u, hu, ru⟩ := rv.get hx
  obtain ⟨⟨old, he⟩, hit⟩ := st
  have hu' : its.toArray[i]? = some u := by simpa using hu
  have hlt : i < its.toArray.size := (Array.getElem?_eq_some_iff.mp hu').1
  have hef : e ∉ [it, t] := fun z => by
   simp only [List.mem_cons, List.not_mem_nil, or_false] at z
   rcases z with z | z
   ·exact hei z
   ·exact hte z.symm
  refine wpAny_pyNext_enum_itemD (Draws.list (A := X.A.in1) (I.ok.hd hc) it t hti its.toArray) he ⟨hit, p.isList⟩ hlt hei hef fun x' h' tk hP ho hs' hT hsz hk => ⟨_, rfl, ?_⟩
  have ex : x' = u := by rw [hu'] at hP; cases hP; rfl
  subst ex
  refine wpAny_letOwnedTupleGo_enum (s := { s with heap := h', toks := tk + 1 }) ho fun h2 he2 sb => ?_
  have hnone : H s.heap.objs.size = none := I.hok.fresh (Nat.le_refl _)
  have hfp : ∀ c ∈ [e, it], c < s.heap.objs.size := fun c hc => by
   simp only [List.mem_cons, List.not_mem_nil, or_false] at hc
   rcases hc with rfl | rfl
   ·exact Heap.lt_size he
   ·obtain ⟨o, z, _⟩ := hit; exact Heap.lt_size z
  have I1 : Inv X pins σ (upd H s.heap.objs.size (.tup [.int (i : Int), x])) { s with heap := s.heap.push { cls := .type "tuple", data := .seq #[.int (i : Int) tk, x'] }, toks := tk + 1 } :=
   I.laid (t' := tk + 1) (fun b u e => Heap.get?_push_of_some _ e) (Nat.le_refl _) ⟨(show 2 <= sizeLine by decide), [.int (i : Int) tk, x'], .cons ⟨tk, rfl⟩ (.cons ru .nil), ⟨_, Heap.get?_push_size _ rfl, rfl, _, rfl⟩⟩
  have hkk : ∀ c o, c ∉ [e, it] -> (s.heap.push { cls := .type "tuple", data := .seq #[.int (i : Int) tk, x'] }).get? c = some o -> h2.get? c = some o := fun c o hc z => by
   simp only [List.mem_cons, List.not_mem_nil, or_false, not_or] at hc
   rw [sb.2 c hc.1]
   by_cases q : c = s.heap.objs.size
   ·subst q
    rw [Heap.get?_push_size _ rfl] at z
    cases z
    exact hT
   ·rw [Heap.get?_push_ne _ _ _ q] at z
    exact hk c o hc.1 hc.2 z
  have hf' : ∀ c ∈ [e, it], FpOk X pins (upd H s.heap.objs.size (.tup [.int (i : Int), x])) c := fun c hc => by
   obtain ⟨f0, r⟩ := hf c hc
   exact ⟨by rw [upd_ne (Nat.ne_of_lt (hfp c hc))]; exact f0, r⟩
  have I2 : Inv X pins σ (upd H s.heap.objs.size (.tup [.int (i : Int), x])) { s with heap := h2, toks := tk + 1 } := I1.turnedL (t' := tk + 1) hkk hf'
  refine ⟨.ref s.heap.objs.size, _, I2, rfl, ⟨_, x, rfl, hnone, fun l h => by rw [I.list_inj h hq]; exact hx, rfl⟩, ?_, fun c hc => (hf' c hc).1⟩
  exact ⟨⟨_, he2⟩, Heap.IsListIter.at hs'.1 fun o z => (sb.2 it (Ne.symm hei)).trans z⟩
 done := by
  intro X hP hw hK hc i pins s σ H E I hf st hg
  subst hP hw hK
  obtain ⟨xs, hq, hend⟩ := hg
  obtain ⟨its, rv, p, hz⟩ := I.list hq
  obtain ⟨⟨old, he⟩, hit⟩ := st
  have h1 := rv.length
  refine wpAny_pyNext_enum_end (I.ok.hd hc) he hit p.isList (by simp; omega) fun h' keep => ⟨rfl, I.turnedL (t' := s.toks) (fun c o hc z => ?_) hf⟩
  simp only [List.mem_cons, List.not_mem_nil, or_false, not_or] at hc
  exact keep c o hc.2 z
 self := fun _ _ _ _ _ st h => let ⟨_, z⟩ := st.1; wpAny_pyIter_enum z h
noncomputable def iEnumL (K : PySem.W.Frag) (ta : TA) : TI := fun σ H R => ta σ H fun vs H1 => ∃ t xs, vs = [.ref t] /\ SqL K H1 t xs /\ R (ItenL K t) H1
theorem pi_enumL {X : Cx} {elts : List Expr} {x1} {tpos : Pos} {a : Expr} {ta : TA} {p pos : Pos} (K : PySem.W.Frag) (hg : Gl X "enumerate") (hm : X.mg "enumerate" = none) (ha : PA X [a] ta) (hK : X.K = K := by rfl) (hs : starEach [a] X.env = [(false, eval a X.env)] := by rfl) :
  PI X (.Tuple elts x1 tpos) (.Call (.Name "enumerate" p) [a] [] pos) (iEnumL K ta) := by
 subst hK
 intro pins s σ H R I h
 refine Call_ (ld_blt I hg hm boot_enumerate (PyProof.Rows.callWith_type1 (thn (ha pos pins s σ H _ I h) fun us s1 ⟨vs, H1, I1, r1, q1⟩ => ?_) (by rw [hs]; rfl) (by rfl)))
 obtain ⟨t, xs, e, hq, q⟩ := q1
 subst e
 cases r1 with
 | cons r rr =>
  cases rr
  cases r
  obtain ⟨its, rv, p, hz⟩ := I1.list hq
  have a1 : t < s1.heap.objs.size := by obtain ⟨_, e, _⟩ := p.isList; exact Heap.lt_size e
  refine call_enumerate_list p.isList fun h' he hit _ hk => wpAny_pyIter_enum (s := { s1 with heap := h' }) he ?_
  refine ⟨_, [s1.heap.objs.size + 1, s1.heap.objs.size], _, _, H1, rfl, I1.kept (t' := s1.toks) hk, turn_enumL (Nat.succ_ne_self _) (Nat.ne_of_lt a1) (Nat.ne_of_lt (Nat.lt_succ_of_lt a1)), ⟨⟨_, he⟩, hit⟩, fun c hc => ?_, q⟩
  simp only [List.mem_cons, List.not_mem_nil, or_false] at hc
  have hge : s1.heap.objs.size <= c := by
   rcases hc with rfl | rfl
   ·exact Nat.le_add_right _ _
   ·exact Nat.le_refl _
  exact I1.fpOk hge (I1.hok.fresh hge)
end L2
namespace L2
open PySem PySem.Spec PyProof.Rows
end L2
namespace L2
open PySem PySem.Spec PyProof.Rows PySem.W
noncomputable def runT {α : Type} (n : Nat) (lt : Nat -> Nat -> Bool) : KasT α -> Option α
 | .ret a => some a
 | .ask i j k => if decide (i < n) && decide (j < n) then runT n lt (k (lt i j)) else none
theorem runT_wp {α : Type} {n : Nat} {lt : Nat -> Nat -> Bool} {cmp : Nat -> Nat -> (Bool -> Shared -> Prop) -> Shared -> Prop} {Q : α -> Shared -> Prop} {s : Shared} (hc : ∀ i j (C : Bool -> Shared -> Prop), i < n -> j < n -> C (lt i j) s -> cmp i j C s) :
  ∀ (t : KasT α) {a : α}, runT n lt t = some a -> Q a s -> t.kasWp cmp Q s
 | .ret b, a, e, q => by
  have e' : b = a := Option.some.inj e
  subst e'
  exact q
 | .ask i j k, a, e, q => by
  unfold runT at e
  cases hb : (decide (i < n) && decide (j < n)) with
  | false => rw [hb] at e; cases e
  | true =>
   rw [hb] at e
   rw [Bool.and_eq_true, decide_eq_true_eq, decide_eq_true_eq] at hb
   exact hc i j _ hb.1 hb.2 (runT_wp hc (k (lt i j)) e q)
noncomputable def lexB : List Int -> List Int -> Bool
 | x :: xs, y :: ys => if x = y then lexB xs ys else decide (x < y)
 | _, _ => false
section
variable {prog : Program} {w : World} {A : Around} {E : Value -> Shared -> Prop} {s : Shared}
theorem lex_kat {b : Bool} {Q : Bool -> Shared -> Prop} : ∀ {us vs : List Value} {xs ys : List Int} {i : Nat}, IntsAre us xs -> IntsAre vs ys -> xs.length = ys.length -> Q (lexB xs ys) s -> KatLex prog w A b false Q (us.zip vs) i s
 | _, _, _, _, _, .nil, .nil, _, q => q
 | _, _, _, _, _, .cons _ _ _, .nil, e, _ => by cases e
 | _, _, _, _, _, .nil, .cons _ _ _, e, _ => by cases e
 | _, _, x :: xs, y :: ys, i, .cons _ t r, .cons _ u r', e, q => by
  refine kat_cons (wpAny_eqBool_int ?_)
  unfold lexB at q
  by_cases hx : x = y
  ·subst hx
   rw [if_pos rfl] at q
   have hb : (x == x) = true := by simp
   rw [hb]
   exact kat_yes (lex_kat r r' (Nat.succ.inj e) q)
  ·rw [if_neg hx] at q
   have hb : (x == y) = false := by simpa using hx
   rw [hb]
   refine kat_no ?_
   cases hbi : (b && i == 0) with
   | true => exact oneLt_int q
   | false => exact kat_one _ _ (lt_int q)
noncomputable def Tups (h : Heap) : List Value -> List (List Int) -> Prop := Paired fun v r => ∃ a o us n, v = Value.ref a /\ h.get? a = some o /\ o.cls = .type "tuple" /\ o.data = .seq (List.toArray us) n /\ IntsAre us r
theorem tups_firsts {h : Heap} {M : Model} : ∀ {vs : List Value} {S : List (List Int)}, Tups h vs S -> (∀ r ∈ S, r ≠ []) -> ∃ fs, KatTups h vs fs /\ fs.length = vs.length /\ ∀ v ∈ fs, Looks M h (typeOf v) (.type "int")
 | _, _, .nil, _ => ⟨[], .nil, rfl, fun v hv => by cases hv⟩
 | _, _, .cons ⟨a, o, us, n, e, g, c, d, iu⟩ t, hS => by
  subst e
  obtain ⟨fs, k, hl, hT⟩ := tups_firsts (M := M) t fun r hr => hS r (List.mem_cons_of_mem _ hr)
  have h0 := hS _ List.mem_cons_self
  cases iu with
  | nil => exact absurd rfl h0
  | cons x tk r =>
   refine ⟨.int x tk :: fs, KatTups.cons g c d rfl k, by rw [List.length_cons, List.length_cons, hl], fun v hv => ?_⟩
   rcases List.mem_cons.mp hv with e | hv
   ·subst e
    exact Looks.of_pure rfl
   ·exact hT v hv
theorem list_sort_tups {a : Addr} {vs : List Value} {S : List (List Int)} {n k : Nat} {p : Array Nat} {P : PySem.Fin -> Shared -> Prop} (ho : s.heap.get? a = some (seqObj "list" vs.toArray n)) (ht : Tups s.heap vs S) (hk : ∀ r ∈ S, r.length = k) (hk0 : 0 < k)
  (h2 : 2 <= vs.length) (h64 : vs.length < 64) (hp : runT vs.length (fun i j => lexB (S.getD i []) (S.getD j [])) (kas_sort vs.length) = some p)
  (h : P (.done (.ret .none)) { s with heap := sortedHeap s.heap a vs (List.toArray (p.toList.map fun i => vs.getD i Value.none)) }) :
  wpAny (model prog w) A (Builtin.«list.sort» ⟨[.ref a], []⟩) P E s := by
 have ha : a < s.heap.objs.size := Heap.lt_size ho
 obtain ⟨e1, ho1⟩ : ∃ e1, (s.heap.update a (Obj.mapSeq fun _ => (#[] : Array Value))).get? a = some (seqObj "list" #[] e1) := ⟨_, get?_update_seq ho fun _ => #[]⟩
 have keep : ∀ b o, b ≠ a -> s.heap.get? b = some o -> (((s.heap.update a (Obj.mapSeq fun _ => (#[] : Array Value))).push (seqObj "tuple" vs.toArray 0)).push (seqObj "list" #[] 0)).get? b = some o := fun b o hb e => by
  refine Heap.get?_push_of_some _ (Heap.get?_push_of_some _ ?_)
  rw [Heap.get?_update_ne _ _ _ _ hb]
  exact e
 have ho6 : (((s.heap.update a (Obj.mapSeq fun _ => (#[] : Array Value))).push (seqObj "tuple" vs.toArray 0)).push (seqObj "list" #[] 0)).get? a = some (seqObj "list" #[] e1) := Heap.get?_push_of_some _ (Heap.get?_push_of_some _ ho1)
 have ht3 : Tups (((s.heap.update a (Obj.mapSeq fun _ => (#[] : Array Value))).push (seqObj "tuple" vs.toArray 0)).push (seqObj "list" #[] 0)) vs S := Paired.mapP ht fun v r ⟨b, o, us, m, e, g, c, d, iu⟩ => by
  refine ⟨b, o, us, m, e, keep b o (fun z => ?_) g, c, d, iu⟩
  rw [z, ho] at g
  cases g
  exact absurd c (by simp [seqObj])
 rw [list_sort_plain]
 refine wpAny_bind (listItems_at ho rfl ?_)
 refine wpAny_bind (listUpdate_at ho rfl ?_ (by rw [List.size_toArray, sizeLine_eq]; omega) (Nat.zero_le _))
 refine wpAny_bind (seqEpoch_at ho1 rfl ?_)
 refine wpAny_bind (wpAny_newTuple ?_ (by show vs.length <= _; rw [sizeLine_eq]; omega))
 refine wpAny_bind (wpAny_newList ?_ (Nat.zero_le _))
 refine wpAny_holding ?_
 show wpAny (model prog w) A _ P E { s with heap := ((s.heap.update a (Obj.mapSeq fun _ => (#[] : Array Value))).push (seqObj "tuple" vs.toArray 0)).push (seqObj "list" #[] 0) }
 dsimp only
 have hn2 : ¬ vs.toArray.size < 2 := by rw [List.size_toArray]; omega
 rw [if_neg hn2, if_neg hn2]
 obtain ⟨fs, kt, hfl, hT⟩ := tups_firsts (M := model prog w) ht3 (fun r hr z => by have := hk r hr; rw [z] at this; simp at this; omega)
 refine wpAny_bind (kat_kind kt (by omega) hT rfl ?_)
 have hlen : vs.length = S.length := Paired.length ht3
 have hk3 : (kas_sort vs.length).kasWp (kas_ask prog w A (tuples' (Value.type "int" != Value.type "tuple")) vs) (fun p' s' => p' = p /\ s' = { s with heap := ((s.heap.update a (Obj.mapSeq fun _ => (#[] : Array Value))).push (seqObj "tuple" vs.toArray 0)).push (seqObj "list" #[] 0) }) { s with heap := ((s.heap.update a (Obj.mapSeq fun _ => (#[] : Array Value))).push (seqObj "tuple" vs.toArray 0)).push (seqObj "list" #[] 0) } := by
  refine runT_wp (fun i j C hi hj hC => ?_) _ hp ⟨rfl, rfl⟩
  obtain ⟨ri, hri, bi, oi, ui, mi, ei, gi, ci, di, ii⟩ := Paired.getL ht3 (List.getElem?_eq_getElem hi)
  obtain ⟨rj, hrj, bj, oj, uj, mj, ej, gj, cj, dj, ij⟩ := Paired.getL ht3 (List.getElem?_eq_getElem hj)
  have e1 : vs.getD i Value.none = .ref bi := by rw [List.getD_eq_getElem?_getD, List.getElem?_eq_getElem hi, ei]; rfl
  have e2 : vs.getD j Value.none = .ref bj := by rw [List.getD_eq_getElem?_getD, List.getElem?_eq_getElem hj, ej]; rfl
  have e3 : S.getD i [] = ri := by rw [List.getD_eq_getElem?_getD, hri]; rfl
  have e4 : S.getD j [] = rj := by rw [List.getD_eq_getElem?_getD, hrj]; rfl
  have l1 := hk ri (List.mem_of_getElem? hri)
  have l2 := hk rj (List.mem_of_getElem? hrj)
  rw [e3, e4] at hC
  show wpAny (model prog w) A (keyLt' _ (vs.getD i Value.none) (vs.getD j Value.none)) C _ _
  rw [e1, e2]
  have hsz : decide ((List.toArray ui).size < (List.toArray uj).size) = false := by
   rw [List.size_toArray, List.size_toArray, intsAre_len ii, intsAre_len ij, l1, l2]
   simp
  refine kat_lt gi di gj dj ?_
  rw [hsz]
  exact lex_kat ii ij (l1.trans l2.symm) hC
 refine wpAny_bind (wpAny_mono (kat_run (ks := vs) (Q := fun st' s' => ∃ p' : Array Nat, p'.size = vs.length /\ arrOf st' = p'.map (kas_item (vs.toArray.zip vs.toArray)) /\ failedOf st' = none /\ p' = p /\ s' = { s with heap := ((s.heap.update a (Obj.mapSeq fun _ => (#[] : Array Value))).push (seqObj "tuple" vs.toArray 0)).push (seqObj "list" #[] 0) })
  rfl h2 h64 (fun p' st' s' a1 a2 a3 a4 => ⟨p', a1, a2, a3, a4⟩) hk3) ?_ fun _ _ e => e)
 rintro ⟨⟨⟩, st'⟩ s' ⟨p', hpz, har, hf, rfl, rfl⟩
 dsimp only
 have hout := kat_snds rfl har
 have hsz : (List.toArray (p'.toList.map fun i => vs.getD i Value.none)).size = vs.length := by rw [List.size_toArray, List.length_map, Array.length_toList, hpz]
 rw [hout]
 refine wpAny_bind (seqEpoch_at ho6 rfl ?_)
 refine wpAny_bind (listUpdate_at ho6 rfl ?_ (Nat.zero_le _) (Nat.le_trans (Nat.le_of_eq hsz) (by rw [sizeLine_eq]; omega)))
 rw [hf]
 simp only [bne_self_eq_false, Bool.false_eq_true, if_false]
 exact wpAny_pure h
end
end L2
namespace L2
open PySem PySem.Spec PyProof.Rows
section
variable {prog : Program} {w : World} {A : Around} {E : Value -> Shared -> Prop} {s : Shared} {κ : Type} [DecidableEq κ] {knd : KeyKind prog w κ}
end
end L2
namespace L2
open PySem PySem.Spec PyProof.Rows
section
variable {prog : Program} {w : World} {A : Around} {E : Value -> Shared -> Prop} {s : Shared}
end
end L2
namespace L2
open PySem PySem.Spec PyProof.Rows
section
variable {prog : Program} {w : World} {A : Around} {R : Result -> Shared -> Prop} {I : Addr} {fp wr : List Addr} {G : Array GenState -> Array GenState -> Prop} {P : Nat -> Value -> Prop} {St : Nat -> Shared -> Prop}
end
section
variable {prog : Program} {w : World} {A : Around} {E : Value -> Shared -> Prop} {s : Shared}
end
end L2
namespace L2
open PySem PySem.Spec PyProof.Rows
section
variable {prog : Program} {w : World} {A : Around} {E : Value -> Shared -> Prop} {s : Shared} {R : Result -> Shared -> Prop}
end
end L2
namespace L2
open PySem PySem.Spec PyProof.Rows PySem.W SeqAt
section
variable {A : Around} {s : Shared}
end
end L2
namespace L2
open PySem PySem.Spec PyProof.Rows
section
variable {prog : Program} {w : World} {A : Around} {R : Result -> Shared -> Prop} {it : Addr} {fp wr : List Addr} {n : Nat} {P : Nat -> Value -> Prop} {St : Nat -> Heap -> Prop} {G : Shared -> Prop} {lt : Nat -> Nat -> Bool} {bx : Addr}
theorem mn_name : (toString "min" ++ toString ".loop" : String) = "min.loop" := by decide
theorem mn_loop (Wk : Walks prog w A.in1 it fp wr n P St) (hG : ∀ (s : Shared) h' tk, G s -> (∀ b o, b ∉ wr -> b ≠ bx -> s.heap.get? b = some o -> h'.get? b = some o) -> G { s with heap := h', toks := tk })
  (cmp : ∀ i j u v (s : Shared) (Q : Value -> Shared -> Prop) (E : Value -> Shared -> Prop), G s -> P i u -> P j v -> Q (.bool (lt i j)) s -> wpAny (model prog w) A.in1 (richCompare .Lt u v) Q E s) (hb : bx ∉ fp) :
  ∀ (r i : Nat) (s : Shared) (u : Value) (c : Nat), n - (i + 1) = r -> i + 1 <= n -> St (i + 1) s.heap -> G s -> P (argBest lt i) u ->
  s.heap.get? bx = some { cls := .type "list", dict := none, data := .seq #[u, u] c, slots := #[] } ->
  (∀ v h' tk, P (argBest lt (n - 1)) v -> (∀ b o, b ∉ wr -> b ≠ bx -> s.heap.get? b = some o -> h'.get? b = some o) -> R (.ok (.ret v)) { s with heap := h', toks := tk }) ->
  codeAny (model prog w) A (.builtin "min.loop" ⟨[.ref it, .none, .ref bx], []⟩) R s := by
 have hw : bx ∉ wr := fun z => hb (Wk.sub _ z)
 intro r
 induction r with
 | zero =>
  intro i s u c hr hi st g hp hx q
  have e : i + 1 = n := by omega
  refine codeAny_builtin PySem.F.entry_min_loop ?_
  rw [Around.under_plainId PySem.F.plain_min_loop _]
  refine wpAny_bind (m := seqItems? (.ref bx)) (wpAny_seqItems hx rfl ?_)
  refine wpAny_bind (m := tryCatch (pyNext (.ref it)) _) (wpAny_tryCatch (Wk.done s _ _ (e ▸ st) fun h2 tk k2 => ?_))
  have hx2 := k2 bx _ hw hx
  refine wpAny_bind (m := updateSeq bx fun _ => #[]) (wpAny_updateSeq hx2 rfl (wpAny_bind (wpAny_letGo (wpAny_pure ?_))))
  exact q u _ tk (by rw [<- e]; exact hp) fun b o n1 n2 z => (Heap.get?_update_other _ _ (Ne.symm n2)).trans (k2 b o n1 z)
 | succ r ih =>
  intro i s u c hr hi st g hp hx q
  have hlt : i + 1 < n := by omega
  refine codeAny_builtin PySem.F.entry_min_loop ?_
  rw [Around.under_plainId PySem.F.plain_min_loop _]
  refine wpAny_bind (m := seqItems? (.ref bx)) (wpAny_seqItems hx rfl ?_)
  refine wpAny_bind (m := tryCatch (pyNext (.ref it)) _) (wpAny_tryCatch (Wk.item (i + 1) s _ _ hlt st fun x h2 tk px st2 k2 => ?_))
  have hx2 := k2 bx _ hw hx
  have g2 : G { s with heap := h2, toks := tk } := hG s _ _ g fun b o n1 _ z => k2 b o n1 z
  refine wpAny_bind (m := tryCatch (holding [x, x] (richCompare .Lt x u >>= _)) _) (wpAny_tryCatch (wpAny_holding (wpAny_bind (cmp (i + 1) (argBest lt i) x u _ _ _ g2 px hp ?_))))
  refine wpAny_bind (wpAny_holding (wpAny_truthy_bool (wpAny_bind (wpAny_letGo (wpAny_pure ?_)))))
  cases hl : lt (i + 1) (argBest lt i) with
  | true =>
   simp only [if_true]
   refine wpAny_bind (wpAny_updateSeq hx2 rfl (wpAny_bind (wpAny_letGo ?_)))
   rw [mn_name]
   have up : ∀ b o, b ≠ bx -> h2.get? b = some o -> (h2.update bx (Obj.mapSeq fun _ => #[x, x])).get? b = some o := fun b o n2 z => (Heap.get?_update_other _ _ (Ne.symm n2)).trans z
   refine wpAny_pure ⟨plainId_quiet PySem.F.plain_min_loop _, ih (i + 1) _ x _ (by omega) hlt (Wk.frame _ _ _ st2 fun b hf o z => up b o (fun e => hb (e ▸ hf)) z) (hG _ _ _ g2 fun b o _ n2 z => up b o n2 z) (by simp only [argBest, hl, if_true]; exact px) (Heap.get?_update_self _ hx2 rfl) fun v h3 tk3 pv k3 => ?_⟩
   exact q v h3 tk3 pv fun b o n1 n2 z => k3 b o n1 n2 (up b o n2 (k2 b o n1 z))
  | false =>
   simp only [Bool.false_eq_true, if_false]
   refine wpAny_bind (wpAny_letGo ?_)
   rw [mn_name]
   exact wpAny_pure ⟨plainId_quiet PySem.F.plain_min_loop _, ih (i + 1) _ u c (by omega) hlt st2 g2 (by simp only [argBest, hl, Bool.false_eq_true, if_false]; exact hp) hx2 fun v h3 tk3 pv k3 => q v h3 tk3 pv fun b o n1 n2 z => k3 b o n1 n2 (k2 b o n1 z)⟩
theorem mn_first (Wk : Walks prog w A.in1 it fp wr n P St) (hG : ∀ (s : Shared) h' tk, G s -> (∀ b o, b ∉ wr -> b ≠ bx -> s.heap.get? b = some o -> h'.get? b = some o) -> G { s with heap := h', toks := tk })
  (cmp : ∀ i j u v (s : Shared) (Q : Value -> Shared -> Prop) (E : Value -> Shared -> Prop), G s -> P i u -> P j v -> Q (.bool (lt i j)) s -> wpAny (model prog w) A.in1 (richCompare .Lt u v) Q E s) (hb : bx ∉ fp) (hn : 0 < n)
  {s : Shared} {c : Nat} (st : St 0 s.heap) (g : G s) (hx : s.heap.get? bx = some { cls := .type "list", dict := none, data := .seq #[] c, slots := #[] })
  (q : ∀ v h' tk, P (argBest lt (n - 1)) v -> (∀ b o, b ∉ wr -> b ≠ bx -> s.heap.get? b = some o -> h'.get? b = some o) -> R (.ok (.ret v)) { s with heap := h', toks := tk }) :
  codeAny (model prog w) A (.builtin "min.loop" ⟨[.ref it, .none, .ref bx], []⟩) R s := by
 have hw : bx ∉ wr := fun z => hb (Wk.sub _ z)
 refine codeAny_builtin PySem.F.entry_min_loop ?_
 rw [Around.under_plainId PySem.F.plain_min_loop _]
 refine wpAny_bind (m := seqItems? (.ref bx)) (wpAny_seqItems hx rfl ?_)
 refine wpAny_bind (m := tryCatch (pyNext (.ref it)) _) (wpAny_tryCatch (Wk.item 0 s _ _ hn st fun x h2 tk px st2 k2 => ?_))
 have hx2 := k2 bx _ hw hx
 have g2 : G { s with heap := h2, toks := tk } := hG s _ _ g fun b o n1 _ z => k2 b o n1 z
 have up : ∀ b o, b ≠ bx -> h2.get? b = some o -> (h2.update bx (Obj.mapSeq fun _ => #[x, x])).get? b = some o := fun b o n2 z => (Heap.get?_update_other _ _ (Ne.symm n2)).trans z
 refine wpAny_bind (m := updateSeq bx fun _ => #[x, x]) (wpAny_updateSeq hx2 rfl ?_)
 rw [mn_name]
 refine wpAny_pure ⟨plainId_quiet PySem.F.plain_min_loop _, mn_loop Wk hG cmp hb _ 0 _ x _ rfl hn (Wk.frame _ _ _ st2 fun b hf o z => up b o (fun e => hb (e ▸ hf)) z) (hG _ _ _ g2 fun b o _ n2 z => up b o n2 z) px (Heap.get?_update_self _ hx2 rfl) fun v h3 tk3 pv k3 => ?_⟩
 exact q v h3 tk3 pv fun b o n1 n2 z => k3 b o n1 n2 (up b o n2 (k2 b o n1 z))
end
section
variable {prog : Program} {w : World} {A : Around} {E : Value -> Shared -> Prop} {s : Shared}
theorem mn_call {l : Addr} {vs : Array Value} {lt : Nat -> Nat -> Bool} {Q : Value -> Shared -> Prop} (hh : A.handled = none) (hl : s.heap.IsList l vs) (hn : 0 < vs.size)
  (cmp : ∀ i j u v h' tk (Q : Value -> Shared -> Prop) (E : Value -> Shared -> Prop), (∀ b o, s.heap.get? b = some o -> h'.get? b = some o) -> vs[i]? = some u -> vs[j]? = some v -> Q (.bool (lt i j)) { s with heap := h', toks := tk } -> wpAny (model prog w) A.in1 (richCompare .Lt u v) Q E { s with heap := h', toks := tk })
  (q : ∀ v h' tk, vs[argBest lt (vs.size - 1)]? = some v -> (∀ b o, s.heap.get? b = some o -> h'.get? b = some o) -> Q v { s with heap := h', toks := tk }) :
  wpAny (model prog w) A (call (.builtin "min") [.ref l]) Q E s := by
 refine call_function_tree PySem.F.kind_min PySem.F.plain_min PySem.F.entry_min (PySem.F.args_min1 _) ?_
 refine wpAny_bind (wpAny_of_eq (a := [none, none]) rfl (wpAny_bind (wpAny_pure (wpAny_bind (m := pyIter (.ref l)) ?_))))
 refine wpAny_pyIter_list hl ?_
 obtain ⟨ol, el, _⟩ := id hl
 have ll : l < s.heap.objs.size := Heap.lt_size el
 refine wpAny_bind (wpAny_newObj_type ?_)
 rw [mn_name]
 have k1 : ∀ b o, s.heap.get? b = some o -> (s.heap.push { cls := .type "list_iterator", data := .fields #[.ref l, .int 0 0] }).get? b = some o := fun b o e => Heap.get?_push_of_some _ e
 have z1 : (s.heap.push { cls := .type "list_iterator", data := .fields #[.ref l, .int 0 0] }).objs.size = s.heap.objs.size + 1 := Heap.size_push ..
 have k2 : ∀ b o, s.heap.get? b = some o -> ((s.heap.push { cls := .type "list_iterator", data := .fields #[.ref l, .int 0 0] }).push { cls := .type "list", data := .seq #[] }).get? b = some o := fun b o e => Heap.get?_push_of_some _ (k1 b o e)
 refine wpAny_pure ⟨plainId_quiet PySem.F.plain_min_loop _, mn_first (bx := (s.heap.push { cls := .type "list_iterator", data := .fields #[.ref l, .int 0 0] }).objs.size) (G := fun t => ∃ h' tk, t = { s with heap := h', toks := tk } /\ ∀ b o, s.heap.get? b = some o -> h'.get? b = some o) (Walks.list (A := A.in1) hh s.heap.objs.size l (Nat.ne_of_lt ll) vs)
  (fun t h' tk ⟨h1, tk1, e1, g⟩ k => ⟨h', tk, by rw [e1], fun b o e => k b o ?_ ?_ (by rw [e1]; exact g b o e)⟩) (fun i j u v t Q E zz0 hu hv z => by obtain ⟨h1, tk1, e1, g⟩ := zz0; exact by subst e1; exact cmp i j u v h1 tk1 Q E g hu hv z) ?_ hn ⟨⟨_, Heap.get?_push_of_some _ (Heap.get?_push_size _ rfl), rfl, rfl⟩, hl.at fun o e => k2 l o e⟩ ⟨_, _, rfl, k2⟩ (Heap.get?_push_size _ rfl) fun v h' tk hv k => q v h' tk hv fun b o e => k b o ?_ ?_ (k2 b o e)⟩
 ·exact fun z => Nat.ne_of_lt (Heap.lt_size e) (by simpa using z)
 ·exact fun z => by
   have := Heap.lt_size e
   rw [z, z1] at this
   exact Nat.not_succ_lt_self this
 ·intro z
  rw [z1] at z
  simp only [List.mem_cons, List.not_mem_nil, or_false] at z
  rcases z with z | z
  ·exact Nat.succ_ne_self _ z
  ·rw [<- z] at ll
   exact Nat.not_succ_lt_self ll
 ·exact fun z => Nat.ne_of_lt (Heap.lt_size e) (by simpa using z)
 ·exact fun z => by
   have := Heap.lt_size e
   rw [z, z1] at this
   exact Nat.not_succ_lt_self this
end
end L2
namespace L2
open PySem PySem.Spec PyProof.Rows PySem.W SeqAt
theorem lt_loop (l b : Addr) (us vs : List Value) (n n2 : Nat) (dd dd2 : Option Addr) (sl sl2 : Array (Option Value)) (xs ys : List Int) (hx : IntsAre us xs) (hy : IntsAre vs ys) :
  ∀ (k i : Nat), xs.length - i = k -> i <= xs.length -> i <= ys.length -> Meets (Builtin.«list.__eq__.loop» ⟨[.ref l, .ref b, rawInt i, rawInt 0], []⟩)
   (fun _ R s => s.heap.get? l = some { cls := .type "list", dict := dd, data := .seq us.toArray n, slots := sl } /\ s.heap.get? b = some { cls := .type "list", dict := dd2, data := .seq vs.toArray n2, slots := sl2 } /\
    R (.ok (.ret (.bool (HT.lexLt (xs.drop i) (ys.drop i))))) s) := by
 have zx := intsAre_len hx
 have zy := intsAre_len hy
 have ends : ∀ i, i <= xs.length -> i <= ys.length -> (xs.length = i \/ ys.length = i) -> HT.lexLt (xs.drop i) (ys.drop i) = decide (xs.length < ys.length) := fun i h1 h2 h => by
  rcases h with h | h
  ·rw [List.drop_of_length_le (by exact Om.l1 ‹_›)]
   by_cases q : ys.length = i
   ·rw [List.drop_of_length_le (by exact Om.l1 ‹_›)]
    exact (decide_eq_false (by omega)).symm
   ·rw [List.drop_eq_getElem_cons (by omega)]
    exact (decide_eq_true (by omega)).symm
  ·rw [List.drop_of_length_le (l := ys) (by exact Om.l1 ‹_›)]
   by_cases q : xs.length = i
   ·rw [List.drop_of_length_le (by exact Om.l1 ‹_›)]
    exact (decide_eq_false (by omega)).symm
   ·rw [List.drop_eq_getElem_cons (by omega)]
    exact (decide_eq_false (by omega)).symm
 intro k
 induction k with
 | zero =>
  intro i hk h1 h2 prog w A R s h
  obtain ⟨hp, g, d, tk, os⟩ := s
  obtain ⟨hl, hb, h⟩ := h
  wp_walk using AutoSeq1.wpAny_loadPart' hl, AutoSeq1.wpAny_loadPart' hb
  have e1 : us.toArray[((i : Nat) : Int).toNat]? = none := by simp; omega
  rw [e1]
  wp_walk using AutoSeq1.wpAny_loadPart' hl, AutoSeq1.wpAny_loadPart' hb
  rw [ends i h1 h2 (.inl (by omega))] at h
  show R (.ok (.ret (.bool (decide (us.toArray.size < vs.toArray.size))))) _
  rw [List.size_toArray, List.size_toArray, zx, zy]
  exact h
 | succ k ih =>
  intro i hk h1 h2 prog w A R s h
  obtain ⟨hp, g, d, tk, os⟩ := s
  obtain ⟨hl, hb, h⟩ := h
  have lx : i < xs.length := by omega
  obtain ⟨t1, g1⟩ := intsAre_at hx i lx
  have e1 : us.toArray[((i : Nat) : Int).toNat]? = some (.int xs[i] t1) := by simpa using g1
  wp_walk using AutoSeq1.wpAny_loadPart' hl, AutoSeq1.wpAny_loadPart' hb
  by_cases ly : i < ys.length
  ·obtain ⟨t2, g2⟩ := intsAre_at hy i ly
   have e2 : vs.toArray[((i : Nat) : Int).toNat]? = some (.int ys[i] t2) := by simpa using g2
   rw [e1, e2]
   rw [List.drop_eq_getElem_cons lx, List.drop_eq_getElem_cons ly] at h
   unfold HT.lexLt at h
   refine wpAny_bind (wpAny_eqBool_int ?_)
   by_cases he : xs[i] = ys[i]
   ·rw [if_pos he] at h
    rw [show (xs[i] == ys[i]) = true by simpa using he]
    wp_walk
    rw [show ((i : Int) + 1) = ((i + 1 : Nat) : Int) from rfl]
    exact ⟨plainId_quiet MeetsSeq3.plain_eq_loop _, codeAny_builtin MeetsSeq3.entry_eq_loop (by
     rw [Around.under_plainId MeetsSeq3.plain_eq_loop _]
     exact ih (i + 1) (by omega) lx ly prog w A R _ ⟨hl, hb, h⟩)⟩
   ·rw [if_neg he] at h
    rw [show (xs[i] == ys[i]) = false by simpa using he]
    generalize hRC : richCompare = RC
    wp_walk using AutoSeq1.wpAny_loadPart' hl, AutoSeq1.wpAny_loadPart' hb
    rw [e1, e2]
    subst hRC
    refine wpAny_bind (PyProof.Rows.lt_int (a := xs[i]) (b := ys[i]) ?_)
    wp_walk
    exact h
  ·have e2 : vs.toArray[((i : Nat) : Int).toNat]? = none := by simp; omega
   rw [e1, e2]
   wp_walk using AutoSeq1.wpAny_loadPart' hl, AutoSeq1.wpAny_loadPart' hb
   rw [ends i h1 h2 (.inr (by omega))] at h
   show R (.ok (.ret (.bool (decide (us.toArray.size < vs.toArray.size))))) _
   rw [List.size_toArray, List.size_toArray, zx, zy]
   exact h
theorem list_lt (l b : Addr) (us vs : List Value) (n n2 : Nat) (dd dd2 : Option Addr) (sl sl2 : Array (Option Value)) (xs ys : List Int) (hx : IntsAre us xs) (hy : IntsAre vs ys) :
  Meets (Builtin.«list.__lt__» ⟨[.ref l, .ref b], []⟩)
   (fun _ R s => s.heap.get? l = some { cls := .type "list", dict := dd, data := .seq us.toArray n, slots := sl } /\ s.heap.get? b = some { cls := .type "list", dict := dd2, data := .seq vs.toArray n2, slots := sl2 } /\
    R (.ok (.ret (.bool (HT.lexLt xs ys)))) s) := by
 intro prog w A R s h
 obtain ⟨hp, g, d, tk, os⟩ := s
 obtain ⟨hl, hb, h⟩ := h
 have f3 := AutoSeq1.sub_list_list
 wp_walk using AutoSeq1.wpAny_loadPart' hl, AutoSeq1.wpAny_loadPart' hb
 exact ⟨plainId_quiet MeetsSeq3.plain_eq_loop _, codeAny_builtin MeetsSeq3.entry_eq_loop (by
  rw [Around.under_plainId MeetsSeq3.plain_eq_loop _]
  exact lt_loop l b us vs n n2 dd dd2 sl sl2 xs ys hx hy _ 0 rfl (Nat.zero_le _) (Nat.zero_le _) prog w A R _ ⟨hl, hb, h⟩)⟩
theorem lt_lists {prog : Program} {w : World} {A : Around} {s : Shared} {E : Value -> Shared -> Prop} {Q : Value -> Shared -> Prop} {l b : Addr} {us vs : List Value} {xs ys : List Int} (hl : s.heap.IsList l us.toArray) (hb : s.heap.IsList b vs.toArray) (hx : IntsAre us xs) (hy : IntsAre vs ys) (hu : A.units < cLine) (h : Q (.bool (HT.lexLt xs ys)) s) :
  wpAny (model prog w) A (richCompare .Lt (.ref l) (.ref b)) Q E s := by
 obtain ⟨⟨cls, dd, data, sl⟩, ho, hc, n, hd⟩ := id hl
 obtain ⟨⟨cls2, dd2, data2, sl2⟩, ho2, hc2, n2, hd2⟩ := id hb
 simp only at hc hd hc2 hd2
 subst hc hd hc2 hd2
 exact richCompare_meets_room (op := .Lt) ⟨_, ho, rfl⟩ ⟨_, ho2, rfl⟩ F.slot_list_lt F.entry_list_lt (F.args_list_lt_2 _ _) (list_lt l b us vs n n2 dd dd2 sl sl2 xs ys hx hy)
  ⟨ho, ho2, show Value.bool (HT.lexLt xs ys) ≠ Value.notImplemented /\ Q (.bool (HT.lexLt xs ys)) s from ⟨(fun x => nomatch x), h⟩⟩ hu
end L2
namespace L2
open PySem PySem.Spec PyProof.Rows PySem.W SeqAt
noncomputable def firstF (e r : Nat -> Bool) : Nat -> Nat -> Bool
 | 0, _ => false
 | k + 1, i => if e i then firstF e r k (i + 1) else r i
noncomputable def LtAt (A : Around) (s : Shared) (u v : Value) (b : Bool) : Prop := ∀ (prog : Program) (w : World) (E : Value -> Shared -> Prop) (Q : Value -> Shared -> Prop), Q (.bool b) s -> wpAny (model prog w) A (richCompare .Lt u v) Q E s
theorem tuple_ltG (l b : Addr) (us vs : List Value) (n n2 : Nat) (dd dd2 : Option Addr) (sl sl2 : Array (Option Value)) (e r : Nat -> Bool) (hlen : us.length = vs.length) :
  Meets (Builtin.«tuple.__lt__» ⟨[.ref l, .ref b], []⟩)
   (fun A R s => s.heap.get? l = some { cls := .type "tuple", dict := dd, data := .seq us.toArray n, slots := sl } /\ s.heap.get? b = some { cls := .type "tuple", dict := dd2, data := .seq vs.toArray n2, slots := sl2 } /\
    (∀ i u v, us[i]? = some u -> vs[i]? = some v -> EqAt A.in1 s u v (e i) /\ (e i = false -> LtAt A.in1 s u v (r i))) /\
    R (.ok (.ret (.bool (firstF e r us.length 0)))) s) :=
 .of_wp fun prog w A R s h => by
  obtain ⟨hp, g, d, tk, os⟩ := s
  obtain ⟨hl, hb, hc, h⟩ := h
  have f2 := AutoSeq1.sub_tuple_tuple
  have hZ : (us.zip vs).length = us.length := by simp; omega
  wp_walk using AutoSeq1.wpAny_loadPart' hl, AutoSeq1.wpAny_loadPart' hb, wpAny_forIn_list _ (fun rest b s' => b.1 = none /\ s' = ⟨hp, g, d, tk, os⟩ /\ ∃ i, rest = (us.zip vs).drop i /\
   R (.ok (.ret (.bool (firstF e r (us.length - i) i)))) ⟨hp, g, d, tk, os⟩) _
  case turn =>
   rintro ⟨y, x⟩ rest b s' ⟨hb', rfl, i, hz, hR⟩
   have hlt : i < (us.zip vs).length := by
    rcases Nat.lt_or_ge i (us.zip vs).length with z | z
    ·exact z
    ·rw [List.drop_of_length_le z] at hz; cases hz
   have hix : i < us.length := hZ ▸ hlt
   have hiy : i < vs.length := by exact Om.a2 ‹_› ‹_›
   rw [List.drop_eq_getElem_cons hlt] at hz
   injection hz with hyx hrest
   have hy : y = us[i] := by
    have q := congrArg Prod.fst hyx
    rw [List.getElem_zip] at q
    exact q
   have hx : x = vs[i] := by
    have q := congrArg Prod.snd hyx
    rw [List.getElem_zip] at q
    exact q
   subst hy hx
   obtain ⟨c1, c2⟩ := hc i _ _ (List.getElem?_eq_getElem hix) (List.getElem?_eq_getElem hiy)
   rw [show us.length - i = (us.length - (i + 1)) + 1 by omega] at hR
   unfold firstF at hR
   refine wpAny_bind (c1 prog w _ _ ?_)
   cases he : e i with
   | true =>
    rw [he] at hR
    wp_walk
    exact ⟨rfl, rfl, i + 1, hrest, hR⟩
   | false =>
    rw [he] at hR
    generalize hRC : richCompare = RC
    wp_walk
    subst hRC
    refine c2 he prog w _ _ ?_
    wp_walk
    exact ⟨_, rfl, hR⟩
  case fin =>
   rintro ⟨b1, b2⟩ s' ⟨hb', rfl, i, hz, hR⟩
   simp only at hb'
   subst hb'
   have hge : us.length <= i := by
    rcases Nat.lt_or_ge i (us.zip vs).length with z | z
    ·rw [List.drop_eq_getElem_cons z] at hz; cases hz
    ·exact hZ ▸ z
   rw [show us.length - i = 0 by omega] at hR
   wp_walk
   refine ⟨_, rfl, ?_⟩
   simpa [Builtin.Tuple.tupleCompareSizes, firstF, hlen] using hR
  case h =>
   exact ⟨rfl, rfl, 0, by simp, by simpa using h⟩
theorem lt_tupG {A : Around} {s : Shared} {l b : Addr} {us vs : List Value} {e r : Nat -> Bool} (hl : s.heap.IsTuple l us.toArray) (hb : s.heap.IsTuple b vs.toArray) (hlen : us.length = vs.length) (hu : A.units < cLine)
  (hc : ∀ i u v, us[i]? = some u -> vs[i]? = some v -> EqAt A.in1 s u v (e i) /\ (e i = false -> LtAt A.in1 s u v (r i))) : LtAt A s (.ref l) (.ref b) (firstF e r us.length 0) := fun prog w E Q h => by
 obtain ⟨⟨cls, dd, data, sl⟩, ho, hc1, n, hd⟩ := id hl
 obtain ⟨⟨cls2, dd2, data2, sl2⟩, ho2, hc2, n2, hd2⟩ := id hb
 simp only at hc1 hd hc2 hd2
 subst hc1 hd hc2 hd2
 exact richCompare_meets_room (op := .Lt) ⟨_, ho, rfl⟩ ⟨_, ho2, rfl⟩ F.slot_tuple_lt F.entry_tuple_lt (F.args_tuple_lt_2 _ _) (tuple_ltG l b us vs n n2 dd dd2 sl sl2 e r hlen)
  ⟨ho, ho2, hc, show Value.bool (firstF e r us.length 0) ≠ Value.notImplemented /\ Q (.bool (firstF e r us.length 0)) s from ⟨(fun x => nomatch x), h⟩⟩ hu
end L2
namespace HT
open PySem PyProof.Rows
section
variable {prog : Program} {w : World} {A : Around} {E : Value -> Shared -> Prop} {s : Shared}
end
end HT
namespace L2
open PySem PySem.Spec PyProof.Rows
theorem vals_refs : ∀ {ps : List Addr} {us : List Value}, Vals (ps.map V.ref) us -> us = ps.map Value.ref
 | [], _, .nil => rfl
 | p :: ps, _, .cons r t => by
  cases r
  rw [vals_refs t]
  rfl
end L2
namespace L2
open PySem PySem.Spec PyProof.Rows PySem.W SeqAt
inductive LtD (K : PySem.W.Frag) (H : Hp) : Nat -> V -> V -> Bool -> Prop where
 | nums {d : Nat} (x y : Int) : LtD K H d (.int x) (.int y) (decide (x < y))
 | lsts {d : Nat} {a c : Addr} {xs ys : List Int} (h1 : SqL K H a (xs.map V.int)) (h2 : SqL K H c (ys.map V.int)) : LtD K H d (.ref a) (.ref c) (HT.lexLt xs ys)
 | tups {d : Nat} {a c : Addr} {us vs : List V} {e r : Nat -> Bool} (h1 : SqT K H a us) (h2 : SqT K H c vs) (hl : us.length = vs.length) (he : ∀ i u v, us[i]? = some u -> vs[i]? = some v -> EqD K H d u v (e i)) (hr : ∀ i u v, us[i]? = some u -> vs[i]? = some v -> e i = false -> LtD K H d u v (r i)) : LtD K H (d + 1) (.ref a) (.ref c) (firstF e r us.length 0)
section
variable {X : Cx} {pins : List (Addr × Obj)} {σ : St} {H : Hp} {s : Shared}
theorem LtD.at (I : Inv X pins σ H s) {d : Nat} {x y : V} {b : Bool} (h : LtD X.K H d x y b) : ∀ {A : Around} {u v : Value}, RelV x u -> RelV y v -> A.units + d < cLine -> LtAt A s u v b := by
 induction h with
 | nums x y =>
  intro A u v rx ry hu prog w E Q q
  obtain ⟨t1, rfl⟩ := rx
  obtain ⟨t2, rfl⟩ := ry
  exact PyProof.Rows.lt_int (a := x) (b := y) q
 | @lsts d a c xs ys h1 h2 =>
  intro A u v rx ry hu prog w E Q q
  cases rx
  cases ry
  obtain ⟨its, r1, p1, _⟩ := I.list h1
  obtain ⟨its2, r2, p2, _⟩ := I.list h2
  exact lt_lists p1.isList p2.isList (intsAre_of r1) (intsAre_of r2) (by omega) q
 | @tups d a c us vs e r h1 h2 hl he hr ih =>
  intro A u v rx ry hu
  cases rx
  cases ry
  obtain ⟨its, r1, p1, _⟩ := I.tuple h1
  obtain ⟨its2, r2, p2, _⟩ := I.tuple h2
  have e1 := r1.length
  have e2 := r2.length
  rw [e1]
  refine lt_tupG p1 p2 (by omega) (by omega) fun i u v hu1 hv1 => ?_
  have l1 : i < us.length := by rw [e1]; exact (List.getElem?_eq_some_iff.mp hu1).1
  have l2 : i < vs.length := by rw [e2]; exact (List.getElem?_eq_some_iff.mp hv1).1
  obtain ⟨u', g1, ru⟩ := r1.get (List.getElem?_eq_getElem l1)
  obtain ⟨v', g2, rv⟩ := r2.get (List.getElem?_eq_getElem l2)
  have z1 : u' = u := by
   rw [hu1] at g1
   cases g1
   rfl
  have z2 : v' = v := by
   rw [hv1] at g2
   cases g2
   rfl
  subst z1
  subst z2
  exact ⟨((he i _ _ (List.getElem?_eq_getElem l1) (List.getElem?_eq_getElem l2)).all I (A := A.in1) ru rv (by show A.units + 1 + d < cLine; omega)).1, fun q => ih i _ _ (List.getElem?_eq_getElem l1) (List.getElem?_eq_getElem l2) q ru rv (by show A.units + 1 + d < cLine; omega)⟩
end
noncomputable def rMin (K : PySem.W.Frag) (d : Nat) : List V -> Hp -> VK -> Prop := fun xs H Q => ∃ (l : Addr) (ps : List Addr) (lt : Nat -> Nat -> Bool) (p : Addr), xs = [.ref l] /\ SqL K H l (ps.map V.ref) /\ 0 < ps.length /\ (∀ i j p q, ps[i]? = some p -> ps[j]? = some q -> LtD K H d (.ref p) (.ref q) (lt i j)) /\ ps[argBest lt (ps.length - 1)]? = some p /\ Q (.ref p) H
theorem call_min {X : Cx} {d : Nat} (K : PySem.W.Frag) (hc : X.calm = true) (hu : X.A.units + 1 + d < cLine) (hK : X.K = K := by rfl) : CallR X (.builtin "min") (rMin K d) := by
 subst hK
 intro pins s σ H xs us Q I r h
 obtain ⟨l, ps, lt, p, rfl, hl, hn, hlt, hp, q⟩ := h
 obtain ⟨u, rfl, ru⟩ := vals1 r
 cases ru
 obtain ⟨its, rv, pl, _⟩ := I.list hl
 have hits := vals_refs rv
 subst hits
 have ext : ∀ {h' : Heap} {tk : Nat}, (∀ b o, s.heap.get? b = some o -> h'.get? b = some o) -> Inv X pins σ H { s with heap := h', toks := tk } := fun k => I.kept k
 refine mn_call (lt := lt) (I.ok.hd hc) pl.isList (by simp; exact hn) (fun i j u v h' tk Q E k hu1 hv1 z => ?_) (fun v h' tk hv k => ?_)
 ·have hu2 : (ps.map Value.ref)[i]? = some u := by simpa using hu1
  have hv2 : (ps.map Value.ref)[j]? = some v := by simpa using hv1
  rw [List.getElem?_map] at hu2 hv2
  cases h1 : ps[i]? with
  | none => rw [h1] at hu2; cases hu2
  | some a =>
   cases h2 : ps[j]? with
   | none => rw [h2] at hv2; cases hv2
   | some c =>
    rw [h1] at hu2
    rw [h2] at hv2
    cases hu2
    cases hv2
    exact (hlt i j a c h1 h2).at (ext k) (A := X.A.in1) rfl rfl (by show X.A.units + 1 + d < cLine; exact hu) _ _ _ _ z
 ·have hv2 : (ps.map Value.ref)[argBest lt (ps.length - 1)]? = some v := by simpa using hv
  rw [List.getElem?_map, hp] at hv2
  cases hv2
  exact ⟨.ref p, H, ext k, rfl, q⟩
end L2
namespace L2
open PySem PySem.Spec PyProof.Rows
structure W (p : Prop) : Prop where
 h : p
section
variable {X : Cx} {es : List Expr} {te : TE} {t : TA} {p : Pos} {e : Expr}
end
end L2
namespace L2
open PySem PySem.Spec PyProof.Rows
section
variable {X : Cx} {es : List Expr} {t : TA} {p : Pos}
theorem wss_cons {st : Stmt} {rest : List Stmt} {u v : TS} (h1 : W (PS X st u)) (h2 : W (PSs X rest v)) : W (PSs X (st :: rest) (tSeq u v)) := ⟨pss_cons h1.h h2.h⟩
theorem wss_one {st : Stmt} {u : TS} (h1 : W (PS X st u)) : W (PSs X [st] u) := ⟨pss_one h1.h⟩
end
end L2
namespace My
open PySem L2
noncomputable def top (i : Nat) : Stmt := PySem.Challenge.pw_latinclose_k51_none_ahead_of_the_plain_f.main.body.getD i (.Pass ⟨0, 0, 0, 0⟩)
noncomputable abbrev sStill : Stmt := top 1
noncomputable abbrev sTurnUndone : Stmt := top 2
noncomputable abbrev sUndone : Stmt := top 3
noncomputable abbrev sEntry : Stmt := top 4
noncomputable abbrev sRenamed : Stmt := top 5
noncomputable abbrev sRingFrom : Stmt := top 7
noncomputable abbrev sRingsP : Stmt := top 8
noncomputable abbrev sLengths : Stmt := top 10
noncomputable abbrev sWalks : Stmt := top 11
noncomputable abbrev sTwoRows : Stmt := top 12
noncomputable abbrev sAlongP : Stmt := top 13
noncomputable abbrev sHopeful : Stmt := top 14
noncomputable abbrev sLeading : Stmt := top 15
noncomputable abbrev sPlain : Stmt := top 16
noncomputable abbrev sCell : Stmt := top 18
noncomputable abbrev sNumber : Stmt := top 19
noncomputable abbrev sTurn : Stmt := top 20
noncomputable abbrev sRenaming : Stmt := top 21
noncomputable abbrev sRenL : Stmt := top 22
noncomputable abbrev sBase : Stmt := top 23
noncomputable abbrev sAlong : Stmt := top 24
noncomputable abbrev sRow : Stmt := top 25
noncomputable abbrev sByRows : Stmt := top 26
noncomputable abbrev sByRings : Stmt := top 27
noncomputable abbrev sSquare : Stmt := top 28
noncomputable abbrev sTurns : Stmt := top 29
noncomputable abbrev sThFirst : Stmt := top 30
noncomputable abbrev sLeast : Stmt := top 31
noncomputable abbrev sLayings : Stmt := top 32
noncomputable abbrev sRinged : Stmt := top 33
noncomputable abbrev sLeastR : Stmt := top 34
noncomputable abbrev sLaw : Stmt := top 35
structure Blt (mg : Str -> Option Value) : Prop where
 len : mg "len" = none
 range : mg "range" = none
 tuple : mg "tuple" = none
 list : mg "list" = none
 isin : mg "isinstance" = none
 int : mg "int" = none
 bool : mg "bool" = none
 zip : mg "zip" = none
 max : mg "max" = none
 sorted : mg "sorted" = none
 enum : mg "enumerate" = none
 min : mg "min" = none
end My
namespace My
open PySem L2
theorem bt_range : bootBuiltins "range" = some (Value.type "range") := by decide +kernel
noncomputable def spCell (K : PySem.W.Frag) : Sp := fun vs H Q _ => ∃ (a : Addr) (ns : List Int) (k : Nat), vs = [.ref a, .int k] /\ SqL K H a (ns.map V.int) /\ ∀ z : Int, Q (.int z) H
section
variable {P : Program} {w : World} {K : PySem.W.Frag} {mg : Str -> Option Value} {base : Heap}
theorem scCell : FnScope ["_law_script", "_law_k"] ["_law_script", "_law_k"] (defScope sCell) := ⟨rfl, rfl, rfl, by decide +kernel, rfl, by decide +kernel, by decide +kernel⟩
theorem ok_cell {f : Addr} {fd : FuncData} (F : Fun K "_law_cell_at" "_law_cell_at" sCell f fd) (T : Blt mg) : FnOk P w K mg base CX0 1 f fd ["_law_script", "_law_k"] (spCell K) := by
 refine F.ok scCell (fun vs H Q E h => ?_) (fun cdv A outer s H vs Q E hr h => ?_)
 ·obtain ⟨a, ns, k, rfl, _⟩ := h
  rfl
 ·obtain ⟨a, ns, k, rfl, hS, q⟩ := h
  refine ⟨_, pss_cons (ps_if (pt_cmpR op_lt (pv 1) (pe_callB (call_lenK K) rfl T.len PySem.boot_len (pa_cons (pv 0) pa_nil)) (nomark _)) (pss_one (ps_ret (pe_ix ix_list (pv 0) (pv 1) (fun _ _ => rfl)))) pss_nil)
   (pss_one (ps_ret pe_int)), ?_⟩
  refine ⟨_, rfl, _, rfl, a, _, rfl, .inl hS, _, _, rfl, rfl, _, rfl, ?_⟩
  refine ite2 (fun hc => ?_) (fun _ => q 0)
  have hlt : k < ns.length := by
   have := of_decide_eq_true hc
   rw [List.length_map] at this
   omega
  have hat : (ns.map V.int)[k]? = some (.int ns[k]) := by rw [List.getElem?_map]; simp [hlt]
  exact ⟨_, rfl, _, rfl, a, _, _, _, rfl, rfl, hS, atI_of hat, q _⟩
theorem scNumber : FnScope ["_law_script", "_law_k", "_law_cell", "_law_number_here", "_law_turn_here", "_law_mixed"] ["_law_script", "_law_k"] (defScope sNumber) := ⟨rfl, rfl, rfl, by decide +kernel, rfl, by decide +kernel, by decide +kernel⟩
theorem ok_number {f fC : Addr} {fd dC : FuncData} (F : Fun K "_law_number" "_law_number" sNumber f fd) (T : Blt mg) (DC : Dfn K mg "_law_cell_at" sCell ["_law_script", "_law_k"] fC dC) : FnOk P w K mg base CX0 2 f fd ["_law_script", "_law_k"] (spCell K) := by
 have GC : FnOk P w K mg base CX0 1 fC dC ["_law_script", "_law_k"] (spCell K) := ok_cell DC.F T
 refine F.ok scNumber (fun vs H Q E h => ?_) (fun cdv A outer s H vs Q E hr h => ?_)
 ·obtain ⟨a, ns, k, rfl, _⟩ := h
  rfl
 ·obtain ⟨a, ns, k, rfl, hS, q⟩ := h
  refine' ⟨_, pss_cons ?s0 (pss_cons (ps_set (i := 3) scNumber.nd rfl (Or.inl rfl) pe_int) (pss_cons (ps_for PassesOwn.never rfl (pi_range1 rfl T.range (pa_cons pe_int pa_nil)) (pg_name (i := 4) scNumber.nd rfl (Or.inl rfl)) (pss_cons ?b0 (pss_one ?b1))) (pss_cons ?s3 (pss_one ?s4)))), ?rd⟩
  case s0 => exact ps_set (i := 2) scNumber.nd rfl (Or.inl rfl) (pe_call GC hr rfl DC.m DC.F.kp DC.b .nil pass0 (pa_cons (pv 0) (pa_cons (pv 1) pa_nil)))
  case b0 => exact ps_set (i := 5) scNumber.nd rfl (Or.inl rfl) (pe_op op_mod (pe_op op_mul (pe_op op_add (pe_op op_add (pe_op op_add (pe_op op_mod (pv 2) (pe_op op_pow pe_int pe_int)) (pe_op op_mul pe_int (pv 1))) (pe_op op_mul pe_int (pv 4))) pe_int) pe_int) pe_int)
  case b1 => exact ps_set (i := 3) scNumber.nd rfl (Or.inl rfl) (pe_op op_add (pe_op op_mul (pv 3) (pe_op op_pow pe_int pe_int)) (pe_op op_mod (pe_op op_mul (pe_op op_mod (pe_op op_mul (pe_op op_add (pe_op op_add (pe_op op_fdiv (pv 5) pe_int) (pv 1)) pe_int) pe_int) pe_int) pe_int) (pe_op op_pow pe_int pe_int)))
  case s3 => exact ps_if (pt_cmpR op_eq (pe_op op_mod (pe_call GC hr rfl DC.m DC.F.kp DC.b .nil pass0 (pa_cons (pv 0) (pa_cons pe_int pa_nil))) pe_int) pe_int (nomark _)) (pss_one (ps_ret (pv 3))) pss_nil
  case s4 => exact ps_ret (pe_op op_add (pv 2) (pe_op op_mul (pe_op op_mul (pe_op op_pow pe_int pe_int) (pv 3)) (pe_callTy call_int1 rfl T.int bt_int (pa_cons (pe_cmpR op_lt (pv 2) (pe_op op_pow pe_int pe_int) (nomark _)) pa_nil))))
  case rd =>
   refine ⟨_, rfl, _, rfl, a, ns, k, rfl, hS, fun z => ?_⟩
   refine ⟨2, rfl, by decide, by decide, ?_⟩
   refine for_range (lo := 0) (n := 2) (fun i σ H2 => ∃ (num : Int) (kk mx : Option V), σ = [some (.ref a), some (.int (k : Int)), some (.int z), some (.int num), kk, mx] /\ H2 = H) ⟨0, none, none, rfl, rfl⟩ ?_ ?_
   ·rintro i σ H2 hi ⟨num, kk, mx, rfl, rfl⟩
    rw [Int.zero_add]
    refine ⟨_, rfl, _, _, rfl, rfl, ⟨by decide, by decide, by decide⟩, _, _, rfl, rfl, (by show (0 : Int) < 10 ^ 24; decide), _, rfl, _, _, rfl, rfl, .inl ⟨by decide, by decide⟩, _, _, rfl, rfl, _, rfl, _, _, rfl, rfl, .inl ⟨by decide, by decide⟩, _, _, rfl, rfl, _, _, rfl, rfl, _, _, rfl, rfl, .inr ⟨by decide, by decide⟩, _, _, rfl, rfl, (by show (0 : Int) < 2305843009213693951; decide), ?_⟩
    refine ⟨_, rfl, _, _, rfl, rfl, ⟨by decide, by decide, by decide⟩, _, _, rfl, rfl, .inr ⟨by decide, by decide⟩, _, rfl, _, _, rfl, rfl, ⟨by decide, by decide⟩, _, rfl, _, _, rfl, rfl, _, _, rfl, rfl, _, _, rfl, rfl, .inr ⟨by decide, by decide⟩, _, _, rfl, rfl, (by show (0 : Int) < 2305843009213693921; decide), _, _, rfl, rfl, .inr ⟨by decide, by decide⟩, _, _, rfl, rfl, ⟨by decide, by decide, by decide⟩, _, _, rfl, rfl, (by show (0 : Int) < 10 ^ 18; decide), _, _, rfl, rfl, ?_⟩
    exact ⟨_, _, _, rfl, rfl⟩
   ·rintro σ H2 ⟨num, kk, mx, rfl, rfl⟩
    refine ⟨_, rfl, a, ns, 1, rfl, hS, fun z1 => ⟨_, _, rfl, rfl, (by show (0 : Int) < 2; decide), rfl, _, rfl, ite2 (fun _ => ⟨_, rfl, q num⟩) (fun _ => ?_)⟩⟩
    refine ⟨_, rfl, _, _, rfl, rfl, ⟨by decide, by decide, by decide⟩, _, rfl, _, _, rfl, rfl, .inl ⟨by decide, by decide⟩, _, rfl, _, _, rfl, rfl, ⟨by decide, by decide, by decide⟩, _, _, rfl, rfl, .inr ⟨_, rfl, _, _, rfl, rfl, .inr ?_, _, _, rfl, rfl, q _⟩⟩
    split <;> decide
end
end My
namespace My
open PySem L2
theorem erase_map {α β : Type} (f : α -> β) : ∀ (l : List α) (k : Nat), (l.map f).eraseIdx k = (l.eraseIdx k).map f
 | [], _ => rfl
 | _ :: _, 0 => rfl
 | x :: l, k + 1 => by rw [List.map_cons, List.eraseIdx_cons_succ, List.eraseIdx_cons_succ, List.map_cons, erase_map f l k]
theorem perm_erase : ∀ (l : List Int) (k : Nat) (h : k < l.length), ([l[k]] ++ l.eraseIdx k).Perm l
 | x :: l, 0, _ => List.Perm.refl _
 | x :: l, k + 1, h => by
  have ih := perm_erase l k (by simpa using h)
  show ([l[k]'(by simpa using h)] ++ (x :: l.eraseIdx k)).Perm (x :: l)
  exact (List.Perm.swap x _ _).trans (ih.cons x)
theorem rng_eq (n : Nat) : rng n = (rngI n).map V.int := by
 unfold rng rngI
 rw [List.map_map]
 rfl
structure Turn (n : Nat) (r : List Int) : Prop where
 len : r.length = n
 nd : r.Nodup
 rg : ∀ x ∈ r, 0 <= x /\ x < (n : Int)
theorem Turn.of_perm {n : Nat} {r : List Int} (h : r.Perm (rngI n)) : Turn n r := ⟨by rw [h.length_eq, rngI_len], h.nodup_iff.mpr (rngI_nodup n), fun x hx => mem_rngI.mp (h.mem_iff.mp hx)⟩
noncomputable def spTurn : Sp := fun vs H Q _ => ∃ (n : Nat) (z : Int), vs = [.int (n : Int), .int z] /\ n <= 8 /\ ∀ (t : Addr) (H' : Hp) (r : List Int), Same H H' -> H t = none -> H' t = some (.tup (r.map V.int)) -> Turn n r -> Q (.ref t) H'
noncomputable def WTurn (H : Hp) (n : Nat) (lp lf : Addr) (m : Nat) (σ : St) (H2 : Hp) : Prop :=
 ∃ (num : Int) (pool found : List Int), σ = [some (.int (n : Int)), some (.int num), some (.ref lp), some (.ref lf)] /\ Same H H2 /\ H2 lp = some (.lst (pool.map V.int)) /\ H2 lf = some (.lst (found.map V.int)) /\ (found ++ pool).Perm (rngI n) /\ m = pool.length
section
variable {P : Program} {w : World} {K : PySem.W.Frag} {mg : Str -> Option Value} {base : Heap}
theorem scTurn : FnScope ["_law_n", "_law_number_here", "_law_pool", "_law_found"] ["_law_n", "_law_number_here"] (defScope sTurn) := ⟨rfl, rfl, rfl, by decide +kernel, rfl, by decide +kernel, by decide +kernel⟩
theorem ok_turn {f : Addr} {fd : FuncData} (F : Fun K "_law_turn" "_law_turn" sTurn f fd) (T : Blt mg) : FnOk P w K mg base CX0 1 f fd ["_law_n", "_law_number_here"] spTurn := by
 refine F.ok scTurn (fun vs H Q E h => ?_) (fun cdv A outer s H vs Q E hr h => ?_)
 ·obtain ⟨_, _, rfl, _⟩ := h
  rfl
 ·obtain ⟨n, z, rfl, h8, q⟩ := h
  have hu : ((A.deeper (PyProof.Rows.envOfC "_law_turn" (defScope sTurn) s.heap.objs.size f cdv))).units < cLine := by have := hr.un; omega
  refine' ⟨_, pss_cons ?s0 (pss_cons (ps_set (i := 3) scTurn.nd rfl (Or.inl rfl) (pe_lst pa_nil)) (pss_cons (ps_while PassesOwn.never ?c (pss_cons ?b0 (pss_one ?b1))) (pss_one ?r))), ?rd⟩
  case s0 => exact ps_set (i := 2) scTurn.nd rfl (Or.inl rfl) (pe_callTy (call_listR rfl) rfl T.list bt_list (pa_cons (pe_callTy call_rangeV rfl T.range bt_range (pa_cons (pv 0) pa_nil)) pa_nil))
  case c => exact pt_cmpR (op_neL hu K) (pv 2) (pe_lst pa_nil) (nomark _)
  case b0 => exact ps_expr (pe_bm PySem.F.plainAttrs_list PySem.F.slot_list_append PySem.F.type_list_append mt_append (pv 3) (pa_cons (pe_bm PySem.F.plainAttrs_list PySem.F.slot_list_pop PySem.F.type_list_pop mt_popAt (pv 2) (pa_cons (pe_op op_mod (pv 1) (pe_callB (call_lenK K) rfl T.len PySem.boot_len (pa_cons (pv 2) pa_nil))) pa_nil)) pa_nil))
  case b1 => exact ps_set (i := 1) scTurn.nd rfl (Or.inl rfl) (pe_op op_fdiv (pv 1) (pe_op op_add (pe_callB (call_lenK K) rfl T.len PySem.boot_len (pa_cons (pv 2) pa_nil)) pe_int))
  case r => exact ps_ret (pe_callTy (call_tupleK K) rfl T.tuple bt_tuple (pa_cons (pv 3) pa_nil))
  case rd =>
   refine ⟨_, rfl, n, rfl, fun lr hlr => ⟨lr, n, rfl, upd_same, by exact Om.b1 ‹_› rfl, fun lp hlp => ⟨Nat.zero_le _, fun lf hlf => ?_⟩⟩⟩
   rw [rng_eq] at hlf ⊢
   have s0 : Same H (upd H lr (.rng 0 (n : Int))) := Same.new hlr
   have s1 : Same (upd H lr (.rng 0 (n : Int))) (upd (upd H lr (.rng 0 (n : Int))) lp (.lst ((rngI n).map V.int))) := Same.new hlp
   have s2 : Same (upd (upd H lr (.rng 0 (n : Int))) lp (.lst ((rngI n).map V.int))) (upd (upd (upd H lr (.rng 0 (n : Int))) lp (.lst ((rngI n).map V.int))) lf (.lst [])) := Same.new hlf
   have fp : H lp = none := s0.free hlp
   have ff : H lf = none := (s0.trans s1).free hlf
   have hne : lp ≠ lf := fun e => by rw [<- e, upd_same] at hlf; cases hlf
   refine ⟨WTurn H n lp lf, ⟨_, z, rngI n, [], rfl, s0.trans (s1.trans s2), s2 _ _ upd_same, upd_same, List.Perm.refl _, rfl⟩, ?_⟩
   rintro m σ H2 ⟨num, pool, found, rfl, sH, hp, hf, hpm, rfl⟩
   have hlen : found.length + pool.length = n := by rw [<- List.length_append, hpm.length_eq, rngI_len]
   refine ⟨_, rfl, Nat.zero_le _, fun le hle => ⟨lp, le, pool.map V.int, [], rfl, rfl, SqL.of ((Same.new hle) _ _ hp), SqL.of upd_same, .inl ⟨map_ints_flat pool, rfl⟩, _, rfl, ?_⟩⟩
   have s3 : Same H2 (upd H2 le (.lst [])) := Same.new hle
   have hp3 := s3 _ _ hp
   have hf3 := s3 _ _ hf
   have sH3 := sH.trans s3
   generalize upd H2 le (.lst []) = H3 at hp3 hf3 sH3 ⊢
   cases pool with
   | nil =>
    refine iteF ⟨_, rfl, lf, _, rfl, .inl ⟨SqL.of hf3, fun t ht => ?_⟩⟩
    rw [List.append_nil] at hpm
    exact q t _ found (sH3.trans (Same.new ht)) (sH3.free ht) upd_same (Turn.of_perm hpm)
   | cons x pool =>
    have hb : (if true = true then !eqVs ((x :: pool).map V.int) [] else eqVs ((x :: pool).map V.int) []) = true := by rw [if_pos rfl, eqVs_nil]; rfl
    rw [hb]
    refine iteT ⟨fun σ' H' => ∃ m', m' < (x :: pool).length /\ WTurn H n lp lf m' σ' H', fun _ _ z => z, ?_⟩
    have hpos : 0 < (x :: pool).length := Nat.succ_pos _
    generalize x :: pool = pl at hp3 hpm hlen hpos ⊢
    have hml : (pl.map V.int).length = pl.length := List.length_map _
    have hp1 : (0 : Int) < (pl.length : Int) := by omega
    obtain ⟨i, hi, hil⟩ : ∃ i : Nat, num % (pl.length : Int) = (i : Int) /\ i < pl.length := by
     have e1 := Int.emod_nonneg num (show (pl.length : Int) ≠ 0 by omega)
     have e2 := Int.emod_lt_of_pos num hp1
     exact ⟨(num % (pl.length : Int)).toNat, by exact Om.z1 ‹_›, by omega⟩
    have hsi : seqIndex? (i : Int) (pl.map V.int).length = some i := by
     have := PySem.StrLaws.seqIndex_nonneg (i := (i : Int)) (n := (pl.map V.int).length) (by exact Om.c6) (by rw [hml]; exact Om.c5 ‹_›)
     simpa using this
    refine ⟨_, rfl, .inl ⟨rfl, _, SqL.of hf3⟩, _, rfl, .inl ⟨rfl, _, SqL.of hp3⟩, _, rfl, _, rfl, lp, _, rfl, .inl (SqL.of hp3), _, _, rfl, rfl, by rw [hml]; exact hp1, lp, _, (i : Int), i, .int pl[i], rfl, ?_, hp3, by omega, by omega, hsi, by rw [List.getElem?_map, List.getElem?_eq_getElem hil]; rfl, ?_⟩
    ·show [V.int (num % ((pl.map V.int).length : Int))] = _
     rw [hml, hi]
    have hf4 : (upd H3 lp (.lst ((pl.map V.int).eraseIdx i))) lf = some (.lst (found.map V.int)) := by rw [upd_ne (Ne.symm hne)]; exact hf3
    refine ⟨lf, _, _, rfl, rfl, hf4, by rw [List.length_map]; exact small1000 (by omega), ?_⟩
    have hp5 : (upd (upd H3 lp (.lst ((pl.map V.int).eraseIdx i))) lf (.lst (found.map V.int ++ [.int pl[i]]))) lp = some (.lst ((pl.eraseIdx i).map V.int)) := by rw [upd_ne hne, upd_same, erase_map]
    refine ⟨_, rfl, _, rfl, lp, _, rfl, .inl (SqL.of hp5), _, _, rfl, rfl, _, _, rfl, rfl, ⟨?_, ?_⟩, (pl.eraseIdx i).length, ?_, _, pl.eraseIdx i, found ++ [pl[i]], rfl, fun b u e => ?_, hp5, ?_, ?_, rfl⟩
    ·show (0 : Int) < (((pl.eraseIdx i).map V.int).length : Int) + 1
     omega
    ·show (((pl.eraseIdx i).map V.int).length : Int) + 1 < 1073741824
     rw [List.length_map, List.length_eraseIdx]
     split <;> omega
    ·rw [List.length_eraseIdx, if_pos hil]
     omega
    ·rw [upd_ne (ne_of_none e ff), upd_ne (ne_of_none e fp)]
     exact sH3 _ _ e
    ·rw [upd_same, List.map_append]
     rfl
    ·rw [List.append_assoc]
     exact (List.Perm.append_left found (perm_erase pl i hil)).trans hpm
end
end My
namespace My
open PySem L2
theorem sorted_uniq : ∀ {a b : List Int}, a.Perm b -> a.Pairwise (· <= ·) -> b.Pairwise (· <= ·) -> a = b
 | [], b, p, _, _ => (List.Perm.nil_eq p)
 | x :: a, [], p, _, _ => by have := p.length_eq; cases this
 | x :: a, y :: b, p, ha, hb => by
  have hxy : x = y := by
   have h1 : y ∈ x :: a := p.mem_iff.mpr List.mem_cons_self
   have h2 : x ∈ y :: b := p.mem_iff.mp List.mem_cons_self
   have l1 : x <= y := by
    rcases List.mem_cons.mp h1 with z | z
    ·omega
    ·exact (List.pairwise_cons.mp ha).1 y z
   have l2 : y <= x := by
    rcases List.mem_cons.mp h2 with z | z
    ·omega
    ·exact (List.pairwise_cons.mp hb).1 x z
   omega
  subst hxy
  rw [sorted_uniq (List.Perm.cons_inv p) (List.pairwise_cons.mp ha).2 (List.pairwise_cons.mp hb).2]
noncomputable def TG (H : Hp) (a : Addr) (R : List (List Int)) : Prop := ∃ ps : List Addr, H a = some (.tup (ps.map V.ref)) /\ Paired (fun p (r : List Int) => H p = some (.tup (r.map V.int))) ps R
theorem TG.same {c : Addr} {H H1 : Hp} {R : List (List Int)} (g : TG H c R) (x : Same H H1) : TG H1 c R :=
 let ⟨ps, h, r⟩ := g
 ⟨ps, x _ _ h, Paired.mapP r fun _ _ z => x _ _ z⟩
theorem TG.at {c : Addr} {H : Hp} {R : List (List Int)} (g : TG H c R) {k : Nat} (hk : k < R.length) : ∃ xs p, H c = some (.tup xs) /\ xs.length = R.length /\ atI xs (k : Int) = some (.ref p) /\ H p = some (.tup ((R.getD k []).map V.int)) := by
 obtain ⟨ps, h, r⟩ := g
 obtain ⟨p, hp, hH⟩ := Paired.getR r (List.getElem?_eq_getElem hk)
 refine ⟨_, p, h, by rw [List.length_map, r.length], atI_of (by rw [List.getElem?_map, hp]; rfl), ?_⟩
 rw [hH]
 simp [List.getD_eq_getElem?_getD, List.getElem?_eq_getElem hk]
structure Ren (n : Nat) (R : List (List Int)) : Prop where
 len : R.length = 3
 row : ∀ r ∈ R, Turn n r
theorem Ren.at {n : Nat} {R : List (List Int)} (h : Ren n R) {k : Nat} (hk : k < 3) : Turn n (R.getD k []) := by
 have hk' : k < R.length := by rw [h.len]; exact hk
 have : R.getD k [] = R[k] := by simp [List.getD_eq_getElem?_getD, List.getElem?_eq_getElem hk']
 rw [this]
 exact h.row _ (List.getElem_mem hk')
theorem int_at {r : List Int} {i : Nat} (h : i < r.length) : atI (r.map V.int) (i : Int) = some (.int (r.getD i 0)) := by
 refine atI_of ?_
 rw [List.getElem?_map, List.getElem?_eq_getElem h]
 simp [List.getD_eq_getElem?_getD, List.getElem?_eq_getElem h]
noncomputable def spRenaming (K : PySem.W.Frag) : Sp := fun vs H Q _ => ∃ (a : Addr) (ns : List Int) (k n : Nat), vs = [.ref a, .int (k : Int), .int (n : Int)] /\ SqL K H a (ns.map V.int) /\ n <= 8 /\ ∀ (t : Addr) (H' : Hp) (R : List (List Int)), Same H H' -> H t = none -> TG H' t R -> Ren n R -> Q (.ref t) H'
section
variable {P : Program} {w : World} {K : PySem.W.Frag} {mg : Str -> Option Value} {base : Heap}
theorem scRenaming : FnScope ["_law_script", "_law_k", "_law_n"] ["_law_script", "_law_k", "_law_n"] (defScope sRenaming) := ⟨rfl, rfl, rfl, by decide +kernel, rfl, by decide +kernel, by decide +kernel⟩
theorem ok_renaming {f fC fN fT : Addr} {fd dC dN dT : FuncData} (F : Fun K "_law_renaming" "_law_renaming" sRenaming f fd) (T : Blt mg) (DC : Dfn K mg "_law_cell_at" sCell ["_law_script", "_law_k"] fC dC) (DN : Dfn K mg "_law_number" sNumber ["_law_script", "_law_k"] fN dN) (DT : Dfn K mg "_law_turn" sTurn ["_law_n", "_law_number_here"] fT dT) :
  FnOk P w K mg base CX0 3 f fd ["_law_script", "_law_k", "_law_n"] (spRenaming K) := by
 have GN : FnOk P w K mg base CX0 2 fN dN ["_law_script", "_law_k"] (spCell K) := ok_number DN.F T DC
 have GT : FnOk P w K mg base CX0 2 fT dT ["_law_n", "_law_number_here"] spTurn := (ok_turn DT.F T).mono (by decide)
 refine F.ok scRenaming (fun vs H Q E h => ?_) (fun cdv A outer s H vs Q E hr h => ?_)
 ·obtain ⟨_, _, _, _, rfl, _⟩ := h
  rfl
 ·obtain ⟨a, ns, k, n, rfl, hS, h8, q⟩ := h
  refine ⟨_, pss_one (ps_ret (pe_callTy (call_tupleK K) rfl T.tuple bt_tuple (pa_cons (pe_lc ["_law_j", "_law_n", "_law_script", "_law_k"] [none, some 2, some 0, some 1] rfl rfl (pi_range1 rfl T.range (pa_cons pe_int pa_nil)) (fun _ _ _ _ _ => pg_c 0) (fun _ _ _ _ _ => pts_nil)
   (fun _ _ _ _ _ => pe_call GT hr rfl DT.m DT.F.kp DT.b .nil pass0 (pa_cons (pv 1) (pa_cons (pe_call GN hr rfl DN.m DN.F.kp DN.b .nil pass0 (pa_cons (pv 2) (pa_cons (pe_op op_add (pv 3) (pv 0)) pa_nil))) pa_nil)))) pa_nil))), ?_⟩
  refine ⟨3, rfl, by decide, by decide, fun l hl => ?_⟩
  refine comp_of (wlk_range (n := 3)) (fun i ys σ H2 => ∃ (v : Option V) (qs : List Addr) (R : List (List Int)), σ = [v, some (.int (n : Int)), some (.ref a), some (.int (k : Int))] /\ ys = qs.map V.ref /\ Same H H2 /\ H2 l = some (.lst ys) /\ Paired (fun q (x : List Int) => H2 q = some (.tup (x.map V.int))) qs R /\ R.length = i /\ ∀ r ∈ R, Turn n r)
   ⟨none, [], [], rfl, rfl, Same.new hl, upd_same, .nil, rfl, fun r h => by cases h⟩ (fun i ys σ H2 zz0 => by obtain ⟨_, _, _, _, _, _, h2, _⟩ := zz0; exact ⟨trivial, h2⟩) ?_ ?_
  ·rintro i x ys σ H2 hx ⟨v, qs, R, rfl, rfl, s2, h2, hQ, hRl, hRt⟩
   obtain ⟨hi, rfl⟩ := rng_get hx
   refine ⟨_, rfl, _, rfl, _, rfl, _, rfl, _, _, rfl, rfl, a, ns, k + i, rfl, s2.seq hS, fun z => ?_⟩
   refine ⟨n, z, rfl, h8, fun t H3 r s3 _ ht3 tr => ?_⟩
   have h3 := s3 _ _ h2
   have up : ∀ b row, H3 b = some (.tup row) -> (upd H3 l (.lst (qs.map V.ref ++ [.ref t]))) b = some (.tup row) := fun b row e => by
    rw [upd_ne (ne_of e h3 (by intro z; cases z))]
    exact e
   refine ⟨h3, by rw [List.length_map, hQ.length, hRl]; exact small1000 (by omega), _, qs ++ [t], R ++ [r], rfl, by rw [List.map_append]; rfl, fun b u e => ?_, upd_same, Paired.snoc (Paired.mapP hQ fun _ _ e => up _ _ (s3 _ _ e)) (up _ _ ht3), by rw [List.length_append, hRl]; rfl, fun x hx => ?_⟩
   ·rw [upd_ne (ne_of_none e hl)]
    exact s3 _ _ (s2 _ _ e)
   ·rcases List.mem_append.mp hx with hx | hx
    ·exact hRt x hx
    ·rw [List.mem_singleton.mp hx]
     exact tr
  ·rintro ys σ H2 ⟨v, qs, R, rfl, rfl, s2, h2, hQ, hRl, hRt⟩
   rw [rng_len] at hRl
   refine ⟨l, _, rfl, .inl ⟨SqL.of h2, fun t ht => ?_⟩⟩
   exact q t _ R (s2.trans (Same.new ht)) (s2.free ht) ⟨qs, upd_same, Paired.mapP hQ fun _ _ z => (Same.new ht) _ _ z⟩ ⟨hRl, hRt⟩
end
end My
namespace My
noncomputable def cmp (r s : List Int) : List Int := r.map fun x => s.getD x.toNat 0
noncomputable def inv (r : List Int) : List Int := (List.range r.length).map fun (i : Nat) => ((r.idxOf (i : Int) : Nat) : Int)
theorem getD_of {r : List Int} {i : Nat} (h : i < r.length) : r.getD i 0 = r[i] := by rw [List.getD_eq_getElem?_getD, List.getElem?_eq_getElem h]; rfl
theorem ext_n {n : Nat} {r s : List Int} (hr : r.length = n) (hs : s.length = n) (h : ∀ i, i < n -> r.getD i 0 = s.getD i 0) : r = s := by
 refine List.ext_getElem (by exact Om.g2 ‹_› ‹_›) fun i h1 h2 => ?_
 rw [<- getD_of h1, <- getD_of h2]
 exact h i (by exact Om.a2 ‹_› ‹_›)
theorem Turn.val {n : Nat} {r : List Int} (t : Turn n r) {i : Nat} (h : i < n) : ∃ x : Nat, r.getD i 0 = (x : Int) /\ x < n := by
 have hi : i < r.length := by rw [t.len]; exact h
 have := t.rg _ (List.getElem_mem hi)
 rw [<- getD_of hi] at this
 exact ⟨(r.getD i 0).toNat, by omega, by omega⟩
theorem Turn.inj {n : Nat} {r : List Int} (t : Turn n r) {i j : Nat} (hi : i < n) (hj : j < n) (e : r.getD i 0 = r.getD j 0) : i = j := by
 have hi' : i < r.length := by rw [t.len]; exact hi
 have hj' : j < r.length := by rw [t.len]; exact hj
 rw [getD_of hi', getD_of hj'] at e
 by_cases h : i = j
 ·exact h
 ·have p := List.pairwise_iff_getElem.mp (List.nodup_iff_pairwise_ne.mp t.nd)
  rcases Nat.lt_or_gt_of_ne h with z | z
  ·exact absurd e (p i j hi' hj' z)
  ·exact absurd e.symm (p j i hj' hi' z)
theorem Turn.of {n : Nat} {r : List Int} (hl : r.length = n) (hv : ∀ i, i < n -> ∃ x : Nat, r.getD i 0 = (x : Int) /\ x < n) (hi : ∀ i j, i < n -> j < n -> r.getD i 0 = r.getD j 0 -> i = j) : Turn n r := by
 refine ⟨hl, ?_, fun x hx => ?_⟩
 ·refine List.nodup_iff_pairwise_ne.mpr (List.pairwise_iff_getElem.mpr fun i j h1 h2 hij e => ?_)
  rw [<- getD_of h1, <- getD_of h2] at e
  have := hi i j (by omega) (by exact Om.a2 ‹_› ‹_›) e
  omega
 ·obtain ⟨i, h, e⟩ := List.getElem_of_mem hx
  obtain ⟨y, hy, hyn⟩ := hv i (by exact Om.a2 ‹_› ‹_›)
  rw [getD_of h, e] at hy
  omega
theorem cmp_len (r s : List Int) : (cmp r s).length = r.length := List.length_map _
theorem cmp_at {n : Nat} {r s : List Int} (t : Turn n r) {i : Nat} (h : i < n) : (cmp r s).getD i 0 = s.getD (r.getD i 0).toNat 0 := by
 have hi : i < r.length := by rw [t.len]; exact h
 rw [getD_of (by rw [cmp_len]; exact hi), getD_of hi]
 exact List.getElem_map _
theorem Turn.cmp {n : Nat} {r s : List Int} (t : Turn n r) (u : Turn n s) : Turn n (cmp r s) := by
 refine Turn.of (by rw [cmp_len, t.len]) (fun i h => ?_) fun i j hi hj e => ?_
 ·obtain ⟨x, hx, hxn⟩ := t.val h
  rw [cmp_at t h, hx, Int.toNat_natCast]
  exact u.val hxn
 ·obtain ⟨x, hx, hxn⟩ := t.val hi
  obtain ⟨y, hy, hyn⟩ := t.val hj
  rw [cmp_at t hi, cmp_at t hj, hx, hy, Int.toNat_natCast, Int.toNat_natCast] at e
  have := u.inj hxn hyn e
  exact t.inj hi hj (by rw [hx, hy, this])
theorem rngI_at {n i : Nat} (h : i < n) : (rngI n).getD i 0 = (i : Int) := by
 have hi : i < (rngI n).length := by rw [rngI_len]; exact h
 rw [getD_of hi]
 simp [rngI]
theorem rngI_turn (n : Nat) : Turn n (rngI n) := ⟨rngI_len n, rngI_nodup n, fun x hx => mem_rngI.mp hx⟩
theorem cmp_still {n : Nat} {r : List Int} (t : Turn n r) : cmp r (rngI n) = r := by
 refine ext_n (n := n) (by rw [cmp_len, t.len]) t.len fun i h => ?_
 obtain ⟨x, hx, hxn⟩ := t.val h
 rw [cmp_at t h, hx, Int.toNat_natCast, rngI_at hxn]
theorem still_cmp {n : Nat} {r : List Int} (t : Turn n r) : cmp (rngI n) r = r := by
 refine ext_n (n := n) (by rw [cmp_len, rngI_len]) t.len fun i h => ?_
 rw [cmp_at (rngI_turn n) h, rngI_at h, Int.toNat_natCast]
theorem inv_len (r : List Int) : (inv r).length = r.length := by unfold inv; rw [List.length_map, List.length_range]
theorem inv_at {n : Nat} {r : List Int} (t : Turn n r) {i : Nat} (h : i < n) : (inv r).getD i 0 = ((r.idxOf (i : Int) : Nat) : Int) := by
 have hi : i < r.length := by rw [t.len]; exact h
 rw [getD_of (by rw [inv_len]; exact hi)]
 simp [inv]
theorem idx_at {n : Nat} {r : List Int} (t : Turn n r) {i : Nat} (h : i < n) : r.idxOf (i : Int) < n /\ r.getD (r.idxOf (i : Int)) 0 = (i : Int) := by
 have hm : (i : Int) ∈ r := row_has t.len t.nd t.rg ⟨by exact Om.c6, by exact Om.c5 ‹_›⟩
 have h1 := List.idxOf_lt_length_of_mem hm
 refine ⟨by rw [<- t.len]; exact h1, ?_⟩
 rw [getD_of h1]
 exact List.getElem_idxOf h1
theorem idx_of {n : Nat} {r : List Int} (t : Turn n r) {i x : Nat} (h : i < n) (hx : x < n) (e : r.getD i 0 = (x : Int)) : r.idxOf (x : Int) = i := by
 obtain ⟨h1, h2⟩ := idx_at t hx
 exact t.inj h1 h (h2.trans e.symm)
theorem Turn.inv {n : Nat} {r : List Int} (t : Turn n r) : Turn n (inv r) := by
 refine Turn.of (by rw [inv_len, t.len]) (fun i h => ⟨_, inv_at t h, (idx_at t h).1⟩) fun i j hi hj e => ?_
 rw [inv_at t hi, inv_at t hj] at e
 have e' : r.idxOf (i : Int) = r.idxOf (j : Int) := by exact Om.e1 ‹_›
 have h1 := (idx_at t hi).2
 rw [e', (idx_at t hj).2] at h1
 omega
theorem cmp_inv {n : Nat} {r : List Int} (t : Turn n r) : cmp r (inv r) = rngI n := by
 refine ext_n (n := n) (by rw [cmp_len, t.len]) (rngI_len n) fun i h => ?_
 obtain ⟨x, hx, hxn⟩ := t.val h
 rw [cmp_at t h, hx, Int.toNat_natCast, inv_at t hxn, rngI_at h, idx_of t h hxn hx]
theorem inv_cmp {n : Nat} {r : List Int} (t : Turn n r) : cmp (inv r) r = rngI n := by
 refine ext_n (n := n) (by rw [cmp_len, inv_len, t.len]) (rngI_len n) fun i h => ?_
 rw [cmp_at t.inv h, inv_at t h, Int.toNat_natCast, (idx_at t h).2, rngI_at h]
theorem inv_inv {n : Nat} {r : List Int} (t : Turn n r) : inv (inv r) = r := by
 refine ext_n (n := n) (by rw [inv_len, inv_len, t.len]) t.len fun i h => ?_
 obtain ⟨x, hx, hxn⟩ := t.val h
 rw [inv_at t.inv h, hx, idx_of t.inv hxn h]
 rw [inv_at t hxn, idx_of t h hxn hx]
noncomputable def behR (R S : List (List Int)) : List (List Int) := (List.range 3).map fun k => cmp (R.getD k []) (S.getD k [])
noncomputable def undR (R : List (List Int)) : List (List Int) := R.map inv
noncomputable def stillR (n : Nat) : List (List Int) := [rngI n, rngI n, rngI n]
theorem Ren.three {n : Nat} {R : List (List Int)} (h : Ren n R) : ∃ a b c, R = [a, b, c] /\ Turn n a /\ Turn n b /\ Turn n c := by
 obtain ⟨hl, hr⟩ := h
 match R, hl, hr with
 | [a, b, c], _, hr => exact ⟨a, b, c, rfl, hr a (by simp), hr b (by simp), hr c (by simp)⟩
theorem Ren.of3 {n : Nat} {a b c : List Int} (ha : Turn n a) (hb : Turn n b) (hc : Turn n c) : Ren n [a, b, c] := ⟨rfl, fun r hr => by
 rcases List.mem_cons.mp hr with rfl | hr
 ·exact ha
 ·rcases List.mem_cons.mp hr with rfl | hr
  ·exact hb
  ·rw [List.mem_singleton.mp hr]
   exact hc⟩
theorem beh3 (a b c d e f : List Int) : behR [a, b, c] [d, e, f] = [cmp a d, cmp b e, cmp c f] := rfl
theorem still_ren (n : Nat) : Ren n (stillR n) := Ren.of3 (rngI_turn n) (rngI_turn n) (rngI_turn n)
theorem Ren.und {n : Nat} {R : List (List Int)} (hR : Ren n R) : Ren n (undR R) := by
 obtain ⟨a, b, c, rfl, ha, hb, hc⟩ := hR.three
 exact Ren.of3 ha.inv hb.inv hc.inv
theorem beh_und {n : Nat} {R : List (List Int)} (hR : Ren n R) : behR R (undR R) = stillR n /\ behR (undR R) R = stillR n /\ undR (undR R) = R /\ behR R (stillR n) = R /\ behR (stillR n) R = R := by
 obtain ⟨a, b, c, rfl, ha, hb, hc⟩ := hR.three
 refine ⟨?_, ?_, ?_, ?_, ?_⟩
 ·show [cmp a (inv a), cmp b (inv b), cmp c (inv c)] = _
  rw [cmp_inv ha, cmp_inv hb, cmp_inv hc]; rfl
 ·show [cmp (inv a) a, cmp (inv b) b, cmp (inv c) c] = _
  rw [inv_cmp ha, inv_cmp hb, inv_cmp hc]; rfl
 ·show [inv (inv a), inv (inv b), inv (inv c)] = _
  rw [inv_inv ha, inv_inv hb, inv_inv hc]
 ·show [cmp a (rngI n), cmp b (rngI n), cmp c (rngI n)] = _
  rw [cmp_still ha, cmp_still hb, cmp_still hc]
 ·show [cmp (rngI n) a, cmp (rngI n) b, cmp (rngI n) c] = _
  rw [still_cmp ha, still_cmp hb, still_cmp hc]
end My
namespace My
open PySem L2
noncomputable def EntOk (n : Nat) (v : V) : Prop := v = .non \/ ∃ x : Nat, v = .int (x : Int) /\ x < n
noncomputable def en (B : List (List V)) (i j : Nat) : V := (B.getD i []).getD j .non
structure EG (n : Nat) (B : List (List V)) : Prop where
 len : B.length = n
 row : ∀ i, i < n -> (B.getD i []).length = n
 ent : ∀ i j, i < n -> j < n -> EntOk n (en B i j)
noncomputable def mkB (n : Nat) (f : Nat -> Nat -> V) : List (List V) := (List.range n).map fun i => (List.range n).map fun j => f i j
theorem mkB_len (n : Nat) (f : Nat -> Nat -> V) : (mkB n f).length = n := by unfold mkB; rw [List.length_map, List.length_range]
theorem mkB_row {n : Nat} (f : Nat -> Nat -> V) {i : Nat} (h : i < n) : (mkB n f).getD i [] = (List.range n).map fun j => f i j := by
 unfold mkB
 rw [List.getD_eq_getElem?_getD, List.getElem?_map, List.getElem?_range h]
 rfl
theorem mkB_en {n : Nat} (f : Nat -> Nat -> V) {i j : Nat} (h : i < n) (h' : j < n) : en (mkB n f) i j = f i j := by
 unfold en
 rw [mkB_row f h, List.getD_eq_getElem?_getD, List.getElem?_map, List.getElem?_range h']
 rfl
theorem mkB_congr {n : Nat} {f g : Nat -> Nat -> V} (h : ∀ i j, i < n -> j < n -> f i j = g i j) : mkB n f = mkB n g := by
 unfold mkB
 refine List.map_congr_left fun i hi => List.map_congr_left fun j hj => h i j (List.mem_range.mp hi) (List.mem_range.mp hj)
theorem EG.is {n : Nat} {B : List (List V)} (e : EG n B) : B = mkB n (en B) := by
 refine List.ext_getElem (by rw [mkB_len, e.len]) fun i h1 h2 => ?_
 have hi : i < n := by rw [<- e.len]; exact h1
 have e1 : B[i] = B.getD i [] := by rw [List.getD_eq_getElem?_getD, List.getElem?_eq_getElem h1]; rfl
 have e2 : (mkB n (en B))[i] = (mkB n (en B)).getD i [] := by rw [List.getD_eq_getElem?_getD, List.getElem?_eq_getElem h2]; rfl
 rw [e1, e2, mkB_row _ hi]
 refine List.ext_getElem (by rw [e.row i hi, List.length_map, List.length_range]) fun j h3 h4 => ?_
 rw [List.getElem_map, List.getElem_range]
 unfold en
 rw [List.getD_eq_getElem?_getD (l := B.getD i []), List.getElem?_eq_getElem h3]
 rfl
noncomputable def mapE (t : List Int) : V -> V
 | .int x => .int (t.getD x.toNat 0)
 | v => v
theorem mapE_cmp {n : Nat} {t u : List Int} (ht : Turn n t) {v : V} (h : EntOk n v) : mapE u (mapE t v) = mapE (cmp t u) v := by
 rcases h with rfl | ⟨x, rfl, hx⟩
 ·rfl
 ·show V.int (u.getD (t.getD (x : Int).toNat 0).toNat 0) = V.int ((cmp t u).getD (x : Int).toNat 0)
  rw [Int.toNat_natCast, cmp_at ht hx]
theorem mapE_still {n : Nat} {v : V} (h : EntOk n v) : mapE (rngI n) v = v := by
 rcases h with rfl | ⟨x, rfl, hx⟩
 ·rfl
 ·show V.int ((rngI n).getD (x : Int).toNat 0) = _
  rw [Int.toNat_natCast, rngI_at hx]
noncomputable def ixo (r : List Int) (i : Nat) : Nat := r.idxOf (i : Int)
noncomputable def renB (n : Nat) (B : List (List V)) (R : List (List Int)) : List (List V) := mkB n fun i j => mapE (R.getD 2 []) (en B (ixo (R.getD 0 []) i) (ixo (R.getD 1 []) j))
theorem ixo_lt {n : Nat} {r : List Int} (t : Turn n r) {i : Nat} (h : i < n) : ixo r i < n := (idx_at t h).1
theorem ixo_cmp {n : Nat} {r s : List Int} (t : Turn n r) (u : Turn n s) {i : Nat} (h : i < n) : ixo (cmp r s) i = ixo r (ixo s i) := by
 obtain ⟨h1, h2⟩ := idx_at u h
 obtain ⟨h3, h4⟩ := idx_at t h1
 refine idx_of (t.cmp u) h3 h ?_
 show (cmp r s).getD (r.idxOf ((s.idxOf (i : Int) : Nat) : Int)) 0 = _
 rw [cmp_at t h3, h4, Int.toNat_natCast, h2]
theorem ixo_still {n i : Nat} (h : i < n) : ixo (rngI n) i = i := idx_of (rngI_turn n) h h (rngI_at h)
theorem ixo_inv {n : Nat} {r : List Int} (t : Turn n r) {i : Nat} (h : i < n) : (inv r).getD i 0 = ((ixo r i : Nat) : Int) := inv_at t h
theorem ren_still {n : Nat} {B : List (List V)} (e : EG n B) : renB n B (stillR n) = B := by
 conv => rhs; rw [e.is]
 refine mkB_congr fun i j hi hj => ?_
 show mapE (rngI n) (en B (ixo (rngI n) i) (ixo (rngI n) j)) = _
 rw [ixo_still hi, ixo_still hj, mapE_still (e.ent i j hi hj)]
theorem ren_beh {n : Nat} {B : List (List V)} {R S : List (List Int)} (e : EG n B) (hR : Ren n R) (hS : Ren n S) : renB n (renB n B R) S = renB n B (behR R S) := by
 obtain ⟨a, b, c, rfl, ha, hb, hc⟩ := hR.three
 obtain ⟨a', b', c', rfl, ha', hb', hc'⟩ := hS.three
 rw [beh3]
 refine mkB_congr fun i j hi hj => ?_
 show mapE c' (en (renB n B [a, b, c]) (ixo a' i) (ixo b' j)) = mapE (cmp c c') (en B (ixo (cmp a a') i) (ixo (cmp b b') j))
 rw [ixo_cmp ha ha' hi, ixo_cmp hb hb' hj]
 have h1 := ixo_lt ha' hi
 have h2 := ixo_lt hb' hj
 unfold renB
 rw [mkB_en _ h1 h2]
 show mapE c' (mapE c (en B (ixo a (ixo a' i)) (ixo b (ixo b' j)))) = _
 rw [mapE_cmp hc (e.ent _ _ (ixo_lt ha h1) (ixo_lt hb h2))]
theorem ren_und {n : Nat} {B : List (List V)} {R : List (List Int)} (e : EG n B) (hR : Ren n R) : renB n (renB n B R) (undR R) = B := by
 rw [ren_beh e hR hR.und, (beh_und hR).1, ren_still e]
theorem GridT.at' {c : Addr} {H : Hp} {B : List (List V)} (g : GridT H c B) {k : Nat} (hk : k < B.length) : ∃ xs p, H c = some (.tup xs) /\ xs.length = B.length /\ atI xs (k : Int) = some (.ref p) /\ H p = some (.tup (B.getD k [])) := by
 obtain ⟨ps, h, r⟩ := g
 obtain ⟨p, hp, hH⟩ := Paired.getR r (List.getElem?_eq_getElem hk)
 refine ⟨_, p, h, by rw [List.length_map, r.length], atI_of (by rw [List.getElem?_map, hp]; rfl), ?_⟩
 rw [hH]
 simp [List.getD_eq_getElem?_getD, List.getElem?_eq_getElem hk]
theorem en_at {n : Nat} {B : List (List V)} (e : EG n B) {i j : Nat} (hi : i < n) (hj : j < n) : atI (B.getD i []) (j : Int) = some (en B i j) := by
 refine atI_of ?_
 have : j < (B.getD i []).length := by rw [e.row i hi]; exact hj
 unfold en
 rw [List.getD_eq_getElem?_getD (l := B.getD i []), List.getElem?_eq_getElem this]
 rfl
end My
namespace My
open PySem L2
theorem fm_some {α β : Type} (g : α -> β) (l : List α) : l.filterMap (fun i => some (g i)) = l.map g := by
 induction l with
 | nil => rfl
 | cons a l ih => rw [List.filterMap_cons, List.map_cons, ih]
theorem take_succ' {α : Type} (l : List α) {i : Nat} (h : i < l.length) : l.take (i + 1) = l.take i ++ [l[i]] := (List.take_append_getElem h).symm
noncomputable def spStill : Sp := fun vs H Q _ => ∃ n : Nat, vs = [.int (n : Int)] /\ 1 <= n /\ n <= 8 /\ ∀ t H', Same H H' -> TG H' t (stillR n) -> Q (.ref t) H'
noncomputable def spUndone : Sp := fun vs H Q _ => ∃ (a : Addr) (n : Nat) (R : List (List Int)), vs = [.ref a] /\ TG H a R /\ Ren n R /\ 1 <= n /\ n <= 8 /\ ∀ t H', Same H H' -> TG H' t (undR R) -> Q (.ref t) H'
noncomputable def spTU : Sp := fun vs H Q _ => ∃ (a : Addr) (n : Nat) (r : List Int), vs = [.ref a] /\ H a = some (.tup (r.map V.int)) /\ Turn n r /\ n <= 8 /\ ∀ t H', Same H H' -> H t = none -> H' t = some (.tup ((inv r).map V.int)) -> Q (.ref t) H'
noncomputable def spEntry : Sp := fun vs H Q _ => ∃ (v : V) (p : Addr) (n : Nat) (t : List Int), vs = [v, .ref p] /\ H p = some (.tup (t.map V.int)) /\ Turn n t /\ EntOk n v /\ Q (mapE t v) H
noncomputable def spRenamed : Sp := fun vs H Q _ => ∃ (g a : Addr) (n : Nat) (B : List (List V)) (R : List (List Int)), vs = [.ref g, .ref a] /\ GridT H g B /\ EG n B /\ TG H a R /\ Ren n R /\ 1 <= n /\ n <= 8 /\ ∀ t H', Same H H' -> GridT H' t (renB n B R) -> Q (.ref t) H'
section
variable {P : Program} {w : World} {K : PySem.W.Frag} {mg : Str -> Option Value} {base : Heap}
theorem scStill : FnScope ["n", "turn"] ["n"] (defScope sStill) := ⟨rfl, rfl, rfl, by decide +kernel, rfl, by decide +kernel, by decide +kernel⟩
theorem ok_still {f : Addr} {fd : FuncData} (F : Fun K "still" "still" sStill f fd) (T : Blt mg) : FnOk P w K mg base CX0 1 f fd ["n"] spStill := by
 refine F.ok scStill (fun vs H Q E h => ?_) (fun cdv A outer s H vs Q E hr h => ?_)
 ·obtain ⟨_, rfl, _⟩ := h
  rfl
 ·obtain ⟨n, rfl, h1, h8, q⟩ := h
  refine' ⟨_, pss_cons ?s0 (pss_one (ps_ret (pe_tup (pa_cons (pv 1) (pa_cons (pv 1) (pa_cons (pv 1) pa_nil)))))), ?rd⟩
  case s0 => exact ps_set (i := 1) scStill.nd rfl (Or.inl rfl) (pe_callTy (call_tupleR rfl) rfl T.tuple bt_tuple (pa_cons (pe_callTy call_rangeV rfl T.range bt_range (pa_cons (pv 0) pa_nil)) pa_nil))
  case rd =>
   refine ⟨_, rfl, n, rfl, fun lr hlr => ⟨lr, n, rfl, upd_same, by exact Om.b1 ‹_› rfl, fun lt hlt => ?_⟩⟩
   refine ⟨_, rfl, _, rfl, _, rfl, (show 3 <= sizeLine from small6 (by decide)), fun lp hlp => ?_⟩
   have s0 : Same H (upd H lr (.rng 0 (n : Int))) := Same.new hlr
   have s1 : Same (upd H lr (.rng 0 (n : Int))) (upd (upd H lr (.rng 0 (n : Int))) lt (.tup (rng n))) := Same.new hlt
   have s2 : Same (upd (upd H lr (.rng 0 (n : Int))) lt (.tup (rng n))) (upd (upd (upd H lr (.rng 0 (n : Int))) lt (.tup (rng n))) lp (.tup [.ref lt, .ref lt, .ref lt])) := Same.new hlp
   have ht : (upd (upd (upd H lr (.rng 0 (n : Int))) lt (.tup (rng n))) lp (.tup [.ref lt, .ref lt, .ref lt])) lt = some (.tup ((rngI n).map V.int)) := by
    rw [<- rng_eq]
    exact s2 _ _ upd_same
   exact q lp _ (s0.trans (s1.trans s2)) ⟨[lt, lt, lt], upd_same, .cons ht (.cons ht (.cons ht .nil))⟩
theorem scTU : FnScope ["turn"] ["turn"] (defScope sTurnUndone) := ⟨rfl, rfl, rfl, by decide +kernel, rfl, by decide +kernel, by decide +kernel⟩
theorem ok_turnUndone {f : Addr} {fd : FuncData} (F : Fun K "turn_undone" "turn_undone" sTurnUndone f fd) (T : Blt mg) : FnOk P w K mg base CX0 1 f fd ["turn"] spTU := by
 refine F.ok scTU (fun vs H Q E h => ?_) (fun cdv A outer s H vs Q E hr h => ?_)
 ·obtain ⟨_, _, _, rfl, _⟩ := h
  rfl
 ·obtain ⟨a, n, r, rfl, ha, tr, h8, q⟩ := h
  refine ⟨_, pss_one (ps_ret (pe_callTy (call_tupleK K) rfl T.tuple bt_tuple (pa_cons (pe_lc ["number", "turn"] [none, some 0] rfl rfl (pi_range1 rfl T.range (pa_cons (pe_callB (call_lenK K) rfl T.len PySem.boot_len (pa_cons (pv 0) pa_nil)) pa_nil)) (fun _ _ _ _ _ => pg_c 0) (fun _ _ _ _ _ => pts_nil) (fun _ _ _ _ _ => pe_tindex (pv 1) (pa_cons (pv 0) pa_nil))) pa_nil))), ?_⟩
  refine ⟨_, rfl, a, _, rfl, .inr (SqT.of ha), _, rfl, by exact Om.c2, by rw [List.length_map, tr.len]; exact Om.c1 ‹_› rfl, fun l hl => ?_⟩
  rw [List.length_map, tr.len, Int.toNat_natCast]
  refine comp_pure (fun i => some (.int ((r.idxOf (i : Int) : Nat) : Int))) (fun σ => ∃ v, σ = [v, some (.ref a)]) (wlk_range (n := n)) (by rw [rng_len]; exact small6 (by exact Om.b1 ‹_› rfl)) hl (fun H' sm => trivial) ⟨none, rfl⟩ ?_ ?_
  ·rintro j x σ H' R' hj ⟨v, rfl⟩ sm kk
   obtain ⟨hjn, rfl⟩ := rng_get hj
   refine ⟨_, rfl, a, r, rfl, sm _ _ ha, _, rfl, _, rfl, sm _ _ ha, row_has tr.len tr.nd tr.rg ⟨by exact Om.c6, by exact Om.c5 ‹_›⟩, ?_⟩
   exact kk [some (.int (j : Int)), some (.ref a)] H' ⟨_, rfl⟩ (Same.refl _)
  ·intro H2 s2 h2
   have e0 : (List.range (rng n).length).filterMap (fun i : Nat => some (V.int ((r.idxOf (i : Int) : Nat) : Int))) = (inv r).map V.int := by
    rw [fm_some, rng_len]
    unfold inv
    rw [tr.len, List.map_map]
    rfl
   rw [e0] at h2
   exact ⟨l, _, rfl, .inl ⟨SqL.of h2, fun t ht => q t _ (s2.trans (Same.new ht)) (s2.free ht) upd_same⟩⟩
theorem scUndone : FnScope ["renaming"] ["renaming"] (defScope sUndone) := ⟨rfl, rfl, rfl, by decide +kernel, rfl, by decide +kernel, by decide +kernel⟩
theorem ok_undone {f fU : Addr} {fd dU : FuncData} (F : Fun K "undone" "undone" sUndone f fd) (T : Blt mg) (DU : Dfn K mg "turn_undone" sTurnUndone ["turn"] fU dU) : FnOk P w K mg base CX0 2 f fd ["renaming"] spUndone := by
 have GU : FnOk P w K mg base CX0 1 fU dU ["turn"] spTU := ok_turnUndone DU.F T
 refine F.ok scUndone (fun vs H Q E h => ?_) (fun cdv A outer s H vs Q E hr h => ?_)
 ·obtain ⟨_, _, _, rfl, _⟩ := h
  rfl
 ·obtain ⟨a, n, R, rfl, hA, rR, h1, h8, q⟩ := h
  refine ⟨_, pss_one (ps_ret (pe_callTy (call_tupleK K) rfl T.tuple bt_tuple (pa_cons (pe_lc ["turn"] [none] rfl rfl (pi_tupK K (pv 0)) (fun _ _ _ _ _ => pg_c 0) (fun _ _ _ _ _ => pts_nil) (fun _ _ _ _ _ => pe_call GU hr rfl DU.m DU.F.kp DU.b .nil pass0 (pa_cons (pv 0) pa_nil))) pa_nil))), ?_⟩
  obtain ⟨ps, hps, hPs⟩ := id hA
  have lp : (ps.map V.ref).length = 3 := by rw [List.length_map, hPs.length, rR.len]
  have lu : (undR R).length = 3 := by unfold undR; rw [List.length_map, rR.len]
  refine ⟨_, rfl, a, rfl, ⟨_, SqT.of hps⟩, fun lz hlz => ?_⟩
  refine comp_of (wlk_tup (xs := ps.map V.ref)) (fun i ys σ H4 => ∃ (v0 : Option V) (zs : List Addr), σ = [v0] /\ ys = zs.map V.ref /\ Same H H4 /\ H4 lz = some (.lst ys) /\ Paired (fun q (r : List Int) => H4 q = some (.tup (r.map V.int))) zs ((undR R).take i))
   ⟨none, [], rfl, rfl, Same.new hlz, upd_same, .nil⟩ (fun i ys σ H4 zz0 => by obtain ⟨_, _, _, _, s4, hl, _⟩ := zz0; exact ⟨SqT.of (s4 _ _ hps), hl⟩) ?_ ?_
  ·rintro i x ys σ H4 hx ⟨v0, zs, rfl, rfl, s4, hl4, hZ⟩
   have hi : i < 3 := by rw [<- lp]; exact (List.getElem?_eq_some_iff.mp hx).1
   rw [List.getElem?_map] at hx
   cases hpi : ps[i]? with
   | none => rw [hpi] at hx; cases hx
   | some p1 =>
    rw [hpi] at hx
    cases hx
    obtain ⟨r, hr1, hp1⟩ := Paired.getL hPs hpi
    have tr := rR.row r (List.mem_of_getElem? hr1)
    refine ⟨_, rfl, p1, n, r, rfl, s4 _ _ hp1, tr, h8, fun z H6 s6 hz0 hz => ?_⟩
    have hl6 := s6 _ _ hl4
    have up : ∀ b row, H6 b = some (.tup row) -> (upd H6 lz (.lst (zs.map V.ref ++ [.ref z]))) b = some (.tup row) := fun b row e => by
     rw [upd_ne (ne_of e hl6 (by intro z; cases z))]
     exact e
    have hzl : zs.length = i := by rw [hZ.length, List.length_take, lu]; exact Om.m1 ‹_›
    refine ⟨hl6, by rw [List.length_map, hzl]; exact small1000 (by omega), _, zs ++ [z], rfl, by rw [List.map_append]; rfl, fun b u e => ?_, upd_same, ?_⟩
    ·rw [upd_ne (ne_of_none e hlz)]
     exact s6 _ _ (s4 _ _ e)
    ·have eb : (undR R)[i]? = some (inv r) := by
      unfold undR
      rw [List.getElem?_map, hr1]
      rfl
     have hib : i < (undR R).length := by exact Om.a1 ‹_› ‹_›
     rw [List.getElem?_eq_getElem hib] at eb
     rw [take_succ' _ hib, Option.some.inj eb]
     exact Paired.snoc (Paired.mapP hZ fun _ _ e => up _ _ (s6 _ _ e)) (up _ _ hz)
  ·rintro ys σ H4 ⟨v0, zs, rfl, rfl, s4, hl4, hZ⟩
   rw [lp, List.take_of_length_le (by exact Om.l1 ‹_›)] at hZ
   exact ⟨lz, _, rfl, .inl ⟨SqL.of hl4, fun t ht => q t _ (s4.trans (Same.new ht)) ⟨zs, upd_same, Paired.mapP hZ fun _ _ e => (Same.new ht) _ _ e⟩⟩⟩
theorem scEntry : FnScope ["entry", "things"] ["entry", "things"] (defScope sEntry) := ⟨rfl, rfl, rfl, by decide +kernel, rfl, by decide +kernel, by decide +kernel⟩
theorem ok_entry {f : Addr} {fd : FuncData} (F : Fun K "entry_renamed" "entry_renamed" sEntry f fd) : FnOk P w K mg base CX0 1 f fd ["entry", "things"] spEntry := by
 refine F.ok scEntry (fun vs H Q E h => ?_) (fun cdv A outer s H vs Q E hr h => ?_)
 ·obtain ⟨_, _, _, _, rfl, _⟩ := h
  rfl
 ·obtain ⟨v, p, n, t, rfl, hp, ht, he, q⟩ := h
  refine ⟨_, pss_one (ps_ret (pe_ifExp (pt_cmp (pc_isN (pv 0))) pe_non (pe_ix ix_tup (pv 1) (pv 0) (fun _ _ => rfl)))), ?_⟩
  rcases he with rfl | ⟨x, rfl, hx⟩
  ·exact ⟨_, rfl, _, rfl, iteT q⟩
  ·refine ⟨_, rfl, _, rfl, iteF ⟨_, rfl, _, rfl, p, _, _, _, rfl, rfl, SqT.of hp, int_at (i := x) (by rw [ht.len]; exact hx), ?_⟩⟩
   exact q
theorem scRenamed : FnScope ["begun", "renaming", "sources", "told", "row"] ["begun", "renaming"] (defScope sRenamed) := ⟨rfl, rfl, rfl, by decide +kernel, rfl, by decide +kernel, by decide +kernel⟩
theorem ok_renamed {f fU fT fE : Addr} {fd dU dT dE : FuncData} (F : Fun K "renamed" "renamed" sRenamed f fd) (T : Blt mg) (DU : Dfn K mg "undone" sUndone ["renaming"] fU dU) (DT : Dfn K mg "turn_undone" sTurnUndone ["turn"] fT dT) (DE : Dfn K mg "entry_renamed" sEntry ["entry", "things"] fE dE) : FnOk P w K mg base CX0 3 f fd ["begun", "renaming"] spRenamed := by
 have GU : FnOk P w K mg base CX0 2 fU dU ["renaming"] spUndone := ok_undone DU.F T DT
 have GE : FnOk P w K mg base CX0 2 fE dE ["entry", "things"] spEntry := (ok_entry DE.F).mono (by decide)
 refine F.ok scRenamed (fun vs H Q E h => ?_) (fun cdv A outer s H vs Q E hr h => ?_)
 ·obtain ⟨_, _, _, _, _, rfl, _⟩ := h
  rfl
 ·obtain ⟨g, a, n, B, R, rfl, hG, eg, hA, rn, h1, h8, q⟩ := h
  refine' ⟨_, pss_cons ?s0 (pss_cons (ps_set (i := 3) scRenamed.nd rfl (Or.inl rfl) (pe_lst pa_nil)) (pss_cons (ps_for PassesOwn.never rfl (pi_tup (pe_ix ix_tup (pv 2) pe_int (fun _ _ => rfl))) (pg_name (i := 4) scRenamed.nd rfl (Or.inr rfl)) (pss_one ?b)) (pss_one (ps_ret (pe_callTy (call_tupleK K) rfl T.tuple bt_tuple (pa_cons (pv 3) pa_nil)))))), ?rd⟩
  case s0 => exact ps_set (i := 2) scRenamed.nd rfl (Or.inl rfl) (pe_call GU hr rfl DU.m DU.F.kp DU.b .nil pass0 (pa_cons (pv 1) pa_nil))
  case b => exact ps_expr (pe_bm PySem.F.plainAttrs_list PySem.F.slot_list_append PySem.F.type_list_append mt_append (pv 3) (pa_cons (pe_callTy (call_tupleK K) rfl T.tuple bt_tuple (pa_cons (pe_lc ["column", "begun", "row", "renaming"] [none, some 0, some 4, some 1] rfl rfl (pi_tupK K (pe_ix ix_tup (pv 2) pe_int (fun _ _ => rfl))) (fun _ _ _ _ _ => pg_c 0) (fun _ _ _ _ _ => pts_nil) (fun _ _ _ _ _ => pe_call GE hr rfl DE.m DE.F.kp DE.b .nil pass0 (pa_cons (pe_ix (ix_tupK K) (pe_ix (ix_tupK K) (pv 1) (pv 2) (fun _ _ => rfl)) (pv 0) (fun _ _ => rfl)) (pa_cons (pe_ix (ix_tupK K) (pv 3) pe_int (fun _ _ => rfl)) pa_nil)))) pa_nil)) pa_nil))
  case rd =>
   refine ⟨_, rfl, a, n, R, rfl, hA, rn, h1, h8, fun su H1 s1 hS => ⟨Nat.zero_le _, fun lt hlt => ?_⟩⟩
   have s2 : Same H1 (upd H1 lt (.lst [])) := Same.new hlt
   have hlt0 : H lt = none := s1.free hlt
   have hl2 : (upd H1 lt (.lst [])) lt = some (.lst []) := upd_same
   generalize upd H1 lt (.lst []) = H2 at s2 hl2 ⊢
   have hS2 := hS.same s2
   have rU := rn.und
   have g0 : (undR R).getD 0 [] = inv (R.getD 0 []) := by
    obtain ⟨x, y, z, rfl, _⟩ := rn.three
    rfl
   have g1 : (undR R).getD 1 [] = inv (R.getD 1 []) := by
    obtain ⟨x, y, z, rfl, _⟩ := rn.three
    rfl
   obtain ⟨xs0, p0, a1, a2, a3, a4⟩ := hS2.at (k := 0) (by rw [rU.len]; decide)
   obtain ⟨xs1, p1, b1, b2, b3, b4⟩ := hS2.at (k := 1) (by rw [rU.len]; decide)
   rw [g0] at a4
   rw [g1] at b4
   have t0 := rn.at (k := 0) (by decide)
   have t1 := rn.at (k := 1) (by decide)
   have t2 := rn.at (k := 2) (by decide)
   have l0 : ((inv (R.getD 0 [])).map V.int).length = n := by rw [List.length_map, inv_len, t0.len]
   have l1 : ((inv (R.getD 1 [])).map V.int).length = n := by rw [List.length_map, inv_len, t1.len]
   have hG2 := (hG.same s1).same s2
   have hA2 := (hA.same s1).same s2
   refine ⟨_, rfl, su, _, 0, _, rfl, rfl, SqT.of a1, a3, p0, rfl, ⟨_, SqT.of a4⟩, ?_⟩
   refine for_tup (xs := (inv (R.getD 0 [])).map V.int) (fun i σ H3 => ∃ (v4 : Option V) (qs : List Addr), σ = [some (.ref g), some (.ref a), some (.ref su), some (.ref lt), v4] /\ (∀ b o, b ≠ lt -> H2 b = some o -> H3 b = some o) /\ H3 lt = some (.lst (qs.map V.ref)) /\ Paired (fun p row => H3 p = some (.tup row) /\ p ≠ lt) qs ((renB n B R).take i))
    ⟨none, [], rfl, fun _ _ _ e => e, hl2, .nil⟩ (fun i σ H3 _ ⟨_, _, _, s3, _⟩ => SqT.of (s3 _ _ (fun z => by rw [z, hl2] at a4; cases a4) a4)) ?_ ?_
   ·rintro i x σ H3 hx ⟨v4, qs, rfl, s3, hl3, hQ⟩
    have hi : i < n := by rw [<- l0]; exact (List.getElem?_eq_some_iff.mp hx).1
    have hx' : x = .int ((ixo (R.getD 0 []) i : Nat) : Int) := by
     have hil : i < (inv (R.getD 0 [])).length := by rw [inv_len, t0.len]; exact hi
     rw [List.getElem?_map, List.getElem?_eq_getElem hil] at hx
     have := ixo_inv t0 hi
     rw [getD_of hil] at this
     rw [this] at hx
     cases hx
     rfl
    subst hx'
    have up : ∀ {b : Addr} {row : List V}, H2 b = some (.tup row) -> H3 b = some (.tup row) := fun {b row} e => s3 _ _ (fun z => by rw [z, hl2] at e; cases e) e
    have hio := ixo_lt t0 hi
    obtain ⟨xg, pg, c1, c2, c3, c4⟩ := GridT.at' hG2 (k := ixo (R.getD 0 []) i) (by rw [eg.len]; exact hio)
    obtain ⟨xr, pr, d1, d2, d3, d4⟩ := hA2.at (k := 2) (by rw [rn.len]; decide)
    refine ⟨_, rfl, .inl ⟨rfl, _, SqL.of hl3⟩, _, rfl, su, _, 1, _, rfl, rfl, SqT.of (up b1), b3, p1, rfl, ⟨_, SqT.of (up b4)⟩, fun lc hlc => ?_⟩
    refine comp_pure (fun j => some (mapE (R.getD 2 []) (en B (ixo (R.getD 0 []) i) (ixo (R.getD 1 []) j)))) (fun σ => ∃ v, σ = [v, some (.ref g), some (.int ((ixo (R.getD 0 []) i : Nat) : Int)), some (.ref a)]) (wlk_tup (xs := (inv (R.getD 1 [])).map V.int)) (by rw [l1]; exact small6 (by exact Om.b1 ‹_› rfl)) hlc (fun H' sm => SqT.of (sm _ _ (up b4))) ⟨none, rfl⟩ ?_ ?_
    ·rintro j y σ H4 R' hj ⟨v, rfl⟩ sm kk
     have hjn : j < n := by rw [<- l1]; exact (List.getElem?_eq_some_iff.mp hj).1
     have hy' : y = .int ((ixo (R.getD 1 []) j : Nat) : Int) := by
      have hil : j < (inv (R.getD 1 [])).length := by rw [inv_len, t1.len]; exact hjn
      rw [List.getElem?_map, List.getElem?_eq_getElem hil] at hj
      have := ixo_inv t1 hjn
      rw [getD_of hil] at this
      rw [this] at hj
      cases hj
      rfl
     subst hy'
     have hjo := ixo_lt t1 hjn
     refine ⟨_, rfl, _, rfl, g, _, _, _, rfl, rfl, SqT.of (sm _ _ (up c1)), c3, _, rfl, pg, _, _, _, rfl, rfl, SqT.of (sm _ _ (up c4)), en_at eg hio hjo, _, rfl, a, _, 2, _, rfl, rfl, SqT.of (sm _ _ (up d1)), d3, _, pr, n, R.getD 2 [], rfl, sm _ _ (up d4), t2, eg.ent _ _ hio hjo, ?_⟩
     exact kk [some (.int ((ixo (R.getD 1 []) j : Nat) : Int)), some (.ref g), some (.int ((ixo (R.getD 0 []) i : Nat) : Int)), some (.ref a)] H4 ⟨_, rfl⟩ (Same.refl _)
    ·intro H4 s4 h4
     have er : (List.range ((inv (R.getD 1 [])).map V.int).length).filterMap (fun j : Nat => some (mapE (R.getD 2 []) (en B (ixo (R.getD 0 []) i) (ixo (R.getD 1 []) j)))) = (renB n B R).getD i [] := by
      rw [fm_some, l1]
      unfold renB
      rw [mkB_row _ hi]
     rw [er] at h4
     have hib : i < (renB n B R).length := by unfold renB; rw [mkB_len]; exact hi
     have eb : (renB n B R)[i] = (renB n B R).getD i [] := by rw [List.getD_eq_getElem?_getD, List.getElem?_eq_getElem hib]; rfl
     generalize (renB n B R).getD i [] = rw' at h4 eb
     refine ⟨lc, _, rfl, .inl ⟨SqL.of h4, fun tp htp => ?_⟩⟩
     have s5 : Same H4 (upd H4 tp (.tup rw')) := Same.new htp
     have hl5 := s5 _ _ (s4 _ _ hl3)
     have htl : tp ≠ lt := fun z => by rw [z, s4 _ _ hl3] at htp; cases htp
     have hql : qs.length = i := by rw [hQ.length, List.length_take]; exact Om.m1 ‹_›
     refine ⟨lt, _, _, rfl, rfl, hl5, by rw [List.length_map, hql]; exact small1000 (by omega), _, qs ++ [tp], rfl, fun b o hb e => ?_, by rw [upd_same, List.map_append]; rfl, ?_⟩
     ·rw [upd_ne hb]
      exact s5 _ _ (s4 _ _ (s3 _ _ hb e))
     ·rw [take_succ' _ hib, eb]
      refine Paired.snoc (Paired.mapP hQ fun b row z => ⟨?_, z.2⟩) ⟨?_, htl⟩
      ·rw [upd_ne z.2]
       exact s5 _ _ (s4 _ _ z.1)
      ·rw [upd_ne htl, upd_same]
   ·rintro σ H3 ⟨v4, qs, rfl, s3, hl3, hQ⟩
    rw [l0, List.take_of_length_le (by unfold renB; rw [mkB_len]; exact Nat.le_refl _)] at hQ
    refine ⟨_, rfl, lt, _, rfl, .inl ⟨SqL.of hl3, fun t ht => q t _ (fun b o e => ?_) ⟨qs, upd_same, Paired.mapP hQ fun _ _ z => (Same.new ht) _ _ z.1⟩⟩⟩
    exact Same.new ht _ _ (s3 _ _ (ne_of_none e hlt0) (s2 _ _ (s1 _ _ e)))
end
end My
namespace My
open PySem L2
theorem TG.three {H : Hp} {a : Addr} {x y z : List Int} (g : TG H a [x, y, z]) : ∃ p q r : Addr, H a = some (.tup [.ref p, .ref q, .ref r]) /\ H p = some (.tup (x.map V.int)) /\ H q = some (.tup (y.map V.int)) /\ H r = some (.tup (z.map V.int)) := by
 obtain ⟨ps, h, pr⟩ := g
 cases pr with
 | cons h1 t1 =>
  cases t1 with
  | cons h2 t2 =>
   cases t2 with
   | cons h3 t3 =>
    cases t3
    exact ⟨_, _, _, h, h1, h2, h3⟩
section
variable {P : Program} {w : World} {K : PySem.W.Frag} {mg : Str -> Option Value} {base : Heap}
theorem scRenL : FnScope ["_law_begun", "_law_renaming_here", "_law_rows", "_law_columns", "_law_things", "_law_n", "_law_made", "_law_row_here", "_law_line", "_law_entries"] ["_law_begun", "_law_renaming_here"] (defScope sRenL) := ⟨rfl, rfl, rfl, by decide +kernel, rfl, by decide +kernel, by decide +kernel⟩
theorem ok_renL {f : Addr} {fd : FuncData} (F : Fun K "_law_renamed" "_law_renamed" sRenL f fd) (T : Blt mg) : FnOk P w K mg base CX0 1 f fd ["_law_begun", "_law_renaming_here"] spRenamed := by
 refine F.ok scRenL (fun vs H Q E h => ?_) (fun cdv A outer s H vs Q E hr h => ?_)
 ·obtain ⟨_, _, _, _, _, rfl, _⟩ := h
  rfl
 ·obtain ⟨g, a, n, B, R, rfl, hG, eg, hA, rn, h1, h8, q⟩ := h
  refine' ⟨_, pss_cons ?s0 (pss_cons ?s1 (pss_cons (ps_set (i := 6) scRenL.nd rfl (Or.inl rfl) (pe_lst pa_nil)) (pss_cons (ps_for PassesOwn.never rfl (pi_range1 rfl T.range (pa_cons (pv 5) pa_nil)) (pg_name (i := 7) scRenL.nd rfl (Or.inl rfl)) (pss_cons ?b0 (pss_cons ?b1 (pss_one ?b2)))) (pss_one (ps_ret (pe_callTy (call_tupleK K) rfl T.tuple bt_tuple (pa_cons (pv 6) pa_nil))))))), ?rd⟩
  case s0 => exact ps_asg (pv 1) (pg_tupK (n := 3) K rfl (pgs_cons (pg_name (i := 2) scRenL.nd rfl (Or.inl rfl)) (pgs_cons (pg_name (i := 3) scRenL.nd rfl (Or.inr rfl)) (pgs_cons (pg_name (i := 4) scRenL.nd rfl (Or.inr rfl)) pgs_nil))))
  case s1 => exact ps_set (i := 5) scRenL.nd rfl (Or.inl rfl) (pe_callB (call_lenK K) rfl T.len PySem.boot_len (pa_cons (pv 0) pa_nil))
  case b0 => exact ps_set (i := 8) scRenL.nd rfl (Or.inr rfl) (pe_ix ix_tup (pv 0) (pe_tindex (pv 2) (pa_cons (pv 7) pa_nil)) (fun _ _ => rfl))
  case b1 => exact ps_lc (i := 9) ["_law_column", "_law_line", "_law_columns"] [none, some 8, some 3] scRenL.nd rfl (Or.inl rfl) rfl rfl (pi_range1 rfl T.range (pa_cons (pv 5) pa_nil)) (fun _ _ _ _ _ => pg_c 0) (fun _ _ _ _ _ => pts_nil) (fun _ _ _ _ _ => pe_ix (ix_tupK K) (pv 1) (pe_tindex (pv 2) (pa_cons (pv 0) pa_nil)) (fun _ _ => rfl))
  case b2 => exact ps_expr (pe_bm PySem.F.plainAttrs_list PySem.F.slot_list_append PySem.F.type_list_append mt_append (pv 6) (pa_cons (pe_callTy (call_tupleK K) rfl T.tuple bt_tuple (pa_cons (pe_lc ["_law_thing", "_law_things"] [none, some 4] rfl rfl (pi_listK K (pv 9)) (fun _ _ _ _ _ => pg_c 0) (fun _ _ _ _ _ => pts_nil) (fun _ _ _ _ _ => pe_ifExp (pt_cmp (pc_isN (pv 0))) pe_non (pe_ix (ix_tupK K) (pv 1) (pv 0) (fun _ _ => rfl)))) pa_nil)) pa_nil))
  case rd =>
   obtain ⟨r, c, t, rfl, t0, t1, t2⟩ := rn.three
   obtain ⟨p0, p1, p2, ha, hp0, hp1, hp2⟩ := hA.three
   obtain ⟨gs, hgs, hGs⟩ := id hG
   have hgl : (gs.map V.ref).length = n := by rw [List.length_map, hGs.length, eg.len]
   refine ⟨_, rfl, a, _, rfl, SqT.of ha, rfl, _, _, rfl, _, _, rfl, _, _, rfl, rfl, ?_⟩
   refine ⟨_, rfl, g, _, rfl, .inr (SqT.of hgs), ?_⟩
   show gName 5 (V.int ((gs.map V.ref).length : Int)) _ _ _
   rw [hgl]
   refine ⟨Nat.zero_le _, fun lt hlt => ?_⟩
   have s2 : Same H (upd H lt (.lst [])) := Same.new hlt
   have hl2 : (upd H lt (.lst [])) lt = some (.lst []) := upd_same
   generalize upd H lt (.lst []) = H2 at s2 hl2 ⊢
   refine ⟨_, rfl, (n : Int), rfl, by exact Om.c2, by exact Om.c1 ‹_› rfl, ?_⟩
   rw [Int.toNat_natCast]
   refine for_range (lo := 0) (n := n) (fun i σ H3 => ∃ (v7 v8 v9 : Option V) (qs : List Addr), σ = [some (.ref g), some (.ref a), some (.ref p0), some (.ref p1), some (.ref p2), some (.int (n : Int)), some (.ref lt), v7, v8, v9] /\ (∀ b o, b ≠ lt -> H2 b = some o -> H3 b = some o) /\ H3 lt = some (.lst (qs.map V.ref)) /\ Paired (fun p row => H3 p = some (.tup row) /\ p ≠ lt) qs ((renB n B [r, c, t]).take i))
    ⟨none, none, none, [], rfl, fun _ _ _ e => e, hl2, .nil⟩ ?_ ?_
   ·rintro i σ H3 hi ⟨v7, v8, v9, qs, rfl, s3, hl3, hQ⟩
    rw [Int.zero_add]
    have up : ∀ {b : Addr} {row : List V}, H b = some (.tup row) -> H3 b = some (.tup row) := fun {b row} e => s3 _ _ (fun z => by rw [z, hlt] at e; cases e) (s2 _ _ e)
    have hio := ixo_lt t0 hi
    obtain ⟨xg, pg, c1, c2, c3, c4⟩ := GridT.at' hG (k := ixo r i) (by rw [eg.len]; exact hio)
    refine ⟨_, rfl, _, rfl, p0, r, rfl, up hp0, _, rfl, (i : Int), rfl, up hp0, row_has t0.len t0.nd t0.rg ⟨by exact Om.c6, by exact Om.c5 ‹_›⟩, g, _, _, _, rfl, rfl, SqT.of (up c1), c3, ?_⟩
    refine ⟨_, rfl, (n : Int), rfl, by exact Om.c2, by exact Om.c1 ‹_› rfl, fun le hle => ?_⟩
    rw [Int.toNat_natCast]
    refine comp_pure (fun j => some (en B (ixo r i) (ixo c j))) (fun σ => ∃ v, σ = [v, some (.ref pg), some (.ref p1)]) (wlk_range (n := n)) (by rw [rng_len]; exact small6 (by exact Om.b1 ‹_› rfl)) hle (fun H' sm => trivial) ⟨none, rfl⟩ ?_ ?_
    ·rintro j y σ H4 R' hj ⟨v, rfl⟩ sm kk
     obtain ⟨hjn, rfl⟩ := rng_get hj
     have hjo := ixo_lt t1 hjn
     refine ⟨_, rfl, _, rfl, p1, c, rfl, sm _ _ (up hp1), _, rfl, (j : Int), rfl, sm _ _ (up hp1), row_has t1.len t1.nd t1.rg ⟨by exact Om.c6, by exact Om.c5 ‹_›⟩, pg, _, _, _, rfl, rfl, SqT.of (sm _ _ (up c4)), en_at eg hio hjo, ?_⟩
     exact kk [some (.int (j : Int)), some (.ref pg), some (.ref p1)] H4 ⟨_, rfl⟩ (Same.refl _)
    intro H4 s4 hle4
    rw [fm_some, rng_len] at hle4
    refine ⟨_, rfl, .inl ⟨rfl, _, SqL.of (s4 _ _ hl3)⟩, _, rfl, le, rfl, ⟨_, SqL.of hle4⟩, fun lc hlc => ?_⟩
    refine comp_pure (fun j => some (mapE t (en B (ixo r i) (ixo c j)))) (fun σ => ∃ v, σ = [v, some (.ref p2)]) (wlk_list (xs := (List.range n).map fun j => en B (ixo r i) (ixo c j))) (by rw [List.length_map, List.length_range]; exact small6 (by exact Om.b1 ‹_› rfl)) hlc (fun H' sm => SqL.of (sm _ _ hle4)) ⟨none, rfl⟩ ?_ ?_
    ·rintro j y σ H5 R' hj ⟨v, rfl⟩ sm kk
     have hjn : j < n := by
      have := (List.getElem?_eq_some_iff.mp hj).1
      rw [List.length_map, List.length_range] at this
      exact this
     rw [List.getElem?_map, List.getElem?_range hjn] at hj
     cases hj
     have kk' := fun v' => kk [v', some (.ref p2)] H5 ⟨v', rfl⟩ (Same.refl _)
     show compBody _ _ _ (en B (ixo r i) (ixo c j)) _ _ _
     rcases eg.ent _ _ hio (ixo_lt t1 hjn) with e | ⟨x, e, hx⟩
     ·rw [e] at kk' ⊢
      exact ⟨_, rfl, _, rfl, iteT (kk' _)⟩
     ·rw [e] at kk' ⊢
      exact ⟨_, rfl, _, rfl, iteF ⟨_, rfl, _, rfl, p2, _, _, _, rfl, rfl, SqT.of (sm _ _ (s4 _ _ (up hp2))), int_at (i := x) (by rw [t2.len]; exact hx), kk' _⟩⟩
    ·intro H5 s5 h5
     have er : (List.range ((List.range n).map fun j => en B (ixo r i) (ixo c j)).length).filterMap (fun j : Nat => some (mapE t (en B (ixo r i) (ixo c j)))) = (renB n B [r, c, t]).getD i [] := by
      rw [fm_some, List.length_map, List.length_range]
      unfold renB
      rw [mkB_row _ hi]
      rfl
     rw [er] at h5
     have hib : i < (renB n B [r, c, t]).length := by unfold renB; rw [mkB_len]; exact hi
     have eb : (renB n B [r, c, t])[i] = (renB n B [r, c, t]).getD i [] := by rw [List.getD_eq_getElem?_getD, List.getElem?_eq_getElem hib]; rfl
     generalize (renB n B [r, c, t]).getD i [] = rw' at h5 eb
     refine ⟨lc, _, rfl, .inl ⟨SqL.of h5, fun tp htp => ?_⟩⟩
     have s6 : Same H5 (upd H5 tp (.tup rw')) := Same.new htp
     have hl5 := s6 _ _ (s5 _ _ (s4 _ _ hl3))
     have htl : tp ≠ lt := fun z => by rw [z, s5 _ _ (s4 _ _ hl3)] at htp; cases htp
     have hql : qs.length = i := by rw [hQ.length, List.length_take]; exact Om.m1 ‹_›
     refine ⟨lt, _, _, rfl, rfl, hl5, by rw [List.length_map, hql]; exact small1000 (by omega), _, _, _, qs ++ [tp], rfl, fun b o hb e => ?_, by rw [upd_same, List.map_append]; rfl, ?_⟩
     ·rw [upd_ne hb]
      exact s6 _ _ (s5 _ _ (s4 _ _ (s3 _ _ hb e)))
     ·rw [take_succ' _ hib, eb]
      refine Paired.snoc (Paired.mapP hQ fun b row z => ⟨?_, z.2⟩) ⟨?_, htl⟩
      ·rw [upd_ne z.2]
       exact s6 _ _ (s5 _ _ (s4 _ _ z.1))
      ·rw [upd_ne htl, upd_same]
   ·rintro σ H3 ⟨v7, v8, v9, qs, rfl, s3, hl3, hQ⟩
    rw [List.take_of_length_le (by unfold renB; rw [mkB_len]; exact Nat.le_refl _)] at hQ
    refine ⟨_, rfl, lt, _, rfl, .inl ⟨SqL.of hl3, fun tt htt => q tt _ (fun b o e => ?_) ⟨qs, upd_same, Paired.mapP hQ fun _ _ z => (Same.new htt) _ _ z.1⟩⟩⟩
    exact Same.new htt _ _ (s3 _ _ (ne_of_none e hlt) (s2 _ _ e))
end
end My
namespace My
open PySem L2
structure MG (H : Hp) (a : Addr) (ps : List Addr) (R : List (List Int)) : Prop where
 out : H a = some (.lst (ps.map V.ref))
 rows : Paired (fun p (r : List Int) => H p = some (.lst (r.map V.int))) ps R
 nd : ps.Nodup
 ap : a ∉ ps
noncomputable def mkI (n : Nat) (f : Nat -> Nat -> Int) : List (List Int) := (List.range n).map fun k => (List.range n).map fun c => f k c
theorem mkI_len (n : Nat) (f : Nat -> Nat -> Int) : (mkI n f).length = n := by unfold mkI; rw [List.length_map, List.length_range]
theorem mkI_at {n : Nat} (f : Nat -> Nat -> Int) {i : Nat} (h : i < n) : (mkI n f)[i]? = some ((List.range n).map fun c => f i c) := by
 unfold mkI
 rw [List.getElem?_map, List.getElem?_range h]
 rfl
theorem nodup_mapI {f : Nat -> Int} {n : Nat} (h : ∀ i j, i < n -> j < n -> f i = f j -> i = j) : ((List.range n).map f).Nodup := by
 refine List.nodup_iff_pairwise_ne.mpr (List.pairwise_map.mpr ?_)
 refine List.Pairwise.imp_of_mem ?_ (List.nodup_iff_pairwise_ne.mp List.nodup_range)
 intro a b ha hb hne e
 exact hne (h a b (List.mem_range.mp ha) (List.mem_range.mp hb) e)
theorem mkI_ok {n : Nat} {f : Nat -> Nat -> Int} (hv : ∀ k c, k < n -> c < n -> 0 <= f k c /\ f k c < (n : Int)) (hr : ∀ k c d, k < n -> c < n -> d < n -> f k c = f k d -> c = d) (hcol : ∀ k l c, k < n -> l < n -> c < n -> f k c = f l c -> k = l) : OkRows n (mkI n f) := by
 refine ⟨by rw [mkI_len]; exact Nat.le_refl _, fun r hr' => ?_, fun c hc => ?_⟩
 ·obtain ⟨k, hk, rfl⟩ := List.mem_map.mp hr'
  have hk' := List.mem_range.mp hk
  refine ⟨by rw [List.length_map, List.length_range], nodup_mapI fun i j hi hj e => hr k i j hk' hi hj e, fun x hx => ?_⟩
  obtain ⟨c, hc, rfl⟩ := List.mem_map.mp hx
  exact hv k c hk' (List.mem_range.mp hc)
 ·have e : colL (mkI n f) c = (List.range n).map fun k => f k c := by
   unfold colL mkI
   rw [List.map_map]
   refine List.map_congr_left fun k _ => ?_
   show ((List.range n).map fun c => f k c).getD c 0 = f k c
   rw [List.getD_eq_getElem?_getD, List.getElem?_map, List.getElem?_range hc]
   rfl
  rw [e]
  exact nodup_mapI fun i j hi hj e => hcol i j c hi hj hc e
noncomputable def okF (n : Nat) (f : Nat -> Nat -> Int) : Bool := (List.range n).all fun k => (List.range n).all fun c => decide (0 <= f k c) && decide (f k c < (n : Int)) && (List.range n).all fun d => (!decide (f k c = f k d) || decide (c = d)) && (!decide (f c k = f d k) || decide (c = d))
theorem okF_ok {n : Nat} {f : Nat -> Nat -> Int} (h : okF n f = true) : OkRows n (mkI n f) := by
 unfold okF at h
 rw [List.all_eq_true] at h
 have g : ∀ k c, k < n -> c < n -> (0 <= f k c /\ f k c < (n : Int)) /\ ∀ d, d < n -> (f k c = f k d -> c = d) /\ (f c k = f d k -> c = d) := fun k c hk hc => by
  have h1 := h k (List.mem_range.mpr hk)
  rw [List.all_eq_true] at h1
  have h2 := h1 c (List.mem_range.mpr hc)
  rw [Bool.and_eq_true, Bool.and_eq_true, decide_eq_true_eq, decide_eq_true_eq, List.all_eq_true] at h2
  refine ⟨h2.1, fun d hd => ?_⟩
  have h3 := h2.2 d (List.mem_range.mpr hd)
  rw [Bool.and_eq_true, Bool.or_eq_true, Bool.or_eq_true, Bool.not_eq_true', Bool.not_eq_true', decide_eq_false_iff_not, decide_eq_false_iff_not, decide_eq_true_eq] at h3
  exact ⟨fun e => h3.1.elim (fun z => absurd e z) id, fun e => h3.2.elim (fun z => absurd e z) id⟩
 exact mkI_ok (fun k c hk hc => (g k c hk hc).1) (fun k c d hk hc hd e => ((g k c hk hc).2 d hd).1 e) (fun k l c hk hl hc e => ((g c k hc hk).2 l hl).2 e)
noncomputable def fX (i j : Nat) : Int := Builtin.bitXor (i : Int) (j : Int)
noncomputable def fS (i j : Nat) : Int := 2 * (((i : Int) / 2 + (j : Int) / 2) % 3) + ((i : Int) + (j : Int)) % 2
noncomputable def fC (n i j : Nat) : Int := ((i : Int) + (j : Int)) % (n : Int)
theorem ok_fX : OkRows 4 (mkI 4 fX) := okF_ok (by decide +kernel)
theorem ok_fS : OkRows 6 (mkI 6 fS) := okF_ok (by decide +kernel)
theorem ok_fC {n : Nat} (h : n <= 8) : OkRows n (mkI n (fC n)) := by
 refine okF_ok ?_
 have : ∀ n, n < 9 -> okF n (fC n) = true := by decide +kernel
 exact this n (by exact Om.f3 ‹_›)
theorem paired_in {α β : Type} {F G : α -> β -> Prop} : ∀ {as : List α} {bs : List β}, Paired F as bs -> (∀ a ∈ as, ∀ b, F a b -> G a b) -> Paired G as bs
 | _, _, .nil, _ => .nil
 | _, _, .cons h t, k => .cons (k _ List.mem_cons_self _ h) (paired_in t fun a ha b e => k a (List.mem_cons_of_mem _ ha) b e)
noncomputable def spBase : Sp := fun vs H Q _ => ∃ (n : Nat) (z : Int), vs = [.int (n : Int), .int z] /\ 1 <= n /\ n <= 8 /\ ∀ (l : Addr) (ps : List Addr) (R : List (List Int)) (H' : Hp), Same H H' -> H l = none -> (∀ p ∈ ps, H p = none) -> MG H' l ps R -> OkRows n R -> R.length = n -> Q (.ref l) H'
section
variable {P : Program} {w : World} {K : PySem.W.Frag} {mg : Str -> Option Value} {base : Heap}
theorem scBase : FnScope ["_law_n", "_law_number_here"] ["_law_n", "_law_number_here"] (defScope sBase) := ⟨rfl, rfl, rfl, by decide +kernel, rfl, by decide +kernel, by decide +kernel⟩
theorem ok_base {f : Addr} {fd : FuncData} (F : Fun K "_law_base" "_law_base" sBase f fd) (T : Blt mg) : FnOk P w K mg base CX0 1 f fd ["_law_n", "_law_number_here"] spBase := by
 refine F.ok scBase (fun vs H Q E h => ?_) (fun cdv A outer s H vs Q E hr h => ?_)
 ·obtain ⟨_, _, rfl, _⟩ := h
  rfl
 ·obtain ⟨n, z, rfl, h1, h8, q⟩ := h
  refine' ⟨_, pss_cons (ps_if (PW.pt (pw_and ?c0 (pw_and1 ?c1))) (pss_one (ps_ret ?r0)) pss_nil) (pss_cons (ps_if (PW.pt (pw_and ?d0 (pw_and1 ?d1))) (pss_one (ps_ret ?r1)) pss_nil) (pss_one (ps_ret ?r2))), ?rd⟩
  case c0 => exact pt_cmpR op_eq (pv 0) pe_int (nomark _)
  case c1 => exact pt_cmpR op_eq (pe_op op_mod (pv 1) pe_int) pe_int (nomark _)
  case d0 => exact pt_cmpR op_eq (pv 0) pe_int (nomark _)
  case d1 => exact pt_cmpR op_eq (pe_op op_mod (pv 1) pe_int) pe_int (nomark _)
  case r0 => exact pe_lcC "_law_i" ["_law_i"] [none] rfl rfl (pi_range1 rfl T.range (pa_cons pe_int pa_nil)) (fun _ _ _ _ _ => pg_own 0) (fun _ _ _ _ _ => pts_nil) (fun _ _ _ _ _ => pe_lc ["_law_j", "_law_i"] [none, some 0] rfl rfl (pi_range1 rfl T.range (pa_cons pe_int pa_nil)) (fun _ _ _ _ _ => pg_c 0) (fun _ _ _ _ _ => pts_nil) (fun _ _ _ _ _ => pe_op op_xor (pv 1) (pv 0)))
  case r1 => exact pe_lcC "_law_i" ["_law_i"] [none] rfl rfl (pi_range1 rfl T.range (pa_cons pe_int pa_nil)) (fun _ _ _ _ _ => pg_own 0) (fun _ _ _ _ _ => pts_nil) (fun _ _ _ _ _ => pe_lc ["_law_j", "_law_i"] [none, some 0] rfl rfl (pi_range1 rfl T.range (pa_cons pe_int pa_nil)) (fun _ _ _ _ _ => pg_c 0) (fun _ _ _ _ _ => pts_nil) (fun _ _ _ _ _ => pe_op op_add (pe_op op_mul pe_int (pe_op op_mod (pe_op op_add (pe_op op_fdiv (pv 1) pe_int) (pe_op op_fdiv (pv 0) pe_int)) pe_int)) (pe_op op_mod (pe_op op_add (pv 1) (pv 0)) pe_int)))
  case r2 => exact pe_lcC "_law_i" ["_law_i", "_law_n"] [none, some 0] rfl rfl (pi_range1 rfl T.range (pa_cons (pv 0) pa_nil)) (fun _ _ _ _ _ => pg_own 0) (fun _ _ _ _ _ => pts_nil) (fun _ _ _ _ _ => pe_lc ["_law_j", "_law_i", "_law_n"] [none, some 0, some 1] rfl rfl (pi_range1 rfl T.range (pa_cons (pv 1) pa_nil)) (fun _ _ _ _ _ => pg_c 0) (fun _ _ _ _ _ => pts_nil) (fun _ _ _ _ _ => pe_op op_mod (pe_op op_add (pv 1) (pv 0)) (pv 2)))
  case rd =>
   refine ⟨_, rfl, rfl, _, rfl, ?_⟩
   refine ite2 (fun hd => ?_) (fun hd => iteF ?_)
   ·have e4 : n = 4 := by
     have e := of_decide_eq_true hd
     injection e with e
     omega
    refine ⟨_, rfl, _, _, rfl, rfl, (by show (0 : Int) < 3; decide), rfl, _, rfl, ite2 (fun _ => ?_) (fun _ => ?_)⟩
    ·subst e4
     refine ⟨4, rfl, by decide, by decide, fun l hl => ?_⟩
     refine comp_of (wlk_range (n := 4)) (fun i ys σ H2 => ∃ (v : Option V) (qs : List Addr), σ = [v] /\ ys = qs.map V.ref /\ Same H H2 /\ H2 l = some (.lst ys) /\ Paired (fun p (r : List Int) => H2 p = some (.lst (r.map V.int))) qs ((mkI 4 fX).take i) /\ qs.Nodup /\ l ∉ qs /\ ∀ p ∈ qs, H p = none)
      ⟨none, [], rfl, rfl, Same.new hl, upd_same, .nil, List.nodup_nil, by simp, fun p hp => by cases hp⟩ (fun i ys σ H2 zz0 => by obtain ⟨_, _, _, _, _, h2, _⟩ := zz0; exact ⟨trivial, h2⟩) ?_ ?_
     ·rintro i x ys σ H2 hx ⟨v, qs, rfl, rfl, s2, h2, hQ, hnd, hap, hfr⟩
      obtain ⟨hi, rfl⟩ := rng_get hx
      refine ⟨4, rfl, by decide, by decide, fun l2 hl2 => ?_⟩
      skip
      refine comp_pure (fun j => some (.int (fX i j))) (fun σ => ∃ v, σ = [v, some (.int (i : Int))]) (wlk_range (n := 4)) (by rw [rng_len]; exact small6 (by decide)) hl2 (fun _ _ => trivial) ⟨none, rfl⟩ ?_ ?_
      ·rintro j y σ H3 R' hj ⟨v, rfl⟩ sm kk
       obtain ⟨hjn, rfl⟩ := rng_get hj
       have kk' := kk [some (.int (j : Int)), some (.int (i : Int))] H3 ⟨_, rfl⟩ (Same.refl _)
       exact ⟨_, rfl, _, rfl, _, _, rfl, rfl, kk'⟩
      ·intro H3 s3 h3
       rw [fm_some, rng_len] at h3
       have h23 := s3 _ _ h2
       have e3 : H3 l2 = some (.lst (((List.range 4).map fun c => fX i c).map V.int)) := by rw [h3, List.map_map]; rfl
       have hne : l2 ≠ l := fun z => by rw [z, h2] at hl2; cases hl2
       have hnq : l2 ∉ qs := fun z => by
        obtain ⟨k, hk, e⟩ := List.getElem_of_mem z
        obtain ⟨r, _, hp⟩ := Paired.getL hQ (List.getElem?_eq_getElem hk)
        rw [e, hl2] at hp
        cases hp
       have hql : qs.length = i := by rw [hQ.length, List.length_take, mkI_len]; exact Om.m1 ‹_›
       have hib : i < (mkI 4 fX).length := by rw [mkI_len]; exact hi
       have eb : (mkI 4 fX)[i] = (List.range 4).map fun c => fX i c := by
        have := mkI_at (n := 4) fX hi
        rw [List.getElem?_eq_getElem hib] at this
        exact Option.some.inj this
       have up : ∀ b, b ≠ l -> (upd H3 l (.lst (qs.map V.ref ++ [.ref l2]))) b = H3 b := fun b hb => upd_ne hb
       have ap : ∀ p ∈ qs, p ≠ l := fun p hp z => hap (z ▸ hp)
       refine ⟨h23, by rw [List.length_map, hql]; exact small1000 (by omega), _, qs ++ [l2], rfl, by rw [List.map_append]; rfl, fun b u e => ?_, upd_same, ?_, List.nodup_append.mpr ⟨hnd, by simp, fun a ha b hb e => hnq (by rw [<- List.mem_singleton.mp hb, <- e]; exact ha)⟩, ?_, ?_⟩
       ·rw [up _ (ne_of_none e hl)]
        exact s3 _ _ (s2 _ _ e)
       ·rw [take_succ' _ hib, eb]
        refine Paired.snoc ?_ (by rw [up _ hne]; exact e3)
        exact paired_in hQ fun p hp r e => by rw [up _ (ap p hp)]; exact s3 _ _ e
       ·intro z
        rcases List.mem_append.mp z with z | z
        ·exact hap z
        ·exact hne (List.mem_singleton.mp z).symm
       ·intro p hp
        rcases List.mem_append.mp hp with hp | hp
        ·exact hfr p hp
        ·rw [List.mem_singleton.mp hp]
         exact s2.free hl2
     ·rintro ys σ H2 ⟨v, qs, rfl, rfl, s2, h2, hQ, hnd, hap, hfr⟩
      rw [rng_len, List.take_of_length_le (by rw [mkI_len]; exact Nat.le_refl _)] at hQ
      exact q l qs _ H2 s2 hl hfr ⟨h2, hQ, hnd, hap⟩ (ok_fX) (mkI_len _ _)
    ·refine ⟨_, rfl, rfl, _, rfl, ?_⟩
     refine ite2 (fun hd2 => ?_) (fun hd2 => iteF ?_)
     ·have e := of_decide_eq_true hd2
      injection e with e
      omega
     refine ⟨_, rfl, (n : Int), rfl, by exact Om.c2, by exact Om.c1 ‹_› rfl, fun l hl => ?_⟩
     rw [Int.toNat_natCast]
     refine comp_of (wlk_range (n := n)) (fun i ys σ H2 => ∃ (v : Option V) (qs : List Addr), σ = [v, some (.int (n : Int))] /\ ys = qs.map V.ref /\ Same H H2 /\ H2 l = some (.lst ys) /\ Paired (fun p (r : List Int) => H2 p = some (.lst (r.map V.int))) qs ((mkI n (fC n)).take i) /\ qs.Nodup /\ l ∉ qs /\ ∀ p ∈ qs, H p = none)
      ⟨none, [], rfl, rfl, Same.new hl, upd_same, .nil, List.nodup_nil, by simp, fun p hp => by cases hp⟩ (fun i ys σ H2 zz0 => by obtain ⟨_, _, _, _, _, h2, _⟩ := zz0; exact ⟨trivial, h2⟩) ?_ ?_
     ·rintro i x ys σ H2 hx ⟨v, qs, rfl, rfl, s2, h2, hQ, hnd, hap, hfr⟩
      obtain ⟨hi, rfl⟩ := rng_get hx
      refine ⟨_, rfl, (n : Int), rfl, by exact Om.c2, by exact Om.c1 ‹_› rfl, fun l2 hl2 => ?_⟩
      rw [Int.toNat_natCast]
      refine comp_pure (fun j => some (.int ((fC n) i j))) (fun σ => ∃ v, σ = [v, some (.int (i : Int)), some (.int (n : Int))]) (wlk_range (n := n)) (by rw [rng_len]; exact small6 (by exact Om.b1 ‹_› rfl)) hl2 (fun _ _ => trivial) ⟨none, rfl⟩ ?_ ?_
      ·rintro j y σ H3 R' hj ⟨v, rfl⟩ sm kk
       obtain ⟨hjn, rfl⟩ := rng_get hj
       have kk' := kk [some (.int (j : Int)), some (.int (i : Int)), some (.int (n : Int))] H3 ⟨_, rfl⟩ (Same.refl _)
       exact ⟨_, rfl, _, rfl, _, _, rfl, rfl, _, rfl, _, _, rfl, rfl, (by show (0 : Int) < (n : Int); exact Om.c3 ‹_›), kk'⟩
      ·intro H3 s3 h3
       rw [fm_some, rng_len] at h3
       have h23 := s3 _ _ h2
       have e3 : H3 l2 = some (.lst (((List.range n).map fun c => (fC n) i c).map V.int)) := by rw [h3, List.map_map]; rfl
       have hne : l2 ≠ l := fun z => by rw [z, h2] at hl2; cases hl2
       have hnq : l2 ∉ qs := fun z => by
        obtain ⟨k, hk, e⟩ := List.getElem_of_mem z
        obtain ⟨r, _, hp⟩ := Paired.getL hQ (List.getElem?_eq_getElem hk)
        rw [e, hl2] at hp
        cases hp
       have hql : qs.length = i := by rw [hQ.length, List.length_take, mkI_len]; exact Om.m1 ‹_›
       have hib : i < (mkI n (fC n)).length := by rw [mkI_len]; exact hi
       have eb : (mkI n (fC n))[i] = (List.range n).map fun c => (fC n) i c := by
        have := mkI_at (n := n) (fC n) hi
        rw [List.getElem?_eq_getElem hib] at this
        exact Option.some.inj this
       have up : ∀ b, b ≠ l -> (upd H3 l (.lst (qs.map V.ref ++ [.ref l2]))) b = H3 b := fun b hb => upd_ne hb
       have ap : ∀ p ∈ qs, p ≠ l := fun p hp z => hap (z ▸ hp)
       refine ⟨h23, by rw [List.length_map, hql]; exact small1000 (by omega), _, qs ++ [l2], rfl, by rw [List.map_append]; rfl, fun b u e => ?_, upd_same, ?_, List.nodup_append.mpr ⟨hnd, by simp, fun a ha b hb e => hnq (by rw [<- List.mem_singleton.mp hb, <- e]; exact ha)⟩, ?_, ?_⟩
       ·rw [up _ (ne_of_none e hl)]
        exact s3 _ _ (s2 _ _ e)
       ·rw [take_succ' _ hib, eb]
        refine Paired.snoc ?_ (by rw [up _ hne]; exact e3)
        exact paired_in hQ fun p hp r e => by rw [up _ (ap p hp)]; exact s3 _ _ e
       ·intro z
        rcases List.mem_append.mp z with z | z
        ·exact hap z
        ·exact hne (List.mem_singleton.mp z).symm
       ·intro p hp
        rcases List.mem_append.mp hp with hp | hp
        ·exact hfr p hp
        ·rw [List.mem_singleton.mp hp]
         exact s2.free hl2
     ·rintro ys σ H2 ⟨v, qs, rfl, rfl, s2, h2, hQ, hnd, hap, hfr⟩
      rw [rng_len, List.take_of_length_le (by rw [mkI_len]; exact Nat.le_refl _)] at hQ
      exact q l qs _ H2 s2 hl hfr ⟨h2, hQ, hnd, hap⟩ (ok_fC h8) (mkI_len _ _)
   ·refine ⟨_, rfl, rfl, _, rfl, ?_⟩
    refine ite2 (fun hd2 => ?_) (fun hd2 => iteF ?_)
    ·have e6 : n = 6 := by
      have e := of_decide_eq_true hd2
      injection e with e
      omega
     refine ⟨_, rfl, _, _, rfl, rfl, (by show (0 : Int) < 3; decide), rfl, _, rfl, ite2 (fun _ => ?_) (fun _ => ?_)⟩
     ·subst e6
      refine ⟨6, rfl, by decide, by decide, fun l hl => ?_⟩
      refine comp_of (wlk_range (n := 6)) (fun i ys σ H2 => ∃ (v : Option V) (qs : List Addr), σ = [v] /\ ys = qs.map V.ref /\ Same H H2 /\ H2 l = some (.lst ys) /\ Paired (fun p (r : List Int) => H2 p = some (.lst (r.map V.int))) qs ((mkI 6 fS).take i) /\ qs.Nodup /\ l ∉ qs /\ ∀ p ∈ qs, H p = none)
       ⟨none, [], rfl, rfl, Same.new hl, upd_same, .nil, List.nodup_nil, by simp, fun p hp => by cases hp⟩ (fun i ys σ H2 zz0 => by obtain ⟨_, _, _, _, _, h2, _⟩ := zz0; exact ⟨trivial, h2⟩) ?_ ?_
      ·rintro i x ys σ H2 hx ⟨v, qs, rfl, rfl, s2, h2, hQ, hnd, hap, hfr⟩
       obtain ⟨hi, rfl⟩ := rng_get hx
       refine ⟨6, rfl, by decide, by decide, fun l2 hl2 => ?_⟩
       skip
       refine comp_pure (fun j => some (.int (fS i j))) (fun σ => ∃ v, σ = [v, some (.int (i : Int))]) (wlk_range (n := 6)) (by rw [rng_len]; exact small6 (by decide)) hl2 (fun _ _ => trivial) ⟨none, rfl⟩ ?_ ?_
       ·rintro j y σ H3 R' hj ⟨v, rfl⟩ sm kk
        obtain ⟨hjn, rfl⟩ := rng_get hj
        have kk' := kk [some (.int (j : Int)), some (.int (i : Int))] H3 ⟨_, rfl⟩ (Same.refl _)
        exact ⟨_, rfl, _, _, rfl, rfl, ⟨by decide, by decide⟩, _, rfl, _, _, rfl, rfl, ⟨by decide, by decide⟩, _, _, rfl, rfl, _, _, rfl, rfl, (by show (0 : Int) < 3; decide), _, _, rfl, rfl, .inl ⟨by decide, by decide⟩, _, rfl, _, rfl, _, _, rfl, rfl, _, _, rfl, rfl, (by show (0 : Int) < 2; decide), _, _, rfl, rfl, kk'⟩
       ·intro H3 s3 h3
        rw [fm_some, rng_len] at h3
        have h23 := s3 _ _ h2
        have e3 : H3 l2 = some (.lst (((List.range 6).map fun c => fS i c).map V.int)) := by rw [h3, List.map_map]; rfl
        have hne : l2 ≠ l := fun z => by rw [z, h2] at hl2; cases hl2
        have hnq : l2 ∉ qs := fun z => by
         obtain ⟨k, hk, e⟩ := List.getElem_of_mem z
         obtain ⟨r, _, hp⟩ := Paired.getL hQ (List.getElem?_eq_getElem hk)
         rw [e, hl2] at hp
         cases hp
        have hql : qs.length = i := by rw [hQ.length, List.length_take, mkI_len]; exact Om.m1 ‹_›
        have hib : i < (mkI 6 fS).length := by rw [mkI_len]; exact hi
        have eb : (mkI 6 fS)[i] = (List.range 6).map fun c => fS i c := by
         have := mkI_at (n := 6) fS hi
         rw [List.getElem?_eq_getElem hib] at this
         exact Option.some.inj this
        have up : ∀ b, b ≠ l -> (upd H3 l (.lst (qs.map V.ref ++ [.ref l2]))) b = H3 b := fun b hb => upd_ne hb
        have ap : ∀ p ∈ qs, p ≠ l := fun p hp z => hap (z ▸ hp)
        refine ⟨h23, by rw [List.length_map, hql]; exact small1000 (by omega), _, qs ++ [l2], rfl, by rw [List.map_append]; rfl, fun b u e => ?_, upd_same, ?_, List.nodup_append.mpr ⟨hnd, by simp, fun a ha b hb e => hnq (by rw [<- List.mem_singleton.mp hb, <- e]; exact ha)⟩, ?_, ?_⟩
        ·rw [up _ (ne_of_none e hl)]
         exact s3 _ _ (s2 _ _ e)
        ·rw [take_succ' _ hib, eb]
         refine Paired.snoc ?_ (by rw [up _ hne]; exact e3)
         exact paired_in hQ fun p hp r e => by rw [up _ (ap p hp)]; exact s3 _ _ e
        ·intro z
         rcases List.mem_append.mp z with z | z
         ·exact hap z
         ·exact hne (List.mem_singleton.mp z).symm
        ·intro p hp
         rcases List.mem_append.mp hp with hp | hp
         ·exact hfr p hp
         ·rw [List.mem_singleton.mp hp]
          exact s2.free hl2
      ·rintro ys σ H2 ⟨v, qs, rfl, rfl, s2, h2, hQ, hnd, hap, hfr⟩
       rw [rng_len, List.take_of_length_le (by rw [mkI_len]; exact Nat.le_refl _)] at hQ
       exact q l qs _ H2 s2 hl hfr ⟨h2, hQ, hnd, hap⟩ (ok_fS) (mkI_len _ _)
     ·refine ⟨_, rfl, (n : Int), rfl, by exact Om.c2, by exact Om.c1 ‹_› rfl, fun l hl => ?_⟩
      rw [Int.toNat_natCast]
      refine comp_of (wlk_range (n := n)) (fun i ys σ H2 => ∃ (v : Option V) (qs : List Addr), σ = [v, some (.int (n : Int))] /\ ys = qs.map V.ref /\ Same H H2 /\ H2 l = some (.lst ys) /\ Paired (fun p (r : List Int) => H2 p = some (.lst (r.map V.int))) qs ((mkI n (fC n)).take i) /\ qs.Nodup /\ l ∉ qs /\ ∀ p ∈ qs, H p = none)
       ⟨none, [], rfl, rfl, Same.new hl, upd_same, .nil, List.nodup_nil, by simp, fun p hp => by cases hp⟩ (fun i ys σ H2 zz0 => by obtain ⟨_, _, _, _, _, h2, _⟩ := zz0; exact ⟨trivial, h2⟩) ?_ ?_
      ·rintro i x ys σ H2 hx ⟨v, qs, rfl, rfl, s2, h2, hQ, hnd, hap, hfr⟩
       obtain ⟨hi, rfl⟩ := rng_get hx
       refine ⟨_, rfl, (n : Int), rfl, by exact Om.c2, by exact Om.c1 ‹_› rfl, fun l2 hl2 => ?_⟩
       rw [Int.toNat_natCast]
       refine comp_pure (fun j => some (.int ((fC n) i j))) (fun σ => ∃ v, σ = [v, some (.int (i : Int)), some (.int (n : Int))]) (wlk_range (n := n)) (by rw [rng_len]; exact small6 (by exact Om.b1 ‹_› rfl)) hl2 (fun _ _ => trivial) ⟨none, rfl⟩ ?_ ?_
       ·rintro j y σ H3 R' hj ⟨v, rfl⟩ sm kk
        obtain ⟨hjn, rfl⟩ := rng_get hj
        have kk' := kk [some (.int (j : Int)), some (.int (i : Int)), some (.int (n : Int))] H3 ⟨_, rfl⟩ (Same.refl _)
        exact ⟨_, rfl, _, rfl, _, _, rfl, rfl, _, rfl, _, _, rfl, rfl, (by show (0 : Int) < (n : Int); exact Om.c3 ‹_›), kk'⟩
       ·intro H3 s3 h3
        rw [fm_some, rng_len] at h3
        have h23 := s3 _ _ h2
        have e3 : H3 l2 = some (.lst (((List.range n).map fun c => (fC n) i c).map V.int)) := by rw [h3, List.map_map]; rfl
        have hne : l2 ≠ l := fun z => by rw [z, h2] at hl2; cases hl2
        have hnq : l2 ∉ qs := fun z => by
         obtain ⟨k, hk, e⟩ := List.getElem_of_mem z
         obtain ⟨r, _, hp⟩ := Paired.getL hQ (List.getElem?_eq_getElem hk)
         rw [e, hl2] at hp
         cases hp
        have hql : qs.length = i := by rw [hQ.length, List.length_take, mkI_len]; exact Om.m1 ‹_›
        have hib : i < (mkI n (fC n)).length := by rw [mkI_len]; exact hi
        have eb : (mkI n (fC n))[i] = (List.range n).map fun c => (fC n) i c := by
         have := mkI_at (n := n) (fC n) hi
         rw [List.getElem?_eq_getElem hib] at this
         exact Option.some.inj this
        have up : ∀ b, b ≠ l -> (upd H3 l (.lst (qs.map V.ref ++ [.ref l2]))) b = H3 b := fun b hb => upd_ne hb
        have ap : ∀ p ∈ qs, p ≠ l := fun p hp z => hap (z ▸ hp)
        refine ⟨h23, by rw [List.length_map, hql]; exact small1000 (by omega), _, qs ++ [l2], rfl, by rw [List.map_append]; rfl, fun b u e => ?_, upd_same, ?_, List.nodup_append.mpr ⟨hnd, by simp, fun a ha b hb e => hnq (by rw [<- List.mem_singleton.mp hb, <- e]; exact ha)⟩, ?_, ?_⟩
        ·rw [up _ (ne_of_none e hl)]
         exact s3 _ _ (s2 _ _ e)
        ·rw [take_succ' _ hib, eb]
         refine Paired.snoc ?_ (by rw [up _ hne]; exact e3)
         exact paired_in hQ fun p hp r e => by rw [up _ (ap p hp)]; exact s3 _ _ e
        ·intro z
         rcases List.mem_append.mp z with z | z
         ·exact hap z
         ·exact hne (List.mem_singleton.mp z).symm
        ·intro p hp
         rcases List.mem_append.mp hp with hp | hp
         ·exact hfr p hp
         ·rw [List.mem_singleton.mp hp]
          exact s2.free hl2
      ·rintro ys σ H2 ⟨v, qs, rfl, rfl, s2, h2, hQ, hnd, hap, hfr⟩
       rw [rng_len, List.take_of_length_le (by rw [mkI_len]; exact Nat.le_refl _)] at hQ
       exact q l qs _ H2 s2 hl hfr ⟨h2, hQ, hnd, hap⟩ (ok_fC h8) (mkI_len _ _)
    ·refine ⟨_, rfl, (n : Int), rfl, by exact Om.c2, by exact Om.c1 ‹_› rfl, fun l hl => ?_⟩
     rw [Int.toNat_natCast]
     refine comp_of (wlk_range (n := n)) (fun i ys σ H2 => ∃ (v : Option V) (qs : List Addr), σ = [v, some (.int (n : Int))] /\ ys = qs.map V.ref /\ Same H H2 /\ H2 l = some (.lst ys) /\ Paired (fun p (r : List Int) => H2 p = some (.lst (r.map V.int))) qs ((mkI n (fC n)).take i) /\ qs.Nodup /\ l ∉ qs /\ ∀ p ∈ qs, H p = none)
      ⟨none, [], rfl, rfl, Same.new hl, upd_same, .nil, List.nodup_nil, by simp, fun p hp => by cases hp⟩ (fun i ys σ H2 zz0 => by obtain ⟨_, _, _, _, _, h2, _⟩ := zz0; exact ⟨trivial, h2⟩) ?_ ?_
     ·rintro i x ys σ H2 hx ⟨v, qs, rfl, rfl, s2, h2, hQ, hnd, hap, hfr⟩
      obtain ⟨hi, rfl⟩ := rng_get hx
      refine ⟨_, rfl, (n : Int), rfl, by exact Om.c2, by exact Om.c1 ‹_› rfl, fun l2 hl2 => ?_⟩
      rw [Int.toNat_natCast]
      refine comp_pure (fun j => some (.int ((fC n) i j))) (fun σ => ∃ v, σ = [v, some (.int (i : Int)), some (.int (n : Int))]) (wlk_range (n := n)) (by rw [rng_len]; exact small6 (by exact Om.b1 ‹_› rfl)) hl2 (fun _ _ => trivial) ⟨none, rfl⟩ ?_ ?_
      ·rintro j y σ H3 R' hj ⟨v, rfl⟩ sm kk
       obtain ⟨hjn, rfl⟩ := rng_get hj
       have kk' := kk [some (.int (j : Int)), some (.int (i : Int)), some (.int (n : Int))] H3 ⟨_, rfl⟩ (Same.refl _)
       exact ⟨_, rfl, _, rfl, _, _, rfl, rfl, _, rfl, _, _, rfl, rfl, (by show (0 : Int) < (n : Int); exact Om.c3 ‹_›), kk'⟩
      ·intro H3 s3 h3
       rw [fm_some, rng_len] at h3
       have h23 := s3 _ _ h2
       have e3 : H3 l2 = some (.lst (((List.range n).map fun c => (fC n) i c).map V.int)) := by rw [h3, List.map_map]; rfl
       have hne : l2 ≠ l := fun z => by rw [z, h2] at hl2; cases hl2
       have hnq : l2 ∉ qs := fun z => by
        obtain ⟨k, hk, e⟩ := List.getElem_of_mem z
        obtain ⟨r, _, hp⟩ := Paired.getL hQ (List.getElem?_eq_getElem hk)
        rw [e, hl2] at hp
        cases hp
       have hql : qs.length = i := by rw [hQ.length, List.length_take, mkI_len]; exact Om.m1 ‹_›
       have hib : i < (mkI n (fC n)).length := by rw [mkI_len]; exact hi
       have eb : (mkI n (fC n))[i] = (List.range n).map fun c => (fC n) i c := by
        have := mkI_at (n := n) (fC n) hi
        rw [List.getElem?_eq_getElem hib] at this
        exact Option.some.inj this
       have up : ∀ b, b ≠ l -> (upd H3 l (.lst (qs.map V.ref ++ [.ref l2]))) b = H3 b := fun b hb => upd_ne hb
       have ap : ∀ p ∈ qs, p ≠ l := fun p hp z => hap (z ▸ hp)
       refine ⟨h23, by rw [List.length_map, hql]; exact small1000 (by omega), _, qs ++ [l2], rfl, by rw [List.map_append]; rfl, fun b u e => ?_, upd_same, ?_, List.nodup_append.mpr ⟨hnd, by simp, fun a ha b hb e => hnq (by rw [<- List.mem_singleton.mp hb, <- e]; exact ha)⟩, ?_, ?_⟩
       ·rw [up _ (ne_of_none e hl)]
        exact s3 _ _ (s2 _ _ e)
       ·rw [take_succ' _ hib, eb]
        refine Paired.snoc ?_ (by rw [up _ hne]; exact e3)
        exact paired_in hQ fun p hp r e => by rw [up _ (ap p hp)]; exact s3 _ _ e
       ·intro z
        rcases List.mem_append.mp z with z | z
        ·exact hap z
        ·exact hne (List.mem_singleton.mp z).symm
       ·intro p hp
        rcases List.mem_append.mp hp with hp | hp
        ·exact hfr p hp
        ·rw [List.mem_singleton.mp hp]
         exact s2.free hl2
     ·rintro ys σ H2 ⟨v, qs, rfl, rfl, s2, h2, hQ, hnd, hap, hfr⟩
      rw [rng_len, List.take_of_length_le (by rw [mkI_len]; exact Nat.le_refl _)] at hQ
      exact q l qs _ H2 s2 hl hfr ⟨h2, hQ, hnd, hap⟩ (ok_fC h8) (mkI_len _ _)
end
end My
namespace My
open PySem L2
structure Row (n : Nat) (r : List Int) : Prop where
 len : r.length = n
 nd : r.Nodup
 rg : ∀ x ∈ r, 0 <= x /\ x < (n : Int)
theorem OkRows.rowAt {n : Nat} {R : List (List Int)} (ok : OkRows n R) {k : Nat} (hk : k < R.length) : Row n (R.getD k []) := by
 have : R.getD k [] = R[k] := by simp [List.getD_eq_getElem?_getD, List.getElem?_eq_getElem hk]
 rw [this]
 obtain ⟨h1, h2, h3⟩ := ok.row _ (List.getElem_mem hk)
 exact ⟨h1, h2, h3⟩
theorem Row.inj {n : Nat} {r : List Int} (t : Row n r) {i j : Nat} (hi : i < n) (hj : j < n) (e : r.getD i 0 = r.getD j 0) : i = j := by
 have hi' : i < r.length := by rw [t.len]; exact hi
 have hj' : j < r.length := by rw [t.len]; exact hj
 rw [getD_of hi', getD_of hj'] at e
 by_cases h : i = j
 ·exact h
 ·have p := List.pairwise_iff_getElem.mp (List.nodup_iff_pairwise_ne.mp t.nd)
  rcases Nat.lt_or_gt_of_ne h with z | z
  ·exact absurd e (p i j hi' hj' z)
  ·exact absurd e.symm (p j i hj' hi' z)
theorem Row.has {n : Nat} {r : List Int} (t : Row n r) {x : Int} (h : 0 <= x /\ x < (n : Int)) : r.idxOf x < n /\ r.getD (r.idxOf x) 0 = x := by
 have hm : x ∈ r := row_has t.len t.nd t.rg h
 have h1 := List.idxOf_lt_length_of_mem hm
 refine ⟨by rw [<- t.len]; exact h1, ?_⟩
 rw [getD_of h1]
 exact List.getElem_idxOf h1
theorem Row.val {n : Nat} {r : List Int} (t : Row n r) {i : Nat} (h : i < n) : 0 <= r.getD i 0 /\ r.getD i 0 < (n : Int) := by
 have hi : i < r.length := by rw [t.len]; exact h
 rw [getD_of hi]
 exact t.rg _ (List.getElem_mem hi)
noncomputable def stp (a b : List Int) (c : Nat) : Nat := a.idxOf (b.getD c 0)
theorem stp_one {n : Nat} {a b : List Int} (ha : Row n a) (hb : Row n b) : One n (stp a b) := by
 refine ⟨fun c hc => (ha.has (hb.val hc)).1, fun c d hc hd e => ?_⟩
 have h1 := (ha.has (hb.val hc)).2
 have h2 := (ha.has (hb.val hd)).2
 unfold stp at e
 rw [e, h2] at h1
 exact (hb.inj hd hc h1).symm
noncomputable def toI (l : List Nat) : List Int := l.map fun (c : Nat) => (c : Int)
theorem toI_app (l : List Nat) (x : Nat) : toI (l ++ [x]) = toI l ++ [(x : Int)] := by unfold toI; rw [List.map_append]; rfl
noncomputable def ent (R : List (List Int)) (k c : Nat) : Int := (R.getD k []).getD c 0
noncomputable def mk (n : Nat) (f : Nat -> Nat -> Int) : List (List Int) := (List.range n).map fun k => (List.range n).map fun c => f k c
theorem mk_ent {n : Nat} {f : Nat -> Nat -> Int} {k c : Nat} (hk : k < n) (hc : c < n) : ent (mk n f) k c = f k c := by
 unfold ent mk
 simp [List.getD_eq_getElem?_getD, List.getElem?_map, List.getElem?_range hk, List.getElem?_range hc]
theorem nodup_map {α : Type} {f : Nat -> α} {n : Nat} (h : ∀ i j, i < n -> j < n -> f i = f j -> i = j) : ((List.range n).map f).Nodup := by
 refine List.nodup_iff_pairwise_ne.mpr (List.pairwise_map.mpr ?_)
 refine List.Pairwise.imp_of_mem ?_ (List.nodup_iff_pairwise_ne.mp List.nodup_range)
 intro a b ha hb hne e
 exact hne (h a b (List.mem_range.mp ha) (List.mem_range.mp hb) e)
theorem mk_ok {n : Nat} {f : Nat -> Nat -> Int} (hv : ∀ k c, k < n -> c < n -> 0 <= f k c /\ f k c < (n : Int)) (hr : ∀ k c d, k < n -> c < n -> d < n -> f k c = f k d -> c = d) (hcol : ∀ k l c, k < n -> l < n -> c < n -> f k c = f l c -> k = l) : OkRows n (mk n f) /\ (mk n f).length = n := by
 have hl : (mk n f).length = n := by unfold mk; rw [List.length_map, List.length_range]
 refine ⟨⟨Nat.le_of_eq hl, fun r h => ?_, fun c hc => ?_⟩, hl⟩
 ·obtain ⟨k, hk, rfl⟩ := List.mem_map.mp h
  have hk' := List.mem_range.mp hk
  refine ⟨by rw [List.length_map, List.length_range], nodup_map fun i j hi hj e => hr k i j hk' hi hj e, fun x hx => ?_⟩
  obtain ⟨c, hc, rfl⟩ := List.mem_map.mp hx
  exact hv k c hk' (List.mem_range.mp hc)
 ·have e : colL (mk n f) c = (List.range n).map fun k => f k c := by
   unfold colL mk
   rw [List.map_map]
   refine List.map_congr_left fun k hk => ?_
   show ((List.range n).map fun c => f k c).getD c 0 = f k c
   simp [List.getD_eq_getElem?_getD, List.getElem?_map, List.getElem?_range hc]
  rw [e]
  exact nodup_map fun i j hi hj e => hcol i j c hi hj hc e
theorem ent_row {n : Nat} {R : List (List Int)} (ok : OkRows n R) (hl : R.length = n) {k : Nat} (hk : k < n) : Row n (R.getD k []) := ok.rowAt (by exact Om.a1 ‹_› ‹_›)
theorem ent_col {n : Nat} {R : List (List Int)} (ok : OkRows n R) (hl : R.length = n) {k l c : Nat} (hk : k < n) (hl' : l < n) (hc : c < n) (e : ent R k c = ent R l c) : k = l := by
 have nd := ok.col c hc
 have k1 : k < (colL R c).length := by unfold colL; rw [List.length_map]; exact Om.a1 ‹_› ‹_›
 have k2 : l < (colL R c).length := by unfold colL; rw [List.length_map]; exact Om.a1 ‹_› ‹_›
 by_cases h : k = l
 ·exact h
 ·have p := List.pairwise_iff_getElem.mp (List.nodup_iff_pairwise_ne.mp nd)
  have e1 : (colL R c)[k] = ent R k c := by simp [colL, ent, List.getD_eq_getElem?_getD, List.getElem?_eq_getElem (show k < R.length by exact Om.a1 ‹_› ‹_›)]
  have e2 : (colL R c)[l] = ent R l c := by simp [colL, ent, List.getD_eq_getElem?_getD, List.getElem?_eq_getElem (show l < R.length by exact Om.a1 ‹_› ‹_›)]
  rcases Nat.lt_or_gt_of_ne h with z | z
  ·exact absurd (e1.trans (e.trans e2.symm)) (p k l k1 k2 z)
  ·exact absurd (e2.trans (e.symm.trans e1.symm)) (p l k k2 k1 z)
theorem mk_of {n : Nat} {R : List (List Int)} (ok : OkRows n R) (hl : R.length = n) : mk n (ent R) = R := by
 refine List.ext_getElem (by unfold mk; rw [List.length_map, List.length_range, hl]) fun k h1 h2 => ?_
 have hk : k < n := by exact Om.a2 ‹_› ‹_›
 have e : (mk n (ent R))[k] = (List.range n).map fun c => ent R k c := by simp [mk]
 rw [e]
 have hr := (ok.row _ (List.getElem_mem h2)).1
 refine List.ext_getElem (by rw [List.length_map, List.length_range, hr]) fun c h3 h4 => ?_
 simp [ent, List.getD_eq_getElem?_getD, List.getElem?_eq_getElem h2, List.getElem?_eq_getElem h4]
noncomputable def other (o1 o2 : Nat) (S : List Nat) (k c : Nat) : Nat := if c ∈ S /\ (k = o1 \/ k = o2) then o1 + o2 - k else k
noncomputable def exSq (n : Nat) (R : List (List Int)) (o1 o2 : Nat) (S : List Nat) : List (List Int) := mk n fun k c => ent R (other o1 o2 S k c) c
theorem other_lt {n o1 o2 : Nat} {S : List Nat} (h1 : o1 < n) (h2 : o2 < n) {k c : Nat} (hk : k < n) : other o1 o2 S k c < n := by
 unfold other
 split
 ·next h => rcases h.2 with e | e <;> omega
 ·exact hk
theorem other_inj {o1 o2 : Nat} {S : List Nat} {k l c : Nat} (e : other o1 o2 S k c = other o1 o2 S l c) : k = l := by
 unfold other at e
 split at e <;> split at e
 ·next h h' => rcases h.2 with a | a <;> rcases h'.2 with b | b <;> omega
 ·next h h' =>
  exact absurd ⟨h.1, by rcases h.2 with a | a <;> omega⟩ h'
 ·next h h' =>
  exact absurd ⟨h'.1, by rcases h'.2 with a | a <;> omega⟩ h
 ·exact e
theorem other_one {o1 o2 : Nat} {S : List Nat} (c : Nat) : other o1 o2 S o1 c = if c ∈ S then o2 else o1 := by
 unfold other
 by_cases h : c ∈ S
 ·rw [if_pos ⟨h, .inl rfl⟩, if_pos h]; omega
 ·rw [if_neg (fun z => h z.1), if_neg h]
theorem other_two {o1 o2 : Nat} {S : List Nat} (c : Nat) : other o1 o2 S o2 c = if c ∈ S then o1 else o2 := by
 unfold other
 by_cases h : c ∈ S
 ·rw [if_pos ⟨h, .inr rfl⟩, if_pos h]; omega
 ·rw [if_neg (fun z => h z.1), if_neg h]
theorem other_else {o1 o2 : Nat} {S : List Nat} {k : Nat} (h1 : k ≠ o1) (h2 : k ≠ o2) (c : Nat) : other o1 o2 S k c = k := by
 unfold other
 rw [if_neg (fun z => z.2.elim h1 h2)]
theorem stp_ent {n : Nat} {a b : List Int} (ha : Row n a) (hb : Row n b) {c : Nat} (hc : c < n) : a.getD (stp a b c) 0 = b.getD c 0 := (ha.has (hb.val hc)).2
theorem ex_ok {n : Nat} {R : List (List Int)} (ok : OkRows n R) (hl : R.length = n) {o1 o2 c0 : Nat} (h1 : o1 < n) (h2 : o2 < n) (hc0 : c0 < n) :
  OkRows n (exSq n R o1 o2 (ringL (stp (R.getD o1 []) (R.getD o2 [])) n c0)) /\ (exSq n R o1 o2 (ringL (stp (R.getD o1 []) (R.getD o2 [])) n c0)).length = n := by
 have ra := ent_row ok hl h1
 have rb := ent_row ok hl h2
 have so := stp_one ra rb
 have cl := fun {x} hx => ring_closed (x := x) so hc0 hx
 have hse : ∀ c, c < n -> ent R o1 (stp (R.getD o1 []) (R.getD o2 []) c) = ent R o2 c := fun c hc => stp_ent ra rb hc
 generalize stp (R.getD o1 []) (R.getD o2 []) = s at so cl hse
 have hlt : ∀ x ∈ ringL s n c0, x < n := (ring_ok so hc0).1.lt so
 generalize ringL s n c0 = S at cl hlt
 have x1 : ∀ c d, c ∈ S -> d ∉ S -> d < n -> ent R o2 c ≠ ent R o1 d := fun c d hc hd hdn e => by
  have := hse c (hlt c hc)
  have e2 : stp (R.getD o1 []) (R.getD o2 []) c = stp (R.getD o1 []) (R.getD o2 []) c := rfl
  have e3 := ra.inj (so.lt c (hlt c hc)) hdn (this.trans e)
  exact hd (e3 ▸ (cl hc).1)
 have x2 : ∀ c d, c ∈ S -> d ∉ S -> d < n -> ent R o1 c ≠ ent R o2 d := fun c d hc hd hdn e => by
  have h3 := hse d hdn
  have e3 := ra.inj (hlt c hc) (so.lt d hdn) (e.trans h3.symm)
  obtain ⟨y, hy, e4⟩ := (cl hc).2
  have := so.inj y d (hlt y hy) hdn (e4.trans e3)
  exact hd (this ▸ hy)
 refine mk_ok (fun k c hk hc => (ent_row ok hl (other_lt h1 h2 hk)).val hc) (fun k c d hk hc hd e => ?_) fun k l c hk hl' hc e => other_inj (ent_col ok hl (other_lt h1 h2 hk) (other_lt h1 h2 hl') hc e)
 by_cases k1 : k = o1
 ·subst k1
  rw [other_one, other_one] at e
  by_cases hcS : c ∈ S <;> by_cases hdS : d ∈ S
  ·rw [if_pos hcS, if_pos hdS] at e; exact rb.inj hc hd e
  ·rw [if_pos hcS, if_neg hdS] at e; exact absurd e (x1 c d hcS hdS hd)
  ·rw [if_neg hcS, if_pos hdS] at e; exact absurd e.symm (x1 d c hdS hcS hc)
  ·rw [if_neg hcS, if_neg hdS] at e; exact ra.inj hc hd e
 ·by_cases k2 : k = o2
  ·subst k2
   rw [other_two, other_two] at e
   by_cases hcS : c ∈ S <;> by_cases hdS : d ∈ S
   ·rw [if_pos hcS, if_pos hdS] at e; exact ra.inj hc hd e
   ·rw [if_pos hcS, if_neg hdS] at e; exact absurd e (x2 c d hcS hdS hd)
   ·rw [if_neg hcS, if_pos hdS] at e; exact absurd e.symm (x2 d c hdS hcS hc)
   ·rw [if_neg hcS, if_neg hdS] at e; exact rb.inj hc hd e
  ·rw [other_else k1 k2, other_else k1 k2] at e
   exact (ent_row ok hl hk).inj hc hd e
theorem ixN_of {n i : Nat} (h : i < n) : ixN n (i : Int) = some i := by
 unfold ixN
 rw [if_pos (by exact Om.c6), if_pos (by exact Om.c5 ‹_›), Int.toNat_natCast]
noncomputable def takenL (n : Nat) (x y : List Int) (S : List Nat) : List Int := (List.range n).map fun c => if c ∈ S then y.getD c 0 else x.getD c 0
theorem row_is {n : Nat} {R : List (List Int)} (ok : OkRows n R) (hl : R.length = n) {k : Nat} (hk : k < n) : R[k]? = some ((List.range n).map fun c => ent R k c) := by
 have e : (mk n (ent R))[k]? = R[k]? := by rw [mk_of ok hl]
 rw [<- e]
 unfold mk
 rw [List.getElem?_map, List.getElem?_range hk]
 rfl
theorem ex_set {n : Nat} {R : List (List Int)} (ok : OkRows n R) (hl : R.length = n) {o1 o2 : Nat} (h1 : o1 < n) (h2 : o2 < n) (S : List Nat) :
  (R.set o1 (takenL n (R.getD o1 []) (R.getD o2 []) S)).set o2 (takenL n (R.getD o2 []) (R.getD o1 []) S) = exSq n R o1 o2 S := by
 refine List.ext_getElem? fun k => ?_
 by_cases hk : k < n
 ·have er : (exSq n R o1 o2 S)[k]? = some ((List.range n).map fun c => ent R (other o1 o2 S k c) c) := by
   unfold exSq mk
   rw [List.getElem?_map, List.getElem?_range hk]
   rfl
  rw [er, List.getElem?_set, List.getElem?_set]
  by_cases e2 : o2 = k
  ·subst e2
   rw [if_pos rfl, List.length_set, if_pos (by exact Om.a1 ‹_› ‹_›)]
   unfold takenL
   congr 1
   refine List.map_congr_left fun c _ => ?_
   rw [other_two]
   by_cases hc : c ∈ S
   ·rw [if_pos hc, if_pos hc]; rfl
   ·rw [if_neg hc, if_neg hc]; rfl
  ·rw [if_neg e2]
   by_cases e1 : o1 = k
   ·subst e1
    rw [if_pos rfl, if_pos (by exact Om.a1 ‹_› ‹_›)]
    unfold takenL
    congr 1
    refine List.map_congr_left fun c _ => ?_
    rw [other_one]
    by_cases hc : c ∈ S
    ·rw [if_pos hc, if_pos hc]; rfl
    ·rw [if_neg hc, if_neg hc]; rfl
   ·rw [if_neg e1, row_is ok hl hk]
    congr 1
    refine List.map_congr_left fun c _ => ?_
    rw [other_else (fun z => e1 z.symm) (fun z => e2 z.symm)]
 ·rw [List.getElem?_eq_none (by rw [List.length_set, List.length_set]; omega), List.getElem?_eq_none (by unfold exSq mk; rw [List.length_map, List.length_range]; omega)]
end My
namespace My
open PySem L2
theorem taken_nil {n : Nat} {x y : List Int} (h : x.length = n) : takenL n x y [] = x := by
 unfold takenL
 refine List.ext_getElem (by rw [List.length_map, List.length_range, h]) fun i h1 h2 => ?_
 rw [List.getElem_map, List.getElem_range, if_neg (by simp), getD_of h2]
theorem taken_set {n : Nat} {x y : List Int} {S : List Nat} {c : Nat} (hc : c < n) : (takenL n x y S).set c (y.getD c 0) = takenL n x y (S ++ [c]) := by
 unfold takenL
 refine List.ext_getElem (by rw [List.length_set, List.length_map, List.length_map]) fun i h1 h2 => ?_
 rw [List.getElem_set, List.getElem_map, List.getElem_range, List.getElem_map, List.getElem_range]
 by_cases e : c = i
 ·subst e
  rw [if_pos rfl, if_pos (by simp)]
 ·rw [if_neg e]
  by_cases h : i ∈ S
  ·rw [if_pos h, if_pos (List.mem_append_left _ h)]
  ·rw [if_neg h, if_neg (by
    intro z
    rcases List.mem_append.mp z with z | z
    ·exact h z
    ·exact e (List.mem_singleton.mp z).symm)]
theorem taken_len (n : Nat) (x y : List Int) (S : List Nat) : (takenL n x y S).length = n := by unfold takenL; rw [List.length_map, List.length_range]
noncomputable def spAlong : Sp := fun vs H Q _ => ∃ (a : Addr) (ps : List Addr) (n o1 o2 c : Nat) (R : List (List Int)), vs = [.ref a, .int (o1 : Int), .int (o2 : Int), .int (c : Int)] /\ MG H a ps R /\ OkRows n R /\ R.length = n /\ n <= 8 /\ o1 < n /\ o2 < n /\ o1 ≠ o2 /\ c < n /\
 ∀ H', (∀ b o, b ∉ ps -> H b = some o -> H' b = some o) -> MG H' a ps (exSq n R o1 o2 (ringL (stp (R.getD o1 []) (R.getD o2 [])) n c)) -> Q (.ref a) H'
noncomputable def rowsTo (n : Nat) (R : List (List Int)) (o1 o2 : Nat) (S : List Nat) : List (List Int) := (R.set o1 (takenL n (R.getD o1 []) (R.getD o2 []) S)).set o2 (takenL n (R.getD o2 []) (R.getD o1 []) S)
noncomputable def WAl (H : Hp) (a : Addr) (ps : List Addr) (n o1 o2 c0 : Nat) (R : List (List Int)) (l1 l2 : Addr) (m : Nat) (σ : St) (H2 : Hp) : Prop :=
 ∃ (acc : List Nat) (c : Nat) (v7 : Option V), σ = [some (.ref a), some (.int (o1 : Int)), some (.int (o2 : Int)), some (.int (c : Int)), some (.ref l1), some (.ref l2), some (.int ((R.getD o1 []).getD c0 0)), v7] /\
  (∀ b o, b ∉ ps -> H b = some o -> H2 b = some o) /\ H2 l1 = some (.lst ((R.getD o1 []).map V.int)) /\ H2 l2 = some (.lst ((R.getD o2 []).map V.int)) /\ MG H2 a ps (rowsTo n R o1 o2 acc) /\
  Path n (stp (R.getD o1 []) (R.getD o2 [])) c0 (acc ++ [c]) /\ ringF (stp (R.getD o1 []) (R.getD o2 [])) c0 (n - acc.length) (acc ++ [c]) = ringL (stp (R.getD o1 []) (R.getD o2 [])) n c0 /\ m = n - acc.length
theorem paired_setH {H H' : Hp} {q : Addr} {row : List Int} : ∀ {ps : List Addr} {R : List (List Int)} {i : Nat}, Paired (fun p (r : List Int) => H p = some (.lst (r.map V.int))) ps R -> ps.Nodup -> ps[i]? = some q -> (∀ b, b ≠ q -> H' b = H b) -> H' q = some (.lst (row.map V.int)) -> Paired (fun p (r : List Int) => H' p = some (.lst (r.map V.int))) ps (R.set i row)
 | _, _, _, .nil, _, h, _, _ => by cases h
 | p :: ps, r :: R, 0, .cons h t, nd, hi, ho, hq => by
  rw [List.getElem?_cons_zero] at hi
  cases hi
  rw [List.nodup_cons] at nd
  exact .cons hq (paired_in t fun x hx y e => by rw [ho x (fun z => nd.1 (z ▸ hx))]; exact e)
 | p :: ps, r :: R, i + 1, .cons h t, nd, hi, ho, hq => by
  rw [List.getElem?_cons_succ] at hi
  rw [List.nodup_cons] at nd
  have hne : p ≠ q := fun z => nd.1 (z ▸ List.mem_of_getElem? hi)
  exact .cons (by rw [ho p hne]; exact h) (paired_setH t nd.2 hi ho hq)
section
variable {P : Program} {w : World} {K : PySem.W.Frag} {mg : Str -> Option Value} {base : Heap}
theorem scAlong : FnScope ["_law_rows", "_law_one", "_law_other", "_law_column", "_law_first", "_law_second", "_law_start", "_law_thing"] ["_law_rows", "_law_one", "_law_other", "_law_column"] (defScope sAlong) := ⟨rfl, rfl, rfl, by decide +kernel, rfl, by decide +kernel, by decide +kernel⟩
theorem ok_along {f : Addr} {fd : FuncData} (F : Fun K "_law_along" "_law_along" sAlong f fd) (T : Blt mg) : FnOk P w K mg base CX0 1 f fd ["_law_rows", "_law_one", "_law_other", "_law_column"] spAlong := by
 refine F.ok scAlong (fun vs H Q E h => ?_) (fun cdv A outer s H vs Q E hr h => ?_)
 ·obtain ⟨_, _, _, _, _, _, _, rfl, _⟩ := h
  rfl
 ·obtain ⟨a, ps, n, o1, o2, c0, R, rfl, hM, ok, hRl, h8, h1, h2, hne, hc0, q⟩ := h
  refine' ⟨_, pss_cons ?s0 (pss_cons ?s1 (pss_cons ?s2 (pss_one (ps_while PassesOwn.never (pt_val pe_bl) (pss_cons ?b0 (pss_cons ?b1 (pss_cons ?b2 (pss_cons ?b3 (pss_one ?b4))))))))), ?rd⟩
  case s0 => exact ps_set (i := 4) scAlong.nd rfl (Or.inl rfl) (pe_callTy (call_listK K) rfl T.list bt_list (pa_cons (pe_ix ix_list (pv 0) (pv 1) (fun _ _ => rfl)) pa_nil))
  case s1 => exact ps_set (i := 5) scAlong.nd rfl (Or.inl rfl) (pe_callTy (call_listK K) rfl T.list bt_list (pa_cons (pe_ix ix_list (pv 0) (pv 2) (fun _ _ => rfl)) pa_nil))
  case s2 => exact ps_set (i := 6) scAlong.nd rfl (Or.inl rfl) (pe_ix ix_list (pv 4) (pv 3) (fun _ _ => rfl))
  case b0 => exact ps_set (i := 7) scAlong.nd rfl (Or.inl rfl) (pe_ix ix_list (pv 5) (pv 3) (fun _ _ => rfl))
  case b1 => exact ps_asg (pv 7) (pg_sub (pe_ix ix_list (pv 0) (pv 1) (fun _ _ => rfl)) (pv 3) set_list)
  case b2 => exact ps_asg (pe_ix ix_list (pv 4) (pv 3) (fun _ _ => rfl)) (pg_sub (pe_ix ix_list (pv 0) (pv 2) (fun _ _ => rfl)) (pv 3) set_list)
  case b3 => exact ps_if (pt_cmpR op_eq (pv 7) (pv 6) (nomark _)) (pss_one (ps_ret (pv 0))) pss_nil
  case b4 => exact ps_set (i := 3) scAlong.nd rfl (Or.inl rfl) (pe_bm PySem.F.plainAttrs_list PySem.F.slot_list_index PySem.F.type_list_index mt_lindex (pv 4) (pa_cons (pv 7) pa_nil))
  case rd =>
   have ra : Row n (R.getD o1 []) := ok.rowAt (by exact Om.a1 ‹_› ‹_›)
   have rb : Row n (R.getD o2 []) := ok.rowAt (by exact Om.a1 ‹_› ‹_›)
   have so := stp_one ra rb
   have exS := ex_set ok hRl h1 h2
   have rl1 : R[o1]? = some (R.getD o1 []) := by rw [List.getD_eq_getElem?_getD, List.getElem?_eq_getElem (by exact Om.a1 ‹_› ‹_›)]; rfl
   have rl2 : R[o2]? = some (R.getD o2 []) := by rw [List.getD_eq_getElem?_getD, List.getElem?_eq_getElem (by exact Om.a1 ‹_› ‹_›)]; rfl
   obtain ⟨p1, hp1, hr1⟩ := Paired.getR hM.rows rl1
   obtain ⟨p2, hp2, hr2⟩ := Paired.getR hM.rows rl2
   have hat1 : atI (ps.map V.ref) (o1 : Int) = some (.ref p1) := atI_of (by rw [List.getElem?_map, hp1]; rfl)
   have hat2 : atI (ps.map V.ref) (o2 : Int) = some (.ref p2) := atI_of (by rw [List.getElem?_map, hp2]; rfl)
   have m1 : p1 ∈ ps := List.mem_of_getElem? hp1
   have m2 : p2 ∈ ps := List.mem_of_getElem? hp2
   have hpne : p1 ≠ p2 := fun e => by
    have hi1 : o1 < ps.length := (List.getElem?_eq_some_iff.mp hp1).1
    have hi2 : o2 < ps.length := (List.getElem?_eq_some_iff.mp hp2).1
    have e1 : ps[o1] = ps[o2] := by
     rw [List.getElem?_eq_getElem hi1] at hp1
     rw [List.getElem?_eq_getElem hi2] at hp2
     rw [Option.some.inj hp1, Option.some.inj hp2, e]
    exact hne ((List.getElem_inj hM.nd).mp e1)
   have hrow0 : rowsTo n R o1 o2 [] = R := by
    unfold rowsTo
    rw [taken_nil ra.len, taken_nil rb.len]
    have e1 : R.set o1 (R.getD o1 []) = R := by
     refine List.ext_getElem? fun i => ?_
     rw [List.getElem?_set]
     by_cases e : o1 = i
     ·subst e
      rw [if_pos rfl, if_pos (by exact Om.a1 ‹_› ‹_›), rl1]
     ·rw [if_neg e]
    rw [e1]
    refine List.ext_getElem? fun i => ?_
    rw [List.getElem?_set]
    by_cases e : o2 = i
    ·subst e
     rw [if_pos rfl, if_pos (by exact Om.a1 ‹_› ‹_›), rl2]
    ·rw [if_neg e]
   generalize hA : R.getD o1 [] = A0 at ra so rl1 hr1 q exS
   generalize hB : R.getD o2 [] = B0 at rb so rl2 hr2 q exS
   refine ⟨_, rfl, _, rfl, a, _, _, _, rfl, rfl, SqL.of hM.out, hat1, p1, _, rfl, .inl (SqL.of hr1), fun l1 hl1 => ?_⟩
   have s1 : Same H (upd H l1 (.lst (A0.map V.int))) := Same.new hl1
   refine ⟨_, rfl, _, rfl, a, _, _, _, rfl, rfl, SqL.of (s1 _ _ hM.out), hat2, p2, _, rfl, .inl (SqL.of (s1 _ _ hr2)), fun l2 hl2 => ?_⟩
   have s2 : Same (upd H l1 (.lst (A0.map V.int))) (upd (upd H l1 (.lst (A0.map V.int))) l2 (.lst (B0.map V.int))) := Same.new hl2
   have sH := s1.trans s2
   have hl1' : (upd (upd H l1 (.lst (A0.map V.int))) l2 (.lst (B0.map V.int))) l1 = some (.lst (A0.map V.int)) := s2 _ _ upd_same
   have hl2' : (upd (upd H l1 (.lst (A0.map V.int))) l2 (.lst (B0.map V.int))) l2 = some (.lst (B0.map V.int)) := upd_same
   have psn : ∀ b ∈ ps, ∃ r : List Int, H b = some (.lst (r.map V.int)) := fun b hb => by
    obtain ⟨i, hi, e⟩ := List.getElem_of_mem hb
    obtain ⟨r, _, hr'⟩ := Paired.getL hM.rows (List.getElem?_eq_getElem hi)
    exact ⟨r, by rw [<- e]; exact hr'⟩
   have nl1 : l1 ∉ ps := fun z => by obtain ⟨r, e⟩ := psn _ z; rw [hl1] at e; cases e
   have nl2 : l2 ∉ ps := fun z => by obtain ⟨r, e⟩ := psn _ z; rw [s1.free hl2] at e; cases e
   generalize upd (upd H l1 (.lst (A0.map V.int))) l2 (.lst (B0.map V.int)) = Hs at sH hl1' hl2' ⊢
   refine ⟨_, rfl, _, rfl, l1, _, _, _, rfl, rfl, SqL.of hl1', int_at (by rw [ra.len]; exact hc0), ?_⟩
   refine ⟨WAl H a ps n o1 o2 c0 R l1 l2, ⟨_, [], c0, none, by rw [hA]; rfl, fun b o _ e => sH _ _ e, by rw [hA]; exact hl1', by rw [hB]; exact hl2', ⟨sH _ _ hM.out, ?_, hM.nd, hM.ap⟩, .one hc0, rfl, rfl⟩, ?_⟩
   ·rw [hrow0]
    exact Paired.mapP hM.rows fun _ _ e => sH _ _ e
   rintro m σ H2 ⟨acc, c, v7, rfl, keep, k1, k2, M2, pa, hrf, rfl⟩
   rw [hA, hB] at pa hrf
   rw [hA] at k1
   rw [hB] at k2
   rw [hA]
   have hcn : c < n := pa.lt so _ (by simp)
   have hal : acc.length < n := by
    have := nat_len pa.nodup (pa.lt so)
    rw [List.length_append, List.length_singleton] at this
    exact Om.f5 ‹_›
   refine ⟨true, rfl, iteT ⟨fun σ' H' => ∃ m', m' < n - acc.length /\ WAl H a ps n o1 o2 c0 R l1 l2 m' σ' H', fun _ _ z => z, ?_⟩⟩
   have eR : rowsTo n R o1 o2 acc = (R.set o1 (takenL n A0 B0 acc)).set o2 (takenL n B0 A0 acc) := by unfold rowsTo; rw [hA, hB]
   have g1 : (rowsTo n R o1 o2 acc)[o1]? = some (takenL n A0 B0 acc) := by
    rw [eR, List.getElem?_set, if_neg (Ne.symm hne), List.getElem?_set, if_pos rfl, if_pos (by exact Om.a1 ‹_› ‹_›)]
   obtain ⟨p1', hp1', hq1⟩ := Paired.getR M2.rows g1
   rw [hp1] at hp1'
   cases hp1'
   refine ⟨_, rfl, _, rfl, l2, _, _, _, rfl, rfl, SqL.of k2, int_at (by rw [rb.len]; exact hcn), ?_⟩
   refine ⟨_, rfl, _, rfl, _, rfl, a, _, _, _, rfl, rfl, SqL.of M2.out, hat1, _, rfl, p1, _, _, c, rfl, rfl, hq1, ixN_of (by rw [List.length_map, taken_len]; exact hcn), ?_⟩
   have c3 : (upd H2 p1 (.lst (((takenL n A0 B0 acc).map V.int).set c (.int (B0.getD c 0))))) p1 = some (.lst ((takenL n A0 B0 (acc ++ [c])).map V.int)) := by rw [upd_same, <- taken_set hcn, List.map_set]
   have o3 : ∀ b, b ≠ p1 -> (upd H2 p1 (.lst (((takenL n A0 B0 acc).map V.int).set c (.int (B0.getD c 0))))) b = H2 b := fun b hb => upd_ne hb
   generalize upd H2 p1 (.lst (((takenL n A0 B0 acc).map V.int).set c (.int (B0.getD c 0)))) = H3 at c3 o3 ⊢
   have na1 : a ≠ p1 := fun z => hM.ap (z ▸ m1)
   have na2 : a ≠ p2 := fun z => hM.ap (z ▸ m2)
   have P3 := paired_setH (H' := H3) (row := takenL n A0 B0 (acc ++ [c])) M2.rows hM.nd hp1 o3 c3
   have g2 : ((rowsTo n R o1 o2 acc).set o1 (takenL n A0 B0 (acc ++ [c])))[o2]? = some (takenL n B0 A0 acc) := by
    rw [List.getElem?_set, if_neg hne, eR, List.getElem?_set, if_pos rfl, if_pos (by rw [List.length_set]; exact Om.a1 ‹_› ‹_›)]
   obtain ⟨p2', hp2', hq2⟩ := Paired.getR P3 g2
   rw [hp2] at hp2'
   cases hp2'
   have nn1 : l1 ≠ p1 := fun z => nl1 (z ▸ m1)
   have nn2 : l1 ≠ p2 := fun z => nl1 (z ▸ m2)
   have nm1 : l2 ≠ p1 := fun z => nl2 (z ▸ m1)
   have nm2 : l2 ≠ p2 := fun z => nl2 (z ▸ m2)
   refine ⟨_, rfl, _, rfl, l1, _, _, _, rfl, rfl, SqL.of ((o3 _ nn1).trans k1), int_at (by rw [ra.len]; exact hcn), _, rfl, _, rfl, a, _, _, _, rfl, rfl, SqL.of ((o3 _ na1).trans M2.out), hat2, _, rfl, p2, _, _, c, rfl, rfl, hq2, ixN_of (by rw [List.length_map, taken_len]; exact hcn), ?_⟩
   have c4 : (upd H3 p2 (.lst (((takenL n B0 A0 acc).map V.int).set c (.int (A0.getD c 0))))) p2 = some (.lst ((takenL n B0 A0 (acc ++ [c])).map V.int)) := by rw [upd_same, <- taken_set hcn, List.map_set]
   have o4 : ∀ b, b ≠ p2 -> (upd H3 p2 (.lst (((takenL n B0 A0 acc).map V.int).set c (.int (A0.getD c 0))))) b = H3 b := fun b hb => upd_ne hb
   generalize upd H3 p2 (.lst (((takenL n B0 A0 acc).map V.int).set c (.int (A0.getD c 0)))) = H4 at c4 o4 ⊢
   have P4 := paired_setH (H' := H4) (row := takenL n B0 A0 (acc ++ [c])) P3 hM.nd hp2 o4 c4
   have eS : ((rowsTo n R o1 o2 acc).set o1 (takenL n A0 B0 (acc ++ [c]))).set o2 (takenL n B0 A0 (acc ++ [c])) = (R.set o1 (takenL n A0 B0 (acc ++ [c]))).set o2 (takenL n B0 A0 (acc ++ [c])) := by
    rw [eR, List.set_comm _ _ (Ne.symm hne), List.set_set, List.set_set]
   rw [eS] at P4
   have k14 : H4 l1 = some (.lst (A0.map V.int)) := (o4 _ nn2).trans ((o3 _ nn1).trans k1)
   have k24 : H4 l2 = some (.lst (B0.map V.int)) := (o4 _ nm2).trans ((o3 _ nm1).trans k2)
   have out4 : H4 a = some (.lst (ps.map V.ref)) := (o4 _ na2).trans ((o3 _ na1).trans M2.out)
   have keep4 : ∀ b o, b ∉ ps -> H b = some o -> H4 b = some o := fun b o hb e => (o4 b (fun z => hb (by rw [z]; exact m2))).trans ((o3 b (fun z => hb (by rw [z]; exact m1))).trans (keep b o hb e))
   refine ⟨_, rfl, _, rfl, rfl, _, rfl, ?_⟩
   have hlast : lastN (acc ++ [c]) = c := lastN_app _ _
   have estp : stp A0 B0 c = A0.idxOf (B0.getD c 0) := rfl
   have hst := stp_ent ra rb hcn
   refine ite2 (fun hd => ?_) (fun hd => ?_)
   ·have e := of_decide_eq_true hd
    injection e with e
    have e' : stp A0 B0 (lastN (acc ++ [c])) = c0 := by
     rw [hlast]
     exact ra.inj (so.lt _ hcn) hc0 (hst.trans e)
    have ringe : acc ++ [c] = ringL (stp A0 B0) n c0 := by
     rw [show n - acc.length = (n - acc.length - 1) + 1 by omega, ringF, if_pos e'] at hrf
     exact hrf
    refine ⟨_, rfl, q H4 keep4 ⟨out4, ?_, hM.nd, hM.ap⟩⟩
    rw [<- ringe, <- exS]
    exact P4
   ·have e' : stp A0 B0 (lastN (acc ++ [c])) ≠ c0 := fun z => hd (by
     rw [hlast] at z
     rw [z] at hst
     rw [hst]
     exact decide_eq_true rfl)
    obtain ⟨p', hlt⟩ := pa.next so e'
    rw [hlast] at p' e'
    rw [show n - acc.length = (n - acc.length - 1) + 1 by omega, ringF, if_neg (by rw [hlast]; exact e'), hlast] at hrf
    refine ⟨_, rfl, .inl ⟨rfl, _, SqL.of k14⟩, _, rfl, l1, A0, _, rfl, rfl, k14, row_has ra.len ra.nd ra.rg (rb.val hcn), ?_⟩
    refine ⟨n - (acc ++ [c]).length, by rw [List.length_append, List.length_singleton]; omega, acc ++ [c], stp A0 B0 c, _, by rw [hA]; rfl, keep4, by rw [hA]; exact k14, by rw [hB]; exact k24, ⟨out4, ?_, hM.nd, hM.ap⟩, by rw [hA, hB]; exact p', ?_, rfl⟩
    ·unfold rowsTo
     rw [hA, hB]
     exact P4
    ·rw [hA, hB, List.length_append, List.length_singleton, show n - (acc.length + 1) = n - acc.length - 1 by omega]
     exact hrf
end
end My
namespace My
open PySem L2
noncomputable def LLs (H : Hp) (a : Addr) (L : List (List Int)) : Prop := ∃ ps : List Addr, H a = some (.lst (ps.map V.ref)) /\ Paired (fun p l => H p = some (.lst (l.map V.int))) ps L
theorem LLs.same {c : Addr} {H H1 : Hp} {L : List (List Int)} (g : LLs H c L) (x : Same H H1) : LLs H1 c L :=
 let ⟨ps, h, r⟩ := g
 ⟨ps, x _ _ h, Paired.mapP r fun _ _ z => x _ _ z⟩
theorem inV_ints (t : Int) : ∀ xs : List Int, inV (.int t) (xs.map V.int) = decide (t ∈ xs)
 | [] => rfl
 | x :: xs => by
  have ih := inV_ints t xs
  unfold inV at ih ⊢
  rw [List.map_cons, List.any_cons, ih]
  show ((x == t) || _) = _
  rw [Bool.eq_iff_iff]
  simp only [Bool.or_eq_true, beq_iff_eq, decide_eq_true_eq, List.mem_cons]
  exact ⟨fun h => h.elim (fun e => .inl e.symm) .inr, fun h => h.elim (fun e => .inl e.symm) .inr⟩
theorem col_of {R : List (List Int)} {c : Nat} : ((List.range R.length).map fun i => V.int ((R.getD i []).getD c 0)) = (colL R c).map V.int := by
 unfold colL
 refine List.ext_getElem? fun i => ?_
 rw [List.map_map, List.getElem?_map, List.getElem?_map]
 by_cases h : i < R.length
 ·rw [List.getElem?_range h, List.getElem?_eq_getElem h]
  simp [List.getD_eq_getElem?_getD, List.getElem?_eq_getElem h]
 ·rw [List.getElem?_eq_none (by simpa using h), List.getElem?_eq_none (by simpa using h)]
  rfl
theorem ints_refs {r : List Int} {ps : List Addr} (h : r ≠ []) : r.map V.int ≠ ps.map V.ref := by
 cases r with
 | nil => exact absurd rfl h
 | cons x r => cases ps <;> intro e <;> cases e
theorem LLs.push {a t : Addr} {H : Hp} {R : List (List Int)} {r : List Int} {ps : List Addr} (h : H a = some (.lst (ps.map V.ref))) (hp : Paired (fun p (r : List Int) => H p = some (.lst (r.map V.int))) ps R) (hR : ∀ r ∈ R, r ≠ []) (hr : r ≠ []) (ht : H t = some (.lst (r.map V.int))) : LLs (upd H a (.lst (ps.map V.ref ++ [.ref t]))) a (R ++ [r]) := by
 have ne : ∀ (b : Addr) (x : List Int), x ≠ [] -> H b = some (.lst (x.map V.int)) -> b ≠ a := fun b x hx e c => by
  rw [c, h] at e
  injection e with e
  injection e with e
  exact ints_refs hx e.symm
 refine ⟨ps ++ [t], by rw [upd_same, List.map_append]; rfl, Paired.snoc ?_ ?_⟩
 ·have go : ∀ (qs : List Addr) (S : List (List Int)), Paired (fun p (r : List Int) => H p = some (.lst (r.map V.int))) qs S -> (∀ r ∈ S, r ≠ []) -> Paired (fun p (r : List Int) => upd H a (.lst (ps.map V.ref ++ [.ref t])) p = some (.lst (r.map V.int))) qs S := by
   intro qs S x
   induction x with
   | nil => intro _; exact .nil
   | cons e _ ih =>
    intro hS
    refine .cons ?_ (ih fun r hr => hS r (List.mem_cons_of_mem _ hr))
    rw [upd_ne (ne _ _ (hS _ List.mem_cons_self) e)]
    exact e
  exact go _ _ hp hR
 ·rw [upd_ne (ne _ _ hr ht)]
  exact ht
theorem range_getD (l : List Int) : (List.range l.length).map (fun j => l.getD j 0) = l := by
 refine List.ext_getElem (by rw [List.length_map, List.length_range]) fun i h1 h2 => ?_
 rw [List.getElem_map, List.getElem_range, getD_of h2]
theorem fm_filter (p : Int -> Bool) : ∀ l : List Int, l.filterMap (fun x => if p x = true then some (V.int x) else none) = (l.filter p).map V.int
 | [] => rfl
 | x :: l => by
  rw [List.filterMap_cons, List.filter_cons, fm_filter p l]
  cases h : p x with
  | true => rw [if_pos rfl, if_pos rfl, List.map_cons]
  | false => rw [if_neg Bool.false_ne_true, if_neg Bool.false_ne_true]
theorem fm_range (p : Int -> Bool) (l : List Int) : (List.range l.length).filterMap (fun j => if p (l.getD j 0) = true then some (V.int (l.getD j 0)) else none) = (l.filter p).map V.int := by
 rw [<- fm_filter p l]
 conv => rhs; rw [<- range_getD l]
 rw [List.filterMap_map]
 rfl
theorem fm_rngI (p : Int -> Bool) (n : Nat) : (List.range n).filterMap (fun j : Nat => if p (j : Int) = true then some (V.int (j : Int)) else none) = ((rngI n).filter p).map V.int := by
 rw [<- fm_filter p (rngI n)]
 unfold rngI
 rw [List.filterMap_map]
 rfl
theorem next_two (n : Nat) (A : List (List Int)) (row : List Int) : ((rngI n).filter fun t => decide (t ∉ row)).filter (fun t => decide (t ∉ colL A row.length)) = nextT n A row := by
 unfold nextT
 rw [List.filter_filter]
 congr 1
 funext t
 rw [Bool.and_comm]
noncomputable def spRow (k : Nat) : Sp := fun vs H Q _ => ∃ (aA ar at_ : Addr) (n : Nat) (A : List (List Int)) (row ts : List Int), vs = [.ref aA, .ref ar, .ref at_] /\ LLs H aA A /\ (∀ o ∈ A, o.length = n) /\ A.length <= 8 /\ H ar = some (.lst (row.map V.int)) /\ PRow n A row /\ n <= 8 /\
 H at_ = some (.lst (ts.map V.int)) /\ ts.length = n /\ n - row.length < k /\
 (∀ (p : Addr) (H' : Hp) (r : List Int), Same H H' -> H' p = some (.lst (r.map V.int)) -> OkRow n A r -> row <+: r -> Q (.ref p) H') /\ (∀ H', Same H H' -> (∀ r, OkRow n A r -> row <+: r -> False) -> Q .non H')
section
variable {P : Program} {w : World} {K : PySem.W.Frag} {mg : Str -> Option Value} {base : Heap}
theorem scRow : FnScope ["_law_rows", "_law_made", "_law_digits", "_law_column", "_law_pool", "_law_turn_here", "_law_thing", "_law_found"] ["_law_rows", "_law_made", "_law_digits"] (defScope sRow) := ⟨rfl, rfl, rfl, by decide +kernel, rfl, by decide +kernel, by decide +kernel⟩
theorem ok_row {f : Addr} {fd : FuncData} (D : Dfn K mg "_law_row" sRow ["_law_rows", "_law_made", "_law_digits"] f fd) (T : Blt mg) : ∀ k : Nat, FnOk P w K mg base CX0 k f fd ["_law_rows", "_law_made", "_law_digits"] (spRow k)
 | 0 => ⟨fun vs H Q E h => by obtain ⟨_, _, _, _, _, _, _, rfl, _⟩ := h; rfl, fun A outer s H args us vs Q E _ _ _ _ h => by obtain ⟨_, _, _, _, _, _, _, rfl, _, _, _, _, _, _, _, _, z, _⟩ := h; exact absurd z (Nat.not_lt_zero _)⟩
 | k + 1 => by
  have G := ok_row D T k
  refine D.F.ok scRow (fun vs H Q E h => ?_) (fun cdv A0 outer s H vs Q E hr h => ?_)
  ·obtain ⟨_, _, _, _, _, _, _, rfl, _⟩ := h
   rfl
  ·obtain ⟨aA, ar, at_, n, A, row, ts, rfl, hA, hAn, hA8, hrow, pr, h8, hts, htl, hk, q1, q2⟩ := h
   refine' ⟨_, pss_cons ?s0 (pss_cons ?s1 (pss_cons ?s2 (pss_cons ?s3 (pss_cons ?s4 (pss_cons (ps_for PassesOwn.never rfl ?i (pg_name (i := 6) scRow.nd rfl (Or.inl rfl)) (pss_cons ?b0 (pss_one ?b1))) (pss_one (ps_ret pe_non))))))), ?rd⟩
   case s0 => exact ps_set (i := 3) scRow.nd rfl (Or.inr rfl) (pe_callB (call_lenK K) rfl T.len PySem.boot_len (pa_cons (pv 1) pa_nil))
   case s1 => exact ps_if (pt_cmpR op_eq (pv 3) (pe_callB (call_lenK K) rfl T.len PySem.boot_len (pa_cons (pv 2) pa_nil)) (nomark _)) (pss_one (ps_ret (pv 1))) pss_nil
   case s2 => exact ps_lc (i := 4) ["_law_thing", "_law_made"] [none, some 1] scRow.nd rfl (Or.inl rfl) rfl rfl (pi_range1 rfl T.range (pa_cons (pe_callB (call_lenK K) rfl T.len PySem.boot_len (pa_cons (pv 2) pa_nil)) pa_nil)) (fun _ _ _ _ _ => pg_c 0) (fun _ _ _ _ _ => pts_one (pt_cmpR (op_notInK K) (pv 0) (pv 1) rfl)) (fun _ _ _ _ _ => pv 0)
   case s3 => exact ps_lc (i := 4) ["_law_thing", "_law_rows", "_law_column"] [none, some 0, some 3] scRow.nd rfl (Or.inl rfl) rfl rfl (pi_listK K (pv 4)) (fun _ _ _ _ _ => pg_c 0) (fun _ _ _ _ _ => pts_one (pt_cmpR (op_notInK K) (pv 0) (pe_lc ["_law_row_here", "_law_column"] [none, some 2] rfl rfl (pi_listK K (pv 1)) (fun _ _ _ _ _ => pg_c 0) (fun _ _ _ _ _ => pts_nil) (fun _ _ _ _ _ => pe_ix (ix_listK K) (pv 0) (pv 1) (fun _ _ => rfl))) rfl)) (fun _ _ _ _ _ => pv 0)
   case s4 => exact ps_set (i := 5) scRow.nd rfl (Or.inl rfl) (pe_op op_mod (pe_ix ix_list (pv 2) (pv 3) (fun _ _ => rfl)) (pe_callB (call_max2 rfl) rfl T.max PyProof.Rows.boot_max (pa_cons pe_int (pa_cons (pe_callB (call_lenK K) rfl T.len PySem.boot_len (pa_cons (pv 4) pa_nil)) pa_nil))))
   case i => exact pi_list (pe_op op_cat (pe_slice sl_list (pv 4) (po_some (pv 5)) po_none) (pe_slice sl_list (pv 4) po_none (po_some (pv 5))))
   case b0 => exact ps_set (i := 7) scRow.nd rfl (Or.inl rfl) (pe_call G hr rfl D.m D.F.kp D.b .nil pass0 (pa_cons (pv 0) (pa_cons (pe_op op_cat (pv 1) (pe_lst (pa_cons (pv 6) pa_nil))) (pa_cons (pv 2) pa_nil))))
   case b1 => exact ps_if (pt_cmp (pc_notN (pv 7))) (pss_one (ps_ret (pv 7))) pss_nil
   case rd =>
    have hrl : (row.map V.int).length = row.length := List.length_map _
    have htl' : (ts.map V.int).length = n := by rw [List.length_map, htl]
    refine ⟨_, rfl, ar, _, rfl, .inl (SqL.of hrow), ?_⟩
    show gName 3 (V.int ((row.map V.int).length : Int)) _ _ _
    rw [hrl]
    refine ⟨_, rfl, _, rfl, at_, _, rfl, .inl (SqL.of hts), rfl, _, rfl, ?_⟩
    rw [htl']
    refine ite2 (fun hc => ?_) (fun hc => ?_)
    ·have e : row.length = n := by
      have e := of_decide_eq_true hc
      injection e with e
      exact Om.e1 ‹_›
     exact ⟨_, rfl, q1 ar H row (Same.refl H) hrow (pr.full e) (List.prefix_refl _)⟩
    have hlt : row.length < n := by
     have h1 : row.length ≠ n := fun e => hc (decide_eq_true (by rw [e]))
     have := pr.len
     omega
    obtain ⟨ps, hps, hPs⟩ := id hA
    have hpl : (ps.map V.ref).length = A.length := by rw [List.length_map, hPs.length]
    refine ⟨_, rfl, at_, _, rfl, .inl (SqL.of hts), _, rfl, by exact Om.c2, by rw [htl']; exact Om.c1 ‹_› rfl, fun l4 hl4 => ?_⟩
    rw [htl', Int.toNat_natCast]
    refine comp_pure (fun j => if (fun t : Int => decide (t ∉ row)) ((j : Nat) : Int) = true then some (V.int ((j : Nat) : Int)) else none) (fun σ => ∃ v, σ = [v, some (.ref ar)]) (wlk_range (n := n)) (by rw [rng_len]; exact small6 (by exact Om.b1 ‹_› rfl)) hl4 (fun _ _ => trivial) ⟨none, rfl⟩ ?_ ?_
    ·rintro i x σ H' R' hi ⟨v, rfl⟩ sm kk
     obtain ⟨hin, rfl⟩ := rng_get hi
     have kk' := fun v' => kk [v', some (.ref ar)] H' ⟨v', rfl⟩ (Same.refl _)
     refine ⟨_, rfl, _, rfl, ar, row.map V.int, rfl, .inl (SqL.of (sm _ _ hrow)), rfl, map_ints_flat row, _, rfl, ?_⟩
     have e1 : (if true = true then !inV (.int (i : Int)) (row.map V.int) else inV (.int (i : Int)) (row.map V.int)) = decide ((i : Int) ∉ row) := by rw [if_pos rfl, inV_ints]; simp
     rw [e1]
     refine ite2 (fun hc3 => ?_) (fun hc3 => ?_)
     ·rw [if_pos hc3] at kk'
      exact ⟨_, rfl, kk' _⟩
     ·rw [if_neg hc3] at kk'
      exact kk' _
    intro H4 s4 h4
    rw [rng_len] at h4
    replace h4 : H4 l4 = some (.lst (((rngI n).filter (fun t : Int => decide (t ∉ row))).map V.int)) := by rw [h4]; exact congrArg (fun x => some (HO.lst x)) (fm_rngI (fun t : Int => decide (t ∉ row)) n)
    have hm1 : ∀ t ∈ (rngI n).filter (fun t : Int => decide (t ∉ row)), 0 <= t /\ t < (n : Int) := fun t ht => mem_rngI.mp (List.mem_filter.mp ht).1
    have hln : ((rngI n).filter (fun t : Int => decide (t ∉ row))).length <= n := Nat.le_trans (List.length_filter_le _ _) (by rw [rngI_len]; exact Nat.le_refl _)
    generalize hpo : (rngI n).filter (fun t : Int => decide (t ∉ row)) = po at h4 hm1 hln
    have hps4 := s4 _ _ hps
    refine ⟨_, rfl, l4, rfl, ⟨_, SqL.of h4⟩, fun l5 hl5 => ?_⟩
    refine comp_pure (fun j => if (fun t : Int => decide (t ∉ colL A row.length)) (po.getD j 0) = true then some (V.int (po.getD j 0)) else none) (fun σ => ∃ v, σ = [v, some (.ref aA), some (.int (row.length : Int))]) (wlk_list (xs := po.map V.int)) (by rw [List.length_map]; exact small6 (by exact Om.b3 ‹_› ‹_› rfl)) hl5 (fun H' sm => SqL.of (sm _ _ h4)) ⟨none, rfl⟩ ?_ ?_
    ·rintro i x σ H' R' hi ⟨v, rfl⟩ sm kk
     have hil : i < po.length := by
      have := (List.getElem?_eq_some_iff.mp hi).1
      rw [List.length_map] at this
      exact this
     have ex : x = .int (po.getD i 0) := by
      rw [List.getElem?_map, List.getElem?_eq_getElem hil] at hi
      rw [getD_of hil]
      cases hi
      rfl
     subst ex
     generalize po.getD i 0 = t at kk ⊢
     have hps5 := sm _ _ hps4
     refine ⟨_, rfl, _, rfl, aA, rfl, ⟨_, SqL.of hps5⟩, fun l6 hl6 => comp_pure (fun i => some (V.int ((A.getD i []).getD row.length 0))) (fun σ => ∃ v, σ = [v, some (.int (row.length : Int))]) (wlk_list (xs := ps.map V.ref)) (by rw [hpl]; exact small6 (by exact Om.b1 ‹_› rfl)) hl6 (fun H' sm => SqL.of (sm _ _ hps5)) ⟨none, rfl⟩ ?_ ?_⟩
     ·rintro i x σ H2 R2 hi ⟨v, rfl⟩ sm2 kk2
      rw [List.getElem?_map] at hi
      cases hpi : ps[i]? with
      | none => rw [hpi] at hi; cases hi
      | some p =>
       rw [hpi] at hi
       cases hi
       obtain ⟨o, ho, hp⟩ := Paired.getL hPs hpi
       have hol : o.length = n := hAn o (List.mem_of_getElem? ho)
       have hat : (o.map V.int)[row.length]? = some (.int ((A.getD i []).getD row.length 0)) := by
        rw [List.getElem?_map, List.getElem?_eq_getElem (by exact Om.a1 ‹_› ‹_›)]
        simp [List.getD_eq_getElem?_getD, ho, List.getElem?_eq_getElem (show row.length < o.length by exact Om.a1 ‹_› ‹_›)]
       exact ⟨_, rfl, _, rfl, p, o.map V.int, (row.length : Int), _, rfl, rfl, SqL.of (sm2 _ _ (sm _ _ (s4 _ _ hp))), atI_of hat, kk2 _ _ ⟨_, rfl⟩ (Same.refl _)⟩
     ·intro H2 s2 h2
      rw [fm_some, hpl, col_of] at h2
      refine ⟨l6, _, rfl, .inl (SqL.of h2), rfl, map_ints_flat _, _, rfl, ?_⟩
      have e2 : (if true = true then !inV (.int t) ((colL A row.length).map V.int) else inV (.int t) ((colL A row.length).map V.int)) = decide (t ∉ colL A row.length) := by rw [if_pos rfl, inV_ints]; simp
      rw [e2]
      have kk' := fun v' => kk [v', some (.ref aA), some (.int (row.length : Int))] H2 ⟨v', rfl⟩ s2
      refine ite2 (fun hc4 => ?_) (fun hc4 => ?_)
      ·rw [if_pos hc4] at kk'
       exact ⟨_, rfl, kk' _⟩
      ·rw [if_neg hc4] at kk'
       exact kk' _
    intro H5 s5 h5
    rw [List.length_map] at h5
    replace h5 : H5 l5 = some (.lst ((nextT n A row).map V.int)) := by
     rw [h5, <- next_two n A row, hpo]
     exact congrArg (fun x => some (HO.lst x)) (fm_range (fun t : Int => decide (t ∉ colL A row.length)) po)
    have s45 := s4.trans s5
    have hpl2 : (nextT n A row).length <= n := by
     unfold nextT
     refine Nat.le_trans (List.length_filter_le _ _) ?_
     rw [rngI_len]
     exact Nat.le_refl _
    have hnl : ((nextT n A row).map V.int).length = (nextT n A row).length := List.length_map _
    have htat : (ts.map V.int)[row.length]? = some (.int (ts.getD row.length 0)) := by
     rw [List.getElem?_map, List.getElem?_eq_getElem (by exact Om.a1 ‹_› ‹_›)]
     simp [List.getD_eq_getElem?_getD, List.getElem?_eq_getElem (show row.length < ts.length by exact Om.a1 ‹_› ‹_›)]
    generalize ts.getD row.length 0 = t at htat
    obtain ⟨M, hM, hM1, hMl⟩ : ∃ M : Int, (if ((nextT n A row).length : Int) > 1 then ((nextT n A row).length : Int) else 1) = M /\ 0 < M /\ M <= max 1 ((nextT n A row).length : Int) := by
     refine ⟨_, rfl, ?_, ?_⟩
     ·split <;> omega
     ·split <;> omega
    obtain ⟨m, hm, hml⟩ : ∃ m : Nat, t % M = (m : Int) /\ m <= (nextT n A row).length := by
     have e1 := Int.emod_nonneg t (show M ≠ 0 by omega)
     have e2 := Int.emod_lt_of_pos t hM1
     exact ⟨(t % M).toNat, by exact Om.z1 ‹_›, by omega⟩
    refine ⟨_, rfl, _, rfl, at_, _, _, _, rfl, rfl, SqL.of (s45 _ _ hts), atI_of htat, _, rfl, l5, _, rfl, .inl (SqL.of h5), 1, _, rfl, _, _, rfl, rfl, ?_, ?_⟩
    ·rw [hnl, hM]
     exact hM1
    show gName 5 (V.int (t % (if (((nextT n A row).map V.int).length : Int) > 1 then (((nextT n A row).map V.int).length : Int) else 1))) _ _ _
    rw [hnl, hM, hm]
    refine ⟨_, rfl, _, rfl, (m : Int), rfl, l5, _, rfl, SqL.of h5, fun l7 hl7 => ?_⟩
    rw [cut_from _ (by rw [hnl]; exact hml)]
    have s7 : Same H5 (upd H5 l7 (.lst (((nextT n A row).map V.int).drop m))) := Same.new hl7
    refine ⟨_, rfl, _, rfl, (m : Int), rfl, l5, _, rfl, SqL.of (s7 _ _ h5), fun l8 hl8 => ?_⟩
    rw [cut_to _ (by rw [hnl]; exact hml)]
    have s8 : Same (upd H5 l7 (.lst (((nextT n A row).map V.int).drop m))) (upd (upd H5 l7 (.lst (((nextT n A row).map V.int).drop m))) l8 (.lst (((nextT n A row).map V.int).take m))) := Same.new hl8
    refine ⟨l7, l8, _, _, rfl, rfl, s8 _ _ upd_same, upd_same, small6 (by rw [List.length_drop, List.length_take, hnl]; omega), fun l9 hl9 => ?_⟩
    have s9 := (s7.trans s8).trans (Same.new (o := .lst (((nextT n A row).map V.int).drop m ++ ((nextT n A row).map V.int).take m)) hl9)
    have h9 : (upd (upd (upd H5 l7 (.lst (((nextT n A row).map V.int).drop m))) l8 (.lst (((nextT n A row).map V.int).take m))) l9 (.lst (((nextT n A row).map V.int).drop m ++ ((nextT n A row).map V.int).take m))) l9 = some (.lst (((nextT n A row).map V.int).drop m ++ ((nextT n A row).map V.int).take m)) := upd_same
    generalize upd (upd (upd H5 l7 (.lst (((nextT n A row).map V.int).drop m))) l8 (.lst (((nextT n A row).map V.int).take m))) l9 (.lst (((nextT n A row).map V.int).drop m ++ ((nextT n A row).map V.int).take m)) = H9 at s9 h9 ⊢
    have memx : ∀ y : V, y ∈ ((nextT n A row).map V.int).drop m ++ ((nextT n A row).map V.int).take m ↔ y ∈ (nextT n A row).map V.int := fun y => by
     conv => rhs; rw [<- List.take_append_drop m ((nextT n A row).map V.int)]
     rw [List.mem_append, List.mem_append, or_comm]
    generalize ((nextT n A row).map V.int).drop m ++ ((nextT n A row).map V.int).take m = xs at h9 memx ⊢
    have sH9 := s45.trans s9
    refine ⟨l9, rfl, ⟨_, SqL.of h9⟩, for_list (xs := xs) (fun i σ H7 => ∃ v6 v7 : Option V, σ = [some (.ref aA), some (.ref ar), some (.ref at_), some (.int (row.length : Int)), some (.ref l5), some (.int (m : Int)), v6, v7] /\ Same H9 H7 /\ ∀ j : Nat, j < i -> ∀ x, xs[j]? = some (.int x) -> ∀ r, OkRow n A r -> row ++ [x] <+: r -> False)
     ⟨none, none, rfl, Same.refl _, fun j h => absurd h (Nat.not_lt_zero _)⟩ (fun i σ H7 _ zz0 => by obtain ⟨_, _, _, s7, _⟩ := zz0; exact SqL.of (s7 _ _ h9)) ?_ ?_⟩
    ·rintro i y σ H7 hy ⟨v6, v7, rfl, s7, hno⟩
     obtain ⟨x, hxm, rfl⟩ := List.mem_map.mp ((memx y).mp (List.mem_of_getElem? hy))
     have sH7 := sH9.trans s7
     refine ⟨_, rfl, _, rfl, _, rfl, (show 1 <= sizeLine from small6 (by decide)), fun lA hlA => ?_⟩
     have sA : Same H7 (upd H7 lA (.lst [.int x])) := Same.new hlA
     refine ⟨ar, lA, _, _, rfl, rfl, sA _ _ (sH7 _ _ hrow), upd_same, by rw [hrl]; exact small6 (by simp; exact Om.b2 ‹_› ‹_› rfl), fun lB hlB => ?_⟩
     have sB : Same (upd H7 lA (.lst [.int x])) (upd (upd H7 lA (.lst [.int x])) lB (.lst (row.map V.int ++ [.int x]))) := Same.new hlB
     have sAB := sA.trans sB
     refine ⟨_, rfl, aA, lB, at_, n, A, row ++ [x], ts, rfl, hA.same (sH7.trans sAB), hAn, hA8, by rw [upd_same, List.map_append]; rfl, pr.next hlt hxm, h8, sAB _ _ (sH7 _ _ hts), htl, by rw [List.length_append]; simp; omega, fun p HC r sC hp o pf => ?_, fun HC sC hnone => ?_⟩
     ·refine ⟨_, rfl, _, rfl, iteT ⟨_, rfl, ?_⟩⟩
      exact q1 p HC r (sH7.trans (sAB.trans sC)) hp o (List.IsPrefix.trans (List.prefix_append _ _) pf)
     ·refine ⟨_, rfl, _, rfl, iteF ⟨_, _, rfl, s7.trans (sAB.trans sC), fun j hj z hz r o pf => ?_⟩⟩
      by_cases e : j < i
      ·exact hno j e z hz r o pf
      ·have ej : j = i := by omega
       subst ej
       rw [hy] at hz
       cases hz
       exact hnone r o pf
    ·rintro σ H7 ⟨v6, v7, rfl, s7, hno⟩
     refine q2 H7 (sH9.trans s7) fun r o pf => ?_
     obtain ⟨x, hx, pf2⟩ := next_of hlt o pf
     obtain ⟨j, hj, hje⟩ := List.getElem_of_mem ((memx _).mpr (List.mem_map.mpr ⟨x, hx, rfl⟩))
     exact hno j hj x (by rw [List.getElem?_eq_getElem hj, hje]) r o pf2
end
end My
namespace My
open PySem L2
noncomputable def spBy : Sp := fun vs H Q _ => ∃ (n : Nat) (z : Int), vs = [.int (n : Int), .int z] /\ 1 <= n /\ n <= 8 /\ ∀ (l : Addr) (R : List (List Int)) (H' : Hp), Same H H' -> LLs H' l R -> OkRows n R -> R.length = n -> Q (.ref l) H'
section
variable {P : Program} {w : World} {K : PySem.W.Frag} {mg : Str -> Option Value} {base : Heap}
theorem scByRows : FnScope ["_law_n", "_law_number_here", "_law_rows", "_law_row_here", "_law_digits", "_law_column"] ["_law_n", "_law_number_here"] (defScope sByRows) := ⟨rfl, rfl, rfl, by decide +kernel, rfl, by decide +kernel, by decide +kernel⟩
theorem ok_byRows {f fR : Addr} {fd dR : FuncData} (F : Fun K "_law_by_rows" "_law_by_rows" sByRows f fd) (T : Blt mg) (DR : Dfn K mg "_law_row" sRow ["_law_rows", "_law_made", "_law_digits"] fR dR) : FnOk P w K mg base CX0 10 f fd ["_law_n", "_law_number_here"] spBy := by
 have GR : FnOk P w K mg base CX0 9 fR dR ["_law_rows", "_law_made", "_law_digits"] (spRow 9) := ok_row DR T 9
 refine F.ok scByRows (fun vs H Q E h => ?_) (fun cdv A outer s H vs Q E hr h => ?_)
 ·obtain ⟨_, _, rfl, _⟩ := h
  rfl
 ·obtain ⟨n, z, rfl, h1, h8, q⟩ := h
  refine' ⟨_, pss_cons (ps_set (i := 2) scByRows.nd rfl (Or.inl rfl) (pe_lst pa_nil)) (pss_cons (ps_for PassesOwn.never rfl (pi_range1 rfl T.range (pa_cons (pv 0) pa_nil)) (pg_name (i := 3) scByRows.nd rfl (Or.inl rfl)) (pss_cons (ps_set (i := 4) scByRows.nd rfl (Or.inl rfl) (pe_lst pa_nil)) (pss_cons (ps_for PassesOwn.never rfl (pi_range1 rfl T.range (pa_cons (pv 0) pa_nil)) (pg_name (i := 5) scByRows.nd rfl (Or.inl rfl)) (pss_cons ?c0 (pss_one ?c1))) (pss_one ?b2)))) (pss_one (ps_ret (pv 2)))), ?rd⟩
  case c0 => exact ps_expr (pe_bm PySem.F.plainAttrs_list PySem.F.slot_list_append PySem.F.type_list_append mt_append (pv 4) (pa_cons (pe_op op_mod (pv 1) pe_int) pa_nil))
  case c1 => exact ps_set (i := 1) scByRows.nd rfl (Or.inl rfl) (pe_op op_fdiv (pv 1) pe_int)
  case b2 => exact ps_expr (pe_bm PySem.F.plainAttrs_list PySem.F.slot_list_append PySem.F.type_list_append mt_append (pv 2) (pa_cons (pe_call GR hr rfl DR.m DR.F.kp DR.b .nil pass0 (pa_cons (pv 2) (pa_cons (pe_lst pa_nil) (pa_cons (pv 4) pa_nil)))) pa_nil))
  case rd =>
   refine ⟨Nat.zero_le _, fun lr hlr => ?_⟩
   refine ⟨_, rfl, (n : Int), rfl, by exact Om.c2, by exact Om.c1 ‹_› rfl, ?_⟩
   rw [Int.toNat_natCast]
   refine for_range (lo := 0) (n := n) (fun i σ H2 => ∃ (z : Int) (v3 v4 v5 : Option V) (R : List (List Int)), σ = [some (.int (n : Int)), some (.int z), some (.ref lr), v3, v4, v5] /\ Same H H2 /\ LLs H2 lr R /\ OkRows n R /\ R.length = i)
    ⟨z, none, none, none, [], rfl, Same.new hlr, ⟨[], upd_same, .nil⟩, ⟨Nat.zero_le _, (fun r h => by cases h), fun c _ => List.nodup_nil⟩, rfl⟩ ?_ ?_
   ·rintro i σ H2 hi ⟨z, v3, v4, v5, R, rfl, s2, hL, ok, hRl⟩
    rw [Int.zero_add]
    refine ⟨Nat.zero_le _, fun ld hld => ?_⟩
    refine ⟨_, rfl, (n : Int), rfl, by exact Om.c2, by exact Om.c1 ‹_› rfl, ?_⟩
    rw [Int.toNat_natCast]
    refine for_range (lo := 0) (n := n) (fun j σ H3 => ∃ (z : Int) (v5 : Option V) (ts : List Int), σ = [some (.int (n : Int)), some (.int z), some (.ref lr), some (.int (i : Int)), some (.ref ld), v5] /\ Same H2 H3 /\ H3 ld = some (.lst (ts.map V.int)) /\ ts.length = j)
     ⟨z, _, [], rfl, Same.new hld, upd_same, rfl⟩ ?_ ?_
    ·rintro j σ H3 hj ⟨z, v5, ts, rfl, s3, h3, htl⟩
     rw [Int.zero_add]
     refine ⟨_, rfl, .inl ⟨rfl, _, SqL.of h3⟩, _, rfl, _, _, rfl, rfl, (by show (0 : Int) < 6; decide), ld, _, _, rfl, rfl, h3, by rw [List.length_map]; exact small1000 (by exact Om.b5 ‹_› ‹_› ‹_› rfl), ?_⟩
     refine ⟨_, rfl, _, _, rfl, rfl, ⟨by decide, by decide⟩, _, _, ts ++ [z % 6], rfl, fun b u e => ?_, by rw [upd_same, List.map_append]; rfl, by rw [List.length_append, htl]; rfl⟩
     rw [upd_ne (ne_of_none e hld)]
     exact s3 _ _ e
    ·rintro σ H3 ⟨z, v5, ts, rfl, s3, h3, htl⟩
     have hL3 := hL.same s3
     obtain ⟨ps, hps, hPs⟩ := id hL3
     have hpl : (ps.map V.ref).length = R.length := by rw [List.length_map, hPs.length]
     refine ⟨_, rfl, .inl ⟨rfl, _, SqL.of hps⟩, _, rfl, Nat.zero_le _, fun l5 hl5 => ?_⟩
     have s5 : Same H3 (upd H3 l5 (.lst [])) := Same.new hl5
     refine ⟨_, rfl, lr, l5, ld, n, R, [], ts, rfl, hL3.same s5, fun o ho => (ok.row o ho).1, by exact Om.b5 ‹_› ‹_› ‹_› rfl, upd_same, PRow.nil n R, h8, s5 _ _ h3, htl, by simp; exact Om.f3 ‹_›, fun p H7 r s7 hp o _ => ?_, fun H7 s7 hno => ?_⟩
     ·have hR7 := hL3.same (s5.trans s7)
      obtain ⟨ps7, hps7, hPs7⟩ := hR7
      have e7 : ps7.map V.ref = ps.map V.ref := by
       have := (s5.trans s7) _ _ hps
       rw [hps7] at this
       injection this with this
       injection this
      refine ⟨lr, _, _, rfl, rfl, hps7, by rw [e7, hpl]; exact small1000 (by exact Om.b5 ‹_› ‹_› ‹_› rfl), _, _, _, _, R ++ [r], rfl, fun b u e => ?_, ?_, o.more ok (by exact Om.x1 ‹_› ‹_›), by rw [List.length_append, hRl]; rfl⟩
      ·rw [upd_ne (ne_of_none e hlr)]
       exact s7 _ _ (s5 _ _ (s3 _ _ (s2 _ _ e)))
      ·refine LLs.push hps7 hPs7 (fun x hx => ?_) ?_ hp
       ·have := (ok.row x hx).1
        exact fun z => by rw [z] at this; simp at this; omega
       ·have := o.len
        exact fun z => by rw [z] at this; simp at this; omega
     ·obtain ⟨r, hr'⟩ := row_exists ok (by exact Om.x1 ‹_› ‹_›)
      exact (hno r hr' List.nil_prefix).elim
   ·rintro σ H2 ⟨z, v3, v4, v5, R, rfl, s2, hL, ok, hRl⟩
    exact ⟨_, rfl, q lr R H2 s2 hL ok hRl⟩
theorem scByRings : FnScope ["_law_n", "_law_number_here", "_law_rows", "_law_turn_here", "_law_one", "_law_other"] ["_law_n", "_law_number_here"] (defScope sByRings) := ⟨rfl, rfl, rfl, by decide +kernel, rfl, by decide +kernel, by decide +kernel⟩
theorem ok_byRings {f fB fA : Addr} {fd dB dA : FuncData} (F : Fun K "_law_by_rings" "_law_by_rings" sByRings f fd) (T : Blt mg) (DB : Dfn K mg "_law_base" sBase ["_law_n", "_law_number_here"] fB dB) (DA : Dfn K mg "_law_along" sAlong ["_law_rows", "_law_one", "_law_other", "_law_column"] fA dA) : FnOk P w K mg base CX0 2 f fd ["_law_n", "_law_number_here"] spBy := by
 have GB : FnOk P w K mg base CX0 1 fB dB ["_law_n", "_law_number_here"] spBase := ok_base DB.F T
 have GA : FnOk P w K mg base CX0 1 fA dA ["_law_rows", "_law_one", "_law_other", "_law_column"] spAlong := ok_along DA.F T
 refine F.ok scByRings (fun vs H Q E h => ?_) (fun cdv A outer s H vs Q E hr h => ?_)
 ·obtain ⟨_, _, rfl, _⟩ := h
  rfl
 ·obtain ⟨n, z, rfl, h1, h8, q⟩ := h
  refine' ⟨_, pss_cons ?s0 (pss_cons ?s1 (pss_cons (ps_for PassesOwn.never rfl (pi_range1 rfl T.range (pa_cons (pe_op op_mod (pv 1) pe_int) pa_nil)) (pg_name (i := 3) scByRings.nd rfl (Or.inl rfl)) (pss_cons ?b0 (pss_cons ?b1 (pss_cons ?b2 (pss_one (ps_if ?c (pss_one ?d) pss_nil)))))) (pss_one (ps_ret (pv 2))))), ?rd⟩
  case s0 => exact ps_set (i := 2) scByRings.nd rfl (Or.inl rfl) (pe_call GB hr rfl DB.m DB.F.kp DB.b .nil pass0 (pa_cons (pv 0) (pa_cons (pv 1) pa_nil)))
  case s1 => exact ps_set (i := 1) scByRings.nd rfl (Or.inl rfl) (pe_op op_fdiv (pv 1) pe_int)
  case b0 => exact ps_set (i := 1) scByRings.nd rfl (Or.inl rfl) (pe_op op_fdiv (pv 1) pe_int)
  case b1 => exact ps_set (i := 4) scByRings.nd rfl (Or.inl rfl) (pe_op op_mod (pv 1) (pv 0))
  case b2 => exact ps_set (i := 5) scByRings.nd rfl (Or.inl rfl) (pe_op op_mod (pe_op op_add (pe_op op_add (pv 4) pe_int) (pe_op op_mod (pe_op op_fdiv (pv 1) (pv 0)) (pe_callB (call_max2 rfl) rfl T.max PyProof.Rows.boot_max (pa_cons pe_int (pa_cons (pe_op op_sub (pv 0) pe_int) pa_nil))))) (pv 0))
  case c => exact pt_cmpR op_ne (pv 4) (pv 5) (nomark _)
  case d => exact ps_set (i := 2) scByRings.nd rfl (Or.inl rfl) (pe_call GA hr rfl DA.m DA.F.kp DA.b .nil pass0 (pa_cons (pv 2) (pa_cons (pv 4) (pa_cons (pv 5) (pa_cons (pe_op op_mod (pe_op op_fdiv (pe_op op_fdiv (pv 1) (pv 0)) (pe_callB (call_max2 rfl) rfl T.max PyProof.Rows.boot_max (pa_cons pe_int (pa_cons (pe_op op_sub (pv 0) pe_int) pa_nil)))) (pv 0)) pa_nil)))))
  case rd =>
   refine ⟨_, rfl, _, rfl, n, z, rfl, h1, h8, fun l ps R H1 s1 hl hfr M1 ok hRl => ?_⟩
   refine ⟨_, rfl, _, _, rfl, rfl, ⟨by decide, by decide⟩, ?_⟩
   obtain ⟨m, hm, hm7⟩ : ∃ m : Nat, z / 3 % 7 = (m : Int) /\ m < 7 := ⟨(z / 3 % 7).toNat, by omega, by omega⟩
   refine ⟨_, rfl, _, _, rfl, rfl, (by show (0 : Int) < 7; decide), (m : Int), ?_, by exact Om.c2, by omega, ?_⟩
   ·show [V.int (z / 3 % 7)] = _
    rw [hm]
   rw [Int.toNat_natCast]
   refine for_range (lo := 0) (n := m) (fun i σ H2 => ∃ (z : Int) (v3 v4 v5 : Option V) (R : List (List Int)), σ = [some (.int (n : Int)), some (.int z), some (.ref l), v3, v4, v5] /\ Same H H2 /\ MG H2 l ps R /\ OkRows n R /\ R.length = n)
    ⟨_, none, none, none, R, rfl, s1, M1, ok, hRl⟩ ?_ ?_
   ·clear M1 ok hRl
    rintro i σ H2 hi ⟨z, v3, v4, v5, R, rfl, s2, M2, ok, hRl⟩
    rw [Int.zero_add]
    refine ⟨_, rfl, _, _, rfl, rfl, ⟨by decide, by decide⟩, ?_⟩
    generalize hz : z / 7 = y
    obtain ⟨o1, e1, ho1⟩ : ∃ o1 : Nat, y % (n : Int) = (o1 : Int) /\ o1 < n := ⟨(y % (n : Int)).toNat, by have := Int.emod_nonneg y (show (n : Int) ≠ 0 by omega); exact Om.z1 ‹_›, by have := Int.emod_lt_of_pos y (show (0 : Int) < n by exact Om.c3 ‹_›); have := Int.emod_nonneg y (show (n : Int) ≠ 0 by omega); omega⟩
    obtain ⟨M, hM, hM1, hM2⟩ : ∃ M : Int, (if (n : Int) - 1 > 1 then (n : Int) - 1 else 1) = M /\ 0 < M /\ M <= 8 := by
     refine ⟨_, rfl, ?_, ?_⟩
     ·split <;> omega
     ·split <;> omega
    refine ⟨_, rfl, _, rfl, _, _, rfl, rfl, (by show (0 : Int) < (n : Int); exact Om.c3 ‹_›), ?_⟩
    show gName 4 (V.int (z / 7 % (n : Int))) _ _ _
    rw [hz, e1]
    obtain ⟨o2, e2, ho2⟩ : ∃ o2 : Nat, ((o1 : Int) + 1 + y / (n : Int) % M) % (n : Int) = (o2 : Int) /\ o2 < n := ⟨(((o1 : Int) + 1 + y / (n : Int) % M) % (n : Int)).toNat, by have := Int.emod_nonneg ((o1 : Int) + 1 + y / (n : Int) % M) (show (n : Int) ≠ 0 by omega); exact Om.z1 ‹_›, by have := Int.emod_lt_of_pos ((o1 : Int) + 1 + y / (n : Int) % M) (show (0 : Int) < n by exact Om.c3 ‹_›); have := Int.emod_nonneg ((o1 : Int) + 1 + y / (n : Int) % M) (show (n : Int) ≠ 0 by omega); omega⟩
    refine ⟨_, rfl, _, _, rfl, rfl, _, rfl, _, rfl, _, _, rfl, rfl, ⟨(by show (0 : Int) < (n : Int); exact Om.c3 ‹_›), (by show (n : Int) < 1073741824; omega)⟩, _, rfl, _, _, rfl, rfl, 1, _, rfl, _, _, rfl, rfl, (by rw [hM]; exact hM1), _, _, rfl, rfl, _, rfl, _, _, rfl, rfl, (by show (0 : Int) < (n : Int); exact Om.c3 ‹_›), ?_⟩
    show gName 5 (V.int (((o1 : Int) + 1 + z / 7 / (n : Int) % (if (n : Int) - 1 > 1 then (n : Int) - 1 else 1)) % (n : Int))) _ _ _
    rw [hz, hM, e2]
    refine ⟨_, rfl, _, rfl, rfl, _, rfl, ite2 (fun hd => ?_) (fun _ => ⟨_, _, _, _, R, rfl, s2, M2, ok, hRl⟩)⟩
    have hne : o1 ≠ o2 := fun e => by
     rw [e, decide_eq_true rfl] at hd
     cases hd
    obtain ⟨c0, e3, hc0⟩ : ∃ c0 : Nat, y / (n : Int) / M % (n : Int) = (c0 : Int) /\ c0 < n := ⟨(y / (n : Int) / M % (n : Int)).toNat, by have := Int.emod_nonneg (y / (n : Int) / M) (show (n : Int) ≠ 0 by omega); exact Om.z1 ‹_›, by have := Int.emod_lt_of_pos (y / (n : Int) / M) (show (0 : Int) < n by exact Om.c3 ‹_›); have := Int.emod_nonneg (y / (n : Int) / M) (show (n : Int) ≠ 0 by omega); omega⟩
    refine ⟨_, rfl, _, rfl, _, rfl, _, rfl, _, rfl, _, _, rfl, rfl, ⟨(by show (0 : Int) < (n : Int); exact Om.c3 ‹_›), (by show (n : Int) < 1073741824; omega)⟩, _, rfl, _, _, rfl, rfl, 1, _, rfl, _, _, rfl, rfl, ⟨(by rw [hM]; exact hM1), (by rw [hM]; omega)⟩, _, rfl, _, _, rfl, rfl, (by show (0 : Int) < (n : Int); exact Om.c3 ‹_›), l, ps, n, o1, o2, c0, R, ?_, M2, ok, hRl, h8, ho1, ho2, hne, hc0, fun H3 k3 M3 => ?_⟩
    ·show [V.ref l, V.int (o1 : Int), V.int (o2 : Int), V.int (z / 7 / (n : Int) / (if (n : Int) - 1 > 1 then (n : Int) - 1 else 1) % (n : Int))] = _
     rw [hz, hM, e3]
    ·obtain ⟨ok3, hl3⟩ := ex_ok ok hRl ho1 ho2 hc0
     exact ⟨_, _, _, _, _, rfl, fun b u e => k3 b u (fun z => by rw [hfr b z] at e; cases e) (s2 _ _ e), M3, ok3, hl3⟩
   ·rintro σ H2 ⟨z, v3, v4, v5, R, rfl, s2, M2, ok, hRl⟩
    exact ⟨_, rfl, q l R H2 s2 ⟨ps, M2.out, M2.rows⟩ ok hRl⟩
end
end My
namespace My
open PySem L2
structure Trip (n : Nat) (R : List (List Int)) (x : Nat -> Nat) : Prop where
 h0 : x 0 < n
 h1 : x 1 < n
 h2 : x 2 < n
 e : ent R (x 0) (x 1) = ((x 2 : Nat) : Int)
noncomputable def e3 (R : List (List Int)) (i j : Nat) : Nat -> Nat
 | 0 => i
 | 1 => j
 | _ => (ent R i j).toNat
theorem ent_rg' {n : Nat} {R : List (List Int)} (ok : OkRows n R) (hl : R.length = n) {i j : Nat} (hi : i < n) (hj : j < n) : 0 <= ent R i j /\ ent R i j < (n : Int) := (ent_row ok hl hi).val hj
theorem trip_of {n : Nat} {R : List (List Int)} (ok : OkRows n R) (hl : R.length = n) {i j : Nat} (hi : i < n) (hj : j < n) : Trip n R (e3 R i j) := by
 have h := ent_rg' ok hl hi hj
 exact ⟨hi, hj, show (ent R i j).toNat < n by omega, show ent R i j = (((ent R i j).toNat : Nat) : Int) by omega⟩
theorem col_has {n : Nat} {R : List (List Int)} (ok : OkRows n R) (hl : R.length = n) {c b : Nat} (hc : c < n) (hb : b < n) : ∃ i, i < n /\ ent R i c = (b : Int) := by
 have hm : (b : Int) ∈ colL R c := row_has (by unfold colL; rw [List.length_map, hl]) (ok.col c hc) (fun x hx => by
  obtain ⟨r, hr, rfl⟩ := List.mem_map.mp hx
  obtain ⟨h1, _, h3⟩ := ok.row r hr
  rw [getD_of (by exact Om.a1 ‹_› ‹_›)]
  exact h3 _ (List.getElem_mem _)) ⟨by exact Om.c6, by exact Om.c5 ‹_›⟩
 unfold colL at hm
 obtain ⟨r, hr, e⟩ := List.mem_map.mp hm
 obtain ⟨i, hi, e'⟩ := List.getElem_of_mem hr
 refine ⟨i, by exact Om.a2 ‹_› ‹_›, ?_⟩
 unfold ent
 rw [List.getD_eq_getElem?_getD (l := R), List.getElem?_eq_getElem hi, e']
 exact e
theorem mk_gen {n : Nat} {R : List (List Int)} (hl : R.length = n) (hr : ∀ r ∈ R, r.length = n) : mk n (ent R) = R := by
 refine List.ext_getElem (by unfold mk; rw [List.length_map, List.length_range, hl]) fun k h1 h2 => ?_
 have e : (mk n (ent R))[k] = (List.range n).map fun c => ent R k c := by simp [mk]
 rw [e]
 have hr := hr _ (List.getElem_mem h2)
 refine List.ext_getElem (by rw [List.length_map, List.length_range, hr]) fun c h3 h4 => ?_
 simp [ent, List.getD_eq_getElem?_getD, List.getElem?_eq_getElem h2, List.getElem?_eq_getElem h4]
theorem ext_gen {n : Nat} {R S : List (List Int)} (hl : R.length = n) (hr : ∀ r ∈ R, r.length = n) (hl' : S.length = n) (hr' : ∀ r ∈ S, r.length = n) (h : ∀ a b, a < n -> b < n -> ent R a b = ent S a b) : R = S := by
 rw [<- mk_gen hl hr, <- mk_gen hl' hr']
 unfold mk
 refine List.map_congr_left fun a ha => List.map_congr_left fun b hb => ?_
 exact h a b (List.mem_range.mp ha) (List.mem_range.mp hb)
section
variable {n : Nat} {R F G : List (List Int)} {rl rl' : List Nat}
end
noncomputable def renI (n : Nat) (R Rn : List (List Int)) : List (List Int) := mk n fun i j => (Rn.getD 2 []).getD (ent R (ixo (Rn.getD 0 []) i) (ixo (Rn.getD 1 []) j)).toNat 0
section
variable {n : Nat} {R Rn F : List (List Int)} {rl : List Nat}
theorem ixo_inj {r : List Int} (t : Turn n r) {i j : Nat} (hi : i < n) (hj : j < n) (e : ixo r i = ixo r j) : i = j := by
 have h1 := (idx_at t hi).2
 have h2 := (idx_at t hj).2
 unfold ixo at e
 rw [e, h2] at h1
 omega
theorem renI_ok (ok : OkRows n R) (hl : R.length = n) (rn : Ren n Rn) : OkRows n (renI n R Rn) /\ (renI n R Rn).length = n := by
 have t0 := rn.at (k := 0) (by decide)
 have t1 := rn.at (k := 1) (by decide)
 have t2 := rn.at (k := 2) (by decide)
 have rg : ∀ i j, i < n -> j < n -> ∃ x : Nat, ent R (ixo (Rn.getD 0 []) i) (ixo (Rn.getD 1 []) j) = (x : Int) /\ x < n := fun i j hi hj => by
  have := ent_rg' ok hl (ixo_lt t0 hi) (ixo_lt t1 hj)
  exact ⟨(ent R (ixo (Rn.getD 0 []) i) (ixo (Rn.getD 1 []) j)).toNat, by omega, by omega⟩
 refine mk_ok (fun i j hi hj => ?_) (fun i j k hi hj hk e => ?_) (fun i j k hi hj hk e => ?_)
 ·obtain ⟨x, ex, hx⟩ := rg i j hi hj
  rw [ex, Int.toNat_natCast]
  obtain ⟨y, ey, hy⟩ := t2.val hx
  rw [ey]
  omega
 ·obtain ⟨x, ex, hx⟩ := rg i j hi hj
  obtain ⟨y, ey, hy⟩ := rg i k hi hk
  rw [ex, ey, Int.toNat_natCast, Int.toNat_natCast] at e
  have := t2.inj hx hy e
  refine ixo_inj t1 hj hk ((ent_row ok hl (ixo_lt t0 hi)).inj (ixo_lt t1 hj) (ixo_lt t1 hk) ?_)
  show ent R _ _ = ent R _ _
  rw [ex, ey, this]
 ·obtain ⟨x, ex, hx⟩ := rg i k hi hk
  obtain ⟨y, ey, hy⟩ := rg j k hj hk
  rw [ex, ey, Int.toNat_natCast, Int.toNat_natCast] at e
  have := t2.inj hx hy e
  exact ixo_inj t0 hi hj (ent_col ok hl (ixo_lt t0 hi) (ixo_lt t0 hj) (ixo_lt t1 hk) (by rw [ex, ey, this]))
noncomputable def rnE (Rn : List (List Int)) (x : Nat -> Nat) (k : Nat) : Nat := ((Rn.getD k []).getD (x k) 0).toNat
theorem rnE_at (rn : Ren n Rn) {x : Nat -> Nat} {k : Nat} (hk : k < 3) (hx : x k < n) : (Rn.getD k []).getD (x k) 0 = ((rnE Rn x k : Nat) : Int) /\ rnE Rn x k < n /\ ixo (Rn.getD k []) (rnE Rn x k) = x k := by
 obtain ⟨y, ey, hy⟩ := (rn.at hk).val hx
 have e : rnE Rn x k = y := by
  unfold rnE
  rw [ey, Int.toNat_natCast]
 rw [e]
 exact ⟨ey, hy, idx_of (rn.at hk) hx hy ey⟩
theorem renI_cell (rn : Ren n Rn) (ok : OkRows n R) (hl : R.length = n) {x : Nat -> Nat} (t : Trip n R x) : ent (renI n R Rn) (rnE Rn x 0) (rnE Rn x 1) = ((rnE Rn x 2 : Nat) : Int) := by
 obtain ⟨_, a1, a2⟩ := rnE_at rn (x := x) (k := 0) (by decide) t.h0
 obtain ⟨_, b1, b2⟩ := rnE_at rn (x := x) (k := 1) (by decide) t.h1
 obtain ⟨c0, _, _⟩ := rnE_at rn (x := x) (k := 2) (by decide) t.h2
 unfold renI
 rw [mk_ent a1 b1, a2, b2, t.e, Int.toNat_natCast]
 exact c0
theorem renI_back (rn : Ren n Rn) (ok : OkRows n R) (hl : R.length = n) {y : Nat -> Nat} (t : Trip n (renI n R Rn) y) : ∃ x, Trip n R x /\ ∀ k, k < 3 -> y k = rnE Rn x k := by
 have t0 := rn.at (k := 0) (by decide)
 have t1 := rn.at (k := 1) (by decide)
 have tr := trip_of ok hl (ixo_lt t0 t.h0) (ixo_lt t1 t.h1)
 have e0 : rnE Rn (e3 R (ixo (Rn.getD 0 []) (y 0)) (ixo (Rn.getD 1 []) (y 1))) 0 = y 0 := by
  show ((Rn.getD 0 []).getD (ixo (Rn.getD 0 []) (y 0)) 0).toNat = y 0
  unfold ixo
  rw [(idx_at t0 t.h0).2, Int.toNat_natCast]
 have e1 : rnE Rn (e3 R (ixo (Rn.getD 0 []) (y 0)) (ixo (Rn.getD 1 []) (y 1))) 1 = y 1 := by
  show ((Rn.getD 1 []).getD (ixo (Rn.getD 1 []) (y 1)) 0).toNat = y 1
  unfold ixo
  rw [(idx_at t1 t.h1).2, Int.toNat_natCast]
 refine ⟨_, tr, fun k hk => ?_⟩
 rcases k with _ | _ | _ | k
 ·exact e0.symm
 ·exact e1.symm
 ·have h := renI_cell rn ok hl tr
  rw [e0, e1, t.e] at h
  show y 2 = rnE Rn _ 2
  exact Om.e1 ‹_›
 ·omega
end
theorem paired_unmap {H : Hp} : ∀ {ps : List Addr} {R : List (List Int)}, Paired (fun p row => H p = some (.tup row)) ps (R.map fun r => r.map V.int) -> Paired (fun p (r : List Int) => H p = some (.tup (r.map V.int))) ps R
 | _, [], .nil => .nil
 | _, _ :: _, .cons h t => .cons h (paired_unmap t)
theorem paired_map {H : Hp} : ∀ {ps : List Addr} {R : List (List Int)}, Paired (fun p (r : List Int) => H p = some (.tup (r.map V.int))) ps R -> Paired (fun p row => H p = some (.tup row)) ps (R.map fun r => r.map V.int)
 | _, _, .nil => .nil
 | _, _, .cons h t => .cons h (paired_map t)
theorem GridT.tg {H : Hp} {a : Addr} {R : List (List Int)} (g : GridT H a (R.map fun r => r.map V.int)) : TG H a R :=
 let ⟨ps, h, r⟩ := g
 ⟨ps, h, paired_unmap r⟩
theorem TG.grid {H : Hp} {a : Addr} {R : List (List Int)} (g : TG H a R) : GridT H a (R.map fun r => r.map V.int) :=
 let ⟨ps, h, r⟩ := g
 ⟨ps, h, paired_map r⟩
theorem en_int {n : Nat} {R : List (List Int)} (ok : OkRows n R) (hl : R.length = n) {i j : Nat} (hi : i < n) (hj : j < n) : en (R.map fun r => r.map V.int) i j = V.int (ent R i j) := by
 have h1 : i < R.length := by exact Om.a1 ‹_› ‹_›
 have h2 : j < R[i].length := by rw [(ok.row _ (List.getElem_mem h1)).1]; exact hj
 unfold en ent
 rw [List.getD_eq_getElem?_getD (l := R.map fun r => r.map V.int), List.getElem?_map, List.getElem?_eq_getElem h1, List.getD_eq_getElem?_getD (l := R), List.getElem?_eq_getElem h1]
 show (R[i].map V.int).getD j .non = V.int (R[i].getD j 0)
 rw [List.getD_eq_getElem?_getD, List.getElem?_map, List.getElem?_eq_getElem h2, List.getD_eq_getElem?_getD, List.getElem?_eq_getElem h2]
 rfl
theorem mk_map {n : Nat} (f : Nat -> Nat -> Int) : (mk n f).map (fun r => r.map V.int) = mkB n fun i j => V.int (f i j) := by
 unfold mk mkB
 rw [List.map_map]
 refine List.map_congr_left fun i _ => ?_
 show ((List.range n).map fun c => f i c).map V.int = _
 rw [List.map_map]
 rfl
theorem renB_int {n : Nat} {R Rn : List (List Int)} (ok : OkRows n R) (hl : R.length = n) (rn : Ren n Rn) : renB n (R.map fun r => r.map V.int) Rn = (renI n R Rn).map fun r => r.map V.int := by
 unfold renI
 rw [mk_map]
 unfold renB
 refine mkB_congr fun i j hi hj => ?_
 rw [en_int ok hl (ixo_lt (rn.at (by decide)) hi) (ixo_lt (rn.at (by decide)) hj)]
 rfl
end My
namespace My
open PySem L2
theorem ints_EG {n : Nat} {R : List (List Int)} (ok : OkRows n R) (hl : R.length = n) : EG n (R.map fun r => r.map V.int) := by
 have row : ∀ i (h : i < R.length), (R.map fun r => r.map V.int).getD i [] = R[i].map V.int := fun i h => by
  rw [List.getD_eq_getElem?_getD, List.getElem?_map, List.getElem?_eq_getElem h]
  rfl
 refine ⟨by rw [List.length_map, hl], fun i hi => ?_, fun i j hi hj => ?_⟩
 ·rw [row i (by exact Om.a1 ‹_› ‹_›), List.length_map]
  exact (ok.row _ (List.getElem_mem _)).1
 ·obtain ⟨h1, h2, h3⟩ := ok.row (R[i]'(by exact Om.a1 ‹_› ‹_›)) (List.getElem_mem _)
  unfold en
  rw [row i (by exact Om.a1 ‹_› ‹_›), List.getD_eq_getElem?_getD, List.getElem?_map, List.getElem?_eq_getElem (by exact Om.a1 ‹_› ‹_›)]
  have := h3 ((R[i]'(by exact Om.a1 ‹_› ‹_›))[j]'(by exact Om.a1 ‹_› ‹_›)) (List.getElem_mem _)
  refine .inr ⟨((R[i]'(by exact Om.a1 ‹_› ‹_›))[j]'(by exact Om.a1 ‹_› ‹_›)).toNat, ?_, by omega⟩
  show V.int _ = V.int _
  congr 1
  omega
noncomputable def spSquare (K : PySem.W.Frag) : Sp := fun vs H Q _ => ∃ (a : Addr) (ns : List Int) (k n : Nat), vs = [.ref a, .int (k : Int), .int (n : Int)] /\ SqL K H a (ns.map V.int) /\ 1 <= n /\ n <= 8 /\ ∀ (t : Addr) (H' : Hp) (R : List (List Int)), Same H H' -> TG H' t R -> OkRows n R -> R.length = n -> Q (.ref t) H'
section
variable {P : Program} {w : World} {K : PySem.W.Frag} {mg : Str -> Option Value} {base : Heap}
structure SqD (K : PySem.W.Frag) (mg : Str -> Option Value) (fC fN fT fR fL fB fA fW fM fG : Addr) (dC dN dT dR dL dB dA dW dM dG : FuncData) : Prop where
 C : Dfn K mg "_law_cell_at" sCell ["_law_script", "_law_k"] fC dC
 N : Dfn K mg "_law_number" sNumber ["_law_script", "_law_k"] fN dN
 T : Dfn K mg "_law_turn" sTurn ["_law_n", "_law_number_here"] fT dT
 R : Dfn K mg "_law_renaming" sRenaming ["_law_script", "_law_k", "_law_n"] fR dR
 L : Dfn K mg "_law_renamed" sRenL ["_law_begun", "_law_renaming_here"] fL dL
 B : Dfn K mg "_law_base" sBase ["_law_n", "_law_number_here"] fB dB
 A : Dfn K mg "_law_along" sAlong ["_law_rows", "_law_one", "_law_other", "_law_column"] fA dA
 W : Dfn K mg "_law_row" sRow ["_law_rows", "_law_made", "_law_digits"] fW dW
 M : Dfn K mg "_law_by_rows" sByRows ["_law_n", "_law_number_here"] fM dM
 G : Dfn K mg "_law_by_rings" sByRings ["_law_n", "_law_number_here"] fG dG
variable {fC fN fT fR fL fB fA fW fM fG : Addr} {dC dN dT dR dL dB dA dW dM dG : FuncData}
theorem scSquare : FnScope ["_law_script", "_law_k", "_law_n", "_law_number_here", "_law_rows"] ["_law_script", "_law_k", "_law_n"] (defScope sSquare) := ⟨rfl, rfl, rfl, by decide +kernel, rfl, by decide +kernel, by decide +kernel⟩
theorem ok_square {f : Addr} {fd : FuncData} (F : Fun K "_law_square" "_law_square" sSquare f fd) (T : Blt mg) (Z : SqD K mg fC fN fT fR fL fB fA fW fM fG dC dN dT dR dL dB dA dW dM dG) : FnOk P w K mg base CX0 11 f fd ["_law_script", "_law_k", "_law_n"] (spSquare K) := by
 have GN : FnOk P w K mg base CX0 10 fN dN ["_law_script", "_law_k"] (spCell K) := (ok_number Z.N.F T Z.C).mono (by decide)
 have GM : FnOk P w K mg base CX0 10 fM dM ["_law_n", "_law_number_here"] spBy := ok_byRows Z.M.F T Z.W
 have GG : FnOk P w K mg base CX0 10 fG dG ["_law_n", "_law_number_here"] spBy := (ok_byRings Z.G.F T Z.B Z.A).mono (by decide)
 have GR : FnOk P w K mg base CX0 10 fR dR ["_law_script", "_law_k", "_law_n"] (spRenaming K) := (ok_renaming Z.R.F T Z.C Z.N Z.T).mono (by decide)
 have GL : FnOk P w K mg base CX0 10 fL dL ["_law_begun", "_law_renaming_here"] spRenamed := (ok_renL Z.L.F T).mono (by decide)
 refine F.ok scSquare (fun vs H Q E h => ?_) (fun cdv A outer s H vs Q E hr h => ?_)
 ·obtain ⟨_, _, _, _, rfl, _⟩ := h
  rfl
 ·obtain ⟨a, ns, k, n, rfl, hS, h1, h8, q⟩ := h
  refine' ⟨_, pss_cons ?s0 (pss_cons (ps_if ?c (pss_one ?d0) (pss_one ?d1)) (pss_one (ps_ret ?r))), ?rd⟩
  case s0 => exact ps_set (i := 3) scSquare.nd rfl (Or.inl rfl) (pe_call GN hr rfl Z.N.m Z.N.F.kp Z.N.b .nil pass0 (pa_cons (pv 0) (pa_cons (pv 1) pa_nil)))
  case c => exact pt_cmpR op_eq (pe_op op_mod (pv 3) pe_int) pe_int (nomark _)
  case d0 => exact ps_set (i := 4) scSquare.nd rfl (Or.inl rfl) (pe_call GM hr rfl Z.M.m Z.M.F.kp Z.M.b .nil pass0 (pa_cons (pv 2) (pa_cons (pe_op op_fdiv (pv 3) pe_int) pa_nil)))
  case d1 => exact ps_set (i := 4) scSquare.nd rfl (Or.inl rfl) (pe_call GG hr rfl Z.G.m Z.G.F.kp Z.G.b .nil pass0 (pa_cons (pv 2) (pa_cons (pe_op op_fdiv (pv 3) pe_int) pa_nil)))
  case r => exact pe_call GL hr rfl Z.L.m Z.L.F.kp Z.L.b .nil pass0 (pa_cons (pe_callTy (call_tupleK K) rfl T.tuple bt_tuple (pa_cons (pe_lc ["_law_row_here"] [none] rfl rfl (pi_listK K (pv 4)) (fun _ _ _ _ _ => pg_c 0) (fun _ _ _ _ _ => pts_nil) (fun _ _ _ _ _ => pe_callTy (call_tupleK K) rfl T.tuple bt_tuple (pa_cons (pv 0) pa_nil))) pa_nil)) (pa_cons (pe_call GR hr rfl Z.R.m Z.R.F.kp Z.R.b .nil pass0 (pa_cons (pv 0) (pa_cons (pe_op op_add (pv 1) pe_int) (pa_cons (pv 2) pa_nil)))) pa_nil))
  case rd =>
   refine ⟨_, rfl, _, rfl, a, ns, k, rfl, hS, fun z => ?_⟩
   refine ⟨_, rfl, _, _, rfl, rfl, (by show (0 : Int) < 2; decide), rfl, _, rfl, ?_⟩
   refine ite2 (fun _ => ?_) (fun _ => ?_)
   all_goals
    refine ⟨_, rfl, _, rfl, _, _, rfl, rfl, ⟨by decide, by decide⟩, n, _, rfl, h1, h8, fun lr R H2 sH2 hL ok hRl => ?_⟩
    obtain ⟨ps, hps, hPs⟩ := id hL
    have hpl : (ps.map V.ref).length = R.length := by rw [List.length_map, hPs.length]
    refine ⟨_, rfl, lr, rfl, ⟨_, SqL.of hps⟩, fun lk hlk => comp_of (wlk_list (xs := ps.map V.ref)) (fun i ys σ H' => ∃ (v : Option V) (qs : List Addr), σ = [v] /\ ys = qs.map V.ref /\ Same H2 H' /\ H' lk = some (.lst ys) /\ Paired (fun p row => H' p = some (.tup row)) qs ((R.map fun r => r.map V.int).take i))
     ⟨none, [], rfl, rfl, Same.new hlk, upd_same, .nil⟩ (fun i ys σ H' zz0 => by obtain ⟨v, qs, _, _, sm, hl, _⟩ := zz0; exact ⟨SqL.of (sm _ _ hps), hl⟩) ?_ ?_⟩
    ·rintro j x ys σ H7 hj ⟨v, qs, rfl, rfl, sm7, hl7, hP7⟩
     rw [List.getElem?_map] at hj
     cases hpj : ps[j]? with
     | none => rw [hpj] at hj; cases hj
     | some p =>
      rw [hpj] at hj
      cases hj
      obtain ⟨r, hrj, hp⟩ := Paired.getL hPs hpj
      refine ⟨_, rfl, p, r.map V.int, rfl, .inl ⟨SqL.of (sm7 _ _ hp), fun tp htp => ?_⟩⟩
      have sm8 : Same H7 (upd H7 tp (.tup (r.map V.int))) := Same.new htp
      have hl9 := sm8 _ _ hl7
      have hjl : j < R.length := (List.getElem?_eq_some_iff.mp hrj).1
      have hql : qs.length = j := by rw [hP7.length, List.length_take, List.length_map]; omega
      refine ⟨hl9, by rw [List.length_map, hql]; exact small1000 (by omega), _, qs ++ [tp], rfl, by rw [List.map_append]; rfl, fun b o e => ?_, upd_same, ?_⟩
      ·rw [upd_ne (ne_of_none e hlk)]
       exact sm8 _ _ (sm7 _ _ e)
      ·have up : ∀ b row, (upd H7 tp (.tup (r.map V.int))) b = some (.tup row) -> (upd (upd H7 tp (.tup (r.map V.int))) lk (.lst (qs.map V.ref ++ [.ref tp]))) b = some (.tup row) := fun b row e => by
        rw [upd_ne (ne_of e hl9 (by intro z; cases z))]
        exact e
       have et : (R.map fun r => r.map V.int).take (j + 1) = (R.map fun r => r.map V.int).take j ++ [r.map V.int] := by rw [List.take_add_one, List.getElem?_map, hrj]; rfl
       rw [et]
       exact Paired.snoc (Paired.mapP hP7 fun q row e => up q row (sm8 _ _ e)) (up tp _ upd_same)
    ·rintro ys σ H7 ⟨v, qs, rfl, rfl, sm7, hl7, hP7⟩
     rw [hpl, List.take_of_length_le (by rw [List.length_map]; exact Nat.le_refl _)] at hP7
     refine ⟨lk, _, rfl, .inl ⟨SqL.of hl7, fun tk htk => ?_⟩⟩
     have sm8 : Same H7 (upd H7 tk (.tup (qs.map V.ref))) := Same.new htk
     have hG8 : GridT (upd H7 tk (.tup (qs.map V.ref))) tk (R.map fun r => r.map V.int) := ⟨qs, upd_same, Paired.mapP hP7 fun _ _ z => sm8 _ _ z⟩
     have s28 := sH2.trans (sm7.trans sm8)
     generalize upd H7 tk (.tup (qs.map V.ref)) = H8 at hG8 s28 ⊢
     refine ⟨_, rfl, _, rfl, _, _, rfl, rfl, _, rfl, a, ns, k + 1, n, rfl, s28.seq hS, h8, fun tr H9 Rn s9 _ hT9 rn => ?_⟩
     have eg := ints_EG ok hRl
     exact ⟨tk, tr, n, _, Rn, rfl, hG8.same s9, eg, hT9, rn, h1, h8, fun t HA sA hGA => by
      rw [renB_int ok hRl rn] at hGA
      exact q t HA _ (s28.trans (s9.trans sA)) (GridT.tg hGA) (renI_ok ok hRl rn).1 (renI_ok ok hRl rn).2⟩
end
end My
namespace My
open PySem L2
noncomputable def spRing : Sp := fun vs H Q _ => ∃ (g : Addr) (n o1 o2 c : Nat) (R : List (List Int)), vs = [.ref g, .int (o1 : Int), .int (o2 : Int), .int (c : Int)] /\ TG H g R /\ OkRows n R /\ R.length = n /\ n <= 8 /\ o1 < n /\ o2 < n /\ c < n /\
 ∀ l H', Same H H' -> H l = none -> H' l = some (.lst ((toI (ringL (stp (R.getD o1 []) (R.getD o2 [])) n c)).map V.int)) -> Q (.ref l) H'
noncomputable def LLn (H0 H : Hp) (a : Addr) (L : List (List Nat)) : Prop := ∃ ps : List Addr, H a = some (.lst (ps.map V.ref)) /\ Paired (fun p (r : List Nat) => H p = some (.lst ((toI r).map V.int)) /\ p ≠ a /\ H0 p = none) ps L
theorem inV_toI (i : Nat) (r : List Nat) : inV (.int (i : Int)) ((toI r).map V.int) = decide (i ∈ r) := by
 rw [inV_ints]
 congr 1
 unfold toI
 rw [eq_iff_iff]
 constructor
 ·intro h
  obtain ⟨c, hc, e⟩ := List.mem_map.mp h
  have : c = i := by exact Om.e1 ‹_›
  rw [<- this]
  exact hc
 ·intro h
  exact List.mem_map.mpr ⟨i, h, rfl⟩
noncomputable def spRings : Sp := fun vs H Q _ => ∃ (g : Addr) (n o1 o2 : Nat) (R : List (List Int)), vs = [.ref g, .int (o1 : Int), .int (o2 : Int)] /\ TG H g R /\ OkRows n R /\ R.length = n /\ n <= 8 /\ o1 < n /\ o2 < n /\ o1 ≠ o2 /\
 ∀ l H', Same H H' -> H l = none -> LLn H H' l (ringsTo (stp (R.getD o1 []) (R.getD o2 [])) n n) -> Q (.ref l) H'
theorem ring_len {n : Nat} {s : Nat -> Nat} (o : One n s) {c : Nat} (hc : c < n) : (ringL s n c).length <= n := nat_len (ring_ok o hc).1.nodup ((ring_ok o hc).1.lt o)
theorem few_rings (s : Nat -> Nat) (n : Nat) : ∀ j, (ringsTo s n j).length <= j
 | 0 => Nat.le_refl _
 | j + 1 => by
  have ih := few_rings s n j
  rw [ringsTo]
  split
  ·rw [List.length_append]; exact Nat.succ_le_succ ih
  ·omega
theorem flat_len {n : Nat} {s : Nat -> Nat} (o : One n s) : ∀ j, j <= n -> (ringsTo s n j).flatten.length <= j * n
 | 0, _ => Nat.zero_le _
 | j + 1, h => by
  have ih := flat_len o j (by exact Om.f4 ‹_›)
  rw [ringsTo]
  have e : (j + 1) * n = j * n + n := Nat.succ_mul j n
  split
  ·have := ring_len o (c := j) (by exact Om.f5 ‹_›)
   rw [List.flatten_append, List.length_append, List.flatten_singleton]
   omega
  ·omega
theorem all_flat (L : List (List Nat)) (i : Nat) : L.all (fun r => decide (i ∉ r)) = !decide (i ∈ L.flatten) := by
 rw [Bool.eq_iff_iff, List.all_eq_true]
 simp
theorem toI_append (a b : List Nat) : toI (a ++ b) = toI a ++ toI b := List.map_append
noncomputable def WRf (H : Hp) (g : Addr) (n o1 o2 c : Nat) (s : Nat -> Nat) (l : Addr) (m : Nat) (σ : St) (H2 : Hp) : Prop :=
 ∃ (acc : List Nat) (x : Nat), σ = [some (.ref g), some (.int (o1 : Int)), some (.int (o2 : Int)), some (.int (c : Int)), some (.ref l), some (.int (x : Int))] /\ Same H H2 /\ H2 l = some (.lst ((toI acc).map V.int)) /\ ((acc = [] /\ x = c) \/ (Path n s c acc /\ x = s (lastN acc) /\ ringF s c (n + 1 - acc.length) acc = ringL s n c)) /\ m = n + 1 - acc.length
section
variable {P : Program} {w : World} {K : PySem.W.Frag} {mg : Str -> Option Value} {base : Heap}
theorem scRf : FnScope ["square", "one", "other", "column", "ring", "here"] ["square", "one", "other", "column"] (defScope sRingFrom) := ⟨rfl, rfl, rfl, by decide +kernel, rfl, by decide +kernel, by decide +kernel⟩
theorem ok_ringFrom {f : Addr} {fd : FuncData} (F : Fun K "ring_from" "ring_from" sRingFrom f fd) : FnOk P w K mg base CX0 1 f fd ["square", "one", "other", "column"] spRing := by
 refine F.ok scRf (fun vs H Q E h => ?_) (fun cdv A outer s H vs Q E hr h => ?_)
 ·obtain ⟨_, _, _, _, _, _, rfl, _⟩ := h
  rfl
 ·obtain ⟨g, n, o1, o2, c, R, rfl, hT, ok, hRl, h8, h1, h2, hc, q⟩ := h
  refine' ⟨_, pss_cons (ps_set (i := 4) scRf.nd rfl (Or.inl rfl) (pe_lst pa_nil)) (pss_cons (ps_set (i := 5) scRf.nd rfl (Or.inl rfl) (pv 3)) (pss_cons (ps_while PassesOwn.never (pt_cmpR (op_notInK K) (pv 5) (pv 4) rfl) (pss_cons ?b0 (pss_one ?b1))) (pss_one (ps_ret (pv 4))))), ?rd⟩
  case b0 => exact ps_expr (pe_bm PySem.F.plainAttrs_list PySem.F.slot_list_append PySem.F.type_list_append mt_append (pv 4) (pa_cons (pv 5) pa_nil))
  case b1 => exact ps_set (i := 5) scRf.nd rfl (Or.inl rfl) (pe_tindex (pe_ix ix_tup (pv 0) (pv 1) (fun _ _ => rfl)) (pa_cons (pe_ix ix_tup (pe_ix ix_tup (pv 0) (pv 2) (fun _ _ => rfl)) (pv 5) (fun _ _ => rfl)) pa_nil))
  case rd =>
   have ra : Row n (R.getD o1 []) := ok.rowAt (by exact Om.a1 ‹_› ‹_›)
   have rb : Row n (R.getD o2 []) := ok.rowAt (by exact Om.a1 ‹_› ‹_›)
   have so := stp_one ra rb
   refine ⟨Nat.zero_le _, fun l hl => ⟨_, rfl, ?_⟩⟩
   refine ⟨WRf H g n o1 o2 c (stp (R.getD o1 []) (R.getD o2 [])) l, ⟨_, [], c, rfl, Same.new hl, upd_same, .inl ⟨rfl, rfl⟩, rfl⟩, ?_⟩
   rintro m σ H2 ⟨acc, x, rfl, sH, hl2, hcase, rfl⟩
   have hxn : x < n := by
    rcases hcase with ⟨_, z⟩ | ⟨pa, z, _⟩
    ·exact Om.x1 ‹_› ‹_›
    ·rw [z]
     exact so.lt _ (pa.lt so _ pa.last_mem)
   have hal : acc.length <= n := by
    rcases hcase with ⟨z, _⟩ | ⟨pa, _, _⟩
    ·rw [z]; exact Nat.zero_le _
    ·exact nat_len pa.nodup (pa.lt so)
   refine ⟨_, rfl, _, rfl, l, _, rfl, .inl (SqL.of hl2), rfl, map_ints_flat _, _, rfl, ?_⟩
   have e3 : (if true = true then !inV (.int (x : Int)) ((toI acc).map V.int) else inV (.int (x : Int)) ((toI acc).map V.int)) = !decide (x ∈ acc) := by rw [if_pos rfl, inV_toI]
   rw [e3]
   refine ite2 (fun hd => ?_) (fun hd => ?_)
   ·have hni : x ∉ acc := by simpa using hd
    refine ⟨fun σ' H' => ∃ m', m' < n + 1 - acc.length /\ WRf H g n o1 o2 c (stp (R.getD o1 []) (R.getD o2 [])) l m' σ' H', fun _ _ z => z, ?_⟩
    refine ⟨_, rfl, .inl ⟨rfl, _, SqL.of hl2⟩, _, rfl, l, _, _, rfl, rfl, hl2, by rw [List.length_map, toI, List.length_map]; exact small1000 (by exact Om.b3 ‹_› ‹_› rfl), ?_⟩
    have s3 : Same H (upd H2 l (.lst ((toI acc).map V.int ++ [.int (x : Int)]))) := fun b u e => by
     rw [upd_ne (ne_of_none e hl)]
     exact sH _ _ e
    have hl3 : (upd H2 l (.lst ((toI acc).map V.int ++ [.int (x : Int)]))) l = some (.lst ((toI (acc ++ [x])).map V.int)) := by rw [upd_same, toI_app, List.map_append]; rfl
    generalize upd H2 l (.lst ((toI acc).map V.int ++ [.int (x : Int)])) = H3 at s3 hl3 ⊢
    have hT3 := hT.same s3
    obtain ⟨xA, pA, a1, a2, a3, a4⟩ := hT3.at (k := o1) (by exact Om.a1 ‹_› ‹_›)
    obtain ⟨xB, pB, b1, b2, b3, b4⟩ := hT3.at (k := o2) (by exact Om.a1 ‹_› ‹_›)
    refine ⟨_, rfl, _, rfl, g, _, _, _, rfl, rfl, SqT.of a1, a3, pA, _, rfl, a4, _, rfl, _, rfl, g, _, _, _, rfl, rfl, SqT.of b1, b3, _, rfl, pB, _, _, _, rfl, rfl, SqT.of b4, int_at (by rw [rb.len]; exact hxn), _, rfl, a4, row_has ra.len ra.nd ra.rg (rb.val hxn), ?_⟩
    have hlast : lastN (acc ++ [x]) = x := lastN_app _ _
    have hpath : Path n (stp (R.getD o1 []) (R.getD o2 [])) c (acc ++ [x]) /\ ringF (stp (R.getD o1 []) (R.getD o2 [])) c (n + 1 - (acc ++ [x]).length) (acc ++ [x]) = ringL (stp (R.getD o1 []) (R.getD o2 [])) n c := by
     rcases hcase with ⟨z1, z2⟩ | ⟨pa, z, hrf⟩
     ·subst z1
      subst z2
      exact ⟨.one hc, rfl⟩
     ·subst z
      have e' : stp (R.getD o1 []) (R.getD o2 []) (lastN acc) ≠ c := fun e => hni (by rw [e]; exact pa.head_mem)
      refine ⟨.more pa hni, ?_⟩
      rw [show n + 1 - acc.length = (n - acc.length) + 1 by omega] at hrf
      rw [ringF, if_neg e'] at hrf
      rw [List.length_append, show n + 1 - (acc.length + [stp (R.getD o1 []) (R.getD o2 []) (lastN acc)].length) = n - acc.length by simp]
      exact hrf
    refine ⟨n + 1 - (acc ++ [x]).length, by rw [List.length_append, List.length_singleton]; omega, acc ++ [x], stp (R.getD o1 []) (R.getD o2 []) x, rfl, s3, hl3, .inr ⟨hpath.1, by rw [hlast], hpath.2⟩, rfl⟩
   ·have hin : x ∈ acc := by simpa using hd
    rcases hcase with ⟨z, _⟩ | ⟨pa, z, hrf⟩
    ·rw [z] at hin
     cases hin
    ·subst z
     have e' := pa.back so hin
     rw [show n + 1 - acc.length = (n - acc.length) + 1 by omega, ringF, if_pos e'] at hrf
     refine ⟨_, rfl, q l H2 sH hl ?_⟩
     rw [hl2, hrf]
theorem scRingsP : FnScope ["square", "one", "other", "found", "passed", "column", "ring"] ["square", "one", "other"] (defScope sRingsP) := ⟨rfl, rfl, rfl, by decide +kernel, rfl, by decide +kernel, by decide +kernel⟩
theorem ok_ringsP {f fR : Addr} {fd dR : FuncData} (F : Fun K "rings" "rings" sRingsP f fd) (T : Blt mg) (DR : Dfn K mg "ring_from" sRingFrom ["square", "one", "other", "column"] fR dR) : FnOk P w K mg base CX0 2 f fd ["square", "one", "other"] spRings := by
 have GR : FnOk P w K mg base CX0 1 fR dR ["square", "one", "other", "column"] spRing := ok_ringFrom DR.F
 refine F.ok scRingsP (fun vs H Q E h => ?_) (fun cdv A outer s H vs Q E hr h => ?_)
 ·obtain ⟨_, _, _, _, _, rfl, _⟩ := h
  rfl
 ·obtain ⟨g, n, o1, o2, R, rfl, hT, ok, hRl, h8, h1, h2, hne, q⟩ := h
  refine' ⟨_, pss_cons (ps_set (i := 3) scRingsP.nd rfl (Or.inl rfl) (pe_lst pa_nil)) (pss_cons (ps_set (i := 4) scRingsP.nd rfl (Or.inl rfl) (pe_lst pa_nil)) (pss_cons (ps_for PassesOwn.never rfl (pi_range1 rfl T.range (pa_cons (pe_callB (call_lenK K) rfl T.len PySem.boot_len (pa_cons (pv 0) pa_nil)) pa_nil)) (pg_name (i := 5) scRingsP.nd rfl (Or.inl rfl)) (pss_one (ps_if ?c (pss_cons ?b0 (pss_cons ?b1 (pss_one ?b2))) pss_nil))) (pss_one (ps_ret (pv 3))))), ?rd⟩
  case c => exact pt_cmpR (op_notInK K) (pv 5) (pv 4) rfl
  case b0 => exact ps_set (i := 6) scRingsP.nd rfl (Or.inl rfl) (pe_call GR hr rfl DR.m DR.F.kp DR.b .nil pass0 (pa_cons (pv 0) (pa_cons (pv 1) (pa_cons (pv 2) (pa_cons (pv 5) pa_nil)))))
  case b1 => exact ps_expr (pe_bm PySem.F.plainAttrs_list PySem.F.slot_list_append PySem.F.type_list_append mt_append (pv 3) (pa_cons (pv 6) pa_nil))
  case b2 => exact ps_expr (pe_bm PySem.F.plainAttrs_list PySem.F.slot_list_extend PySem.F.type_list_extend mt_extend (pv 4) (pa_cons (pv 6) pa_nil))
  case rd =>
   refine ⟨Nat.zero_le _, fun lf hlf => ⟨Nat.zero_le _, fun lp hlp => ?_⟩⟩
   have s0 : Same H (upd H lf (.lst [])) := Same.new hlf
   have s1 : Same (upd H lf (.lst [])) (upd (upd H lf (.lst [])) lp (.lst [])) := Same.new hlp
   have hlp0 : H lp = none := s0.free hlp
   have hfp : lf ≠ lp := fun e => by rw [<- e, upd_same] at hlp; cases hlp
   obtain ⟨gs, hgs, hGs⟩ := id hT
   have hgl : (gs.map V.ref).length = n := by rw [List.length_map, hGs.length, hRl]
   refine ⟨_, rfl, g, _, rfl, .inr (SqT.of ((s0.trans s1) _ _ hgs)), _, rfl, by exact Om.c2, by omega, ?_⟩
   rw [hgl, Int.toNat_natCast]
   generalize hs : stp (R.getD o1 []) (R.getD o2 []) = sp at q
   have so : One n sp := by rw [<- hs]; exact stp_one (ok.rowAt (by exact Om.a1 ‹_› ‹_›)) (ok.rowAt (by exact Om.a1 ‹_› ‹_›))
   refine for_range (lo := 0) (n := n) (fun i σ H2 => ∃ (v5 v6 : Option V) (ps : List Addr), σ = [some (.ref g), some (.int (o1 : Int)), some (.int (o2 : Int)), some (.ref lf), some (.ref lp), v5, v6] /\ Same H H2 /\ H2 lf = some (.lst (ps.map V.ref)) /\ H2 lp = some (.lst ((toI (ringsTo sp n i).flatten).map V.int)) /\ Paired (fun p (r : List Nat) => H2 p = some (.lst ((toI r).map V.int)) /\ p ≠ lf /\ p ≠ lp /\ H p = none) ps (ringsTo sp n i))
    ⟨none, none, [], rfl, s0.trans s1, s1 _ _ upd_same, upd_same, .nil⟩ ?_ ?_
   ·rintro i σ H2 hi ⟨v5, v6, ps, rfl, s2, hf, hp, hPs⟩
    rw [Int.zero_add]
    have hpl : ps.length = (ringsTo sp n i).length := hPs.length
    have hfi := few_rings sp n i
    have hfl := flat_len so i (by exact Om.d1 ‹_›)
    have hii : i * n <= 8 * 8 := Nat.mul_le_mul (by exact Om.b2 ‹_› ‹_› rfl) h8
    refine ⟨_, rfl, _, rfl, lp, _, rfl, .inl (SqL.of hp), rfl, map_ints_flat _, _, rfl, ?_⟩
    have e3 : (if true = true then !inV (.int (i : Int)) ((toI (ringsTo sp n i).flatten).map V.int) else inV (.int (i : Int)) ((toI (ringsTo sp n i).flatten).map V.int)) = (ringsTo sp n i).all fun r => decide (i ∉ r) := by rw [if_pos rfl, inV_toI, all_flat]
    rw [e3]
    refine ite2 (fun hd => ?_) (fun hd => ?_)
    ·have er : ringsTo sp n (i + 1) = ringsTo sp n i ++ [ringL sp n i] := by rw [ringsTo, if_pos hd]
     refine ⟨_, rfl, _, rfl, _, rfl, _, rfl, g, n, o1, o2, i, R, rfl, hT.same s2, ok, hRl, h8, h1, h2, hi, fun p H3 s3 hp0 hp3 => ?_⟩
     rw [hs] at hp3
     have hf3 := s3 _ _ hf
     have hlp3 := s3 _ _ hp
     have hpf : p ≠ lf := fun z => by rw [z, hf] at hp0; cases hp0
     have hpp : p ≠ lp := fun z => by rw [z, hp] at hp0; cases hp0
     refine ⟨_, rfl, .inl ⟨rfl, _, SqL.of hf3⟩, _, rfl, lf, _, _, rfl, rfl, hf3, by rw [List.length_map]; exact small1000 (by omega), ?_⟩
     have g1 : ∀ b, b ≠ lf -> (upd H3 lf (.lst (ps.map V.ref ++ [.ref p]))) b = H3 b := fun b hb => upd_ne hb
     have g0 : (upd H3 lf (.lst (ps.map V.ref ++ [.ref p]))) lf = some (.lst ((ps ++ [p]).map V.ref)) := by rw [upd_same, List.map_append]; rfl
     generalize upd H3 lf (.lst (ps.map V.ref ++ [.ref p])) = H4 at g1 g0 ⊢
     have hp4 : H4 p = some (.lst ((toI (ringL sp n i)).map V.int)) := by rw [g1 _ hpf]; exact hp3
     have hlp4 : H4 lp = some (.lst ((toI (ringsTo sp n i).flatten).map V.int)) := by rw [g1 _ (Ne.symm hfp)]; exact hlp3
     have hrl := ring_len so hi
     refine ⟨_, rfl, .inl ⟨rfl, _, SqL.of hlp4⟩, _, rfl, lp, p, _, _, rfl, rfl, hlp4, hp4, ?_, ?_⟩
     ·refine Nat.le_of_lt (small1000 ?_)
      rw [List.length_map, List.length_map, toI, toI, List.length_map, List.length_map]
      omega
     ·refine ⟨_, _, ps ++ [p], rfl, fun b u e => ?_, ?_, ?_, ?_⟩
      ·rw [upd_ne (ne_of_none e hlp0), g1 _ (ne_of_none e hlf)]
       exact s3 _ _ (s2 _ _ e)
      ·rw [upd_ne hfp]
       exact g0
      ·rw [upd_same, er, List.flatten_append, List.flatten_singleton, toI_append, List.map_append]
      ·rw [er]
       refine Paired.snoc (Paired.mapP hPs fun b r z => ⟨?_, z.2⟩) ⟨?_, hpf, hpp, s2.free hp0⟩
       ·rw [upd_ne z.2.2.1, g1 _ z.2.1]
        exact s3 _ _ z.1
       ·rw [upd_ne hpp]
        exact hp4
    ·have er : ringsTo sp n (i + 1) = ringsTo sp n i := by rw [ringsTo, if_neg hd]
     refine ⟨_, _, ps, rfl, s2, hf, ?_, ?_⟩
     ·rw [er]; exact hp
     ·rw [er]; exact hPs
   ·rintro σ H2 ⟨v5, v6, ps, rfl, s2, hf, hp, hPs⟩
    exact ⟨_, rfl, q lf H2 s2 hlf ⟨ps, hf, Paired.mapP hPs fun _ _ z => ⟨z.1, z.2.1, z.2.2.2⟩⟩⟩
end
end My
namespace My
open PySem L2
noncomputable def lexo {α : Type} [DecidableEq α] (lt : α -> α -> Bool) : List α -> List α -> Bool
 | [], [] => false
 | [], _ :: _ => true
 | _ :: _, [] => false
 | x :: xs, y :: ys => if x = y then lexo lt xs ys else lt x y
structure Ord {α : Type} (lt : α -> α -> Bool) : Prop where
 irr : ∀ x, lt x x = false
 tr : ∀ x y z, lt x y = true -> lt y z = true -> lt x z = true
 tot : ∀ x y, lt x y = false -> lt y x = false -> x = y
section
variable {α : Type} [DecidableEq α] {lt : α -> α -> Bool}
theorem lexo_cons (x y : α) (xs ys : List α) : lexo lt (x :: xs) (y :: ys) = if x = y then lexo lt xs ys else lt x y := by rw [lexo]
theorem lexo_irr : ∀ xs : List α, lexo lt xs xs = false
 | [] => rfl
 | x :: xs => by rw [lexo_cons, if_pos rfl, lexo_irr xs]
theorem lexo_tr (o : Ord lt) : ∀ xs ys zs : List α, lexo lt xs ys = true -> lexo lt ys zs = true -> lexo lt xs zs = true
 | [], [], zs, h, _ => by cases h
 | [], _ :: _, [], _, h => by cases h
 | [], _ :: _, _ :: _, _, _ => rfl
 | _ :: _, [], _, h, _ => by cases h
 | _ :: _, _ :: _, [], _, h => by cases h
 | x :: xs, y :: ys, z :: zs, h1, h2 => by
  rw [lexo_cons] at h1 h2 ⊢
  by_cases e1 : x = y
  ·subst e1
   rw [if_pos rfl] at h1
   by_cases e2 : x = z
   ·rw [if_pos e2] at h2 ⊢
    exact lexo_tr o xs ys zs h1 h2
   ·rw [if_neg e2] at h2 ⊢
    exact h2
  ·rw [if_neg e1] at h1
   by_cases e2 : y = z
   ·subst e2
    rw [if_neg e1]
    exact h1
   ·rw [if_neg e2] at h2
    by_cases e3 : x = z
    ·subst e3
     have := o.tr _ _ _ h1 h2
     rw [o.irr] at this
     cases this
    ·rw [if_neg e3]
     exact o.tr _ _ _ h1 h2
theorem lexo_tot (o : Ord lt) : ∀ xs ys : List α, lexo lt xs ys = false -> lexo lt ys xs = false -> xs = ys
 | [], [], _, _ => rfl
 | [], _ :: _, h, _ => by cases h
 | _ :: _, [], _, h => by cases h
 | x :: xs, y :: ys, h1, h2 => by
  rw [lexo_cons] at h1 h2
  by_cases e1 : x = y
  ·subst e1
   rw [if_pos rfl] at h1 h2
   rw [lexo_tot o xs ys h1 h2]
  ·rw [if_neg e1] at h1
   rw [if_neg (Ne.symm e1)] at h2
   exact absurd (o.tot x y h1 h2) e1
theorem Ord.lexo (o : Ord lt) : Ord (lexo lt) := ⟨lexo_irr, lexo_tr o, lexo_tot o⟩
end
noncomputable def ltI (x y : Int) : Bool := decide (x < y)
theorem ord_int : Ord ltI := ⟨fun x => decide_eq_false (by omega), fun x y z h1 h2 => decide_eq_true (by have := of_decide_eq_true h1; have := of_decide_eq_true h2; omega), fun x y h1 h2 => by have := of_decide_eq_false h1; have := of_decide_eq_false h2; omega⟩
noncomputable def lexI : List Int -> List Int -> Bool := lexo ltI
noncomputable def lexG : List (List Int) -> List (List Int) -> Bool := lexo lexI
theorem ord_lexI : Ord lexI := ord_int.lexo
theorem ord_lexG : Ord lexG := ord_lexI.lexo
theorem lexLt_is : ∀ xs ys : List Int, HT.lexLt xs ys = lexI xs ys
 | [], [] => rfl
 | [], _ :: _ => rfl
 | _ :: _, [] => rfl
 | x :: xs, y :: ys => by
  unfold lexI
  rw [HT.lexLt, lexo_cons, lexLt_is xs ys]
  rfl
theorem first_is : ∀ (F G : List (List Int)) (k i : Nat), F.length = G.length -> F.length - i = k -> i <= F.length -> firstF (fun j => decide (F.getD j [] = G.getD j [])) (fun j => lexI (F.getD j []) (G.getD j [])) k i = lexG (F.drop i) (G.drop i)
 | F, G, 0, i, hl, hk, hi => by
  rw [List.drop_of_length_le (by omega), List.drop_of_length_le (by omega)]
  rfl
 | F, G, k + 1, i, hl, hk, hi => by
  have h1 : i < F.length := by omega
  have h2 : i < G.length := by exact Om.a2 ‹_› ‹_›
  have g1 : F.getD i [] = F[i] := by rw [List.getD_eq_getElem?_getD, List.getElem?_eq_getElem h1]; rfl
  have g2 : G.getD i [] = G[i] := by rw [List.getD_eq_getElem?_getD, List.getElem?_eq_getElem h2]; rfl
  rw [firstF, List.drop_eq_getElem_cons h1, List.drop_eq_getElem_cons h2]
  unfold lexG
  rw [lexo_cons, g1, g2]
  by_cases e : F[i] = G[i]
  ·rw [if_pos (decide_eq_true e), if_pos e]
   exact first_is F G k (i + 1) hl (by omega) h1
  ·rw [if_neg (by rw [decide_eq_true_eq]; exact e), if_neg e]
theorem best_min {α : Type} {lt : α -> α -> Bool} (o : Ord lt) (v : Nat -> α) : ∀ k, argBest (fun i j => lt (v i) (v j)) k <= k /\ ∀ j, j <= k -> lt (v j) (v (argBest (fun i j => lt (v i) (v j)) k)) = false
 | 0 => ⟨Nat.le_refl _, fun j hj => by
   have : j = 0 := by omega
   subst this
   exact o.irr _⟩
 | k + 1 => by
  obtain ⟨h1, h2⟩ := best_min o v k
  have e : argBest (fun i j => lt (v i) (v j)) (k + 1) = if lt (v (k + 1)) (v (argBest (fun i j => lt (v i) (v j)) k)) = true then k + 1 else argBest (fun i j => lt (v i) (v j)) k := rfl
  rw [e]
  cases hb : lt (v (k + 1)) (v (argBest (fun i j => lt (v i) (v j)) k)) with
  | true =>
   rw [if_pos rfl]
   refine ⟨Nat.le_refl _, fun j hj => ?_⟩
   by_cases q : j = k + 1
   ·subst q
    exact o.irr _
   ·have h3 := h2 j (by exact Om.q1 ‹_› ‹_›)
    cases hj2 : lt (v j) (v (k + 1)) with
    | false => rfl
    | true => rw [o.tr _ _ _ hj2 hb] at h3; cases h3
  | false =>
   rw [if_neg Bool.false_ne_true]
   refine ⟨by omega, fun j hj => ?_⟩
   by_cases q : j = k + 1
   ·subst q
    exact hb
   ·exact h2 j (by exact Om.q1 ‹_› ‹_›)
noncomputable def sF (R : List (List Int)) (a b : Nat) : Nat -> Nat := stp (R.getD a []) (R.getD b [])
noncomputable def rgs (n : Nat) (R : List (List Int)) (a b : Nat) : List (List Nat) := ringsTo (sF R a b) n n
noncomputable def leN (x y : Nat) : Bool := decide (x <= y)
noncomputable def sl (n : Nat) (R : List (List Int)) (a b : Nat) : List Int := toI (((rgs n R a b).map List.length).mergeSort leN)
noncomputable def thg (R : List (List Int)) (a : Nat) (w : List Nat) : List Int := inv (w.map fun c => ent R a c)
noncomputable def alongR (n : Nat) (R : List (List Int)) (a : Nat) (w : List Nat) : List (List Int) := [(List.range n).map fun r => (thg R a w).getD (ent R r (w.getD 0 0)).toNat 0, inv (toI w), thg R a w]
structure Hop (n : Nat) (R : List (List Int)) (a b : Nat) (w : List Nat) : Prop where
 ha : a < n
 hb : b < n
 hne : a ≠ b
 hw : w ∈ walksF n (rgs n R a b)
 hm : ∀ c d, c < n -> d < n -> c ≠ d -> lexI (sl n R c d) (sl n R a b) = false
theorem sorted_uniqN : ∀ {a b : List Nat}, a.Perm b -> a.Pairwise (· <= ·) -> b.Pairwise (· <= ·) -> a = b
 | [], b, p, _, _ => List.Perm.nil_eq p
 | x :: a, [], p, _, _ => by have := p.length_eq; cases this
 | x :: a, y :: b, p, ha, hb => by
  have hxy : x = y := by
   have h1 : y ∈ x :: a := p.mem_iff.mpr List.mem_cons_self
   have h2 : x ∈ y :: b := p.mem_iff.mp List.mem_cons_self
   have l1 : x <= y := by
    rcases List.mem_cons.mp h1 with z | z
    ·omega
    ·exact (List.pairwise_cons.mp ha).1 y z
   have l2 : y <= x := by
    rcases List.mem_cons.mp h2 with z | z
    ·omega
    ·exact (List.pairwise_cons.mp hb).1 x z
   omega
  subst hxy
  rw [sorted_uniqN (List.Perm.cons_inv p) (List.pairwise_cons.mp ha).2 (List.pairwise_cons.mp hb).2]
theorem ms_sorted (l : List Nat) : (l.mergeSort leN).Pairwise (· <= ·) := by
 have h := List.pairwise_mergeSort (le := leN) (fun a b c h1 h2 => decide_eq_true (Nat.le_trans (of_decide_eq_true h1) (of_decide_eq_true h2))) (fun a b => by unfold leN; rw [Bool.or_eq_true, decide_eq_true_eq, decide_eq_true_eq]; exact Nat.le_total a b) l
 exact h.imp fun z => of_decide_eq_true z
section
variable {n : Nat} {R Rn : List (List Int)}
theorem sF_one (ok : OkRows n R) (hl : R.length = n) {a b : Nat} (ha : a < n) (hb : b < n) : One n (sF R a b) := stp_one (ent_row ok hl ha) (ent_row ok hl hb)
theorem sF_ent (ok : OkRows n R) (hl : R.length = n) {a b x : Nat} (ha : a < n) (hb : b < n) (hx : x < n) : ent R a (sF R a b x) = ent R b x := stp_ent (ent_row ok hl ha) (ent_row ok hl hb) hx
theorem sF_is (ok : OkRows n R) (hl : R.length = n) {a b x y : Nat} (ha : a < n) (hb : b < n) (hx : x < n) (hy : y < n) (e : ent R a y = ent R b x) : sF R a b x = y :=
 (ent_row ok hl ha).inj ((sF_one ok hl ha hb).lt x hx) hy ((sF_ent ok hl ha hb hx).trans e.symm)
noncomputable def rw_ (Rn : List (List Int)) (k x : Nat) : Nat := ((Rn.getD k []).getD x 0).toNat
theorem rw_lt (rn : Ren n Rn) {k x : Nat} (hk : k < 3) (hx : x < n) : rw_ Rn k x < n := by
 obtain ⟨y, e, hy⟩ := (rn.at hk).val hx
 unfold rw_
 rw [e, Int.toNat_natCast]
 exact hy
theorem rw_at (rn : Ren n Rn) {k x : Nat} (hk : k < 3) (hx : x < n) : (Rn.getD k []).getD x 0 = ((rw_ Rn k x : Nat) : Int) := by
 obtain ⟨y, e, hy⟩ := (rn.at hk).val hx
 unfold rw_
 rw [e, Int.toNat_natCast]
theorem rw_ix (rn : Ren n Rn) {k x : Nat} (hk : k < 3) (hx : x < n) : ixo (Rn.getD k []) (rw_ Rn k x) = x := idx_of (rn.at hk) hx (rw_lt rn hk hx) (rw_at rn hk hx)
theorem ix_rw (rn : Ren n Rn) {k x : Nat} (hk : k < 3) (hx : x < n) : rw_ Rn k (ixo (Rn.getD k []) x) = x := by
 unfold rw_ ixo
 rw [(idx_at (rn.at hk) hx).2, Int.toNat_natCast]
theorem rw_inj (rn : Ren n Rn) {k x y : Nat} (hk : k < 3) (hx : x < n) (hy : y < n) (e : rw_ Rn k x = rw_ Rn k y) : x = y := by rw [<- rw_ix rn hk hx, e, rw_ix rn hk hy]
theorem ren_ent (rn : Ren n Rn) (ok : OkRows n R) (hl : R.length = n) {a x : Nat} (ha : a < n) (hx : x < n) : ent (renI n R Rn) (rw_ Rn 0 a) (rw_ Rn 1 x) = ((rw_ Rn 2 (ent R a x).toNat : Nat) : Int) := renI_cell rn ok hl (trip_of ok hl ha hx)
noncomputable def thO (n : Nat) (Rn : List (List Int)) (x : Nat) : Nat := if x < n then rw_ Rn 1 x else x
noncomputable def thI (n : Nat) (Rn : List (List Int)) (x : Nat) : Nat := if x < n then ixo (Rn.getD 1 []) x else x
theorem conj_ren (rn : Ren n Rn) (ok : OkRows n R) (hl : R.length = n) {a b : Nat} (ha : a < n) (hb : b < n) : Conj n (sF R a b) (sF (renI n R Rn) (rw_ Rn 0 a) (rw_ Rn 0 b)) (thO n Rn) (thI n Rn) := by
 have l1 : ∀ x, x < n -> thO n Rn x < n := fun x hx => by unfold thO; rw [if_pos hx]; exact rw_lt rn (by decide) hx
 have l2 : ∀ x, x < n -> thI n Rn x < n := fun x hx => by unfold thI; rw [if_pos hx]; exact ixo_lt (rn.at (by decide)) hx
 obtain ⟨ok', hl'⟩ := renI_ok ok hl rn
 refine ⟨fun x => ?_, fun x => ?_, l1, l2, fun x hx => ?_, (sF_one ok hl ha hb).lt⟩
 ·by_cases hx : x < n
  ·unfold thI
   rw [if_pos (l1 x hx)]
   unfold thO
   rw [if_pos hx]
   exact rw_ix rn (by decide) hx
  ·unfold thI thO
   rw [if_neg hx, if_neg hx]
 ·by_cases hx : x < n
  ·unfold thO
   rw [if_pos (l2 x hx)]
   unfold thI
   rw [if_pos hx]
   exact ix_rw rn (by decide) hx
  ·unfold thI thO
   rw [if_neg hx, if_neg hx]
 ·have hs := (sF_one ok hl ha hb).lt x hx
  refine sF_is ok' hl' (rw_lt rn (by decide) ha) (rw_lt rn (by decide) hb) (l1 x hx) (l1 _ hs) ?_
  unfold thO
  rw [if_pos hx, if_pos hs, ren_ent rn ok hl ha hs, ren_ent rn ok hl hb hx, sF_ent ok hl ha hb hx]
theorem sl_conj (rn : Ren n Rn) (ok : OkRows n R) (hl : R.length = n) {a b : Nat} (ha : a < n) (hb : b < n) : sl n (renI n R Rn) (rw_ Rn 0 a) (rw_ Rn 0 b) = sl n R a b := by
 obtain ⟨ok', hl'⟩ := renI_ok ok hl rn
 obtain ⟨ls, p1, p2, pw⟩ := conj_lens (conj_ren rn ok hl ha hb) (rings_cov (sF_one ok hl ha hb)) (rings_cov (sF_one ok' hl' (rw_lt rn (by decide) ha) (rw_lt rn (by decide) hb)))
 have e1 := sorted_uniqN (p1.trans (List.mergeSort_perm _ leN).symm) pw (ms_sorted _)
 have e2 := sorted_uniqN (p2.trans (List.mergeSort_perm _ leN).symm) pw (ms_sorted _)
 unfold sl rgs
 rw [<- e1, <- e2]
theorem walk_cols (ok : OkRows n R) (hl : R.length = n) {a b : Nat} (ha : a < n) (hb : b < n) {w : List Nat} (hw : w ∈ walksF n (rgs n R a b)) : w.Nodup /\ ∀ x, x ∈ w ↔ x < n := by
 obtain ⟨ls, al⟩ := (walks_alg (rings_cov (sF_one ok hl ha hb)) (few_rings _ _ _)).mp hw
 have go : ∀ {U : Nat -> Prop} {w ls : List Nat}, Alg (sF R a b) U w ls -> w.Nodup /\ ∀ x, x ∈ w ↔ U x := by
  intro U w ls al
  induction al with
  | nil h => exact ⟨List.nodup_nil, fun x => ⟨fun z => (by cases z), fun z => absurd z (h x)⟩⟩
  | @step U c w ls hc hU _ _ ih =>
   refine ⟨List.nodup_append.mpr ⟨hc.nd, ih.1, fun x hx y hy e => ?_⟩, fun x => ?_⟩
   ·subst e
    exact ((ih.2 x).mp hy).2 hx
   ·rw [List.mem_append, ih.2 x]
    by_cases q : x ∈ c
    ·exact ⟨fun _ => hU x q, fun _ => .inl q⟩
    ·exact ⟨fun z => (z.resolve_left q).1, fun z => .inr ⟨z, q⟩⟩
 exact go al
end
end My
namespace My
open PySem L2
theorem idx_map {α β : Type} [DecidableEq α] [DecidableEq β] {f : α -> β} : ∀ (l : List α) (x : α), (∀ y ∈ l, f y = f x -> y = x) -> (l.map f).idxOf (f x) = l.idxOf x
 | [], _, _ => rfl
 | y :: l, x, h => by
  rw [List.map_cons, List.idxOf_cons, List.idxOf_cons]
  by_cases e : y = x
  ·subst e
   simp
  ·have e' : f y ≠ f x := fun z => e (h y List.mem_cons_self z)
   rw [show (f y == f x) = false by simpa using e', show (y == x) = false by simpa using e, idx_map l x fun z hz => h z (List.mem_cons_of_mem _ hz)]
structure Cols (n : Nat) (w : List Nat) : Prop where
 nd : w.Nodup
 all : ∀ x, x ∈ w ↔ x < n
theorem Cols.len {n : Nat} {w : List Nat} (c : Cols n w) : w.length = n := by
 have p : w.Perm (List.range n) := (List.perm_ext_iff_of_nodup c.nd List.nodup_range).mpr fun x => by rw [c.all x, List.mem_range]
 rw [p.length_eq, List.length_range]
theorem Cols.turn {n : Nat} {w : List Nat} (c : Cols n w) : Turn n (toI w) := by
 refine ⟨by unfold toI; rw [List.length_map]; exact c.len, ?_, fun x hx => ?_⟩
 ·unfold toI
  exact List.nodup_iff_pairwise_ne.mpr (List.pairwise_map.mpr ((List.nodup_iff_pairwise_ne.mp c.nd).imp fun q e => q (by exact Om.e1 ‹_›)))
 ·unfold toI at hx
  obtain ⟨y, hy, rfl⟩ := List.mem_map.mp hx
  have := (c.all y).mp hy
  omega
section
variable {n : Nat} {R : List (List Int)} {w : List Nat} {a : Nat}
theorem top_turn (ok : OkRows n R) (hl : R.length = n) (c : Cols n w) (ha : a < n) : Turn n (w.map fun x => ent R a x) := by
 refine ⟨by rw [List.length_map]; exact c.len, ?_, fun x hx => ?_⟩
 ·refine List.nodup_iff_pairwise_ne.mpr (List.pairwise_map.mpr (List.Pairwise.imp_of_mem ?_ (List.nodup_iff_pairwise_ne.mp c.nd)))
  intro x y hx hy q e
  exact q ((ent_row ok hl ha).inj ((c.all x).mp hx) ((c.all y).mp hy) e)
 ·obtain ⟨y, hy, rfl⟩ := List.mem_map.mp hx
  exact ent_rg' ok hl ha ((c.all y).mp hy)
theorem Cols.zero (c : Cols n w) (h1 : 1 <= n) : w.getD 0 0 < n := by
 have hp : 0 < w.length := by rw [c.len]; exact h1
 rw [gDN hp]
 exact (c.all _).mp (List.getElem_mem _)
theorem ent_nat (ok : OkRows n R) (hl : R.length = n) {i j : Nat} (hi : i < n) (hj : j < n) : ent R i j = (((ent R i j).toNat : Nat) : Int) /\ (ent R i j).toNat < n := by
 have := ent_rg' ok hl hi hj
 exact ⟨by omega, by omega⟩
theorem al0 (ok : OkRows n R) (hl : R.length = n) (c : Cols n w) (h1 : 1 <= n) (ha : a < n) {r : Nat} (hr : r < n) : ((alongR n R a w).getD 0 []).getD r 0 = (((w.map fun x => ent R a x).idxOf (ent R r (w.getD 0 0)) : Nat) : Int) := by
 have t := top_turn ok hl c ha
 obtain ⟨e1, e2⟩ := ent_nat ok hl hr (c.zero h1)
 show ((List.range n).map fun r => (thg R a w).getD (ent R r (w.getD 0 0)).toNat 0).getD r 0 = _
 rw [List.getD_eq_getElem?_getD, List.getElem?_map, List.getElem?_range hr]
 show (thg R a w).getD (ent R r (w.getD 0 0)).toNat 0 = _
 unfold thg
 rw [inv_at t e2, <- e1]
theorem al1 (c : Cols n w) {x : Nat} (hx : x < n) : ((alongR n R a w).getD 1 []).getD x 0 = (((toI w).idxOf (x : Int) : Nat) : Int) := inv_at c.turn hx
theorem al2 (ok : OkRows n R) (hl : R.length = n) (c : Cols n w) (ha : a < n) {t : Nat} (ht : t < n) : ((alongR n R a w).getD 2 []).getD t 0 = (((w.map fun x => ent R a x).idxOf (t : Int) : Nat) : Int) := inv_at (top_turn ok hl c ha) ht
theorem along_ren (ok : OkRows n R) (hl : R.length = n) (c : Cols n w) (h1 : 1 <= n) (ha : a < n) : Ren n (alongR n R a w) := by
 have t := top_turn ok hl c ha
 refine Ren.of3 (Turn.of (by rw [List.length_map, List.length_range]) (fun i hi => ?_) fun i j hi hj e => ?_) c.turn.inv t.inv
 ·have h := al0 ok hl c h1 ha hi
  obtain ⟨e1, e2⟩ := ent_nat ok hl hi (c.zero h1)
  exact ⟨_, h, by rw [e1]; exact (idx_at t e2).1⟩
 ·have hi' := al0 ok hl c h1 ha hi
  have hj' := al0 ok hl c h1 ha hj
  obtain ⟨e1, e2⟩ := ent_nat ok hl hi (c.zero h1)
  obtain ⟨e3, e4⟩ := ent_nat ok hl hj (c.zero h1)
  have e5 : ((alongR n R a w).getD 0 []).getD i 0 = ((alongR n R a w).getD 0 []).getD j 0 := e
  rw [hi', hj'] at e5
  have k1 := (idx_at t e2).2
  have k2 := (idx_at t e4).2
  rw [<- e1] at k1
  rw [<- e3] at k2
  have : (w.map fun x => ent R a x).idxOf (ent R i (w.getD 0 0)) = (w.map fun x => ent R a x).idxOf (ent R j (w.getD 0 0)) := by exact Om.e1 ‹_›
  rw [this, k2] at k1
  exact ent_col ok hl hi hj (c.zero h1) k1.symm
theorem walk_Cols (ok : OkRows n R) (hl : R.length = n) {b : Nat} (ha : a < n) (hb : b < n) (hw : w ∈ walksF n (rgs n R a b)) : Cols n w := ⟨(walk_cols ok hl ha hb hw).1, (walk_cols ok hl ha hb hw).2⟩
theorem along_first (ok : OkRows n R) (hl : R.length = n) (c : Cols n w) (h1 : 1 <= n) (ha : a < n) {j : Nat} (hj : j < n) : ent (renI n R (alongR n R a w)) 0 j = (j : Int) /\ ent (renI n R (alongR n R a w)) j 0 = (j : Int) := by
 have rn := along_ren ok hl c h1 ha
 have t := top_turn ok hl c ha
 have hwl : w.length = n := c.len
 have wj : w.getD j 0 < n := by rw [gDN (by exact Om.a1 ‹_› ‹_›)]; exact (c.all _).mp (List.getElem_mem _)
 have ixw : ∀ k, k < n -> (toI w).idxOf ((w.getD k 0 : Nat) : Int) = k := fun k hk => by
  refine idx_of c.turn hk (by rw [gDN (by exact Om.a1 ‹_› ‹_›)]; exact (c.all _).mp (List.getElem_mem _)) ?_
  unfold toI
  rw [List.getD_eq_getElem?_getD, List.getElem?_map, List.getElem?_eq_getElem (by exact Om.a1 ‹_› ‹_›), gDN (by exact Om.a1 ‹_› ‹_›)]
  rfl
 have ixt : ∀ k, k < n -> (w.map fun x => ent R a x).idxOf (ent R a (w.getD k 0)) = k := fun k hk => by
  have wk : w.getD k 0 < n := by rw [gDN (by exact Om.a1 ‹_› ‹_›)]; exact (c.all _).mp (List.getElem_mem _)
  obtain ⟨e1, e2⟩ := ent_nat ok hl ha wk
  rw [e1]
  refine idx_of t hk e2 ?_
  rw [<- e1, List.getD_eq_getElem?_getD, List.getElem?_map, List.getElem?_eq_getElem (by exact Om.a1 ‹_› ‹_›), gDN (by exact Om.a1 ‹_› ‹_›)]
  rfl
 have cell : ∀ r k, r < n -> k < n -> ent (renI n R (alongR n R a w)) (rw_ (alongR n R a w) 0 r) (rw_ (alongR n R a w) 1 (w.getD k 0)) = ((rw_ (alongR n R a w) 2 (ent R r (w.getD k 0)).toNat : Nat) : Int) := fun r k hr hk => ren_ent rn ok hl hr (by rw [gDN (by exact Om.a1 ‹_› ‹_›)]; exact (c.all _).mp (List.getElem_mem _))
 have c1 : ∀ k, k < n -> rw_ (alongR n R a w) 1 (w.getD k 0) = k := fun k hk => by
  unfold rw_
  rw [al1 c (by rw [gDN (by exact Om.a1 ‹_› ‹_›)]; exact (c.all _).mp (List.getElem_mem _)), ixw k hk, Int.toNat_natCast]
 have r0 : ∀ r, r < n -> rw_ (alongR n R a w) 0 r = rw_ (alongR n R a w) 2 (ent R r (w.getD 0 0)).toNat := fun r hr => by
  obtain ⟨e1, e2⟩ := ent_nat ok hl hr (c.zero h1)
  unfold rw_
  rw [al0 ok hl c h1 ha hr, al2 ok hl c ha e2, <- e1]
 constructor
 ·have h := cell a j ha hj
  obtain ⟨e1, e2⟩ := ent_nat ok hl ha (c.zero h1)
  obtain ⟨e3, e4⟩ := ent_nat ok hl ha wj
  have z0 : rw_ (alongR n R a w) 0 a = 0 := by
   unfold rw_
   rw [al0 ok hl c h1 ha ha, ixt 0 (by exact Om.f5 ‹_›)]
   rfl
  have z2 : rw_ (alongR n R a w) 2 (ent R a (w.getD j 0)).toNat = j := by
   unfold rw_
   rw [al2 ok hl c ha e4, <- e3, ixt j hj, Int.toNat_natCast]
  rw [z0, c1 j hj, z2] at h
  exact h
 ·have hr := ixo_lt (rn.at (k := 0) (by decide)) hj
  have h := cell _ 0 hr (by exact Om.f5 ‹_›)
  rw [<- r0 _ hr, ix_rw rn (by decide) hj, c1 0 (by exact Om.f5 ‹_›)] at h
  exact h
end
section
variable {n : Nat} {R Rn : List (List Int)}
theorem tho_at {x : Nat} (hx : x < n) : thO n Rn x = rw_ Rn 1 x := by unfold thO; rw [if_pos hx]
theorem Cols.map (rn : Ren n Rn) {w : List Nat} (c : Cols n w) : Cols n (w.map (thO n Rn)) := by
 refine ⟨List.nodup_iff_pairwise_ne.mpr (List.pairwise_map.mpr (List.Pairwise.imp_of_mem ?_ (List.nodup_iff_pairwise_ne.mp c.nd))), fun x => ⟨fun h => ?_, fun h => ?_⟩⟩
 ·intro x y hx hy q e
  have hx := (c.all x).mp hx
  have hy := (c.all y).mp hy
  rw [tho_at hx, tho_at hy] at e
  exact q (rw_inj rn (by decide) hx hy e)
 ·obtain ⟨y, hy, rfl⟩ := List.mem_map.mp h
  have hy := (c.all y).mp hy
  rw [tho_at hy]
  exact rw_lt rn (by decide) hy
 ·have hi := ixo_lt (rn.at (k := 1) (by decide)) h
  exact List.mem_map.mpr ⟨_, (c.all _).mpr hi, by rw [tho_at hi]; exact ix_rw rn (by decide) h⟩
theorem same_form (ok : OkRows n R) (hl : R.length = n) (rn : Ren n Rn) {w : List Nat} (c : Cols n w) (h1 : 1 <= n) {a : Nat} (ha : a < n) :
  renI n (renI n R Rn) (alongR n (renI n R Rn) (rw_ Rn 0 a) (w.map (thO n Rn))) = renI n R (alongR n R a w) := by
 obtain ⟨ok', hl'⟩ := renI_ok ok hl rn
 have c' := c.map rn
 have ha' := rw_lt rn (k := 0) (by decide) ha
 have rh := along_ren ok hl c h1 ha
 have rh' := along_ren ok' hl' c' h1 ha'
 have wl : w.length = n := c.len
 have w0 : (w.map (thO n Rn)).getD 0 0 = rw_ Rn 1 (w.getD 0 0) := by
  rw [map_at (by omega), tho_at (c.zero h1)]
 have top : ((w.map (thO n Rn)).map fun x => ent (renI n R Rn) (rw_ Rn 0 a) x) = (w.map fun x => ent R a x).map fun t => ((rw_ Rn 2 t.toNat : Nat) : Int) := by
  rw [List.map_map, List.map_map]
  refine List.map_congr_left fun x hx => ?_
  have hx := (c.all x).mp hx
  show ent (renI n R Rn) (rw_ Rn 0 a) (thO n Rn x) = ((rw_ Rn 2 (ent R a x).toNat : Nat) : Int)
  rw [tho_at hx]
  exact ren_ent rn ok hl ha hx
 have tix : ∀ t : Nat, t < n -> ((w.map fun x => ent R a x).map fun t => ((rw_ Rn 2 t.toNat : Nat) : Int)).idxOf ((rw_ Rn 2 t : Nat) : Int) = (w.map fun x => ent R a x).idxOf (t : Int) := fun t ht => by
  have h := idx_map (f := fun t : Int => ((rw_ Rn 2 t.toNat : Nat) : Int)) (w.map fun x => ent R a x) (t : Int) fun y hy e => by
   have hy := (top_turn ok hl c ha).rg y hy
   have e' : rw_ Rn 2 y.toNat = rw_ Rn 2 t := by
    have : ((rw_ Rn 2 y.toNat : Nat) : Int) = ((rw_ Rn 2 ((t : Int)).toNat : Nat) : Int) := e
    rw [Int.toNat_natCast] at this
    exact Om.e1 ‹_›
   have := rw_inj rn (by decide) (by omega) ht e'
   omega
  rw [Int.toNat_natCast] at h
  exact h
 have key : ∀ x, Trip n R x -> ∀ k, k < 3 -> rnE (alongR n (renI n R Rn) (rw_ Rn 0 a) (w.map (thO n Rn))) (rnE Rn x) k = rnE (alongR n R a w) x k := fun x tx k hk => by
  rcases k with _ | _ | _ | k
  ·show ((((alongR n (renI n R Rn) (rw_ Rn 0 a) (w.map (thO n Rn))).getD 0 []).getD (rw_ Rn 0 (x 0)) 0)).toNat = (((alongR n R a w).getD 0 []).getD (x 0) 0).toNat
   obtain ⟨e1, e2⟩ := ent_nat ok hl tx.h0 (c.zero h1)
   rw [al0 ok' hl' c' h1 ha' (rw_lt rn (by decide) tx.h0), al0 ok hl c h1 ha tx.h0, w0, ren_ent rn ok hl tx.h0 (c.zero h1), top, tix _ e2, <- e1]
  ·show ((((alongR n (renI n R Rn) (rw_ Rn 0 a) (w.map (thO n Rn))).getD 1 []).getD (rw_ Rn 1 (x 1)) 0)).toNat = (((alongR n R a w).getD 1 []).getD (x 1) 0).toNat
   rw [al1 c' (rw_lt rn (by decide) tx.h1), al1 c tx.h1]
   congr 2
   have e : toI (w.map (thO n Rn)) = (toI w).map fun t => ((rw_ Rn 1 t.toNat : Nat) : Int) := by
    unfold toI
    rw [List.map_map, List.map_map]
    refine List.map_congr_left fun y hy => ?_
    show ((thO n Rn y : Nat) : Int) = ((rw_ Rn 1 ((y : Int)).toNat : Nat) : Int)
    rw [tho_at ((c.all y).mp hy), Int.toNat_natCast]
   have h := idx_map (f := fun t : Int => ((rw_ Rn 1 t.toNat : Nat) : Int)) (toI w) ((x 1 : Nat) : Int) fun y hy e => by
    have hy := c.turn.rg y hy
    have e' : rw_ Rn 1 y.toNat = rw_ Rn 1 (x 1) := by
     have : ((rw_ Rn 1 y.toNat : Nat) : Int) = ((rw_ Rn 1 (((x 1 : Nat) : Int)).toNat : Nat) : Int) := e
     rw [Int.toNat_natCast] at this
     exact Om.e1 ‹_›
    have := rw_inj rn (by decide) (by omega) tx.h1 e'
    omega
   rw [Int.toNat_natCast] at h
   rw [e]
   exact h
  ·show ((((alongR n (renI n R Rn) (rw_ Rn 0 a) (w.map (thO n Rn))).getD 2 []).getD (rw_ Rn 2 (x 2)) 0)).toNat = (((alongR n R a w).getD 2 []).getD (x 2) 0).toNat
   rw [al2 ok' hl' c' ha' (rw_lt rn (by decide) tx.h2), al2 ok hl c ha tx.h2, top, tix _ tx.h2]
  ·omega
 obtain ⟨okF, hlF⟩ := renI_ok ok hl rh
 obtain ⟨okF', hlF'⟩ := renI_ok ok' hl' rh'
 refine ext_gen hlF' (fun r h => (okF'.row r h).1) hlF (fun r h => (okF.row r h).1) fun i j hi hj => ?_
 obtain ⟨x, tx, hx⟩ := renI_back rh ok hl (trip_of okF hlF hi hj)
 have ei : i = rnE (alongR n R a w) x 0 := hx 0 (by decide)
 have ej : j = rnE (alongR n R a w) x 1 := hx 1 (by decide)
 have tx' : Trip n (renI n R Rn) (rnE Rn x) := ⟨(rnE_at rn (by decide) tx.h0).2.1, (rnE_at rn (by decide) tx.h1).2.1, (rnE_at rn (by decide) tx.h2).2.1, renI_cell rn ok hl tx⟩
 have h1' := renI_cell rh' ok' hl' tx'
 have h2' := renI_cell rh ok hl tx
 rw [key x tx 0 (by decide), key x tx 1 (by decide), key x tx 2 (by decide), <- h2', <- ei, <- ej] at h1'
 exact h1'
noncomputable def Cand (n : Nat) (R F : List (List Int)) : Prop := ∃ (a b : Nat) (w : List Nat), Hop n R a b w /\ F = renI n R (alongR n R a w)
theorem Hop.cols {a b : Nat} {w : List Nat} (h : Hop n R a b w) (ok : OkRows n R) (hl : R.length = n) : Cols n w := walk_Cols ok hl h.ha h.hb h.hw
theorem Cand.to (ok : OkRows n R) (hl : R.length = n) (rn : Ren n Rn) {F : List (List Int)} (h : Cand n R F) : Cand n (renI n R Rn) F := by
 obtain ⟨a, b, w, hp, rfl⟩ := h
 obtain ⟨ok', hl'⟩ := renI_ok ok hl rn
 have c := hp.cols ok hl
 have h1 : 1 <= n := by have := hp.ha; omega
 refine ⟨rw_ Rn 0 a, rw_ Rn 0 b, w.map (thO n Rn), ⟨rw_lt rn (by decide) hp.ha, rw_lt rn (by decide) hp.hb, fun e => hp.hne (rw_inj rn (by decide) hp.ha hp.hb e), ?_, fun x y hx hy hxy => ?_⟩, (same_form ok hl rn c h1 hp.ha).symm⟩
 ·exact conj_walks (conj_ren rn ok hl hp.ha hp.hb) (rings_cov (sF_one ok hl hp.ha hp.hb)) (rings_cov (sF_one ok' hl' (rw_lt rn (by decide) hp.ha) (rw_lt rn (by decide) hp.hb))) (few_rings _ _ _) (few_rings _ _ _) hp.hw
 ·have ix := ixo_lt (rn.at (k := 0) (by decide)) hx
  have iy := ixo_lt (rn.at (k := 0) (by decide)) hy
  have e1 := ix_rw rn (k := 0) (by decide) hx
  have e2 := ix_rw rn (k := 0) (by decide) hy
  have h := hp.hm _ _ ix iy fun e => hxy (by rw [<- e1, <- e2, e])
  have s := sl_conj rn ok hl ix iy
  rw [e1, e2] at s
  rw [s, sl_conj rn ok hl hp.ha hp.hb]
  exact h
theorem ren_undI (ok : OkRows n R) (hl : R.length = n) (rn : Ren n Rn) : renI n (renI n R Rn) (undR Rn) = R := by
 obtain ⟨ok', hl'⟩ := renI_ok ok hl rn
 have h := ren_und (ints_EG ok hl) rn
 rw [renB_int ok hl rn, renB_int ok' hl' rn.und] at h
 have inj : ∀ {A B : List (List Int)}, (A.map fun r => r.map V.int) = (B.map fun r => r.map V.int) -> A = B := by
  intro A
  induction A with
  | nil => intro B e; cases B with
   | nil => rfl
   | cons _ _ => cases e
  | cons x A ih => intro B e; cases B with
   | nil => cases e
   | cons y B =>
    rw [List.map_cons, List.map_cons, List.cons.injEq] at e
    rw [ih e.2]
    have h2 : ∀ {p q : List Int}, p.map V.int = q.map V.int -> p = q := by
     intro p
     induction p with
     | nil => intro q e; cases q with
      | nil => rfl
      | cons _ _ => cases e
     | cons u p ih => intro q e; cases q with
      | nil => cases e
      | cons v q =>
       rw [List.map_cons, List.map_cons, List.cons.injEq, V.int.injEq] at e
       rw [e.1, ih e.2]
    rw [h2 e.1]
 exact inj h
theorem Cand.iff (ok : OkRows n R) (hl : R.length = n) (rn : Ren n Rn) {F : List (List Int)} : Cand n R F ↔ Cand n (renI n R Rn) F := by
 obtain ⟨ok', hl'⟩ := renI_ok ok hl rn
 refine ⟨fun h => h.to ok hl rn, fun h => ?_⟩
 have := h.to ok' hl' rn.und
 rwa [ren_undI ok hl rn] at this
noncomputable def Form (n : Nat) (R F : List (List Int)) : Prop := Cand n R F /\ ∀ G, Cand n R G -> lexG G F = false
theorem Form.ren (ok : OkRows n R) (hl : R.length = n) (rn : Ren n Rn) {F : List (List Int)} (h : Form n R F) : Form n (renI n R Rn) F := ⟨h.1.to ok hl rn, fun G hG => h.2 G ((Cand.iff ok hl rn).mpr hG)⟩
end
end My
namespace My
open PySem L2
theorem walks_fuel : ∀ (f g : Nat) (C : List (List Nat)), C.length <= f -> C.length <= g -> walksF f C = walksF g C
 | f, g, [], _, _ => by cases f <;> cases g <;> rfl
 | 0, _, _ :: _, h, _ => by simp at h
 | _, 0, _ :: _, _, h => by simp at h
 | f + 1, g + 1, c :: C, hf, hg => by
  rw [walks_succ, walks_succ]
  have h : ∀ i ∈ List.range (c :: C).length, walksF f ((c :: C).take i ++ (c :: C).drop (i + 1)) = walksF g ((c :: C).take i ++ (c :: C).drop (i + 1)) := fun i hi => by
   have hi := List.mem_range.mp hi
   have e : ((c :: C).take i ++ (c :: C).drop (i + 1)).length = C.length := by
    rw [List.length_append, List.length_take, List.length_drop]
    simp only [List.length_cons] at hi ⊢
    omega
   simp only [List.length_cons] at hf hg
   exact walks_fuel f g _ (by omega) (by omega)
  rw [List.flatMap_def, List.flatMap_def]
  congr 1
  refine List.map_congr_left fun i hi => ?_
  rw [h i hi]
termination_by f => f
noncomputable def LL (H : Hp) (l : Addr) (C : List (List Nat)) : Prop := ∃ ps : List Addr, H l = some (.lst (ps.map V.ref)) /\ Paired (fun p (r : List Nat) => H p = some (.lst ((toI r).map V.int))) ps C
theorem LL.same {H H1 : Hp} {l : Addr} {C : List (List Nat)} (g : LL H l C) (x : Same H H1) : LL H1 l C :=
 let ⟨ps, h, r⟩ := g
 ⟨ps, x _ _ h, Paired.mapP r fun _ _ z => x _ _ z⟩
theorem toI_len (l : List Nat) : (toI l).length = l.length := List.length_map _
theorem fm_len {C : List (List Nat)} {m : Nat} (h : m = C.length) : (List.range m).filterMap (fun j => some (V.int (((C.getD j []).length : Nat) : Int))) = (toI (C.map List.length)).map V.int := by
 subst h
 rw [filterMap_some]
 unfold toI
 rw [List.map_map, List.map_map]
 refine List.ext_getElem? fun j => ?_
 rw [List.getElem?_map, List.getElem?_map]
 by_cases hj : j < C.length
 ·rw [List.getElem?_range hj, List.getElem?_eq_getElem hj]
  show some (V.int (((C.getD j []).length : Nat) : Int)) = some (V.int ((C[j].length : Nat) : Int))
  rw [gDL hj]
 ·rw [List.getElem?_eq_none (by rw [List.length_range]; omega), List.getElem?_eq_none (by omega)]
  rfl
theorem lens_sorted {l : List Nat} {ns : List Int} (p : ns.Perm (toI l)) (h : ns.Pairwise (· <= ·)) : ns = toI (l.mergeSort leN) := by
 refine sorted_uniq (p.trans ?_) h ?_
 ·unfold toI
  exact ((List.mergeSort_perm l leN).map _).symm
 ·unfold toI
  rw [List.pairwise_map]
  exact (ms_sorted l).imp fun z => by omega
noncomputable def spLengths : Sp := fun vs H Q _ => ∃ (l : Addr) (C : List (List Nat)), vs = [.ref l] /\ LL H l C /\ C.length <= 8 /\ ∀ t H', H t = none -> Same H H' -> H' t = some (.lst ((toI ((C.map List.length).mergeSort leN)).map V.int)) -> Q (.ref t) H'
section
variable {P : Program} {w : World} {K : PySem.W.Frag} {mg : Str -> Option Value} {base : Heap}
theorem scLengths : FnScope ["circles"] ["circles"] (defScope sLengths) := ⟨rfl, rfl, rfl, by decide +kernel, rfl, by decide +kernel, by decide +kernel⟩
theorem ok_lengths {f : Addr} {fd : FuncData} (F : Fun K "lengths_of" "lengths_of" sLengths f fd) (T : Blt mg) : FnOk P w K mg base CX0 1 f fd ["circles"] spLengths := by
 refine F.ok scLengths (fun vs H Q E h => ?_) (fun cdv A outer s H vs Q E hr h => ?_)
 ·obtain ⟨_, _, rfl, _⟩ := h
  rfl
 ·obtain ⟨l, C, rfl, hL, h8, q⟩ := h
  refine' ⟨_, pss_one (ps_ret (pe_callB (call_sorted K) rfl T.sorted PyProof.Rows.boot_sorted (pa_cons (pe_lc ["circle"] [none] rfl rfl (pi_listK K (pv 0)) (fun _ _ _ _ _ => pg_c 0) (fun _ _ _ _ _ => pts_nil) (fun _ _ _ _ _ => pe_callB (call_lenK K) rfl T.len PySem.boot_len (pa_cons (pv 0) pa_nil))) pa_nil))), ?rd⟩
  case rd =>
   obtain ⟨ps, hps, hP⟩ := hL
   have hpl : (ps.map V.ref).length = C.length := by rw [List.length_map, hP.length]
   refine ⟨_, rfl, l, rfl, ⟨_, SqL.of hps⟩, fun lc hlc => ?_⟩
   refine comp_pure (fun j => some (V.int (((C.getD j []).length : Nat) : Int))) (fun σ => ∃ v, σ = [v]) (wlk_list (xs := ps.map V.ref)) (by rw [hpl]; exact small6 (by exact Om.b1 ‹_› rfl)) hlc (fun H' sm => SqL.of (sm _ _ hps)) ⟨none, rfl⟩ ?_ ?_
   ·rintro j y σ H' R' hy ⟨v, rfl⟩ sm kk
    rw [List.getElem?_map] at hy
    cases hpj : ps[j]? with
    | none => rw [hpj] at hy; cases hy
    | some p =>
    rw [hpj] at hy
    cases hy
    obtain ⟨c, hc, hp⟩ := Paired.getL hP hpj
    have hcj : C.getD j [] = c := by rw [List.getD_eq_getElem?_getD, hc]; rfl
    have kk' := kk _ H' ⟨some (.ref p), rfl⟩ (Same.refl _)
    refine ⟨_, rfl, p, _, rfl, .inl (SqL.of (sm _ _ hp)), ?_⟩
    rw [List.length_map, toI_len, <- hcj]
    exact kk'
   intro H2 s2 h2
   rw [fm_len hpl] at h2
   refine ⟨lc, toI (C.map List.length), rfl, SqL.of h2, by rw [toI_len, List.length_map]; omega, fun t ns ht p pw => ?_⟩
   rw [lens_sorted p pw]
   exact q t _ (s2.free ht) (s2.trans (Same.new ht)) upd_same
end
end My
namespace L2
open PySem PySem.Spec PyProof.Rows PySem.W SeqAt
theorem best_int (v : Nat -> Int) : ∀ k, argBest (fun i j => decide (v i < v j)) k <= k /\ ∀ j, j <= k -> v (argBest (fun i j => decide (v i < v j)) k) <= v j
 | 0 => ⟨Nat.le_refl _, fun j hj => by
   have : j = 0 := by omega
   subst this
   exact Int.le_refl _⟩
 | k + 1 => by
  obtain ⟨h1, h2⟩ := best_int v k
  have e : argBest (fun i j => decide (v i < v j)) (k + 1) = if decide (v (k + 1) < v (argBest (fun i j => decide (v i < v j)) k)) = true then k + 1 else argBest (fun i j => decide (v i < v j)) k := rfl
  rw [e]
  by_cases hb : v (k + 1) < v (argBest (fun i j => decide (v i < v j)) k)
  ·rw [if_pos (decide_eq_true hb)]
   refine ⟨Nat.le_refl _, fun j hj => ?_⟩
   by_cases q : j = k + 1
   ·subst q
    exact Int.le_refl _
   ·have := h2 j (by exact Om.q1 ‹_› ‹_›)
    omega
  ·rw [if_neg (by rw [decide_eq_true_eq]; exact hb)]
   refine ⟨by omega, fun j hj => ?_⟩
   by_cases q : j = k + 1
   ·subst q
    omega
   ·exact h2 j (by exact Om.q1 ‹_› ‹_›)
noncomputable def rMinI (K : PySem.W.Frag) : List V -> Hp -> VK -> Prop := fun xs H Q => ∃ (l : Addr) (ns : List Int), xs = [.ref l] /\ SqL K H l (ns.map V.int) /\ 0 < ns.length /\ ∀ m : Int, m ∈ ns -> (∀ x ∈ ns, m <= x) -> Q (.int m) H
theorem call_minI {X : Cx} (K : PySem.W.Frag) (hc : X.calm = true) (hK : X.K = K := by rfl) : CallR X (.builtin "min") (rMinI K) := by
 subst hK
 intro pins s σ H xs us Q I r h
 obtain ⟨l, ns, rfl, hl, hn, q⟩ := h
 obtain ⟨u, rfl, ru⟩ := vals1 r
 cases ru
 obtain ⟨its, rv, pl, _⟩ := I.list hl
 have hlen : its.length = ns.length := by rw [<- rv.length, List.length_map]
 have itv : ∀ (i : Nat) (v : Value), its[i]? = some v -> ∃ t, v = .int (ns.getD i 0) t := fun i v e => by
  have hi : i < ns.length := by rw [<- hlen]; exact (List.getElem?_eq_some_iff.mp e).1
  obtain ⟨w, g, rw'⟩ := rv.get (show (ns.map V.int)[i]? = some (V.int ns[i]) by rw [List.getElem?_map, List.getElem?_eq_getElem hi]; rfl)
  rw [e] at g
  cases g
  obtain ⟨t, rfl⟩ := rw'
  exact ⟨t, by rw [List.getD_eq_getElem?_getD, List.getElem?_eq_getElem hi]; rfl⟩
 have ext : ∀ {h' : Heap} {tk : Nat}, (∀ b o, s.heap.get? b = some o -> h'.get? b = some o) -> Inv X pins σ H { s with heap := h', toks := tk } := fun k => I.kept k
 refine mn_call (lt := fun i j => decide (ns.getD i 0 < ns.getD j 0)) (I.ok.hd hc) pl.isList (by simp; exact Om.a1 ‹_› ‹_›) (fun i j u v h' tk Q E k hu1 hv1 z => ?_) (fun v h' tk hv k => ?_)
 ·obtain ⟨t1, rfl⟩ := itv i u (by simpa using hu1)
  obtain ⟨t2, rfl⟩ := itv j v (by simpa using hv1)
  exact PyProof.Rows.lt_int (a := ns.getD i 0) (b := ns.getD j 0) z
 ·obtain ⟨t, rfl⟩ := itv _ v (by rw [<- List.getElem?_toArray]; exact hv)
  obtain ⟨b1, b2⟩ := best_int (fun i => ns.getD i 0) (its.toArray.size - 1)
  have hsz : its.toArray.size = ns.length := by simp; exact hlen
  refine ⟨.int _, H, ext k, ⟨t, rfl⟩, q _ ?_ fun x hx => ?_⟩
  ·have hb : argBest (fun i j => decide (ns.getD i 0 < ns.getD j 0)) (its.toArray.size - 1) < ns.length := by omega
   rw [List.getD_eq_getElem?_getD, List.getElem?_eq_getElem hb]
   exact List.getElem_mem _
  ·obtain ⟨j, hj, rfl⟩ := List.getElem_of_mem hx
   have := b2 j (by omega)
   have e : ns.getD j 0 = ns[j] := by rw [List.getD_eq_getElem?_getD, List.getElem?_eq_getElem hj]; rfl
   rw [<- e]
   exact this
end L2
namespace My
open PySem L2
theorem sl_listK {X : Cx} (K : PySem.W.Frag) (h : X.K = K := by rfl) : SlR X (rSlL K) := by subst h; exact sl_list
noncomputable def bnd : Nat -> Nat
 | 0 => 1
 | k + 1 => (k + 1) * (6 * bnd k)
theorem flat_bound {α β : Type} {g : α -> List β} {m : Nat} : ∀ (l : List α), (∀ x ∈ l, (g x).length <= m) -> (l.flatMap g).length <= l.length * m
 | [], _ => by simp
 | x :: l, h => by
  rw [List.flatMap_cons, List.length_append, List.length_cons, Nat.succ_mul]
  have := flat_bound l fun y hy => h y (List.mem_cons_of_mem _ hy)
  have := h x List.mem_cons_self
  omega
theorem walks_few : ∀ (f : Nat) (C : List (List Nat)), C.length = f -> (∀ c ∈ C, c.length <= 6) -> (walksF f C).length <= bnd f
 | 0, [], _, _ => by simp [walksF, bnd]
 | 0, _ :: _, h, _ => by simp at h
 | f + 1, [], h, _ => by simp at h
 | f + 1, c :: C, hf, h6 => by
  rw [walks_succ]
  have hm : mnl (c :: C) <= 6 := by
   obtain ⟨⟨d, hd, e⟩, _⟩ := mnl_least c C
   rw [<- e]
   exact h6 d hd
  have h := flat_bound (m := 6 * bnd f) (g := fun i => if ((c :: C).getD i []).length = mnl (c :: C) then (List.range (mnl (c :: C))).flatMap fun st => (walksF f ((c :: C).take i ++ (c :: C).drop (i + 1))).map fun w => rot ((c :: C).getD i []) st ++ w else []) (List.range (c :: C).length) fun i hi => by
   have hi := List.mem_range.mp hi
   show (if ((c :: C).getD i []).length = mnl (c :: C) then (List.range (mnl (c :: C))).flatMap fun st => (walksF f ((c :: C).take i ++ (c :: C).drop (i + 1))).map fun w => rot ((c :: C).getD i []) st ++ w else []).length <= _
   split
   ·have e : ((c :: C).take i ++ (c :: C).drop (i + 1)).length = f := by
     rw [List.length_append, List.length_take, List.length_drop]
     simp only [List.length_cons] at hi hf ⊢
     omega
    have ih := walks_few f _ e fun d hd => by
     rw [<- List.eraseIdx_eq_take_drop_succ] at hd
     exact h6 d ((erase_mem hi).mpr (.inr hd))
    have := flat_bound (m := bnd f) (g := fun st => (walksF f ((c :: C).take i ++ (c :: C).drop (i + 1))).map fun w => rot ((c :: C).getD i []) st ++ w) (List.range (mnl (c :: C))) fun st _ => by rw [List.length_map]; exact ih
    rw [List.length_range] at this
    exact Nat.le_trans this (Nat.mul_le_mul hm (Nat.le_refl _))
   ·exact Nat.zero_le _
  rw [List.length_range] at h
  rw [hf] at h ⊢
  exact h
theorem bnd_le : ∀ k, k <= 3 -> bnd k <= 1296 := by decide
theorem small2m {n : Nat} (h : n <= 1000000) : n < sizeLine := Nat.lt_of_le_of_lt h (by decide)
theorem mnl_pos {C : List (List Nat)} (h : 0 < C.length) : leastN C (mnl C) := by
 cases C with
 | nil => cases h
 | cons c C => exact mnl_least c C
noncomputable def rowW (f : Nat) (C : List (List Nat)) (i : Nat) : List (List Nat) := if (C.getD i []).length = mnl C then (List.range (mnl C)).flatMap fun st => (walksF f (C.take i ++ C.drop (i + 1))).map fun w => rot (C.getD i []) st ++ w else []
noncomputable def stW (W : List (List Nat)) (c : List Nat) (st : Nat) : List (List Nat) := W.map fun w => rot c st ++ w
theorem walks_rows {C : List (List Nat)} (h : 0 < C.length) : walksF C.length C = (List.range C.length).flatMap (rowW (C.length - 1) C) := by
 cases C with
 | nil => cases h
 | cons c C => exact walks_succ C.length c C
theorem walks_wlen : ∀ (f : Nat) (C : List (List Nat)), (∀ c ∈ C, c.length <= 6) -> ∀ w ∈ walksF f C, w.length <= 6 * f
 | f, [], _, w, h => by
  have e : walksF f [] = [[]] := by cases f <;> rfl
  rw [e, List.mem_singleton] at h
  rw [h]
  exact Nat.zero_le _
 | 0, _ :: _, _, w, h => by simp [walksF] at h
 | f + 1, c :: C, h6, w, h => by
  obtain ⟨i, hi, st, w', _, _, hw', rfl⟩ := mem_walks.mp h
  have := walks_wlen f _ (fun d hd => h6 d ((erase_mem hi).mpr (.inr hd))) w' hw'
  have := h6 _ (List.getElem_mem hi)
  rw [List.length_append, rot_len]
  omega
noncomputable def spWalks (k : Nat) : Sp := fun vs H Q _ => ∃ (l : Addr) (C : List (List Nat)), vs = [.ref l] /\ LL H l C /\ C.length + 1 <= k /\ C.length <= 3 /\ (∀ c ∈ C, 0 < c.length /\ c.length <= 6) /\ ∀ t H', H t = none -> Same H H' -> LLn H H' t (walksF C.length C) -> Q (.ref t) H'
theorem take_toI {c : List Nat} (k : Nat) : ((toI c).map V.int).take k = (toI (c.take k)).map V.int := by
 unfold toI
 rw [List.map_take, List.map_take]
theorem drop_toI {c : List Nat} (k : Nat) : ((toI c).map V.int).drop k = (toI (c.drop k)).map V.int := by
 unfold toI
 rw [List.map_drop, List.map_drop]
theorem Paired.take5 {α β : Type} {F : α -> β -> Prop} : ∀ {l₁ : List α} {l₂ : List β} (k : Nat), Paired F l₁ l₂ -> Paired F (l₁.take k) (l₂.take k)
 | _, _, 0, _ => .nil
 | _, _, _ + 1, .nil => .nil
 | _, _, k + 1, .cons r t => .cons r (Paired.take5 k t)
theorem Paired.drop5 {α β : Type} {F : α -> β -> Prop} : ∀ {l₁ : List α} {l₂ : List β} (k : Nat), Paired F l₁ l₂ -> Paired F (l₁.drop k) (l₂.drop k)
 | _, _, 0, r => r
 | _, _, _ + 1, .nil => .nil
 | _, _, k + 1, .cons _ t => Paired.drop5 k t
theorem bt_min : bootBuiltins "min" = some (Value.builtin "min") := by decide +kernel
section
variable {P : Program} {w : World} {K : PySem.W.Frag} {mg : Str -> Option Value} {base : Heap}
theorem scWalks : FnScope ["circles", "shortest", "found", "place", "circle", "onward", "start"] ["circles"] (defScope sWalks) := ⟨rfl, rfl, rfl, by decide +kernel, rfl, by decide +kernel, by decide +kernel⟩
set_option maxHeartbeats 1000000 in
theorem ok_walks {f : Addr} {fd : FuncData} (D : Dfn K mg "walks" sWalks ["circles"] f fd) (T : Blt mg) : ∀ k : Nat, FnOk P w K mg base CX0 k f fd ["circles"] (spWalks k)
 | 0 => ⟨fun vs H Q E h => by obtain ⟨_, _, rfl, _⟩ := h; rfl, fun A outer s H args us vs Q E _ _ _ _ h => by obtain ⟨_, _, rfl, _, z, _⟩ := h; exact absurd z (Nat.not_succ_le_zero _)⟩
 | k + 1 => by
  have GW : FnOk P w K mg base CX0 k f fd ["circles"] (spWalks k) := ok_walks D T k
  refine D.F.ok scWalks (fun vs H Q E h => ?_) (fun cdv A outer s H vs Q E hr h => ?_)
  ·obtain ⟨_, _, rfl, _⟩ := h
   rfl
  ·obtain ⟨l, C, rfl, hL, hk, h3, h6, q⟩ := h
   refine' ⟨_, pss_cons (ps_if (pt_not (pt_truth (pv 0) (fun _ => rfl))) (pss_one (ps_ret (pe_lst (pa_cons (pe_lst pa_nil) pa_nil)))) pss_nil) (pss_cons ?s1 (pss_cons (ps_set (i := 2) scWalks.nd rfl (Or.inl rfl) (pe_lst pa_nil)) (pss_cons (ps_for PassesOwn.never rfl (pi_enumL K rfl T.enum (pa_cons (pv 0) pa_nil)) (pg_tup rfl (pgs_cons (pg_name (i := 3) scWalks.nd rfl (Or.inl rfl)) (pgs_cons (pg_name (i := 4) scWalks.nd rfl (Or.inr rfl)) pgs_nil))) (pss_one (ps_if ?c (pss_cons ?d0 (pss_one (ps_for PassesOwn.never rfl (pi_range1 rfl T.range (pa_cons (pv 1) pa_nil)) (pg_name (i := 6) scWalks.nd rfl (Or.inr rfl)) (pss_one ?e)))) pss_nil))) (pss_one (ps_ret (pv 2)))))), ?rd⟩
   case s1 => exact ps_set (i := 1) scWalks.nd rfl (Or.inl rfl) (pe_callB (call_minI K rfl) rfl T.min bt_min (pa_cons (pe_lc ["circle"] [none] rfl rfl (pi_listK K (pv 0)) (fun _ _ _ _ _ => pg_c 0) (fun _ _ _ _ _ => pts_nil) (fun _ _ _ _ _ => pe_callB (call_lenK K) rfl T.len PySem.boot_len (pa_cons (pv 0) pa_nil))) pa_nil))
   case c => exact pt_cmpR op_eq (pe_callB (call_lenK K) rfl T.len PySem.boot_len (pa_cons (pv 4) pa_nil)) (pv 1) (nomark _)
   case d0 => exact ps_set (i := 5) scWalks.nd rfl (Or.inl rfl) (pe_call GW hr rfl D.m D.F.kp D.b .nil pass0 (pa_cons (pe_op op_cat (pe_slice sl_list (pv 0) po_none (po_some (pv 3))) (pe_slice sl_list (pv 0) (po_some (pe_op op_add (pv 3) pe_int)) po_none)) pa_nil))
   case e => exact ps_expr (pe_bm PySem.F.plainAttrs_list PySem.F.slot_list_extend PySem.F.type_list_extend mt_extend (pv 2) (pa_cons (pe_lc ["walk", "circle", "start"] [none, some 4, some 6] rfl rfl (pi_listK K (pv 5)) (fun _ _ _ _ _ => pg_c 0) (fun _ _ _ _ _ => pts_nil) (fun _ _ _ _ _ => pe_op op_cat (pe_op op_cat (pe_slice (sl_listK K) (pv 1) (po_some (pv 2)) po_none) (pe_slice (sl_listK K) (pv 1) po_none (po_some (pv 2)))) (pv 0))) pa_nil))
   case rd =>
    obtain ⟨ps, hps, hP⟩ := hL
    have hpl : (ps.map V.ref).length = C.length := by rw [List.length_map, hP.length]
    refine ⟨_, rfl, _, .inl ⟨_, SqL.of hps, rfl⟩, ?_⟩
    by_cases hC : C = []
    ·subst hC
     have hp0 : ps = [] := by
      cases ps with
      | nil => rfl
      | cons _ _ => cases hP
     subst hp0
     refine iteT ⟨Nat.zero_le _, fun l0 hl0 => ⟨(show 1 <= sizeLine from small6 (by decide)), fun l1 hl1 => ?_⟩⟩
     exact q l1 _ ((Same.new hl0).free hl1) ((Same.new hl0).trans (Same.new hl1)) ⟨[l0], upd_same, .cons ⟨(Same.new hl1) _ _ upd_same, (fun e => by rw [<- e, upd_same] at hl1; cases hl1), hl0⟩ .nil⟩
    have hpos : 0 < C.length := List.length_pos_iff.mpr hC
    have hne : (ps.map V.ref).isEmpty = false := by
     cases ps with
     | nil => simp at hpl; omega
     | cons _ _ => rfl
    rw [hne]
    refine iteF ?_
    obtain ⟨⟨dm, hdm, edm⟩, lem⟩ : leastN C (mnl C) := mnl_pos hpos
    refine ⟨_, rfl, l, rfl, ⟨_, SqL.of hps⟩, fun lc hlc => ?_⟩
    refine comp_pure (fun j => some (V.int (((C.getD j []).length : Nat) : Int))) (fun σ => ∃ v, σ = [v]) (wlk_list (xs := ps.map V.ref)) (by rw [hpl]; exact small6 (by exact Om.b1 ‹_› rfl)) hlc (fun H' sm => SqL.of (sm _ _ hps)) ⟨none, rfl⟩ ?_ ?_
    ·rintro j y σ H' R' hy ⟨v, rfl⟩ sm kk
     rw [List.getElem?_map] at hy
     cases hpj : ps[j]? with
     | none => rw [hpj] at hy; cases hy
     | some p =>
     rw [hpj] at hy
     cases hy
     obtain ⟨c, hc, hp⟩ := Paired.getL hP hpj
     have hcj : C.getD j [] = c := by rw [List.getD_eq_getElem?_getD, hc]; rfl
     have kk' := kk _ H' ⟨some (.ref p), rfl⟩ (Same.refl _)
     refine ⟨_, rfl, p, _, rfl, .inl (SqL.of (sm _ _ hp)), ?_⟩
     rw [List.length_map, toI_len, <- hcj]
     exact kk'
    intro H2 s2 h2
    rw [fm_len hpl] at h2
    refine ⟨lc, toI (C.map List.length), rfl, SqL.of h2, by rw [toI_len, List.length_map]; exact hpos, fun m hm hle => ?_⟩
    have em : m = ((mnl C : Nat) : Int) := by
     unfold toI at hm hle
     obtain ⟨x, hx, rfl⟩ := List.mem_map.mp hm
     obtain ⟨c, hc, rfl⟩ := List.mem_map.mp hx
     have h1 := lem c hc
     have h2 := hle _ (List.mem_map.mpr ⟨dm.length, List.mem_map.mpr ⟨dm, hdm, rfl⟩, rfl⟩)
     omega
    subst em
    have hm6 : mnl C <= 6 := by rw [<- edm]; exact (h6 dm hdm).2
    refine ⟨Nat.zero_le _, fun lf hlf => ?_⟩
    have hlf0 : H lf = none := s2.free hlf
    have s3 : Same H (upd H2 lf (.lst [])) := s2.trans (Same.new hlf)
    refine ⟨_, rfl, l, _, rfl, SqL.of (s3 _ _ hps), ?_⟩
    refine for_of2 (n := C.length) (Y := fun i H v H' => ∃ q x, v = .ref q /\ H q = none /\ (ps.map V.ref)[i]? = some x /\ H' = upd H q (.tup [.int (i : Int), x])) (P := fun H' => SqL K H' l (ps.map V.ref))
     (fun i H' h hi => ⟨_, (ps.map V.ref)[i]'(by exact Om.a1 ‹_› ‹_›), h, List.getElem?_eq_getElem _⟩)
     (fun i H' v H'' h zz0 _ => by obtain ⟨q, x, e1, e2, e3, e4⟩ := zz0; exact ⟨q, x, e1, e2, e3 _ h, e4⟩) (fun i H' h hi => ⟨_, h, by exact Om.l4 ‹_› ‹_›⟩)
     (fun i σ H3 => ∃ (v3 v4 v5 v6 : Option V) (zs : List Addr), σ = [some (.ref l), some (.int ((mnl C : Nat) : Int)), some (.ref lf), v3, v4, v5, v6] /\ Same H H3 /\ H3 lf = some (.lst (zs.map V.ref)) /\ Paired (fun p (r : List Nat) => H3 p = some (.lst ((toI r).map V.int)) /\ p ≠ lf /\ H p = none) zs ((List.range i).flatMap (rowW (C.length - 1) C)))
     ⟨none, none, none, none, [], rfl, s3, upd_same, .nil⟩ (fun j σ H3 zz0 => by obtain ⟨_, _, _, _, _, _, s4, _⟩ := zz0; exact SqL.of (s4 _ _ hps)) ?_ ?_
    ·rintro i x σ H3 H4 hi ⟨v3, v4, v5, v6, zs, rfl, s4, hf4, hZ⟩ ⟨z, y, rfl, hz, hy, rfl⟩
     rw [List.getElem?_map] at hy
     cases hpi : ps[i]? with
     | none => rw [hpi] at hy; cases hy
     | some p =>
     rw [hpi] at hy
     cases hy
     obtain ⟨c, hci, hp⟩ := Paired.getL hP hpi
     have hcg : C.getD i [] = c := by rw [List.getD_eq_getElem?_getD, hci]; rfl
     have hcm : c ∈ C := List.mem_of_getElem? hci
     have s5 : Same H3 (upd H3 z (.tup [.int (i : Int), .ref p])) := Same.new hz
     refine ⟨z, _, rfl, SqT.of upd_same, rfl, _, _, rfl, _, _, rfl, rfl, ?_⟩
     generalize upd H3 z (.tup [.int (i : Int), .ref p]) = H4 at s5 ⊢
     have s45 := s4.trans s5
     have hf5 := s5 _ _ hf4
     have hZ5 : Paired (fun p (r : List Nat) => H4 p = some (.lst ((toI r).map V.int)) /\ p ≠ lf /\ H p = none) zs ((List.range i).flatMap (rowW (C.length - 1) C)) := Paired.mapP hZ fun _ _ e => ⟨s5 _ _ e.1, e.2⟩
     have hp4 := s45 _ _ hp
     refine ⟨_, rfl, p, _, rfl, .inl (SqL.of hp4), _, rfl, rfl, _, rfl, ?_⟩
     rw [List.length_map, toI_len]
     by_cases hcl : c.length = mnl C
     rotate_left
     ·rw [show decide (V.int ((c.length : Nat) : Int) = V.int ((mnl C : Nat) : Int)) = false from decide_eq_false fun e => hcl (by rw [V.int.injEq] at e; exact Om.e1 ‹_›)]
      refine iteF ⟨_, _, _, _, zs, rfl, s45, hf5, ?_⟩
      have er : rowW (C.length - 1) C i = [] := by unfold rowW; rw [hcg, if_neg hcl]
      rw [List.range_succ, List.flatMap_append, List.flatMap_cons, List.flatMap_nil, er, List.append_nil, List.append_nil]
      exact hZ5
     rw [show decide (V.int ((c.length : Nat) : Int) = V.int ((mnl C : Nat) : Int)) = true from decide_eq_true (by rw [hcl])]
     refine iteT ?_
     have hpsl : ps.length = C.length := by rw [List.length_map] at hpl; exact hpl
     refine ⟨_, rfl, _, rfl, _, rfl, l, _, rfl, SqL.of (s45 _ _ hps), fun l1 hl1 => ?_⟩
     rw [cut_to _ (by rw [hpl]; exact Om.d1 ‹_›)]
     have t1 : Same H4 (upd H4 l1 (.lst ((ps.map V.ref).take i))) := Same.new hl1
     refine ⟨_, rfl, _, rfl, _, _, rfl, rfl, _, rfl, l, _, rfl, SqL.of (t1 _ _ (s45 _ _ hps)), fun l2 hl2 => ?_⟩
     rw [show ((i : Int) + 1) = ((i + 1 : Nat) : Int) from rfl, cut_from _ (by rw [hpl]; exact Om.f1 ‹_›)]
     have t2 : Same (upd H4 l1 (.lst ((ps.map V.ref).take i))) (upd (upd H4 l1 (.lst ((ps.map V.ref).take i))) l2 (.lst ((ps.map V.ref).drop (i + 1)))) := Same.new hl2
     refine ⟨l1, l2, _, _, rfl, rfl, t2 _ _ upd_same, upd_same, ?_, fun l3 hl3 => ?_⟩
     ·rw [List.length_take, List.length_drop, hpl]
      exact small6 (by omega)
     have t3 := (t1.trans t2).trans (Same.new (o := .lst ((ps.map V.ref).take i ++ (ps.map V.ref).drop (i + 1))) hl3)
     have hl3' : (upd (upd (upd H4 l1 (.lst ((ps.map V.ref).take i))) l2 (.lst ((ps.map V.ref).drop (i + 1)))) l3 (.lst ((ps.map V.ref).take i ++ (ps.map V.ref).drop (i + 1)))) l3 = some (.lst ((ps.take i ++ ps.drop (i + 1)).map V.ref)) := by rw [upd_same, List.map_append, List.map_take, List.map_drop]
     generalize upd (upd (upd H4 l1 (.lst ((ps.map V.ref).take i))) l2 (.lst ((ps.map V.ref).drop (i + 1)))) l3 (.lst ((ps.map V.ref).take i ++ (ps.map V.ref).drop (i + 1))) = H5 at t3 hl3' ⊢
     have hCl : (C.take i ++ C.drop (i + 1)).length = C.length - 1 := by
      rw [List.length_append, List.length_take, List.length_drop]
      omega
     have hCm : ∀ d ∈ C.take i ++ C.drop (i + 1), d ∈ C := fun d hd => by
      rw [<- List.eraseIdx_eq_take_drop_succ] at hd
      exact (erase_mem hi).mpr (.inr hd)
     have sH5 := s45.trans t3
     refine ⟨l3, C.take i ++ C.drop (i + 1), rfl, ⟨_, hl3', Paired.append (Paired.mapP (Paired.take5 i hP) fun _ _ e => sH5 _ _ e) (Paired.mapP (Paired.drop5 (i + 1) hP) fun _ _ e => sH5 _ _ e)⟩, by omega, by omega, fun d hd => h6 d (hCm d hd), fun lo HO hlo sO hLO => ?_⟩
     rw [hCl] at hLO
     obtain ⟨os, hos, hO⟩ := hLO
     have hO : Paired (fun p (r : List Nat) => HO p = some (.lst ((toI r).map V.int)) /\ p ≠ lo /\ H5 p = none) os (walksF (C.length - 1) (C.take i ++ C.drop (i + 1))) := hO
     have t3O := t3.trans sO
     have sHO := s45.trans t3O
     have hfO := t3O _ _ hf5
     have hpO := t3O _ _ hp4
     have hZO : Paired (fun p (r : List Nat) => HO p = some (.lst ((toI r).map V.int)) /\ p ≠ lf /\ H p = none) zs ((List.range i).flatMap (rowW (C.length - 1) C)) := Paired.mapP hZ5 fun _ _ e => ⟨t3O _ _ e.1, e.2⟩
     have hlolf : lo ≠ lf := fun e => by rw [e] at hlo; rw [t3 _ _ hf5] at hlo; cases hlo
     have hplf : p ≠ lf := fun e => by rw [e, hlf0] at hp; cases hp
     have wfew := walks_few (C.length - 1) (C.take i ++ C.drop (i + 1)) hCl fun d hd => (h6 d (hCm d hd)).2
     have hb1 := bnd_le (C.length - 1) (by omega)
     generalize hW : walksF (C.length - 1) (C.take i ++ C.drop (i + 1)) = W at hO wfew
     have hosl : os.length = W.length := hO.length
     have erow : rowW (C.length - 1) C i = (List.range (mnl C)).flatMap (stW W c) := by
      unfold rowW stW
      rw [hcg, if_pos hcl, hW]
     have hzfew : zs.length <= 3 * (6 * 1296) := by
      rw [hZ.length]
      refine Nat.le_trans (flat_bound (m := 6 * 1296) (List.range i) fun j hj => ?_) (by rw [List.length_range]; exact Nat.mul_le_mul (by exact Om.b2 ‹_› ‹_› rfl) (Nat.le_refl _))
      have hj := List.mem_range.mp hj
      unfold rowW
      split
      ·have hj2 : j < C.length := by omega
       have e : (C.take j ++ C.drop (j + 1)).length = C.length - 1 := by
        rw [List.length_append, List.length_take, List.length_drop]
        omega
       have := walks_few (C.length - 1) (C.take j ++ C.drop (j + 1)) e fun d hd => by
        rw [<- List.eraseIdx_eq_take_drop_succ] at hd
        exact (h6 d ((erase_mem hj2).mpr (.inr hd))).2
       have h2 := flat_bound (m := 1296) (g := fun st => (walksF (C.length - 1) (C.take j ++ C.drop (j + 1))).map fun w => rot (C.getD j []) st ++ w) (List.range (mnl C)) fun st _ => by rw [List.length_map]; exact Om.b3 ‹_› ‹_› rfl
       rw [List.length_range] at h2
       exact Nat.le_trans h2 (Nat.mul_le_mul hm6 (Nat.le_refl _))
      ·exact Nat.zero_le _
     refine ⟨_, rfl, ((mnl C : Nat) : Int), rfl, by exact Om.c2, by exact Om.c1 ‹_› rfl, ?_⟩
     rw [Int.toNat_natCast]
     refine for_range (lo := 0) (n := mnl C) (fun st σ H6 => ∃ (v6 : Option V) (us : List Addr), σ = [some (.ref l), some (.int ((mnl C : Nat) : Int)), some (.ref lf), some (.int (i : Int)), some (.ref p), some (.ref lo), v6] /\ Same H H6 /\ (∀ b o, b ≠ lf -> HO b = some o -> H6 b = some o) /\ H6 lf = some (.lst ((zs ++ us).map V.ref)) /\ Paired (fun p (r : List Nat) => H6 p = some (.lst ((toI r).map V.int)) /\ p ≠ lf /\ H p = none) us ((List.range st).flatMap (stW W c)))
      ⟨_, [], rfl, sHO, fun b o _ e => e, by rw [List.append_nil]; exact hfO, .nil⟩ ?_ ?_
     ·rintro st σ H6 hst ⟨v6', us, rfl, s6, kp6, hf6, hU⟩
      rw [Int.zero_add]
      have hos6 := kp6 _ _ hlolf hos
      have hp6 := kp6 _ _ hplf hpO
      refine ⟨_, rfl, .inl ⟨rfl, _, SqL.of hf6⟩, _, rfl, lo, rfl, ⟨_, SqL.of hos6⟩, fun lc2 hlc2 => ?_⟩
      have hlc2f : lc2 ≠ lf := fun e => by rw [e, hf6] at hlc2; cases hlc2
      refine comp_of (wlk_list (xs := os.map V.ref)) (fun j ys σ H7 => ∃ (v0 : Option V) (ts : List Addr), σ = [v0, some (.ref p), some (.int (st : Int))] /\ ys = ts.map V.ref /\ Same H6 H7 /\ H7 lc2 = some (.lst ys) /\ Paired (fun p (r : List Nat) => H7 p = some (.lst ((toI r).map V.int)) /\ p ≠ lf /\ p ≠ lc2 /\ H p = none) ts ((stW W c st).take j))
       ⟨none, [], rfl, rfl, Same.new hlc2, upd_same, .nil⟩ (fun j ys σ H7 zz0 => by obtain ⟨_, _, _, _, s7, hl, _⟩ := zz0; exact ⟨SqL.of (s7 _ _ hos6), hl⟩) ?_ ?_
      ·rintro j y ys σ H7 hj ⟨v0, ts, rfl, rfl, s7, hl7, hT7⟩
       rw [List.getElem?_map] at hj
       cases hpj : os[j]? with
       | none => rw [hpj] at hj; cases hj
       | some ow =>
       rw [hpj] at hj
       cases hj
       obtain ⟨wj, hwj, how⟩ := Paired.getL hO hpj
       have hjW : j < W.length := (List.getElem?_eq_some_iff.mp hwj).1
       have howlf : ow ≠ lf := fun e => by
        have := how.2.2
        rw [e, t3 _ _ hf5] at this
        cases this
       have how7 := s7 _ _ (kp6 _ _ howlf how.1)
       have hp7 := s7 _ _ hp6
       have hcl6 := (h6 c hcm).2
       have hstc : st < c.length := by exact Om.a1 ‹_› ‹_›
       have hwl := walks_wlen (C.length - 1) (C.take i ++ C.drop (i + 1)) (fun d hd => (h6 d (hCm d hd)).2) wj (by rw [hW]; exact List.mem_of_getElem? hwj)
       refine ⟨_, rfl, _, rfl, _, rfl, p, _, rfl, SqL.of hp7, fun a1 ha1 => ?_⟩
       rw [cut_from _ (by rw [List.length_map, toI_len]; exact Om.d1 ‹_›), drop_toI]
       have u1 : Same H7 (upd H7 a1 (.lst ((toI (c.drop st)).map V.int))) := Same.new ha1
       refine ⟨_, rfl, _, rfl, _, rfl, p, _, rfl, SqL.of (u1 _ _ hp7), fun a2 ha2 => ?_⟩
       rw [cut_to _ (by rw [List.length_map, toI_len]; exact Om.d1 ‹_›), take_toI]
       have u2 : Same (upd H7 a1 (.lst ((toI (c.drop st)).map V.int))) (upd (upd H7 a1 (.lst ((toI (c.drop st)).map V.int))) a2 (.lst ((toI (c.take st)).map V.int))) := Same.new ha2
       refine ⟨a1, a2, _, _, rfl, rfl, u2 _ _ upd_same, upd_same, ?_, fun a3 ha3 => ?_⟩
       ·rw [List.length_map, List.length_map, toI_len, toI_len, List.length_drop, List.length_take]
        exact small6 (by omega)
       have u3 := (u1.trans u2).trans (Same.new (o := .lst ((toI (c.drop st)).map V.int ++ (toI (c.take st)).map V.int)) ha3)
       have g3 : (upd (upd (upd H7 a1 (.lst ((toI (c.drop st)).map V.int))) a2 (.lst ((toI (c.take st)).map V.int))) a3 (.lst ((toI (c.drop st)).map V.int ++ (toI (c.take st)).map V.int))) a3 = some (.lst ((toI (rot c st)).map V.int)) := by
        rw [upd_same]
        unfold rot
        rw [toI_append, List.map_append]
       generalize upd (upd (upd H7 a1 (.lst ((toI (c.drop st)).map V.int))) a2 (.lst ((toI (c.take st)).map V.int))) a3 (.lst ((toI (c.drop st)).map V.int ++ (toI (c.take st)).map V.int)) = H8 at u3 g3 ⊢
       refine ⟨_, rfl, a3, ow, _, _, rfl, rfl, g3, u3 _ _ how7, ?_, fun a4 ha4 => ?_⟩
       ·rw [List.length_map, List.length_map, toI_len, toI_len, rot_len]
        exact small6 (by omega)
       have u4 : Same H8 (upd H8 a4 (.lst ((toI (rot c st)).map V.int ++ (toI wj).map V.int))) := Same.new ha4
       have g4 : (upd H8 a4 (.lst ((toI (rot c st)).map V.int ++ (toI wj).map V.int))) a4 = some (.lst ((toI (rot c st ++ wj)).map V.int)) := by rw [upd_same, toI_append, List.map_append]
       generalize upd H8 a4 (.lst ((toI (rot c st)).map V.int ++ (toI wj).map V.int)) = H9 at u4 g4 ⊢
       have u34 := u3.trans u4
       have hl9 := u34 _ _ hl7
       have ha4l : a4 ≠ lc2 := fun e => by rw [e, u3 _ _ hl7] at ha4; cases ha4
       have ha4f : a4 ≠ lf := fun e => by rw [e, u3 _ _ (s7 _ _ hf6)] at ha4; cases ha4
       have ha40 : H a4 = none := (s6.trans (s7.trans u3)).free ha4
       have htl : ts.length = j := by
        rw [hT7.length, List.length_take]
        unfold stW
        rw [List.length_map]
        exact Om.m1 ‹_›
       have et : (stW W c st).take (j + 1) = (stW W c st).take j ++ [rot c st ++ wj] := by
        unfold stW
        rw [List.take_add_one, List.getElem?_map, hwj]
        rfl
       refine ⟨hl9, by rw [List.length_map, htl]; exact small2m (by omega), _, ts ++ [a4], rfl, by rw [List.map_append]; rfl, fun b u e => ?_, upd_same, ?_⟩
       ·rw [upd_ne (ne_of_none e hlc2)]
        exact u34 _ _ (s7 _ _ e)
       ·rw [et]
        exact Paired.snoc (Paired.mapP hT7 fun x _ e => ⟨by rw [upd_ne e.2.2.1]; exact u34 _ _ e.1, e.2⟩) ⟨by rw [upd_ne ha4l]; exact g4, ha4f, ha4l, ha40⟩
      ·rintro ys σ H7 ⟨v0, ts, rfl, rfl, s7, hl7, hT7⟩
       rw [List.length_map, hosl, List.take_of_length_le (by unfold stW; rw [List.length_map]; exact Nat.le_refl _)] at hT7
       have hf7 := s7 _ _ hf6
       have htl : ts.length <= 1296 := by
        rw [hT7.length]
        unfold stW
        rw [List.length_map]
        exact Om.b3 ‹_› ‹_› rfl
       have hul : us.length <= 6 * 1296 := by
        rw [hU.length]
        refine Nat.le_trans (flat_bound (m := 1296) (List.range st) fun j _ => ?_) (by rw [List.length_range]; exact Nat.mul_le_mul (by exact Om.b2 ‹_› ‹_› rfl) (Nat.le_refl _))
        unfold stW
        rw [List.length_map]
        exact Om.b3 ‹_› ‹_› rfl
       refine ⟨lf, lc2, _, _, rfl, rfl, hf7, hl7, Nat.le_of_lt (small2m (by rw [List.length_map, List.length_map, List.length_append]; omega)), _, us ++ ts, rfl, fun b u e => ?_, fun b o hb e => ?_, ?_, ?_⟩
       ·rw [upd_ne (ne_of_none e hlf0)]
        exact s7 _ _ (s6 _ _ e)
       ·rw [upd_ne hb]
        exact s7 _ _ (kp6 b o hb e)
       ·rw [upd_same, <- List.map_append, List.append_assoc]
       ·rw [List.range_succ, List.flatMap_append, List.flatMap_cons, List.flatMap_nil, List.append_nil]
        exact Paired.append (Paired.mapP hU fun x _ e => ⟨by rw [upd_ne e.2.1]; exact s7 _ _ e.1, e.2⟩) (Paired.mapP hT7 fun x _ e => ⟨by rw [upd_ne e.2.1]; exact e.1, e.2.1, e.2.2.2⟩)
     ·rintro σ H6 ⟨v6', us, rfl, s6, kp6, hf6, hU⟩
      refine ⟨_, _, _, _, zs ++ us, rfl, s6, hf6, ?_⟩
      rw [List.range_succ, List.flatMap_append, List.flatMap_cons, List.flatMap_nil, List.append_nil, erow]
      exact Paired.append (Paired.mapP hZO fun x _ e => ⟨kp6 _ _ e.2.1 e.1, e.2⟩) hU
    ·rintro σ H3 ⟨v3, v4, v5, v6, zs, rfl, s4, hf4, hZ⟩
     rw [<- walks_rows hpos] at hZ
     exact ⟨_, rfl, q lf H3 hlf0 s4 ⟨zs, hf4, hZ⟩⟩
end
end My
namespace My
open PySem L2
theorem pe_bmK {X : Cx} {o e : Expr} {es : List Expr} {to : TE} {t : TA} {name : Str} {apos cpos : Pos} {T id : String} {r : V -> List V -> Hp -> VK -> Prop} (K : PySem.W.Frag) (pa : PlainAttrs T) (slot : Slot T name id) (hty : typeOf (.builtin id) = pure (.type "method_descriptor")) (hm : MtR X id r) (ho : PE X o to) (ha : PA X (e :: es) t) (hK : X.K = K := by rfl)
  (hbase : attributeBase o name X.env (eval o X.env) = eval o X.env := by rfl)
  (hfew : ((backTo cpos (starEach (e :: es) X.env)).all (fun x => !x.1) && (backToKw cpos (keywordEach [] X.env)).all (fun x => x.1.isSome) && decide ((e :: es).length + ([] : List Keyword).length + (if ([] : List Keyword).isEmpty then 0 else 1) < 30)) = true := by rfl)
  (hline : (apos.endLine == cpos.line) = true := by rfl) (hs : starEach (e :: es) X.env = (false, eval e X.env) :: starEach es X.env := by rfl) (hplain : (backTo cpos (starEach es X.env)).any (·.1) = false := by rfl) :
  PE X (.Call (.Attribute o name apos) (e :: es) [] cpos) (tBM K T r to t) := by
 subst hK
 exact pe_bm pa slot hty hm ho ha hbase hfew hline hs hplain
noncomputable def twoTo (n a j : Nat) : List (Nat × Nat) := ((List.range j).filter fun b => decide (b ≠ a)).map fun b => (a, b)
noncomputable def twoL (n : Nat) : List (Nat × Nat) := (List.range n).flatMap fun a => twoTo n a n
noncomputable def TL (H : Hp) (l : Addr) (L : List (Nat × Nat)) : Prop := ∃ ps : List Addr, H l = some (.lst (ps.map V.ref)) /\ Paired (fun p (x : Nat × Nat) => H p = some (.tup [.int (x.1 : Int), .int (x.2 : Int)])) ps L
theorem twoTo_succ (n a j : Nat) : twoTo n a (j + 1) = if j = a then twoTo n a j else twoTo n a j ++ [(a, j)] := by
 unfold twoTo
 rw [List.range_succ, List.filter_append, List.map_append]
 by_cases e : j = a
 ·rw [if_pos e, List.filter_cons, if_neg (by simp [e])]
  simp
 ·rw [if_neg e, List.filter_cons, if_pos (by simp [e])]
  rfl
theorem twoTo_len (n a j : Nat) : (twoTo n a j).length <= j := by
 unfold twoTo
 rw [List.length_map]
 have := List.length_filter_le (fun b => decide (b ≠ a)) (List.range j)
 rw [List.length_range] at this
 exact this
noncomputable def spTwo : Sp := fun vs H Q _ => ∃ n : Nat, vs = [.int (n : Int)] /\ n <= 6 /\ ∀ l H', H l = none -> Same H H' -> TL H' l (twoL n) -> Q (.ref l) H'
noncomputable def spTUL : Sp := fun vs H Q _ => ∃ (a : Addr) (n : Nat) (r : List Int), vs = [.ref a] /\ H a = some (.lst (r.map V.int)) /\ Turn n r /\ n <= 8 /\ ∀ t H', Same H H' -> H t = none -> H' t = some (.tup ((inv r).map V.int)) -> Q (.ref t) H'
noncomputable def spAlongP : Sp := fun vs H Q _ => ∃ (g l : Addr) (n a : Nat) (R : List (List Int)) (w : List Nat), vs = [.ref g, .int (a : Int), .ref l] /\ TG H g R /\ OkRows n R /\ R.length = n /\ 1 <= n /\ n <= 6 /\ a < n /\ H l = some (.lst ((toI w).map V.int)) /\ Cols n w /\ ∀ t H', H t = none -> Same H H' -> TG H' t (alongR n R a w) -> Q (.ref t) H'
section
variable {P : Program} {w : World} {K : PySem.W.Frag} {mg : Str -> Option Value} {base : Heap}
theorem scTwo : FnScope ["size", "found", "one"] ["size"] (defScope sTwoRows) := ⟨rfl, rfl, rfl, by decide +kernel, rfl, by decide +kernel, by decide +kernel⟩
theorem ok_two {f : Addr} {fd : FuncData} (F : Fun K "two_rows" "two_rows" sTwoRows f fd) (T : Blt mg) : FnOk P w K mg base CX0 1 f fd ["size"] spTwo := by
 refine F.ok scTwo (fun vs H Q E h => ?_) (fun cdv A outer s H vs Q E hr h => ?_)
 ·obtain ⟨_, rfl, _⟩ := h
  rfl
 ·obtain ⟨n, rfl, h6, q⟩ := h
  refine' ⟨_, pss_cons (ps_set (i := 1) scTwo.nd rfl (Or.inl rfl) (pe_lst pa_nil)) (pss_cons (ps_for PassesOwn.never rfl (pi_range1 rfl T.range (pa_cons (pv 0) pa_nil)) (pg_name (i := 2) scTwo.nd rfl (Or.inr rfl)) (pss_one ?b)) (pss_one (ps_ret (pv 1)))), ?rd⟩
  case b => exact ps_expr (pe_bm PySem.F.plainAttrs_list PySem.F.slot_list_extend PySem.F.type_list_extend mt_extend (pv 1) (pa_cons (pe_lc ["other", "one"] [none, some 2] rfl rfl (pi_range1 rfl T.range (pa_cons (pv 0) pa_nil)) (fun _ _ _ _ _ => pg_c 0) (fun _ _ _ _ _ => pts_one (pt_cmpR op_ne (pv 0) (pv 1) (nomark _))) (fun _ _ _ _ _ => pe_tup (pa_cons (pv 1) (pa_cons (pv 0) pa_nil)))) pa_nil))
  case rd =>
   refine ⟨Nat.zero_le _, fun lf hlf => ?_⟩
   refine ⟨_, rfl, (n : Int), rfl, by exact Om.c2, by exact Om.c1 ‹_› rfl, ?_⟩
   rw [Int.toNat_natCast]
   refine for_range (lo := 0) (n := n) (fun a σ H2 => ∃ (v2 : Option V) (zs : List Addr), σ = [some (.int (n : Int)), some (.ref lf), v2] /\ Same H H2 /\ H2 lf = some (.lst (zs.map V.ref)) /\ zs.length <= a * n /\ Paired (fun p (x : Nat × Nat) => H2 p = some (.tup [.int (x.1 : Int), .int (x.2 : Int)])) zs ((List.range a).flatMap fun a => twoTo n a n))
    ⟨none, [], rfl, Same.new hlf, upd_same, Nat.zero_le _, .nil⟩ ?_ ?_
   ·rintro a σ H2 ha ⟨v2, zs, rfl, s2, h2, hzl, hZ⟩
    rw [Int.zero_add]
    refine ⟨_, rfl, .inl ⟨rfl, _, SqL.of h2⟩, _, rfl, (n : Int), rfl, by exact Om.c2, by exact Om.c1 ‹_› rfl, fun lc hlc => ?_⟩
    rw [Int.toNat_natCast]
    refine comp_of (wlk_range (n := n)) (fun j ys σ H3 => ∃ (v0 : Option V) (us : List Addr), σ = [v0, some (.int (a : Int))] /\ ys = us.map V.ref /\ Same H2 H3 /\ H3 lc = some (.lst ys) /\ Paired (fun p (x : Nat × Nat) => H3 p = some (.tup [.int (x.1 : Int), .int (x.2 : Int)])) us (twoTo n a j))
     ⟨none, [], rfl, rfl, Same.new hlc, upd_same, .nil⟩ (fun j ys σ H3 zz0 => by obtain ⟨_, _, _, _, _, hl, _⟩ := zz0; exact ⟨trivial, hl⟩) ?_ ?_
    ·rintro j x ys σ H3 hj ⟨v0, us, rfl, rfl, s3, hl3, hU⟩
     obtain ⟨hjn, rfl⟩ := rng_get hj
     refine ⟨_, rfl, _, rfl, rfl, _, rfl, ?_⟩
     by_cases e : j = a
     ·rw [show decide (V.int (j : Int) = V.int (a : Int)) = true from decide_eq_true (by rw [e])]
      refine iteF ⟨_, us, rfl, rfl, s3, hl3, ?_⟩
      rw [twoTo_succ, if_pos e]
      exact hU
     ·rw [show decide (V.int (j : Int) = V.int (a : Int)) = false from decide_eq_false fun z => e (by rw [V.int.injEq] at z; exact Om.e1 ‹_›)]
      refine iteT ⟨_, rfl, _, rfl, (show 2 <= sizeLine from small6 (by decide)), fun t ht => ?_⟩
      have s4 : Same H3 (upd H3 t (.tup [.int (a : Int), .int (j : Int)])) := Same.new ht
      have hl4 := s4 _ _ hl3
      have hul : us.length <= j := by rw [hU.length]; exact twoTo_len n a j
      have up : ∀ b row, (upd H3 t (.tup [.int (a : Int), .int (j : Int)])) b = some (.tup row) -> (upd (upd H3 t (.tup [.int (a : Int), .int (j : Int)])) lc (.lst (us.map V.ref ++ [.ref t]))) b = some (.tup row) := fun b row e => by
       rw [upd_ne (ne_of e hl4 (by intro z; cases z))]
       exact e
      refine ⟨hl4, by rw [List.length_map]; exact small1000 (by omega), _, us ++ [t], rfl, by rw [List.map_append]; rfl, fun b u e => ?_, upd_same, ?_⟩
      ·rw [upd_ne (ne_of_none e hlc)]
       exact s4 _ _ (s3 _ _ e)
      ·rw [twoTo_succ, if_neg e]
       exact Paired.snoc (Paired.mapP hU fun _ _ z => up _ _ (s4 _ _ z)) (up _ _ upd_same)
    ·rintro ys σ H3 ⟨v0, us, rfl, rfl, s3, hl3, hU⟩
     rw [rng_len] at hU
     have h3 := s3 _ _ h2
     have hul : us.length <= n := by rw [hU.length]; exact twoTo_len n a n
     have han : a * n <= 6 * 6 := Nat.mul_le_mul (by exact Om.b2 ‹_› ‹_› rfl) h6
     have up : ∀ b row, H3 b = some (.tup row) -> (upd H3 lf (.lst (zs.map V.ref ++ us.map V.ref))) b = some (.tup row) := fun b row e => by
      rw [upd_ne (ne_of e h3 (by intro z; cases z))]
      exact e
     refine ⟨lf, lc, _, _, rfl, rfl, h3, hl3, by rw [List.length_map, List.length_map]; exact small6 (by omega), _, zs ++ us, rfl, fun b u e => ?_, ?_, ?_, ?_⟩
     ·rw [upd_ne (ne_of_none e hlf)]
      exact s3 _ _ (s2 _ _ e)
     ·rw [upd_same, List.map_append]
     ·rw [List.length_append, Nat.succ_mul]
      omega
     ·rw [List.range_succ, List.flatMap_append, List.flatMap_cons, List.flatMap_nil, List.append_nil]
      exact Paired.append (Paired.mapP hZ fun _ _ z => up _ _ (s3 _ _ z)) (Paired.mapP hU fun _ _ z => up _ _ z)
   ·rintro σ H2 ⟨v2, zs, rfl, s2, h2, _, hZ⟩
    exact ⟨_, rfl, q lf H2 hlf s2 ⟨zs, h2, hZ⟩⟩
theorem ok_turnUndoneL {f : Addr} {fd : FuncData} (F : Fun K "turn_undone" "turn_undone" sTurnUndone f fd) (T : Blt mg) : FnOk P w K mg base CX0 1 f fd ["turn"] spTUL := by
 refine F.ok scTU (fun vs H Q E h => ?_) (fun cdv A outer s H vs Q E hr h => ?_)
 ·obtain ⟨_, _, _, rfl, _⟩ := h
  rfl
 ·obtain ⟨a, n, r, rfl, ha, tr, h8, q⟩ := h
  refine ⟨_, pss_one (ps_ret (pe_callTy (call_tupleK K) rfl T.tuple bt_tuple (pa_cons (pe_lc ["number", "turn"] [none, some 0] rfl rfl (pi_range1 rfl T.range (pa_cons (pe_callB (call_lenK K) rfl T.len PySem.boot_len (pa_cons (pv 0) pa_nil)) pa_nil)) (fun _ _ _ _ _ => pg_c 0) (fun _ _ _ _ _ => pts_nil) (fun _ _ _ _ _ => pe_bmK K PySem.F.plainAttrs_list PySem.F.slot_list_index PySem.F.type_list_index mt_lindex (pv 1) (pa_cons (pv 0) pa_nil))) pa_nil))), ?_⟩
  refine ⟨_, rfl, a, _, rfl, .inl (SqL.of ha), _, rfl, by exact Om.c2, by rw [List.length_map, tr.len]; exact Om.c1 ‹_› rfl, fun l hl => ?_⟩
  rw [List.length_map, tr.len, Int.toNat_natCast]
  refine comp_pure (fun i => some (.int ((r.idxOf (i : Int) : Nat) : Int))) (fun σ => ∃ v, σ = [v, some (.ref a)]) (wlk_range (n := n)) (by rw [rng_len]; exact small6 (by exact Om.b1 ‹_› rfl)) hl (fun H' sm => trivial) ⟨none, rfl⟩ ?_ ?_
  ·rintro j x σ H' R' hj ⟨v, rfl⟩ sm kk
   obtain ⟨hjn, rfl⟩ := rng_get hj
   have ha' := sm _ _ ha
   refine ⟨_, rfl, .inl ⟨rfl, _, SqL.of ha'⟩, _, rfl, a, r, (j : Int), rfl, rfl, ha', row_has tr.len tr.nd tr.rg ⟨by exact Om.c6, by exact Om.c5 ‹_›⟩, ?_⟩
   exact kk [some (.int (j : Int)), some (.ref a)] H' ⟨_, rfl⟩ (Same.refl _)
  ·intro H2 s2 h2
   have e0 : (List.range (rng n).length).filterMap (fun i : Nat => some (V.int ((r.idxOf (i : Int) : Nat) : Int))) = (inv r).map V.int := by
    rw [fm_some, rng_len]
    unfold inv
    rw [tr.len, List.map_map]
    rfl
   rw [e0] at h2
   exact ⟨l, _, rfl, .inl ⟨SqL.of h2, fun t ht => q t _ (s2.trans (Same.new ht)) (s2.free ht) upd_same⟩⟩
theorem scAlongP : FnScope ["square", "top", "walk", "things", "rows"] ["square", "top", "walk"] (defScope sAlongP) := ⟨rfl, rfl, rfl, by decide +kernel, rfl, by decide +kernel, by decide +kernel⟩
theorem fm_top {R : List (List Int)} {a : Nat} {w : List Nat} : (List.range ((toI w).map V.int).length).filterMap (fun j => some (V.int (ent R a (w.getD j 0)))) = (w.map fun x => ent R a x).map V.int := by
 rw [filterMap_some, List.length_map, toI_len, List.map_map]
 refine List.ext_getElem? fun j => ?_
 rw [List.getElem?_map, List.getElem?_map]
 by_cases hj : j < w.length
 ·rw [List.getElem?_range hj, List.getElem?_eq_getElem hj]
  show some (V.int (ent R a (w.getD j 0))) = some (V.int (ent R a w[j]))
  rw [gDN hj]
 ·rw [List.getElem?_eq_none (by rw [List.length_range]; omega), List.getElem?_eq_none (by omega)]
  rfl
theorem toI_get {w : List Nat} {j : Nat} {y : V} (h : ((toI w).map V.int)[j]? = some y) : j < w.length /\ y = .int ((w.getD j 0 : Nat) : Int) := by
 unfold toI at h
 rw [List.getElem?_map, List.getElem?_map] at h
 by_cases hj : j < w.length
 ·rw [List.getElem?_eq_getElem hj] at h
  cases h
  exact ⟨hj, by rw [gDN hj]⟩
 ·rw [List.getElem?_eq_none (by omega)] at h
  cases h
theorem ok_alongP {f fU : Addr} {fd dU : FuncData} (F : Fun K "renaming_along" "renaming_along" sAlongP f fd) (T : Blt mg) (DU : Dfn K mg "turn_undone" sTurnUndone ["turn"] fU dU) : FnOk P w K mg base CX0 2 f fd ["square", "top", "walk"] spAlongP := by
 have GU : FnOk P w K mg base CX0 1 fU dU ["turn"] spTUL := ok_turnUndoneL DU.F T
 refine F.ok scAlongP (fun vs H Q E h => ?_) (fun cdv A outer s H vs Q E hr h => ?_)
 ·obtain ⟨_, _, _, _, _, _, rfl, _⟩ := h
  rfl
 ·obtain ⟨g, l, n, a, R, w, rfl, hT, ok, hRl, h1, h6, ha, hl, hw, q⟩ := h
  refine' ⟨_, pss_cons ?s0 (pss_cons ?s1 (pss_one (ps_ret (pe_tup (pa_cons (pv 4) (pa_cons (pe_call GU hr rfl DU.m DU.F.kp DU.b .nil pass0 (pa_cons (pv 2) pa_nil)) (pa_cons (pv 3) pa_nil))))))), ?rd⟩
  case s0 => exact ps_set (i := 3) scAlongP.nd rfl (Or.inr rfl) (pe_call GU hr rfl DU.m DU.F.kp DU.b .nil pass0 (pa_cons (pe_lc ["column", "square", "top"] [none, some 0, some 1] rfl rfl (pi_listK K (pv 2)) (fun _ _ _ _ _ => pg_c 0) (fun _ _ _ _ _ => pts_nil) (fun _ _ _ _ _ => pe_ix (ix_tupK K) (pe_ix (ix_tupK K) (pv 1) (pv 2) (fun _ _ => rfl)) (pv 0) (fun _ _ => rfl))) pa_nil))
  case s1 => exact ps_set (i := 4) scAlongP.nd rfl (Or.inl rfl) (pe_callTy (call_tupleK K) rfl T.tuple bt_tuple (pa_cons (pe_lc ["line", "things", "walk"] [none, some 3, some 2] rfl rfl (pi_tupK K (pv 0)) (fun _ _ _ _ _ => pg_c 0) (fun _ _ _ _ _ => pts_nil) (fun _ _ _ _ _ => pe_ix (ix_tupK K) (pv 1) (pe_ix (ix_tupK K) (pv 0) (pe_ix (ix_listK K) (pv 2) pe_int (fun _ _ => rfl)) (fun _ _ => rfl)) (fun _ _ => rfl))) pa_nil))
  case rd =>
   have tt := top_turn ok hRl hw ha
   have hwl : w.length = n := hw.len
   have hwi : ((toI w).map V.int).length = n := by rw [List.length_map, toI_len, hwl]
   obtain ⟨xA, pA, a1, a2, a3, a4⟩ := hT.at (k := a) (by exact Om.a1 ‹_› ‹_›)
   have hrowA := ent_row ok hRl ha
   refine ⟨_, rfl, l, rfl, ⟨_, SqL.of hl⟩, fun lc hlc => ?_⟩
   refine comp_pure (fun j => some (V.int (ent R a (w.getD j 0)))) (fun σ => ∃ v, σ = [v, some (.ref g), some (.int (a : Int))]) (wlk_list (xs := (toI w).map V.int)) (by rw [hwi]; exact small6 (by exact Om.b1 ‹_› rfl)) hlc (fun H' sm => SqL.of (sm _ _ hl)) ⟨none, rfl⟩ ?_ ?_
   ·rintro j y σ H' R' hy ⟨v, rfl⟩ sm kk
    obtain ⟨hj, rfl⟩ := toI_get hy
    have hc : w.getD j 0 < n := by rw [gDN hj]; exact (hw.all _).mp (List.getElem_mem _)
    exact ⟨_, rfl, _, rfl, g, _, _, .ref pA, rfl, rfl, SqT.of (sm _ _ a1), a3, _, rfl, pA, _, _, .int (ent R a (w.getD j 0)), rfl, rfl, SqT.of (sm _ _ a4), int_at (by rw [hrowA.len]; exact hc), kk _ H' ⟨some (.int ((w.getD j 0 : Nat) : Int)), rfl⟩ (Same.refl _)⟩
   intro H2 s2 h2
   rw [fm_top] at h2
   refine ⟨lc, n, w.map fun x => ent R a x, rfl, h2, tt, by exact Om.b1 ‹_› rfl, fun th H3 s3 hth0 hth => ?_⟩
   have s23 := s2.trans s3
   obtain ⟨gs, hg, hG⟩ := id hT
   have hgl : (gs.map V.ref).length = n := by rw [List.length_map, hG.length, hRl]
   have hw0 : w.getD 0 0 < n := hw.zero h1
   refine ⟨_, rfl, g, rfl, ⟨_, SqT.of (s23 _ _ hg)⟩, fun lr hlr => ?_⟩
   refine comp_pure (fun r => some (V.int ((thg R a w).getD (ent R r (w.getD 0 0)).toNat 0))) (fun σ => ∃ v, σ = [v, some (.ref th), some (.ref l)]) (wlk_tup (xs := gs.map V.ref)) (by rw [hgl]; exact small6 (by exact Om.b1 ‹_› rfl)) hlr (fun H' sm => SqT.of (sm _ _ (s23 _ _ hg))) ⟨none, rfl⟩ ?_ ?_
   ·rintro r y σ H' R' hy ⟨v, rfl⟩ sm kk
    rw [List.getElem?_map] at hy
    cases hpr : gs[r]? with
    | none => rw [hpr] at hy; cases hy
    | some p =>
    rw [hpr] at hy
    cases hy
    obtain ⟨Rr, hRr, hp⟩ := Paired.getL hG hpr
    have hrn : r < n := by have := (List.getElem?_eq_some_iff.mp hRr).1; exact Om.a2 ‹_› ‹_›
    have hRg : R.getD r [] = Rr := by rw [List.getD_eq_getElem?_getD, hRr]; rfl
    have hrow := ent_row ok hRl hrn
    obtain ⟨e1, e2⟩ := ent_nat ok hRl hrn hw0
    have sm' := s23.trans sm
    have hthl : (thg R a w).length = n := tt.inv.len
    rw [<- hRg] at hp
    have at1 : atI ((toI w).map V.int) (0 : Int) = some (.int ((w.getD 0 0 : Nat) : Int)) := atI_of (i := 0) (by
     unfold toI
     rw [List.getElem?_map, List.getElem?_map, List.getElem?_eq_getElem (by omega), gDN (by omega)]
     rfl)
    have at2 : atI ((R.getD r []).map V.int) ((w.getD 0 0 : Nat) : Int) = some (.int (ent R r (w.getD 0 0))) := int_at (by rw [hrow.len]; exact hw0)
    have at3 : atI ((thg R a w).map V.int) (ent R r (w.getD 0 0)) = some (.int ((thg R a w).getD (ent R r (w.getD 0 0)).toNat 0)) := by
     rw [e1]
     rw [Int.toNat_natCast]
     exact int_at (by exact Om.a1 ‹_› ‹_›)
    exact ⟨_, rfl, _, rfl, _, rfl, l, _, _, _, rfl, rfl, SqL.of (sm' _ _ hl), at1, p, _, _, _, rfl, rfl, SqT.of (sm' _ _ hp), at2, th, _, _, _, rfl, rfl, SqT.of (sm _ _ hth), at3, kk _ H' ⟨some (.ref p), rfl⟩ (Same.refl _)⟩
   intro H4 s4 h4
   have e4 : (List.range (gs.map V.ref).length).filterMap (fun r => some (V.int ((thg R a w).getD (ent R r (w.getD 0 0)).toNat 0))) = ((List.range n).map fun r => (thg R a w).getD (ent R r (w.getD 0 0)).toNat 0).map V.int := by
    rw [filterMap_some, hgl, List.map_map]
    rfl
   rw [e4] at h4
   refine ⟨lr, _, rfl, .inl ⟨SqL.of h4, fun tr htr => ?_⟩⟩
   have s5 : Same H4 (upd H4 tr (.tup (((List.range n).map fun r => (thg R a w).getD (ent R r (w.getD 0 0)).toNat 0).map V.int))) := Same.new htr
   have g5 : (upd H4 tr (.tup (((List.range n).map fun r => (thg R a w).getD (ent R r (w.getD 0 0)).toNat 0).map V.int))) tr = some (.tup (((List.range n).map fun r => (thg R a w).getD (ent R r (w.getD 0 0)).toNat 0).map V.int)) := upd_same
   generalize upd H4 tr (.tup (((List.range n).map fun r => (thg R a w).getD (ent R r (w.getD 0 0)).toNat 0).map V.int)) = H5 at s5 g5 ⊢
   have s35 := s4.trans s5
   have sH5 := s23.trans s35
   refine ⟨_, rfl, _, rfl, l, n, toI w, rfl, sH5 _ _ hl, hw.turn, by exact Om.b1 ‹_› rfl, fun tc H6 s6 _ htc => ?_⟩
   refine ⟨_, rfl, (show 3 <= sizeLine from small6 (by decide)), fun t ht => ?_⟩
   have s7 : Same H6 (upd H6 t (.tup [.ref tr, .ref tc, .ref th])) := Same.new ht
   have sH7 := (sH5.trans s6).trans s7
   exact q t _ ((sH5.trans s6).free ht) sH7 ⟨[tr, tc, th], upd_same, .cons (s7 _ _ (s6 _ _ g5)) (.cons (s7 _ _ htc) (.cons (s7 _ _ (s6 _ _ (s35 _ _ hth))) .nil))⟩
end
end My
namespace My
open PySem L2
theorem alg_sum {s : Nat -> Nat} {U : Nat -> Prop} {w ls : List Nat} (a : Alg s U w ls) : w.length = ls.sum := by
 induction a with
 | nil _ => rfl
 | step _ _ _ _ ih => rw [List.length_append, List.sum_cons, ih]
theorem sum_two : ∀ l : List Nat, (∀ x ∈ l, 2 <= x) -> 2 * l.length <= l.sum
 | [], _ => Nat.le_refl _
 | x :: l, h => by
  have := sum_two l fun y hy => h y (List.mem_cons_of_mem _ hy)
  have := h x List.mem_cons_self
  rw [List.length_cons, List.sum_cons]
  omega
section
variable {n : Nat} {R : List (List Int)} {a b : Nat}
theorem rgs_in (ok : OkRows n R) (hl : R.length = n) (ha : a < n) (hb : b < n) (hne : a ≠ b) : ∀ c ∈ rgs n R a b, 2 <= c.length /\ c.length <= n := by
 intro c hc
 have v := rings_cov (sF_one ok hl ha hb)
 have cy := v.cy c hc
 have hlt : ∀ x ∈ c, x < n := fun x hx => (v.all x).mpr ⟨c, hc, hx⟩
 refine ⟨?_, nat_len cy.nd hlt⟩
 have hp := cy.pos
 by_cases e : c.length = 1
 ·have h := cy.nx 0 hp
  rw [e] at h
  have hx := hlt _ cy.head
  have h2 := sF_ent ok hl ha hb hx
  rw [h] at h2
  exact absurd (ent_col ok hl ha hb hx h2) hne
 ·omega
theorem rgs_few (ok : OkRows n R) (hl : R.length = n) (ha : a < n) (hb : b < n) (hne : a ≠ b) : 2 * (rgs n R a b).length <= n := by
 have v := rings_cov (sF_one ok hl ha hb)
 obtain ⟨w, hw⟩ := alg_some (s := sF R a b) (f := (rgs n R a b).length) (C := rgs n R a b) (fun c hc => (v.cy c hc).pos) (Nat.le_refl _)
 obtain ⟨ls, al⟩ := (walks_alg v (Nat.le_refl _)).mp hw
 have hw' : w ∈ walksF n (rgs n R a b) := by rw [show walksF n (rgs n R a b) = walksF (rgs n R a b).length (rgs n R a b) from walks_fuel _ _ _ (few_rings _ _ _) (Nat.le_refl _)]; exact hw
 have hc := (walk_Cols ok hl ha hb hw').len
 obtain ⟨p, _⟩ := alg_lens al v
 have h2 := sum_two ls fun x hx => by
  obtain ⟨c, hc, rfl⟩ := List.mem_map.mp (p.mem_iff.mp hx)
  exact (rgs_in ok hl ha hb hne c hc).1
 have e := p.length_eq
 rw [List.length_map] at e
 have e2 : (rgs n R a b).length = ls.length := e.symm
 rw [<- alg_sum al, hc] at h2
 omega
end
theorem rgs_fuel (n : Nat) (R : List (List Int)) (a b : Nat) : walksF n (rgs n R a b) = walksF (rgs n R a b).length (rgs n R a b) := walks_fuel _ _ _ (few_rings _ _ _) (Nat.le_refl _)
noncomputable def slL (n : Nat) (R : List (List Int)) : List (List Int) := (twoL n).map fun x => sl n R x.1 x.2
noncomputable def leastL (n : Nat) (R : List (List Int)) : List Int := (slL n R).getD (argBest (fun i j => HT.lexLt ((slL n R).getD i []) ((slL n R).getD j [])) ((slL n R).length - 1)) []
noncomputable def hopR (n : Nat) (R : List (List Int)) (x : Nat × Nat) : List (List (List Int)) := if sl n R x.1 x.2 = leastL n R then (walksF (rgs n R x.1 x.2).length (rgs n R x.1 x.2)).map (alongR n R x.1) else []
noncomputable def hopeL (n : Nat) (R : List (List Int)) : List (List (List Int)) := if n = 1 then [stillR 1] else (twoL n).flatMap (hopR n R)
theorem mem_two {n a b : Nat} : (a, b) ∈ twoL n ↔ a < n /\ b < n /\ a ≠ b := by
 unfold twoL twoTo
 rw [List.mem_flatMap]
 constructor
 ·rintro ⟨x, hx, h⟩
  obtain ⟨y, hy, e⟩ := List.mem_map.mp h
  cases e
  obtain ⟨h1, h2⟩ := List.mem_filter.mp hy
  exact ⟨List.mem_range.mp hx, List.mem_range.mp h1, fun z => of_decide_eq_true h2 z.symm⟩
 ·rintro ⟨h1, h2, h3⟩
  exact ⟨a, List.mem_range.mpr h1, List.mem_map.mpr ⟨b, List.mem_filter.mpr ⟨List.mem_range.mpr h2, decide_eq_true (Ne.symm h3)⟩, rfl⟩⟩
theorem two_len (n : Nat) : (twoL n).length <= n * n := by
 unfold twoL
 have := flat_bound (m := n) (g := fun a => twoTo n a n) (List.range n) fun a _ => twoTo_len n a n
 rw [List.length_range] at this
 exact this
theorem two_pos {n : Nat} (h : 2 <= n) : 0 < (twoL n).length := List.length_pos_of_mem (mem_two.mpr ⟨show 0 < n by exact Om.p1 ‹_›, show 1 < n by exact Om.f5 ‹_›, by decide⟩)
theorem least_ok {n : Nat} {R : List (List Int)} (h : 2 <= n) : leastL n R ∈ slL n R /\ ∀ x ∈ slL n R, lexI x (leastL n R) = false := by
 have hp : 0 < (slL n R).length := by unfold slL; rw [List.length_map]; exact two_pos h
 have e : (fun i j => HT.lexLt ((slL n R).getD i []) ((slL n R).getD j [])) = fun i j => lexI ((slL n R).getD i []) ((slL n R).getD j []) := funext fun i => funext fun j => lexLt_is _ _
 unfold leastL
 rw [e]
 obtain ⟨h1, h2⟩ := best_min ord_lexI (fun i => (slL n R).getD i []) ((slL n R).length - 1)
 have g : ∀ i, i < (slL n R).length -> (slL n R).getD i [] ∈ slL n R := fun i hi => by
  rw [List.getD_eq_getElem?_getD, List.getElem?_eq_getElem hi]
  exact List.getElem_mem _
 refine ⟨g _ (by omega), fun x hx => ?_⟩
 obtain ⟨j, hj, rfl⟩ := List.getElem_of_mem hx
 have := h2 j (by exact Om.q2 ‹_›)
 rw [show (slL n R).getD j [] = (slL n R)[j] by rw [List.getD_eq_getElem?_getD, List.getElem?_eq_getElem hj]; rfl] at this
 exact this
theorem hope_mem {n : Nat} {R : List (List Int)} (h : 2 <= n) {r : List (List Int)} : r ∈ hopeL n R ↔ ∃ a b w, Hop n R a b w /\ r = alongR n R a w := by
 unfold hopeL
 rw [if_neg (by omega), List.mem_flatMap]
 obtain ⟨l1, l2⟩ := least_ok (R := R) h
 constructor
 ·rintro ⟨⟨a, b⟩, hab, hr⟩
  obtain ⟨h1, h2, h3⟩ := mem_two.mp hab
  unfold hopR at hr
  split at hr
  ·next e =>
   obtain ⟨w, hw, rfl⟩ := List.mem_map.mp hr
   refine ⟨a, b, w, ⟨h1, h2, h3, ?_, fun c d hc hd hcd => ?_⟩, rfl⟩
   ·rw [rgs_fuel]
    exact hw
   ·have e' : sl n R a b = leastL n R := e
    rw [e']
    exact l2 _ (List.mem_map.mpr ⟨(c, d), mem_two.mpr ⟨hc, hd, hcd⟩, rfl⟩)
  ·cases hr
 ·rintro ⟨a, b, w, hp, rfl⟩
  refine ⟨(a, b), mem_two.mpr ⟨hp.ha, hp.hb, hp.hne⟩, ?_⟩
  have e : sl n R a b = leastL n R := by
   obtain ⟨⟨c, d⟩, hcd, e⟩ := List.mem_map.mp l1
   obtain ⟨h1, h2, h3⟩ := mem_two.mp hcd
   refine ord_lexI.tot _ _ (l2 _ (List.mem_map.mpr ⟨(a, b), mem_two.mpr ⟨hp.ha, hp.hb, hp.hne⟩, rfl⟩)) ?_
   rw [<- e]
   exact hp.hm c d h1 h2 h3
  unfold hopR
  rw [if_pos e]
  refine List.mem_map.mpr ⟨w, ?_, rfl⟩
  have := hp.hw
  rw [rgs_fuel] at this
  exact this
theorem TG.up {H H' : Hp} {p : Addr} {R : List (List Int)} (g : TG H p R) (f : ∀ b row, H b = some (.tup row) -> H' b = some (.tup row)) : TG H' p R :=
 let ⟨ps, h, r⟩ := g
 ⟨ps, f _ _ h, Paired.mapP r fun _ _ z => f _ _ z⟩
noncomputable def RL (H : Hp) (l : Addr) (L : List (List (List Int))) : Prop := ∃ ps : List Addr, H l = some (.lst (ps.map V.ref)) /\ Paired (fun p (r : List (List Int)) => TG H p r) ps L
noncomputable def CcR (H : Hp) (n : Nat) (R : List (List Int)) (p : Addr) (x : Nat × Nat) : Prop := ∃ q : Addr, H p = some (.tup [.int (x.1 : Int), .ref q]) /\ LL H q (rgs n R x.1 x.2)
noncomputable def CcX (lc : Addr) (H : Hp) (n : Nat) (R : List (List Int)) (p : Addr) (x : Nat × Nat) : Prop := ∃ q : Addr, H p = some (.tup [.int (x.1 : Int), .ref q]) /\ p ≠ lc /\ q ≠ lc /\ ∃ rs : List Addr, H q = some (.lst (rs.map V.ref)) /\ Paired (fun p (r : List Nat) => H p = some (.lst ((toI r).map V.int)) /\ p ≠ lc) rs (rgs n R x.1 x.2)
theorem CcX.up {lc : Addr} {H H' : Hp} {n : Nat} {R : List (List Int)} {p : Addr} {x : Nat × Nat} (c : CcX lc H n R p x) (f : ∀ b o, b ≠ lc -> H b = some o -> H' b = some o) : CcX lc H' n R p x :=
 let ⟨q, h1, h2, h3, rs, h4, h5⟩ := c
 ⟨q, f _ _ h2 h1, h2, h3, rs, f _ _ h3 h4, Paired.mapP h5 fun _ _ z => ⟨f _ _ z.2 z.1, z.2⟩⟩
theorem CcX.cc {lc : Addr} {H : Hp} {n : Nat} {R : List (List Int)} {p : Addr} {x : Nat × Nat} (c : CcX lc H n R p x) : CcR H n R p x :=
 let ⟨q, h1, _, _, rs, h4, h5⟩ := c
 ⟨q, h1, rs, h4, Paired.mapP h5 fun _ _ z => z.1⟩
theorem best_le (lt : Nat -> Nat -> Bool) : ∀ k, argBest lt k <= k
 | 0 => Nat.le_refl _
 | k + 1 => by
  have := best_le lt k
  show (if lt (k + 1) (argBest lt k) = true then k + 1 else argBest lt k) <= k + 1
  split <;> omega
theorem eqVs_ints : ∀ l m : List Int, eqVs (l.map V.int) (m.map V.int) = decide (l = m)
 | [], [] => rfl
 | [], _ :: _ => by simp [eqVs]
 | _ :: _, [] => by simp [eqVs]
 | x :: l, y :: m => by
  have ih := eqVs_ints l m
  unfold eqVs at ih ⊢
  rw [List.map_cons, List.map_cons, List.zip_cons_cons, List.all_cons, List.length_cons, List.length_cons]
  rw [Bool.eq_iff_iff, Bool.and_eq_true, decide_eq_true_eq, decide_eq_true_eq] at ih
  rw [Bool.eq_iff_iff, Bool.and_eq_true, Bool.and_eq_true, decide_eq_true_eq, decide_eq_true_eq, List.cons.injEq]
  show (_ /\ (x == y) = true /\ _) ↔ _
  rw [beq_iff_eq]
  exact ⟨fun h => ⟨h.2.1, ih.mp ⟨by omega, h.2.2⟩⟩, fun h => ⟨by have := (ih.mpr h.2).1; omega, h.1, (ih.mpr h.2).2⟩⟩
theorem hop_few {n : Nat} {R : List (List Int)} (ok : OkRows n R) (hl : R.length = n) (h6 : n <= 6) {x : Nat × Nat} (hx : x ∈ twoL n) : (hopR n R x).length <= 1296 := by
 obtain ⟨a, b⟩ := x
 obtain ⟨ha, hb, hne⟩ := mem_two.mp hx
 unfold hopR
 split
 ·rw [List.length_map]
  have h1 := rgs_few ok hl ha hb hne
  exact Nat.le_trans (walks_few _ _ rfl fun c hc => Nat.le_trans (rgs_in ok hl ha hb hne c hc).2 h6) (bnd_le _ (by show (rgs n R a b).length <= 3; omega))
 ·exact Nat.zero_le _
noncomputable def spHope : Sp := fun vs H Q _ => ∃ (g : Addr) (n : Nat) (R : List (List Int)), vs = [.ref g] /\ TG H g R /\ OkRows n R /\ R.length = n /\ 1 <= n /\ n <= 6 /\ ∀ l H', H l = none -> Same H H' -> RL H' l (hopeL n R) -> Q (.ref l) H'
section
variable {P : Program} {w : World} {K : PySem.W.Frag} {mg : Str -> Option Value} {base : Heap}
structure HpD (K : PySem.W.Frag) (mg : Str -> Option Value) (fS fU fF fR fL fW fT fA : Addr) (dS dU dF dR dL dW dT dA : FuncData) : Prop where
 S : Dfn K mg "still" sStill ["n"] fS dS
 U : Dfn K mg "turn_undone" sTurnUndone ["turn"] fU dU
 F : Dfn K mg "ring_from" sRingFrom ["square", "one", "other", "column"] fF dF
 R : Dfn K mg "rings" sRingsP ["square", "one", "other"] fR dR
 L : Dfn K mg "lengths_of" sLengths ["circles"] fL dL
 W : Dfn K mg "walks" sWalks ["circles"] fW dW
 T : Dfn K mg "two_rows" sTwoRows ["size"] fT dT
 A : Dfn K mg "renaming_along" sAlongP ["square", "top", "walk"] fA dA
variable {fS fU fF fR fL fW fT fA : Addr} {dS dU dF dR dL dW dT dA : FuncData}
theorem scHope : FnScope ["square", "circles", "least", "found", "top", "told"] ["square"] (defScope sHopeful) := ⟨rfl, rfl, rfl, by decide +kernel, rfl, by decide +kernel, by decide +kernel⟩
set_option maxHeartbeats 1000000 in
theorem ok_hope {f : Addr} {fd : FuncData} (F : Fun K "hopeful" "hopeful" sHopeful f fd) (T : Blt mg) (Z : HpD K mg fS fU fF fR fL fW fT fA dS dU dF dR dL dW dT dA) : FnOk P w K mg base CX0 5 f fd ["square"] spHope := by
 have GS : FnOk P w K mg base CX0 4 fS dS ["n"] spStill := (ok_still Z.S.F T).mono (by decide)
 have GT : FnOk P w K mg base CX0 4 fT dT ["size"] spTwo := (ok_two Z.T.F T).mono (by decide)
 have GR : FnOk P w K mg base CX0 4 fR dR ["square", "one", "other"] spRings := (ok_ringsP Z.R.F T Z.F).mono (by decide)
 have GL : FnOk P w K mg base CX0 4 fL dL ["circles"] spLengths := (ok_lengths Z.L.F T).mono (by decide)
 have GW : FnOk P w K mg base CX0 4 fW dW ["circles"] (spWalks 4) := ok_walks Z.W T 4
 have GA : FnOk P w K mg base CX0 4 fA dA ["square", "top", "walk"] spAlongP := (ok_alongP Z.A.F T Z.U).mono (by decide)
 refine F.ok scHope (fun vs H Q E h => ?_) (fun cdv A outer s H vs Q E hr h => ?_)
 ·obtain ⟨_, _, _, rfl, _⟩ := h
  rfl
 ·obtain ⟨g, n, R, rfl, hT, ok, hRl, h1, h6, q⟩ := h
  have hu0 : ((A.deeper (PyProof.Rows.envOfC "hopeful" (defScope sHopeful) s.heap.objs.size f cdv))).units < cLine := by have := hr.un; omega
  have hu1 : ((A.deeper (PyProof.Rows.envOfC "hopeful" (defScope sHopeful) s.heap.objs.size f cdv))).units + 1 + 0 < cLine := by have := hr.un; omega
  refine' ⟨_, pss_cons (ps_if ?c0 (pss_one (ps_ret ?r0)) pss_nil) (pss_cons ?s1 (pss_cons ?s2 (pss_cons (ps_set (i := 3) scHope.nd rfl (Or.inl rfl) (pe_lst pa_nil)) (pss_cons (ps_for PassesOwn.never rfl (pi_list (pv 1)) (pg_tup rfl (pgs_cons (pg_name (i := 4) scHope.nd rfl (Or.inr rfl)) (pgs_cons (pg_name (i := 5) scHope.nd rfl (Or.inl rfl)) pgs_nil))) (pss_one (ps_if ?c1 (pss_one ?e) pss_nil))) (pss_one (ps_ret (pv 3))))))), ?rd⟩
  case c0 => exact pt_cmpR op_eq (pe_callB (call_lenK K) rfl T.len PySem.boot_len (pa_cons (pv 0) pa_nil)) pe_int (nomark _)
  case r0 => exact pe_lst (pa_cons (pe_call GS hr rfl Z.S.m Z.S.F.kp Z.S.b .nil pass0 (pa_cons pe_int pa_nil)) pa_nil)
  case s1 => exact ps_lc (i := 1) ["one", "other", "square"] [none, none, some 0] scHope.nd rfl (Or.inl rfl) rfl rfl (pi_listK K (pe_call GT hr rfl Z.T.m Z.T.F.kp Z.T.b .nil pass0 (pa_cons (pe_callB (call_lenK K) rfl T.len PySem.boot_len (pa_cons (pv 0) pa_nil)) pa_nil))) (fun _ _ _ _ _ => pg_tupK (n := 2) K rfl (pgs_cons (pg_c 0) (pgs_cons (pg_c 1) pgs_nil))) (fun _ _ _ _ _ => pts_nil) (fun _ _ _ _ _ => pe_tup (pa_cons (pv 0) (pa_cons (pe_call GR hr rfl Z.R.m Z.R.F.kp Z.R.b .nil pass0 (pa_cons (pv 2) (pa_cons (pv 0) (pa_cons (pv 1) pa_nil)))) pa_nil)))
  case s2 => exact ps_set (i := 2) scHope.nd rfl (Or.inl rfl) (pe_callB (call_min (d := 0) K rfl hu1) rfl T.min bt_min (pa_cons (pe_lc ["top", "told"] [none, none] rfl rfl (pi_listK K (pv 1)) (fun _ _ _ _ _ => pg_tupK (n := 2) K rfl (pgs_cons (pg_c 0) (pgs_cons (pg_c 1) pgs_nil))) (fun _ _ _ _ _ => pts_nil) (fun _ _ _ _ _ => pe_call GL hr rfl Z.L.m Z.L.F.kp Z.L.b .nil pass0 (pa_cons (pv 1) pa_nil))) pa_nil))
  case c1 => exact pt_cmpR (op_eqL hu0 K) (pe_call GL hr rfl Z.L.m Z.L.F.kp Z.L.b .nil pass0 (pa_cons (pv 5) pa_nil)) (pv 2) (nomark _)
  case e => exact ps_expr (pe_bm PySem.F.plainAttrs_list PySem.F.slot_list_extend PySem.F.type_list_extend mt_extend (pv 3) (pa_cons (pe_lc ["walk", "square", "top"] [none, some 0, some 4] rfl rfl (pi_listK K (pe_call GW hr rfl Z.W.m Z.W.F.kp Z.W.b .nil pass0 (pa_cons (pv 5) pa_nil))) (fun _ _ _ _ _ => pg_c 0) (fun _ _ _ _ _ => pts_nil) (fun _ _ _ _ _ => pe_call GA hr rfl Z.A.m Z.A.F.kp Z.A.b .nil pass0 (pa_cons (pv 1) (pa_cons (pv 2) (pa_cons (pv 0) pa_nil))))) pa_nil))
  case rd =>
   obtain ⟨gs, hg, hG⟩ := id hT
   have hgl : (gs.map V.ref).length = n := by rw [List.length_map, hG.length, hRl]
   refine ⟨_, rfl, g, _, rfl, .inr (SqT.of hg), rfl, _, rfl, ?_⟩
   rw [hgl]
   by_cases e1 : n = 1
   ·rw [show decide (V.int (n : Int) = V.int 1) = true from decide_eq_true (by rw [e1]; rfl)]
    refine iteT ⟨1, rfl, by decide, by decide, fun t H1 s1 hW => ⟨(show 1 <= sizeLine from small6 (by decide)), fun l hl => ?_⟩⟩
    refine q l _ (s1.free hl) (s1.trans (Same.new hl)) ⟨[t], upd_same, ?_⟩
    unfold hopeL
    rw [if_pos e1]
    exact .cons (hW.same (Same.new hl)) .nil
   rw [show decide (V.int (n : Int) = V.int 1) = false from decide_eq_false fun z => e1 (by rw [V.int.injEq] at z; omega)]
   refine iteF ?_
   have h2 : 2 <= n := by omega
   have eH : hopeL n R = (twoL n).flatMap (hopR n R) := by unfold hopeL; rw [if_neg e1]
   have htl := two_len n
   have hnn : n * n <= 6 * 6 := Nat.mul_le_mul h6 h6
   refine ⟨_, rfl, g, _, rfl, .inr (SqT.of hg), n, congrArg (fun k : Nat => [V.int (k : Int)]) hgl, h6, fun lt H1 hlt s1 hTL => ?_⟩
   obtain ⟨ts, hts, hTs⟩ := hTL
   have htsl : (ts.map V.ref).length = (twoL n).length := by rw [List.length_map, hTs.length]
   refine ⟨lt, rfl, ⟨_, SqL.of hts⟩, fun lc hlc => ?_⟩
   refine comp_of (wlk_list (xs := ts.map V.ref)) (fun j ys σ H2 => ∃ (v0 v1 : Option V) (us : List Addr), σ = [v0, v1, some (.ref g)] /\ ys = us.map V.ref /\ Same H1 H2 /\ H2 lc = some (.lst ys) /\ Paired (fun p x => CcX lc H2 n R p x) us ((twoL n).take j))
    ⟨none, none, [], rfl, rfl, Same.new hlc, upd_same, .nil⟩ (fun j ys σ H2 zz0 => by obtain ⟨_, _, _, _, _, s2, hl, _⟩ := zz0; exact ⟨SqL.of (s2 _ _ hts), hl⟩) ?_ ?_
   ·rintro j x ys σ H2 hj ⟨v0, v1, us, rfl, rfl, s2, hl2, hU⟩
    rw [List.getElem?_map] at hj
    cases hpj : ts[j]? with
    | none => rw [hpj] at hj; cases hj
    | some pt =>
    rw [hpj] at hj
    cases hj
    obtain ⟨⟨a, b⟩, hab, hpt⟩ := Paired.getL hTs hpj
    obtain ⟨ha, hb, hne⟩ := mem_two.mp (List.mem_of_getElem? hab)
    have hpt : H1 pt = some (.tup [.int (a : Int), .int (b : Int)]) := hpt
    refine ⟨pt, _, rfl, SqT.of (s2 _ _ hpt), rfl, _, _, rfl, _, _, rfl, rfl, ?_⟩
    refine ⟨_, rfl, _, rfl, _, rfl, _, rfl, g, n, a, b, R, rfl, hT.same (s1.trans s2), ok, hRl, by exact Om.b1 ‹_› rfl, ha, hb, hne, fun lr H3 s3 hlr hLL => ⟨(show 2 <= sizeLine from small6 (by decide)), fun t ht => ?_⟩⟩
    have s4 : Same H3 (upd H3 t (.tup [.int (a : Int), .ref lr])) := Same.new ht
    have g4 : (upd H3 t (.tup [.int (a : Int), .ref lr])) t = some (.tup [.int (a : Int), .ref lr]) := upd_same
    generalize upd H3 t (.tup [.int (a : Int), .ref lr]) = H4 at s4 g4 ⊢
    have s34 := s3.trans s4
    have hl4 := s34 _ _ hl2
    have hlrc : lr ≠ lc := fun z => by rw [z, hl2] at hlr; cases hlr
    have htc : t ≠ lc := fun z => by rw [z, s3 _ _ hl2] at ht; cases ht
    have hul : us.length = j := by
     rw [hU.length, List.length_take]
     have := (List.getElem?_eq_some_iff.mp hab).1
     exact Om.m1 ‹_›
    have hj36 : j <= 36 := by have := (List.getElem?_eq_some_iff.mp hab).1; omega
    obtain ⟨rs, hrs, hRs⟩ := hLL
    refine ⟨hl4, by rw [List.length_map, hul]; exact small1000 (by exact Om.b1 ‹_› rfl), _, _, us ++ [t], rfl, by rw [List.map_append]; rfl, fun b u e => ?_, upd_same, ?_⟩
    ·rw [upd_ne (ne_of_none e hlc)]
     exact s34 _ _ (s2 _ _ e)
    ·have et : (twoL n).take (j + 1) = (twoL n).take j ++ [(a, b)] := by rw [List.take_add_one, hab]; rfl
     rw [et]
     have up : ∀ b o, b ≠ lc -> H4 b = some o -> (upd H4 lc (.lst (us.map V.ref ++ [.ref t]))) b = some o := fun b o hb e => by rw [upd_ne hb]; exact e
     refine Paired.snoc (Paired.mapP hU fun _ _ z => z.up fun b o hb e => up b o hb (s34 _ _ e)) (CcX.up (H := H4) ⟨lr, g4, htc, hlrc, rs, s4 _ _ hrs, ?_⟩ up)
     exact Paired.mapP hRs fun x _ z => ⟨s4 _ _ z.1, fun e => by rw [e, hl2] at z; cases z.2.2⟩
   rintro ys σ HA ⟨v0, v1, us, rfl, rfl, sA, hlA, hUX⟩
   rw [htsl, List.take_of_length_le (Nat.le_refl _)] at hUX
   have hUA : Paired (fun p x => CcR HA n R p x) us (twoL n) := Paired.mapP hUX fun _ _ z => z.cc
   clear hUX
   have sHA := s1.trans sA
   have husl : (us.map V.ref).length = (twoL n).length := by rw [List.length_map, hUA.length]
   refine ⟨_, rfl, lc, rfl, ⟨_, SqL.of hlA⟩, fun lm hlm => ?_⟩
   refine comp_of (wlk_list (xs := us.map V.ref)) (fun j ys σ H2 => ∃ (v0 v1 : Option V) (ms : List Addr), σ = [v0, v1] /\ ys = ms.map V.ref /\ Same HA H2 /\ H2 lm = some (.lst ys) /\ Paired (fun p (x : List Int) => H2 p = some (.lst (x.map V.int)) /\ p ≠ lm) ms ((slL n R).take j))
    ⟨none, none, [], rfl, rfl, Same.new hlm, upd_same, .nil⟩ (fun j ys σ H2 zz0 => by obtain ⟨_, _, _, _, _, s2, hl, _⟩ := zz0; exact ⟨SqL.of (s2 _ _ hlA), hl⟩) ?_ ?_
   ·rintro j x ys σ H2 hj ⟨v0, v1, ms, rfl, rfl, s2, hl2, hM⟩
    rw [List.getElem?_map] at hj
    cases hpj : us[j]? with
    | none => rw [hpj] at hj; cases hj
    | some p =>
    rw [hpj] at hj
    cases hj
    obtain ⟨⟨a, b⟩, hab, qq, hp, hLq⟩ := Paired.getL hUA hpj
    obtain ⟨ha, hb, hne⟩ := mem_two.mp (List.mem_of_getElem? hab)
    have hp : HA p = some (.tup [.int (a : Int), .ref qq]) := hp
    have hLq : LL HA qq (rgs n R a b) := hLq
    refine ⟨p, _, rfl, SqT.of (s2 _ _ hp), rfl, _, _, rfl, _, _, rfl, rfl, ?_⟩
    have hfew := rgs_few ok hRl ha hb hne
    refine ⟨_, rfl, qq, _, rfl, hLq.same s2, by omega, fun t H3 ht s3 h3 => ?_⟩
    have h3 : H3 t = some (.lst ((sl n R a b).map V.int)) := h3
    have htm : t ≠ lm := fun z => by rw [z, hl2] at ht; cases ht
    have hl3 := s3 _ _ hl2
    have hj36 : j <= 36 := by have := (List.getElem?_eq_some_iff.mp hab).1; omega
    have hml : ms.length = j := by
     rw [hM.length, List.length_take]
     unfold slL
     rw [List.length_map]
     have := (List.getElem?_eq_some_iff.mp hab).1
     exact Om.m1 ‹_›
    refine ⟨hl3, by rw [List.length_map, hml]; exact small1000 (by exact Om.b1 ‹_› rfl), _, _, ms ++ [t], rfl, by rw [List.map_append]; rfl, fun b u e => ?_, upd_same, ?_⟩
    ·rw [upd_ne (ne_of_none e hlm)]
     exact s3 _ _ (s2 _ _ e)
    ·have et : (slL n R).take (j + 1) = (slL n R).take j ++ [sl n R a b] := by
      unfold slL
      rw [List.take_add_one, List.getElem?_map, hab]
      rfl
     rw [et]
     exact Paired.snoc (Paired.mapP hM fun _ _ z => ⟨by rw [upd_ne z.2]; exact s3 _ _ z.1, z.2⟩) ⟨by rw [upd_ne htm]; exact h3, htm⟩
   rintro ys σ HB ⟨v0, v1, ms, rfl, rfl, sB, hlB, hM⟩
   rw [husl, show (twoL n).length = (slL n R).length by unfold slL; rw [List.length_map], List.take_of_length_le (Nat.le_refl _)] at hM
   have hml : ms.length = (slL n R).length := hM.length
   have hmpos : 0 < (slL n R).length := by unfold slL; rw [List.length_map]; exact two_pos h2
   have hbl := best_le (fun i j => HT.lexLt ((slL n R).getD i []) ((slL n R).getD j [])) ((slL n R).length - 1)
   have hbi : argBest (fun i j => HT.lexLt ((slL n R).getD i []) ((slL n R).getD j [])) (ms.length - 1) < ms.length := by rw [hml]; omega
   obtain ⟨xm, hxm, hpm⟩ := Paired.getL hM (List.getElem?_eq_getElem hbi)
   have exm : xm = leastL n R := by
    unfold leastL
    rw [<- hml, List.getD_eq_getElem?_getD, hxm]
    rfl
   refine ⟨lm, ms, fun i j => HT.lexLt ((slL n R).getD i []) ((slL n R).getD j []), _, rfl, SqL.of hlB, by exact Om.a1 ‹_› ‹_›, fun i j p p' hi hj => ?_, List.getElem?_eq_getElem hbi, ?_⟩
   ·obtain ⟨x1, hx1, hq1⟩ := Paired.getL hM hi
    obtain ⟨x2, hx2, hq2⟩ := Paired.getL hM hj
    show LtD K HB 0 (.ref p) (.ref p') (HT.lexLt ((slL n R).getD i []) ((slL n R).getD j []))
    rw [List.getD_eq_getElem?_getD, hx1, List.getD_eq_getElem?_getD, hx2]
    exact LtD.lsts (SqL.of hq1.1) (SqL.of hq2.1)
   rw [exm] at hpm
   generalize ms[argBest (fun i j => HT.lexLt ((slL n R).getD i []) ((slL n R).getD j [])) (ms.length - 1)] = pm at hpm
   refine ⟨Nat.zero_le _, fun lf hlf => ?_⟩
   have sHB := sHA.trans sB
   have hlf0 : H lf = none := sHB.free hlf
   have sC : Same HB (upd HB lf (.lst [])) := Same.new hlf
   have hfC : (upd HB lf (.lst [])) lf = some (.lst []) := upd_same
   have hlfn : ∀ b o, HB b = some o -> b ≠ lf := fun b o e z => by rw [z, hlf] at e; cases e
   generalize upd HB lf (.lst []) = HC at sC hfC ⊢
   have sHC := sHB.trans sC
   have hlC := sC _ _ (sB _ _ hlA)
   have hlcf : lc ≠ lf := hlfn _ _ (sB _ _ hlA)
   refine ⟨_, rfl, lc, rfl, ⟨_, SqL.of hlC⟩, for_list (xs := us.map V.ref) (fun i σ H5 => ∃ (v4 v5 : Option V) (zs : List Addr), σ = [some (.ref g), some (.ref lc), some (.ref pm), some (.ref lf), v4, v5] /\ Same H H5 /\ (∀ b o, b ≠ lf -> HC b = some o -> H5 b = some o) /\ H5 lf = some (.lst (zs.map V.ref)) /\ Paired (fun p (r : List (List Int)) => TG H5 p r) zs (((twoL n).take i).flatMap (hopR n R)))
    ⟨none, none, [], rfl, sHC, fun _ _ _ e => e, hfC, .nil⟩ (fun i σ H5 _ zz0 => by obtain ⟨_, _, _, _, _, kp, _⟩ := zz0; exact SqL.of (kp _ _ hlcf hlC)) ?_ ?_⟩
   ·rintro i x σ H5 hx ⟨v4, v5, zs, rfl, s5, kp5, hf5, hZ⟩
    rw [List.getElem?_map] at hx
    cases hpi : us[i]? with
    | none => rw [hpi] at hx; cases hx
    | some p =>
    rw [hpi] at hx
    cases hx
    obtain ⟨⟨a, b⟩, hab, qq, hp, hLq⟩ := Paired.getL hUA hpi
    have hmem := List.mem_of_getElem? hab
    obtain ⟨ha, hb, hne⟩ := mem_two.mp hmem
    have hp : HA p = some (.tup [.int (a : Int), .ref qq]) := hp
    have hLq : LL HA qq (rgs n R a b) := hLq
    have k5 : ∀ b o, HA b = some o -> H5 b = some o := fun b o e => kp5 b o (hlfn _ _ (sB _ _ e)) (sC _ _ (sB _ _ e))
    have hLq5 : LL H5 qq (rgs n R a b) := hLq.same k5
    have hfew := rgs_few ok hRl ha hb hne
    have hin := rgs_in ok hRl ha hb hne
    refine ⟨p, _, rfl, SqT.of (k5 _ _ hp), rfl, _, _, rfl, _, _, rfl, rfl, ?_⟩
    refine ⟨_, rfl, qq, _, rfl, hLq5, by omega, fun t H6 ht s6 h6' => ?_⟩
    have h6' : H6 t = some (.lst ((sl n R a b).map V.int)) := h6'
    have hpm6 := s6 _ _ (kp5 _ _ (hlfn _ _ hpm.1) (sC _ _ hpm.1))
    refine ⟨_, rfl, t, pm, _, _, rfl, rfl, SqL.of h6', SqL.of hpm6, .inl ⟨map_ints_flat _, map_ints_flat _⟩, _, rfl, ?_⟩
    have hf6 := s6 _ _ hf5
    have et : (twoL n).take (i + 1) = (twoL n).take i ++ [(a, b)] := by rw [List.take_add_one, hab]; rfl
    have ef : ((twoL n).take (i + 1)).flatMap (hopR n R) = ((twoL n).take i).flatMap (hopR n R) ++ hopR n R (a, b) := by rw [et, List.flatMap_append, List.flatMap_cons, List.flatMap_nil, List.append_nil]
    by_cases hsl : sl n R a b = leastL n R
    rotate_left
    ·rw [show (if false = true then !eqVs ((sl n R a b).map V.int) ((leastL n R).map V.int) else eqVs ((sl n R a b).map V.int) ((leastL n R).map V.int)) = false by rw [if_neg Bool.false_ne_true, eqVs_ints]; exact decide_eq_false hsl]
     refine iteF ⟨_, _, zs, rfl, s5.trans s6, fun b o hb e => s6 _ _ (kp5 b o hb e), hf6, ?_⟩
     have eh : hopR n R (a, b) = [] := by unfold hopR; exact if_neg hsl
     rw [ef, eh, List.append_nil]
     exact Paired.mapP hZ fun _ _ z => z.same s6
    rw [show (if false = true then !eqVs ((sl n R a b).map V.int) ((leastL n R).map V.int) else eqVs ((sl n R a b).map V.int) ((leastL n R).map V.int)) = true by rw [if_neg Bool.false_ne_true, eqVs_ints]; exact decide_eq_true hsl]
    refine iteT ?_
    refine ⟨_, rfl, .inl ⟨rfl, _, SqL.of hf6⟩, _, rfl, qq, _, rfl, hLq5.same s6, by omega, by omega, fun c hc => ⟨by have := (hin c hc).1; exact Om.p1 ‹_›, Nat.le_trans (hin c hc).2 h6⟩, fun lw H7 hlw s7 hLW => ?_⟩
    obtain ⟨os, hos, hO⟩ := hLW
    have hO : Paired (fun p (r : List Nat) => H7 p = some (.lst ((toI r).map V.int)) /\ p ≠ lw /\ H6 p = none) os (walksF (rgs n R a b).length (rgs n R a b)) := hO
    have eh : hopR n R (a, b) = (walksF (rgs n R a b).length (rgs n R a b)).map (alongR n R a) := by unfold hopR; exact if_pos hsl
    have hcols : ∀ w ∈ walksF (rgs n R a b).length (rgs n R a b), Cols n w := fun w hw => walk_Cols ok hRl ha hb (by rw [rgs_fuel]; exact hw)
    have hWf : (walksF (rgs n R a b).length (rgs n R a b)).length <= 1296 := by
     have := hop_few ok hRl h6 hmem
     rw [eh, List.length_map] at this
     exact this
    generalize walksF (rgs n R a b).length (rgs n R a b) = W at hO eh hcols hWf
    have hosl : (os.map V.ref).length = W.length := by rw [List.length_map, hO.length]
    have s67 := s6.trans s7
    have hf7 := s7 _ _ hf6
    have hT7 : TG H7 g R := hT.same (s5.trans s67)
    refine ⟨lw, rfl, ⟨_, SqL.of hos⟩, fun l2 hl2 => ?_⟩
    refine comp_of (wlk_list (xs := os.map V.ref)) (fun j ys σ H8 => ∃ (v0 : Option V) (ks : List Addr), σ = [v0, some (.ref g), some (.int (a : Int))] /\ ys = ks.map V.ref /\ Same H7 H8 /\ H8 l2 = some (.lst ys) /\ Paired (fun p (r : List (List Int)) => TG H8 p r) ks ((W.map (alongR n R a)).take j))
     ⟨none, [], rfl, rfl, Same.new hl2, upd_same, .nil⟩ (fun j ys σ H8 zz0 => by obtain ⟨_, _, _, _, s8, hl, _⟩ := zz0; exact ⟨SqL.of (s8 _ _ hos), hl⟩) ?_ ?_
    ·rintro j y ys σ H8 hj ⟨v0, ks, rfl, rfl, s8, hl8, hK⟩
     rw [List.getElem?_map] at hj
     cases hpj : os[j]? with
     | none => rw [hpj] at hj; cases hj
     | some ow =>
     rw [hpj] at hj
     cases hj
     obtain ⟨wj, hwj, how⟩ := Paired.getL hO hpj
     refine ⟨_, rfl, _, rfl, _, rfl, g, ow, n, a, R, wj, rfl, hT7.same s8, ok, hRl, h1, h6, ha, s8 _ _ how.1, hcols wj (List.mem_of_getElem? hwj), fun t2 H9 ht2 s9 hTG => ?_⟩
     have hl9 := s9 _ _ hl8
     have hjW : j < W.length := (List.getElem?_eq_some_iff.mp hwj).1
     have hkl : ks.length = j := by
      rw [hK.length, List.length_take, List.length_map]
      exact Om.m1 ‹_›
     have up : ∀ b row, H9 b = some (.tup row) -> (upd H9 l2 (.lst (ks.map V.ref ++ [.ref t2]))) b = some (.tup row) := fun b row e => by
      rw [upd_ne (ne_of e hl9 (by intro z; cases z))]
      exact e
     refine ⟨hl9, by rw [List.length_map, hkl]; exact small2m (by exact Om.b2 ‹_› ‹_› rfl), _, ks ++ [t2], rfl, by rw [List.map_append]; rfl, fun b u e => ?_, upd_same, ?_⟩
     ·rw [upd_ne (ne_of_none e hl2)]
      exact s9 _ _ (s8 _ _ e)
     ·have ek : (W.map (alongR n R a)).take (j + 1) = (W.map (alongR n R a)).take j ++ [alongR n R a wj] := by rw [List.take_add_one, List.getElem?_map, hwj]; rfl
      rw [ek]
      exact Paired.snoc (Paired.mapP hK fun _ _ z => (z.same s9).up up) (hTG.up up)
    ·rintro ys σ H8 ⟨v0, ks, rfl, rfl, s8, hl8, hK⟩
     rw [hosl, List.take_of_length_le (by rw [List.length_map]; exact Nat.le_refl _)] at hK
     have hf8 := s8 _ _ hf7
     have hkl : ks.length <= 1296 := by rw [hK.length, List.length_map]; exact hWf
     have hzl : zs.length <= 36 * 1296 := by
      rw [hZ.length]
      refine Nat.le_trans (flat_bound (m := 1296) ((twoL n).take i) fun y hy => hop_few ok hRl h6 (List.mem_of_mem_take hy)) (Nat.mul_le_mul ?_ (Nat.le_refl _))
      rw [List.length_take]
      omega
     have up : ∀ b row, H8 b = some (.tup row) -> (upd H8 lf (.lst (zs.map V.ref ++ ks.map V.ref))) b = some (.tup row) := fun b row e => by
      rw [upd_ne (ne_of e hf8 (by intro z; cases z))]
      exact e
     have s58 := s67.trans s8
     refine ⟨lf, l2, _, _, rfl, rfl, hf8, hl8, Nat.le_of_lt (small2m (by rw [List.length_map, List.length_map]; omega)), _, _, zs ++ ks, rfl, fun b u e => ?_, fun b o hb e => ?_, ?_, ?_⟩
     ·rw [upd_ne (ne_of_none e hlf0)]
      exact s58 _ _ (s5 _ _ e)
     ·rw [upd_ne hb]
      exact s58 _ _ (kp5 b o hb e)
     ·rw [upd_same, List.map_append]
     ·rw [ef, eh]
      exact Paired.append (Paired.mapP hZ fun _ _ z => (z.same s58).up up) (Paired.mapP hK fun _ _ z => z.up up)
   ·rintro σ H5 ⟨v4, v5, zs, rfl, s5, kp5, hf5, hZ⟩
    rw [husl, List.take_of_length_le (Nat.le_refl _), <- eH] at hZ
    exact ⟨_, rfl, q lf H5 hlf0 s5 ⟨zs, hf5, hZ⟩⟩
end
end My
namespace My
open PySem L2
section
variable {P : Program} {w : World} {K : PySem.W.Frag} {mg : Str -> Option Value} {base : Heap}
end
end My
namespace My
open PySem L2
structure PlainOf (n : Nat) (R F h : List (List Int)) : Prop where
 mem : ∃ i : Nat, (hopeL n R)[i]? = some h /\ ∀ j g, j < i -> (hopeL n R)[j]? = some g -> renI n R g ≠ F
 is : renI n R h = F
 least : ∀ g ∈ hopeL n R, lexG (renI n R g) F = false
theorem hope_ren {n : Nat} {R : List (List Int)} (ok : OkRows n R) (hl : R.length = n) (h1 : 1 <= n) {g : List (List Int)} (hg : g ∈ hopeL n R) : Ren n g := by
 by_cases e : n = 1
 ·subst e
  unfold hopeL at hg
  rw [if_pos rfl, List.mem_singleton] at hg
  rw [hg]
  exact still_ren 1
 ·obtain ⟨a, b, w, hp, rfl⟩ := (hope_mem (by omega)).mp hg
  exact along_ren ok hl (hp.cols ok hl) h1 hp.ha
theorem one_square {R : List (List Int)} (ok : OkRows 1 R) (hl : R.length = 1) : R = [[0]] := by
 have h := ext_gen hl (fun r h => (ok.row r h).1) (S := [[0]]) rfl (by simp) fun a b ha hb => by
  have ea : a = 0 := by omega
  have eb : b = 0 := by omega
  subst ea
  subst eb
  have := ent_rg' ok hl (i := 0) (j := 0) (by assumption) (by assumption)
  have : ent R 0 0 = 0 := by omega
  rw [this]
  rfl
 exact h
theorem PlainOf.form {n : Nat} {R F h : List (List Int)} (h2 : 2 <= n) (p : PlainOf n R F h) : Form n R F := by
 obtain ⟨i, hi, _⟩ := p.mem
 refine ⟨?_, fun G hG => ?_⟩
 ·obtain ⟨a, b, w, hp, e⟩ := (hope_mem h2).mp (List.mem_of_getElem? hi)
  exact ⟨a, b, w, hp, by rw [<- p.is, e]⟩
 ·obtain ⟨a, b, w, hp, rfl⟩ := hG
  exact p.least _ ((hope_mem h2).mpr ⟨a, b, w, hp, rfl⟩)
theorem PlainOf.ok {n : Nat} {R F h : List (List Int)} (ok : OkRows n R) (hl : R.length = n) (h1 : 1 <= n) (p : PlainOf n R F h) : Ren n h /\ OkRows n F /\ F.length = n := by
 obtain ⟨i, hi, _⟩ := p.mem
 have rn := hope_ren ok hl h1 (List.mem_of_getElem? hi)
 have := renI_ok ok hl rn
 rw [p.is] at this
 exact ⟨rn, this.1, this.2⟩
theorem PlainOf.first {n : Nat} {R F h : List (List Int)} (ok : OkRows n R) (hl : R.length = n) (h1 : 1 <= n) (p : PlainOf n R F h) {j : Nat} (hj : j < n) : ent F 0 j = (j : Int) /\ ent F j 0 = (j : Int) := by
 obtain ⟨i, hi, _⟩ := p.mem
 by_cases e : n = 1
 ·subst e
  obtain ⟨_, okF, hlF⟩ := p.ok ok hl h1
  rw [one_square okF hlF]
  have : j = 0 := by omega
  subst this
  exact ⟨rfl, rfl⟩
 ·obtain ⟨a, b, w, hp, e2⟩ := (hope_mem (by omega)).mp (List.mem_of_getElem? hi)
  rw [<- p.is, e2]
  exact along_first ok hl (hp.cols ok hl) h1 hp.ha hj
end My
namespace My
open PySem L2
theorem first_int : ∀ (F G : List Int) (k i : Nat), F.length = G.length -> F.length - i = k -> i <= F.length -> firstF (fun j => decide (F.getD j 0 = G.getD j 0)) (fun j => decide (F.getD j 0 < G.getD j 0)) k i = lexI (F.drop i) (G.drop i)
 | F, G, 0, i, hl, hk, hi => by
  rw [List.drop_of_length_le (by omega), List.drop_of_length_le (by omega)]
  rfl
 | F, G, k + 1, i, hl, hk, hi => by
  have h1 : i < F.length := by omega
  have h2 : i < G.length := by exact Om.a2 ‹_› ‹_›
  have g1 : F.getD i 0 = F[i] := by rw [List.getD_eq_getElem?_getD, List.getElem?_eq_getElem h1]; rfl
  have g2 : G.getD i 0 = G[i] := by rw [List.getD_eq_getElem?_getD, List.getElem?_eq_getElem h2]; rfl
  rw [firstF, List.drop_eq_getElem_cons h1, List.drop_eq_getElem_cons h2]
  unfold lexI
  rw [lexo_cons, g1, g2]
  by_cases e : F[i] = G[i]
  ·rw [if_pos (decide_eq_true e), if_pos e]
   exact first_int F G k (i + 1) hl (by omega) h1
  ·rw [if_neg (by rw [decide_eq_true_eq]; exact e), if_neg e]
   rfl
section
variable {K : PySem.W.Frag}
theorem _root_.L2.LtD.cast {H : Hp} {d : Nat} {x y : V} {b b' : Bool} (h : LtD K H d x y b) (e : b = b') : LtD K H d x y b' := e ▸ h
theorem eqd_int {H : Hp} {d : Nat} (x y : Int) : EqD K H d (.int x) (.int y) (decide (x = y)) :=
 (EqD.flat (x := .int x) (y := .int y) rfl rfl).cast (by show (x == y) = decide (x = y); rw [Bool.eq_iff_iff, beq_iff_eq, decide_eq_true_eq])
theorem eqd_row {H : Hp} {d : Nat} {a c : Addr} {xs ys : List Int} (h1 : SqT K H a (xs.map V.int)) (h2 : SqT K H c (ys.map V.int)) : EqD K H (d + 1) (.ref a) (.ref c) (decide (xs = ys)) :=
 (eqd_tup h1 h2 (map_ints_flat _) (map_ints_flat _)).cast (eqVs_ints xs ys)
theorem int_get {xs : List Int} {i : Nat} {u : V} (h : (xs.map V.int)[i]? = some u) : u = .int (xs.getD i 0) := by
 rw [List.getElem?_map] at h
 cases e : xs[i]? with
 | none => rw [e] at h; cases h
 | some x =>
  rw [e] at h
  cases h
  rw [List.getD_eq_getElem?_getD, e]
  rfl
theorem ltd_row {H : Hp} {d : Nat} {a c : Addr} {xs ys : List Int} (h1 : SqT K H a (xs.map V.int)) (h2 : SqT K H c (ys.map V.int)) (hl : xs.length = ys.length) : LtD K H (d + 1) (.ref a) (.ref c) (lexI xs ys) := by
 refine (LtD.tups (e := fun j => decide (xs.getD j 0 = ys.getD j 0)) (r := fun j => decide (xs.getD j 0 < ys.getD j 0)) h1 h2 (by rw [List.length_map, List.length_map, hl]) (fun i u v hu hv => ?_) (fun i u v hu hv _ => ?_)).cast ?_
 ·rw [int_get hu, int_get hv]
  exact eqd_int _ _
 ·rw [int_get hu, int_get hv]
  exact LtD.nums _ _
 ·rw [List.length_map]
  exact first_int xs ys xs.length 0 hl (Nat.sub_zero _) (Nat.zero_le _)
theorem ref_get {H : Hp} {ps : List Addr} {F : List (List Int)} (r : Paired (fun p (r : List Int) => H p = some (.tup (r.map V.int))) ps F) {i : Nat} {u : V} (h : (ps.map V.ref)[i]? = some u) : ∃ p, u = .ref p /\ H p = some (.tup ((F.getD i []).map V.int)) /\ F[i]? = some (F.getD i []) := by
 rw [List.getElem?_map] at h
 cases e : ps[i]? with
 | none => rw [e] at h; cases h
 | some p =>
  rw [e] at h
  cases h
  obtain ⟨l, hl, hp⟩ := Paired.getL r e
  refine ⟨p, rfl, ?_⟩
  rw [List.getD_eq_getElem?_getD, hl]
  exact ⟨hp, rfl⟩
theorem ltd_TG {H : Hp} {n : Nat} {a c : Addr} {F G : List (List Int)} (x : TG H a F) (y : TG H c G) (hF : OkRows n F) (hG : OkRows n G) (l1 : F.length = n) (l2 : G.length = n) : LtD K H 2 (.ref a) (.ref c) (lexG F G) := by
 obtain ⟨ps, h1, r1⟩ := x
 obtain ⟨qs, h2, r2⟩ := y
 have e1 : (ps.map V.ref).length = F.length := by rw [List.length_map, r1.length]
 have e2 : (qs.map V.ref).length = G.length := by rw [List.length_map, r2.length]
 refine (LtD.tups (d := 1) (e := fun j => decide (F.getD j [] = G.getD j [])) (r := fun j => lexI (F.getD j []) (G.getD j [])) (SqT.of h1) (SqT.of h2) (by omega) (fun i u v hu hv => ?_) (fun i u v hu hv _ => ?_)).cast ?_
 ·obtain ⟨p, rfl, hp, _⟩ := ref_get r1 hu
  obtain ⟨q, rfl, hq, _⟩ := ref_get r2 hv
  exact eqd_row (SqT.of hp) (SqT.of hq)
 ·obtain ⟨p, rfl, hp, m1⟩ := ref_get r1 hu
  obtain ⟨q, rfl, hq, m2⟩ := ref_get r2 hv
  exact ltd_row (SqT.of hp) (SqT.of hq) (by rw [(hF.row _ (List.mem_of_getElem? m1)).1, (hG.row _ (List.mem_of_getElem? m2)).1])
 ·rw [e1]
  exact first_is F G F.length 0 (by exact Om.g2 ‹_› ‹_›) (Nat.sub_zero _) (Nat.zero_le _)
theorem eqd_TG {H : Hp} {a c : Addr} {F G : List (List Int)} (x : TG H a F) (y : TG H c G) : EqD K H 2 (.ref a) (.ref c) (decide (F = G)) := by
 obtain ⟨ps, h1, r1⟩ := x
 obtain ⟨qs, h2, r2⟩ := y
 have e1 : (ps.map V.ref).length = F.length := by rw [List.length_map, r1.length]
 have e2 : (qs.map V.ref).length = G.length := by rw [List.length_map, r2.length]
 refine (EqD.tups (d := 1) (e := fun j => decide (F.getD j [] = G.getD j [])) (SqT.of h1) (SqT.of h2) (fun i u v hu hv => ?_)).cast ?_
 ·obtain ⟨p, rfl, hp, _⟩ := ref_get r1 hu
  obtain ⟨q, rfl, hq, _⟩ := ref_get r2 hv
  exact eqd_row (SqT.of hp) (SqT.of hq)
 ·rw [e1, e2, Bool.eq_iff_iff, Bool.and_eq_true, decide_eq_true_eq, decide_eq_true_eq, List.all_eq_true]
  constructor
  ·rintro ⟨hl, h⟩
   refine List.ext_getElem hl fun i i1 i2 => ?_
   have := h i (List.mem_range.mpr i1)
   rw [Bool.and_eq_true, decide_eq_true_eq, decide_eq_true_eq] at this
   have h3 := this.2
   rw [List.getD_eq_getElem?_getD, List.getElem?_eq_getElem i1, List.getD_eq_getElem?_getD, List.getElem?_eq_getElem i2] at h3
   exact h3
  ·rintro rfl
   exact ⟨rfl, fun i hi => by rw [Bool.and_eq_true, decide_eq_true_eq, decide_eq_true_eq]; exact ⟨List.mem_range.mp hi, rfl⟩⟩
end
theorem hope_len {n : Nat} {R : List (List Int)} (ok : OkRows n R) (hl : R.length = n) (h6 : n <= 6) : (hopeL n R).length <= 36 * 1296 := by
 unfold hopeL
 split
 ·decide
 ·refine Nat.le_trans (flat_bound (m := 1296) (twoL n) fun y hy => hop_few ok hl h6 hy) (Nat.mul_le_mul ?_ (Nat.le_refl _))
  exact Nat.le_trans (two_len n) (Nat.mul_le_mul h6 h6)
theorem hope_pos {n : Nat} {R : List (List Int)} (ok : OkRows n R) (hl : R.length = n) (h1 : 1 <= n) : 0 < (hopeL n R).length := by
 by_cases e : n = 1
 ·unfold hopeL
  rw [if_pos e]
  decide
 ·have h2 : 2 <= n := by omega
  obtain ⟨l1, _⟩ := least_ok (R := R) h2
  obtain ⟨⟨a, b⟩, hab, e2⟩ := List.mem_map.mp l1
  obtain ⟨ha, hb, hne⟩ := mem_two.mp hab
  have v := rings_cov (sF_one ok hl ha hb)
  obtain ⟨w, hw⟩ := alg_some (s := sF R a b) (f := (rgs n R a b).length) (C := rgs n R a b) (fun c hc => (v.cy c hc).pos) (Nat.le_refl _)
  have : alongR n R a w ∈ hopeL n R := by
   unfold hopeL
   rw [if_neg e]
   refine List.mem_flatMap.mpr ⟨(a, b), hab, ?_⟩
   unfold hopR
   rw [if_pos e2]
   exact List.mem_map.mpr ⟨w, hw, rfl⟩
  exact List.length_pos_of_mem this
structure LeadOf (n : Nat) (R F : List (List Int)) (L : List (List (List Int))) : Prop where
 all : L = (hopeL n R).filter fun g => decide (renI n R g = F)
 mem : ∃ g ∈ hopeL n R, renI n R g = F
 least : ∀ g ∈ hopeL n R, lexG (renI n R g) F = false
theorem filter_first {α : Type} (p : α -> Bool) : ∀ (l : List α), (∃ x ∈ l, p x = true) -> ∃ (h : α) (i : Nat), (l.filter p)[0]? = some h /\ l[i]? = some h /\ p h = true /\ ∀ j g, j < i -> l[j]? = some g -> p g = false
 | [], h => by
  obtain ⟨_, hx, _⟩ := h
  cases hx
 | x :: l, h => by
  by_cases e : p x = true
  ·exact ⟨x, 0, by rw [List.filter_cons_of_pos e]; rfl, rfl, e, fun j g hj _ => absurd hj (Nat.not_lt_zero j)⟩
  ·have : ∃ y ∈ l, p y = true := by
    obtain ⟨y, hy, py⟩ := h
    cases hy with
    | head => exact absurd py e
    | tail _ hy => exact ⟨y, hy, py⟩
   obtain ⟨h, i, h1, h2, h3, h4⟩ := filter_first p l this
   refine ⟨h, i + 1, by rw [List.filter_cons_of_neg e]; exact h1, h2, h3, fun j g hj hg => ?_⟩
   cases j with
   | zero =>
    cases hg
    exact Bool.eq_false_iff.mpr e
   | succ j => exact h4 j g (by omega) hg
theorem LeadOf.plain {n : Nat} {R F : List (List Int)} {L : List (List (List Int))} (z : LeadOf n R F L) : ∃ h, L[0]? = some h /\ PlainOf n R F h := by
 obtain ⟨g, hg, e⟩ := z.mem
 obtain ⟨h, i, h1, h2, h3, h4⟩ := filter_first (fun g => decide (renI n R g = F)) (hopeL n R) ⟨g, hg, decide_eq_true e⟩
 rw [<- z.all] at h1
 exact ⟨h, h1, ⟨⟨i, h2, fun j g hj hg => of_decide_eq_false (h4 j g hj hg)⟩, of_decide_eq_true h3, z.least⟩⟩
end My
namespace My
noncomputable def permsL (n : Nat) : Nat -> List (List Nat)
 | 0 => [[]]
 | k + 1 => (permsL n k).flatMap fun l => ((List.range n).filter fun x => decide (x ∉ l)).map fun x => l ++ [x]
theorem mem_perms {n : Nat} : ∀ (k : Nat) (l : List Nat), l.length = k -> l.Nodup -> (∀ x ∈ l, x < n) -> l ∈ permsL n k
 | 0, l, h, _, _ => by rw [List.length_eq_zero_iff.mp h]; exact List.mem_singleton.mpr rfl
 | k + 1, l, h, nd, hl => by
  have hne : l ≠ [] := fun z => by rw [z] at h; cases h
  have e := List.dropLast_concat_getLast hne
  have nd' : l.dropLast.Nodup /\ l.getLast hne ∉ l.dropLast := by
   rw [<- e, List.nodup_append] at nd
   exact ⟨nd.1, fun z => nd.2.2 _ z _ (List.mem_singleton.mpr rfl) rfl⟩
  have ih := mem_perms k l.dropLast (by rw [List.length_dropLast, h]; rfl) nd'.1 fun x hx => hl x (by rw [<- e]; exact List.mem_append_left _ hx)
  rw [<- e]
  exact List.mem_flatMap.mpr ⟨_, ih, List.mem_map.mpr ⟨_, List.mem_filter.mpr ⟨List.mem_range.mpr (hl _ (List.getLast_mem hne)), decide_eq_true nd'.2⟩, rfl⟩⟩
theorem ringF_congr {n : Nat} {s t : Nat -> Nat} (h : ∀ x, x < n -> s x = t x) (hs : ∀ x, x < n -> s x < n) {c : Nat} : ∀ (m : Nat) (acc : List Nat), lastN acc < n -> ringF s c m acc = ringF t c m acc
 | 0, acc, _ => rfl
 | m + 1, acc, ha => by
  unfold ringF
  rw [<- h _ ha]
  split
  ·rfl
  ·exact ringF_congr h hs m _ (by rw [show lastN (acc ++ [s (lastN acc)]) = s (lastN acc) by simp [lastN]]; exact hs _ ha)
theorem ringsTo_congr {n : Nat} {s t : Nat -> Nat} (h : ∀ x, x < n -> s x = t x) (hs : ∀ x, x < n -> s x < n) : ∀ i, i <= n -> ringsTo s n i = ringsTo t n i
 | 0, _ => rfl
 | i + 1, hi => by
  rw [ringsTo, ringsTo, ringsTo_congr h hs i (by exact Om.f4 ‹_›), show ringL s n i = ringL t n i from ringF_congr h hs n [i] (by simp [lastN]; exact Om.f5 ‹_›)]
noncomputable def ltN (x y : Nat) : Bool := decide (x < y)
noncomputable def lexN : List Nat -> List Nat -> Bool := lexo ltN
theorem lexI_toI : ∀ a b : List Nat, lexI (toI a) (toI b) = lexN a b
 | [], [] => rfl
 | [], _ :: _ => rfl
 | _ :: _, [] => rfl
 | x :: a, y :: b => by
  have ih := lexI_toI a b
  show lexo ltI ((x : Int) :: toI a) ((y : Int) :: toI b) = lexo ltN (x :: a) (y :: b)
  rw [lexo_cons, lexo_cons]
  by_cases e : x = y
  ·rw [if_pos e, if_pos (by rw [e])]
   exact ih
  ·rw [if_neg e, if_neg (by omega)]
   unfold ltI ltN
   rw [Bool.eq_iff_iff, decide_eq_true_eq, decide_eq_true_eq]
   omega
noncomputable def insN (x : Nat) : List Nat -> List Nat
 | [] => [x]
 | y :: l => if x <= y then x :: y :: l else y :: insN x l
noncomputable def sortN : List Nat -> List Nat
 | [] => []
 | x :: l => insN x (sortN l)
theorem ins_permN (x : Nat) : ∀ l : List Nat, (insN x l).Perm (x :: l)
 | [] => List.Perm.refl _
 | y :: l => by
  unfold insN
  split
  ·exact List.Perm.refl _
  ·exact ((ins_permN x l).cons y).trans (List.Perm.swap x y l)
theorem sort_permN : ∀ l : List Nat, (sortN l).Perm l
 | [] => List.Perm.refl _
 | x :: l => (ins_permN x _).trans ((sort_permN l).cons x)
theorem ins_sortedN (x : Nat) : ∀ l : List Nat, l.Pairwise (· <= ·) -> (insN x l).Pairwise (· <= ·)
 | [], _ => List.pairwise_singleton _ _
 | y :: l, h => by
  unfold insN
  split
  ·next hx => exact List.pairwise_cons.mpr ⟨fun z hz => by
    rcases List.mem_cons.mp hz with e | hz
    ·exact Om.l3 ‹_› ‹_›
    ·have := (List.pairwise_cons.mp h).1 z hz
     omega, h⟩
  ·next hx =>
   refine List.pairwise_cons.mpr ⟨fun z hz => ?_, ins_sortedN x l (List.pairwise_cons.mp h).2⟩
   rcases List.mem_cons.mp ((ins_permN x l).mem_iff.mp hz) with e | hz
   ·omega
   ·exact (List.pairwise_cons.mp h).1 z hz
theorem sort_sortedN : ∀ l : List Nat, (sortN l).Pairwise (· <= ·)
 | [] => List.Pairwise.nil
 | x :: l => ins_sortedN x _ (sort_sortedN l)
noncomputable def rgL (n : Nat) (l : List Nat) : List (List Nat) := ringsTo (fun c => l.getD c 0) n n
noncomputable def lensN (n : Nat) (l : List Nat) : List Nat := sortN ((rgL n l).map List.length)
noncomputable def rhoF : Nat -> List Nat -> List Nat
 | _, [] => []
 | p, l :: ls => (List.range (l - 1)).map (fun i => p + i + 1) ++ [p] ++ rhoF (p + l) ls
noncomputable def derN (n : Nat) (l : List Nat) : Bool := (List.range n).all fun i => decide (l.getD i 0 ≠ i)
noncomputable def partsN : Nat -> List (List Nat)
 | 2 => [[2]]
 | 3 => [[3]]
 | 4 => [[2, 2], [4]]
 | 5 => [[2, 3], [5]]
 | 6 => [[2, 2, 2], [2, 4], [3, 3], [6]]
 | _ => []
theorem P1 : ∀ n, n < 7 -> ∀ l ∈ permsL n n, 2 <= n -> derN n l = true -> lensN n l ∈ partsN n := by decide +kernel
theorem P2 : ∀ n, n < 7 -> ∀ l ∈ permsL n n, derN n l = true -> ∀ m ∈ partsN n, lexN (lensN n l) m = false -> lexN l (rhoF 0 m) = false := by decide +kernel
theorem P3 : ∀ n, n < 7 -> ∀ l ∈ permsL n n, derN n l = true -> List.range n ∈ walksF n (rgL n l) -> l = rhoF 0 (lensN n l) := by decide +kernel
theorem P4 : ∀ n, n < 7 -> ∀ l ∈ permsL n n, derN n l = true -> l = rhoF 0 (lensN n l) -> List.range n ∈ walksF n (rgL n l) := by decide +kernel
theorem P5 : ∀ n, n < 7 -> ∀ m ∈ partsN n, (rhoF 0 m).getD 0 0 = 1 := by decide +kernel
theorem P6 : ∀ n, n < 7 -> ∀ l ∈ permsL n n, lexN l (List.range n) = false := by decide +kernel
end My
namespace My
theorem lexo_spec {α : Type} [DecidableEq α] {lt : α -> α -> Bool} (d : α) : ∀ (xs ys : List α), xs.length = ys.length -> lexo lt xs ys = true -> ∃ i, i < xs.length /\ (∀ j, j < i -> xs.getD j d = ys.getD j d) /\ xs.getD i d ≠ ys.getD i d /\ lt (xs.getD i d) (ys.getD i d) = true
 | [], [], _, h => by cases h
 | [], _ :: _, hl, _ => by cases hl
 | _ :: _, [], hl, _ => by cases hl
 | x :: xs, y :: ys, hl, h => by
  rw [lexo_cons] at h
  by_cases e : x = y
  ·rw [if_pos e] at h
   obtain ⟨i, h1, h2, h3, h4⟩ := lexo_spec d xs ys (by simpa using hl) h
   refine ⟨i + 1, by simpa using h1, fun j hj => ?_, h3, h4⟩
   cases j with
   | zero => exact e
   | succ j => exact h2 j (by omega)
  ·rw [if_neg e] at h
   exact ⟨0, Nat.succ_pos _, fun j hj => absurd hj (Nat.not_lt_zero j), e, h⟩
theorem lexo_intro {α : Type} [DecidableEq α] {lt : α -> α -> Bool} (d : α) : ∀ (xs ys : List α) (i : Nat), xs.length = ys.length -> i < xs.length -> (∀ j, j < i -> xs.getD j d = ys.getD j d) -> xs.getD i d ≠ ys.getD i d -> lexo lt xs ys = lt (xs.getD i d) (ys.getD i d)
 | [], ys, i, _, hi, _, _ => absurd hi (Nat.not_lt_zero i)
 | _ :: _, [], _, hl, _, _, _ => by cases hl
 | x :: xs, y :: ys, 0, hl, hi, h1, h2 => by
  rw [lexo_cons, if_neg (show x ≠ y from h2)]
  rfl
 | x :: xs, y :: ys, i + 1, hl, hi, h1, h2 => by
  rw [lexo_cons, if_pos (show x = y from h1 0 (Nat.succ_pos i))]
  exact lexo_intro d xs ys i (by simpa using hl) (by simpa using hi) (fun j hj => h1 (j + 1) (by omega)) h2
noncomputable def Nrm (n : Nat) (T : List (List Int)) : Prop := ∀ j, j < n -> ent T 0 j = (j : Int) /\ ent T j 0 = (j : Int)
noncomputable def rowN (n : Nat) (T : List (List Int)) (b : Nat) : List Nat := (List.range n).map (sF T 0 b)
section
variable {n : Nat} {T F R : List (List Int)}
theorem row_is' (ok : OkRows n T) (hl : T.length = n) {b : Nat} (hb : b < n) : T.getD b [] = (List.range n).map fun c => ent T b c := by
 have h := row_is ok hl hb
 rw [List.getD_eq_getElem?_getD, h]
 rfl
theorem rowN_ent (ok : OkRows n T) (hl : T.length = n) (h1 : 1 <= n) (h0 : ∀ j, j < n -> ent T 0 j = (j : Int)) {b x : Nat} (hb : b < n) (hx : x < n) : ((sF T 0 b x : Nat) : Int) = ent T b x := by
 have := sF_ent ok hl (show 0 < n by exact Om.f5 ‹_›) hb hx
 rw [h0 _ ((sF_one ok hl (show 0 < n by exact Om.f5 ‹_›) hb).lt x hx)] at this
 exact this
theorem rowN_is (ok : OkRows n T) (hl : T.length = n) (h1 : 1 <= n) (h0 : ∀ j, j < n -> ent T 0 j = (j : Int)) {b : Nat} (hb : b < n) : toI (rowN n T b) = T.getD b [] := by
 rw [row_is' ok hl hb]
 unfold rowN toI
 rw [List.map_map]
 exact List.map_congr_left fun x hx => rowN_ent ok hl h1 h0 hb (List.mem_range.mp hx)
theorem rowN_at {b x : Nat} (hx : x < n) : (rowN n T b).getD x 0 = sF T 0 b x := by
 unfold rowN
 rw [List.getD_eq_getElem?_getD, List.getElem?_map, List.getElem?_range hx]
 rfl
theorem rowN_perm (ok : OkRows n T) (hl : T.length = n) (h1 : 1 <= n) {b : Nat} (hb : b < n) : rowN n T b ∈ permsL n n := by
 have o := sF_one ok hl (show 0 < n by exact Om.f5 ‹_›) hb
 exact mem_perms n _ (by unfold rowN; rw [List.length_map, List.length_range]) (nodup_map fun i j hi hj e => o.inj i j hi hj e) fun x hx => by
  obtain ⟨i, hi, rfl⟩ := List.mem_map.mp hx
  exact o.lt i (List.mem_range.mp hi)
theorem rowN_der (ok : OkRows n T) (hl : T.length = n) (h1 : 1 <= n) (h0 : ∀ j, j < n -> ent T 0 j = (j : Int)) {b : Nat} (hb : b < n) (hb0 : b ≠ 0) : derN n (rowN n T b) = true := by
 refine List.all_eq_true.mpr fun i hi => decide_eq_true fun e => ?_
 have hi' := List.mem_range.mp hi
 rw [rowN_at hi'] at e
 have h := rowN_ent ok hl h1 h0 hb hi'
 rw [e, <- h0 i hi'] at h
 exact hb0 (ent_col ok hl (show 0 < n by exact Om.f5 ‹_›) hb hi' h).symm
theorem rgs_rowN (ok : OkRows n T) (hl : T.length = n) (h1 : 1 <= n) {b : Nat} (hb : b < n) : rgs n T 0 b = rgL n (rowN n T b) := by
 have o := sF_one ok hl (show 0 < n by exact Om.f5 ‹_›) hb
 exact ringsTo_congr (fun x hx => (rowN_at hx).symm) o.lt n (Nat.le_refl _)
theorem sl_rowN (ok : OkRows n T) (hl : T.length = n) (h1 : 1 <= n) {b : Nat} (hb : b < n) : sl n T 0 b = toI (lensN n (rowN n T b)) := by
 unfold sl lensN
 rw [rgs_rowN ok hl h1 hb]
 congr 1
 exact sorted_uniqN ((List.mergeSort_perm _ leN).trans (sort_permN _).symm) (ms_sorted _) (sort_sortedN _)
theorem toI_inj : ∀ {a b : List Nat}, toI a = toI b -> a = b
 | [], [], _ => rfl
 | [], _ :: _, h => by cases h
 | _ :: _, [], h => by cases h
 | x :: a, y :: b, h => by
  have h' : (x : Int) :: toI a = (y : Int) :: toI b := h
  rw [List.cons.injEq] at h'
  rw [toI_inj h'.2, show x = y by omega]
theorem cand_rows (ok : OkRows n R) (hl : R.length = n) (h2 : 2 <= n) (h6 : n < 7) {a b : Nat} {w : List Nat} (hp : Hop n R a b w) :
  OkRows n (renI n R (alongR n R a w)) /\ (renI n R (alongR n R a w)).length = n /\ Nrm n (renI n R (alongR n R a w)) /\ sl n (renI n R (alongR n R a w)) 0 1 = sl n R a b /\ rowN n (renI n R (alongR n R a w)) 1 = rhoF 0 (lensN n (rowN n (renI n R (alongR n R a w)) 1)) := by
 have h1 : 1 <= n := by exact Om.f4 ‹_›
 have c := hp.cols ok hl
 have rn := along_ren ok hl c h1 hp.ha
 obtain ⟨okF, hlF⟩ := renI_ok ok hl rn
 have nm : Nrm n (renI n R (alongR n R a w)) := fun j hj => along_first ok hl c h1 hp.ha hj
 have ea : rw_ (alongR n R a w) 0 a = 0 := by
  unfold rw_
  rw [al0 ok hl c h1 hp.ha hp.ha, Int.toNat_natCast]
  have hw : 0 < w.length := by rw [c.len]; exact Om.f5 ‹_›
  rw [gDN hw]
  cases w with
  | nil => exact absurd hw (Nat.lt_irrefl 0)
  | cons x w =>
   show List.idxOf (ent R a x) (ent R a x :: _) = 0
   rw [List.idxOf_cons_self]
 have ew : w.map (thO n (alongR n R a w)) = List.range n := by
  refine List.ext_getElem (by rw [List.length_map, List.length_range, c.len]) fun i hi1 hi2 => ?_
  rw [List.getElem_map, List.getElem_range]
  have hiw : i < w.length := by rw [List.length_map] at hi1; exact hi1
  have hx : w[i] < n := (c.all w[i]).mp (List.getElem_mem hiw)
  rw [tho_at hx]
  unfold rw_
  rw [al1 c hx, Int.toNat_natCast]
  refine idx_of c.turn (by rw [<- c.len]; exact hiw) hx ?_
  rw [List.getD_eq_getElem?_getD]
  unfold toI
  rw [List.getElem?_map, List.getElem?_eq_getElem hiw]
  rfl
 have cj := conj_ren rn ok hl hp.ha hp.hb
 have hb' := rw_lt rn (k := 0) (by decide) hp.hb
 have hw' := conj_walks cj (rings_cov (sF_one ok hl hp.ha hp.hb)) (rings_cov (sF_one okF hlF (rw_lt rn (by decide) hp.ha) hb')) (few_rings _ _ _) (few_rings _ _ _) (f' := n) hp.hw
 have hsl := sl_conj rn ok hl hp.ha hp.hb
 have hne : rw_ (alongR n R a w) 0 b ≠ 0 := fun e => hp.hne (rw_inj rn (k := 0) (by decide) hp.ha hp.hb (by rw [ea, e]))
 rw [ea] at hw' hsl
 rw [ew] at hw'
 generalize rw_ (alongR n R a w) 0 b = b' at hb' hw' hsl hne
 generalize renI n R (alongR n R a w) = F at *
 have h0 : ∀ j, j < n -> ent F 0 j = (j : Int) := fun j hj => (nm j hj).1
 have pm := rowN_perm okF hlF h1 hb'
 have dr := rowN_der okF hlF h1 h0 hb' hne
 have hw2 : List.range n ∈ walksF n (rgL n (rowN n F b')) := by
  rw [<- rgs_rowN okF hlF h1 hb']
  exact hw'
 have e3 := P3 n h6 _ pm dr hw2
 have e1 : ent F b' 0 = 1 := by
  rw [<- rowN_ent okF hlF h1 h0 hb' (show 0 < n by exact Om.f5 ‹_›), <- rowN_at (show 0 < n by exact Om.f5 ‹_›), e3, P5 n h6 _ (P1 n h6 _ pm h2 dr)]
  rfl
 have eb : b' = 1 := by
  have := (nm b' hb').2
  omega
 subst eb
 exact ⟨okF, hlF, nm, hsl, e3⟩
theorem ok_len (ok : OkRows n T) (hl : T.length = n) {k : Nat} (hk : k < n) : (T.getD k []).length = n := (ent_row ok hl hk).len
theorem row0 (ok : OkRows n T) (hl : T.length = n) (h1 : 1 <= n) (h0 : ∀ j, j < n -> ent T 0 j = (j : Int)) : T.getD 0 [] = toI (List.range n) := by
 rw [row_is' ok hl (show 0 < n by exact Om.f5 ‹_›)]
 unfold toI
 exact List.map_congr_left fun x hx => h0 x (List.mem_range.mp hx)
theorem still_along (ok : OkRows n T) (hl : T.length = n) (h1 : 1 <= n) (nm : Nrm n T) : renI n T (alongR n T 0 (List.range n)) = T := by
 have c : Cols n (List.range n) := ⟨List.nodup_range, fun x => List.mem_range⟩
 have rn := along_ren ok hl c h1 (show 0 < n by exact Om.f5 ‹_›)
 have er : ((List.range n).map fun x => ent T 0 x) = rngI n := by
  unfold rngI
  exact List.map_congr_left fun x hx => (nm x (List.mem_range.mp hx)).1
 have ix : ∀ x, x < n -> (rngI n).idxOf (x : Int) = x := fun x hx => idx_of (rngI_turn n) hx hx (rngI_at hx)
 have z0 : (List.range n).getD 0 0 = 0 := by
  rw [List.getD_eq_getElem?_getD, List.getElem?_range (show 0 < n by exact Om.f5 ‹_›)]
  rfl
 have e0 : ∀ k, k < n -> rw_ (alongR n T 0 (List.range n)) 0 k = k := fun k hk => by
  unfold rw_
  rw [al0 ok hl c h1 (show 0 < n by exact Om.f5 ‹_›) hk, Int.toNat_natCast, er, z0, (nm k hk).2, ix k hk]
 have e1 : ∀ k, k < n -> rw_ (alongR n T 0 (List.range n)) 1 k = k := fun k hk => by
  unfold rw_
  rw [al1 c hk, Int.toNat_natCast]
  exact ix k hk
 have e2 : ∀ k, k < n -> rw_ (alongR n T 0 (List.range n)) 2 k = k := fun k hk => by
  unfold rw_
  rw [al2 ok hl c (show 0 < n by exact Om.f5 ‹_›) hk, Int.toNat_natCast, er, ix k hk]
 obtain ⟨ok2, hl2⟩ := renI_ok ok hl rn
 refine ext_gen hl2 (fun r h => (ok2.row r h).1) hl (fun r h => (ok.row r h).1) fun i j hi hj => ?_
 have h := ren_ent rn ok hl hi hj
 rw [e0 i hi, e1 j hj, e2 _ (ent_nat ok hl hi hj).2] at h
 rw [h]
 exact (ent_nat ok hl hi hj).1.symm
theorem least_nrm (ok : OkRows n T) (hl : T.length = n) (h2 : 2 <= n) (h6 : n < 7) (nm : Nrm n T) (f : Form n T F) : lexG T F = false := by
 have h1 : 1 <= n := by exact Om.f4 ‹_›
 obtain ⟨a, b, w, hp, eF⟩ := f.1
 obtain ⟨okF, hlF, nmF, hsl, e3⟩ := cand_rows ok hl h2 h6 hp
 rw [<- eF] at okF hlF nmF hsl e3
 have h0 : ∀ j, j < n -> ent T 0 j = (j : Int) := fun j hj => (nm j hj).1
 have h0F : ∀ j, j < n -> ent F 0 j = (j : Int) := fun j hj => (nmF j hj).1
 have b1 : 1 < n := h2
 have pT := rowN_perm ok hl h1 b1
 have dT := rowN_der ok hl h1 h0 b1 (by decide)
 have pF := rowN_perm okF hlF h1 b1
 have dF := rowN_der okF hlF h1 h0F b1 (by decide)
 have m1 := hp.hm 0 1 (by exact Om.f5 ‹_›) b1 (by decide)
 rw [<- hsl, sl_rowN ok hl h1 b1, sl_rowN okF hlF h1 b1, lexI_toI] at m1
 have q := P2 n h6 _ pT dT _ (P1 n h6 _ pF h2 dF) m1
 rw [<- e3] at q
 cases hb : lexG T F with
 | false => rfl
 | true =>
  exfalso
  obtain ⟨i, hi, heq, hne, hlt⟩ := lexo_spec [] T F (by rw [hl, hlF]) hb
  have er0 : T.getD 0 [] = F.getD 0 [] := by rw [row0 ok hl h1 h0, row0 okF hlF h1 h0F]
  have i0 : i ≠ 0 := fun z => hne (by rw [z]; exact er0)
  by_cases i1 : i = 1
  ·subst i1
   rw [<- rowN_is ok hl h1 h0 b1, <- rowN_is okF hlF h1 h0F b1, lexI_toI, q] at hlt
   cases hlt
  ·have er1 := heq 1 (by omega)
   rw [<- rowN_is ok hl h1 h0 b1, <- rowN_is okF hlF h1 h0F b1] at er1
   have er := toI_inj er1
   rw [<- er] at e3
   have hw := P4 n h6 _ pT dT e3
   rw [<- rgs_rowN ok hl h1 b1] at hw
   have es : sl n T 0 1 = sl n T a b := by rw [<- hsl, sl_rowN ok hl h1 b1, sl_rowN okF hlF h1 b1, er]
   have hop : Hop n T 0 1 (List.range n) := ⟨by exact Om.f5 ‹_›, b1, by decide, hw, fun c d hc hd hcd => by rw [es]; exact hp.hm c d hc hd hcd⟩
   have cd : Cand n T T := ⟨0, 1, List.range n, hop, (still_along ok hl h1 nm).symm⟩
   rw [f.2 T cd] at hb
   cases hb
noncomputable def srt (n : Nat) (T : List (List Int)) : List (List Int) := [(List.range n).map fun k => ent T k 0, rngI n, rngI n]
theorem srt_ren (ok : OkRows n T) (hl : T.length = n) (h1 : 1 <= n) : Ren n (srt n T) := ⟨rfl, fun r hr => by
 rcases List.mem_cons.mp hr with e | hr
 ·rw [e]
  refine ⟨by rw [List.length_map, List.length_range], nodup_map fun i j hi hj e => ent_col ok hl hi hj (show 0 < n by exact Om.f5 ‹_›) e, fun x hx => ?_⟩
  obtain ⟨k, hk, rfl⟩ := List.mem_map.mp hx
  exact (ent_row ok hl (List.mem_range.mp hk)).val (show 0 < n by exact Om.f5 ‹_›)
 ·have : r = rngI n := by
   rcases List.mem_cons.mp hr with e | hr
   ·exact e
   ·exact List.mem_singleton.mp hr
  rw [this]
  exact rngI_turn n⟩
theorem srt_ent (ok : OkRows n T) (hl : T.length = n) (h1 : 1 <= n) {k j : Nat} (hk : k < n) (hj : j < n) : ent (renI n T (srt n T)) (ent T k 0).toNat j = ent T k j := by
 have rn := srt_ren ok hl h1
 have e0 : rw_ (srt n T) 0 k = (ent T k 0).toNat := by
  show (((List.range n).map fun k => ent T k 0).getD k 0).toNat = _
  rw [List.getD_eq_getElem?_getD, List.getElem?_map, List.getElem?_range hk]
  rfl
 have e1 : ∀ x, x < n -> rw_ (srt n T) 1 x = x := fun x hx => by
  show ((rngI n).getD x 0).toNat = _
  rw [rngI_at hx]
  exact Int.toNat_natCast _
 have e2 : ∀ x, x < n -> rw_ (srt n T) 2 x = x := fun x hx => by
  show ((rngI n).getD x 0).toNat = _
  rw [rngI_at hx]
  exact Int.toNat_natCast _
 have h := ren_ent rn ok hl hk hj
 rw [e0, e1 j hj, e2 _ (ent_nat ok hl hk hj).2] at h
 rw [h]
 exact (ent_nat ok hl hk hj).1.symm
theorem least_self (ok : OkRows n T) (hl : T.length = n) (h2 : 2 <= n) (h6 : n < 7) (f : Form n T F) : lexG T F = false := by
 have h1 : 1 <= n := by exact Om.f4 ‹_›
 obtain ⟨a, b, w, hp, eF⟩ := f.1
 obtain ⟨okF, hlF, nmF, _, _⟩ := cand_rows ok hl h2 h6 hp
 rw [<- eF] at okF hlF nmF
 cases hb : lexG T F with
 | false => rfl
 | true =>
  exfalso
  obtain ⟨i, hi, heq, hne, hlt⟩ := lexo_spec [] T F (by rw [hl, hlF]) hb
  rw [hl] at hi
  have h0F : ∀ j, j < n -> ent F 0 j = (j : Int) := fun j hj => (nmF j hj).1
  have i0 : i ≠ 0 := fun z => by
   subst z
   have rT := ent_row ok hl (show 0 < n by assumption)
   have hm : T.getD 0 [] ∈ T := by
    rw [List.getD_eq_getElem?_getD, List.getElem?_eq_getElem (show 0 < T.length by exact Om.a1 ‹_› ‹_›)]
    exact List.getElem_mem _
   have eT : T.getD 0 [] = toI ((T.getD 0 []).map Int.toNat) := by
    unfold toI
    rw [List.map_map]
    refine (List.map_id _).symm.trans (List.map_congr_left fun x hx => ?_)
    have := (ok.row _ hm).2.2 x hx
    show x = ((x.toNat : Nat) : Int)
    omega
   have pm : (T.getD 0 []).map Int.toNat ∈ permsL n n := by
    refine mem_perms n _ (by rw [List.length_map, rT.len]) ?_ fun x hx => ?_
    ·have nd := (ok.row _ hm).2.1
     rw [eT] at nd
     unfold toI at nd
     rw [List.nodup_iff_pairwise_ne, List.pairwise_map] at nd
     exact List.nodup_iff_pairwise_ne.mpr (nd.imp fun h e => h (by rw [e]))
    ·obtain ⟨y, hy, rfl⟩ := List.mem_map.mp hx
     have := (ok.row _ hm).2.2 y hy
     omega
   rw [row0 okF hlF h1 h0F, eT, lexI_toI, P6 n h6 _ pm] at hlt
   cases hlt
  have er0 := heq 0 (by omega)
  have h0 : ∀ j, j < n -> ent T 0 j = (j : Int) := fun j hj => by
   have := h0F j hj
   unfold ent at this ⊢
   rw [er0]
   exact this
  have rn := srt_ren ok hl h1
  obtain ⟨okS, hlS⟩ := renI_ok ok hl rn
  have fS := f.ren ok hl rn
  have nmS : Nrm n (renI n T (srt n T)) := fun j hj => by
   constructor
   ·have := srt_ent ok hl h1 (show 0 < n by exact Om.f5 ‹_›) hj
    rw [h0 0 (by exact Om.f5 ‹_›)] at this
    exact this.trans (h0 j hj)
   ·obtain ⟨k, hk, ek⟩ : ∃ k, k < n /\ ent T k 0 = (j : Int) := col_has ok hl (show 0 < n by exact Om.f5 ‹_›) hj
    have := srt_ent ok hl h1 hk (show 0 < n by exact Om.f5 ‹_›)
    rw [ek, Int.toNat_natCast] at this
    exact this
  have ls := least_nrm okS hlS h2 h6 nmS fS
  have same : ∀ j, j < n -> ent T j 0 = (j : Int) -> (renI n T (srt n T)).getD j [] = T.getD j [] := fun j hj e => by
   rw [row_is' okS hlS hj, row_is' ok hl hj]
   refine List.map_congr_left fun x hx => ?_
   have := srt_ent ok hl h1 hj (List.mem_range.mp hx)
   rw [e, Int.toNat_natCast] at this
   exact this
  have col : ∀ j, j < i -> ent T j 0 = (j : Int) := fun j hj => by
   have := (nmF j (by omega)).2
   unfold ent at this ⊢
   rw [heq j hj]
   exact this
  have ci : ent T i 0 = (i : Int) := by
   obtain ⟨x, hx, hxe, hxn, hxl⟩ := lexo_spec 0 (T.getD i []) (F.getD i []) (by rw [ok_len ok hl hi, ok_len okF hlF hi]) hlt
   have eFi := (nmF i hi).2
   have le : ent T i 0 <= (i : Int) := by
    by_cases x0 : x = 0
    ·subst x0
     have : (T.getD i []).getD 0 0 < (F.getD i []).getD 0 0 := of_decide_eq_true hxl
     unfold ent at eFi ⊢
     omega
    ·have := hxe 0 (by omega)
     unfold ent at eFi ⊢
     omega
   have vr := (ent_row ok hl hi).val (show 0 < n by exact Om.f5 ‹_›)
   have vr' : 0 <= ent T i 0 := vr.1
   by_cases z : (ent T i 0).toNat = i
   ·omega
   ·have c2 := col (ent T i 0).toNat (by omega)
    have := ent_col ok hl (show (ent T i 0).toNat < n by omega) hi (show 0 < n by exact Om.f5 ‹_›) (by rw [c2]; omega)
    exact absurd this z
  have : lexG (renI n T (srt n T)) F = true := by
   unfold lexG
   rw [lexo_intro [] _ _ i (by rw [hlS, hlF]) (by rw [hlS]; exact hi) (fun j hj => by rw [same j (by omega) (col j hj)]; exact heq j hj) (by rw [same i hi ci]; exact hne), same i hi ci]
   exact hlt
  rw [ls] at this
  cases this
theorem plain_least (ok : OkRows n R) (hl : R.length = n) (h1 : 1 <= n) (h6 : n <= 6) {h : List (List Int)} (p : PlainOf n R F h) {g : List (List Int)} (rn : Ren n g) : lexG (renI n R g) F = false := by
 obtain ⟨ok2, hl2⟩ := renI_ok ok hl rn
 by_cases e : n = 1
 ·subst e
  obtain ⟨_, okF, hlF⟩ := p.ok ok hl h1
  rw [one_square okF hlF, one_square ok2 hl2]
  exact ord_lexG.irr _
 ·exact least_self ok2 hl2 (by omega) (by exact Om.f3 ‹_›) ((p.form (by omega)).ren ok hl rn)
end
end My
namespace My
open PySem L2
noncomputable def PrR (H : Hp) (n : Nat) (R : List (List Int)) (p : Addr) (g : List (List Int)) : Prop := ∃ a b : Addr, H p = some (.tup [.ref a, .ref b]) /\ TG H a (renI n R g) /\ TG H b g
theorem PrR.up {H H' : Hp} {n : Nat} {R : List (List Int)} {p : Addr} {g : List (List Int)} (c : PrR H n R p g) (f : ∀ b row, H b = some (.tup row) -> H' b = some (.tup row)) : PrR H' n R p g :=
 let ⟨a, b, h1, h2, h3⟩ := c
 ⟨a, b, f _ _ h1, h2.up f, h3.up f⟩
noncomputable def spLead : Sp := fun vs H Q _ => ∃ (g : Addr) (n : Nat) (R : List (List Int)), vs = [.ref g] /\ TG H g R /\ OkRows n R /\ R.length = n /\ 1 <= n /\ n <= 6 /\ ∀ t p l H' F L, Same H H' -> H' t = some (.tup [.ref p, .ref l]) -> TG H' p F -> RL H' l L -> LeadOf n R F L -> Q (.ref t) H'
noncomputable def spPlain : Sp := fun vs H Q _ => ∃ (g : Addr) (n : Nat) (R : List (List Int)), vs = [.ref g] /\ TG H g R /\ OkRows n R /\ R.length = n /\ 1 <= n /\ n <= 6 /\ ∀ t p q H' F h, Same H H' -> H' t = some (.tup [.ref p, .ref q]) -> TG H' p F -> TG H' q h -> PlainOf n R F h -> Q (.ref t) H'
section
variable {P : Program} {w : World} {K : PySem.W.Frag} {mg : Str -> Option Value} {base : Heap}
variable {fS fU fF fR fL fW fT fA : Addr} {dS dU dF dR dL dW dT dA : FuncData}
theorem scLead : FnScope ["square", "told", "form"] ["square"] (defScope sLeading) := ⟨rfl, rfl, rfl, by decide +kernel, rfl, by decide +kernel, by decide +kernel⟩
set_option maxHeartbeats 1000000 in
theorem ok_lead {f fH fM fN fE : Addr} {fd dH dM dN dE : FuncData} (F : Fun K "leading" "leading" sLeading f fd) (T : Blt mg) (Z : HpD K mg fS fU fF fR fL fW fT fA dS dU dF dR dL dW dT dA) (DH : Dfn K mg "hopeful" sHopeful ["square"] fH dH) (DM : Dfn K mg "renamed" sRenamed ["begun", "renaming"] fM dM) (DN : Dfn K mg "undone" sUndone ["renaming"] fN dN) (DE : Dfn K mg "entry_renamed" sEntry ["entry", "things"] fE dE) : FnOk P w K mg base CX0 6 f fd ["square"] spLead := by
 have GH : FnOk P w K mg base CX0 5 fH dH ["square"] spHope := ok_hope DH.F T Z
 have GM : FnOk P w K mg base CX0 5 fM dM ["begun", "renaming"] spRenamed := (ok_renamed DM.F T DN Z.U DE).mono (by decide)
 refine F.ok scLead (fun vs H Q E h => ?_) (fun cdv A outer s H vs Q E hr h => ?_)
 ·obtain ⟨_, _, _, rfl, _⟩ := h
  rfl
 ·obtain ⟨g, n, R, rfl, hT, ok, hRl, h1, h6, q⟩ := h
  have hu : ((A.deeper (PyProof.Rows.envOfC "leading" (defScope sLeading) s.heap.objs.size f cdv))).units + 2 < cLine := by have := hr.un; omega
  have hu1 : ((A.deeper (PyProof.Rows.envOfC "leading" (defScope sLeading) s.heap.objs.size f cdv))).units + 1 + 2 < cLine := by have := hr.un; omega
  refine' ⟨_, pss_cons ?s1 (pss_cons ?s2 (pss_one (ps_ret ?s3))), ?rd⟩
  case s1 => exact ps_lc (i := 1) ["renaming", "square"] [none, some 0] scLead.nd rfl (Or.inl rfl) rfl rfl (pi_listK K (pe_call GH hr rfl DH.m DH.F.kp DH.b .nil pass0 (pa_cons (pv 0) pa_nil))) (fun _ _ _ _ _ => pg_c 0) (fun _ _ _ _ _ => pts_nil) (fun _ _ _ _ _ => pe_tup (pa_cons (pe_call GM hr rfl DM.m DM.F.kp DM.b .nil pass0 (pa_cons (pv 1) (pa_cons (pv 0) pa_nil))) (pa_cons (pv 0) pa_nil)))
  case s2 => exact ps_set (i := 2) scLead.nd rfl (Or.inr rfl) (pe_callB (call_min (d := 2) K rfl hu1) rfl T.min bt_min (pa_cons (pe_lc ["one", "renaming"] [none, none] rfl rfl (pi_listK K (pv 1)) (fun _ _ _ _ _ => pg_tupK (n := 2) K rfl (pgs_cons (pg_c 0) (pgs_cons (pg_c 1) pgs_nil))) (fun _ _ _ _ _ => pts_nil) (fun _ _ _ _ _ => pv 0)) pa_nil))
  case s3 => exact pe_tup (pa_cons (pv 2) (pa_cons (pe_lc ["one", "renaming", "form"] [none, none, some 2] rfl rfl (pi_listK K (pv 1)) (fun _ _ _ _ _ => pg_tupK (n := 2) K rfl (pgs_cons (pg_c 0) (pgs_cons (pg_c 1) pgs_nil))) (fun _ _ _ _ _ => pts_one (pt_cmpR (op_eqD (d := 2) hu K) (pv 0) (pv 2) (nomark _))) (fun _ _ _ _ _ => pv 1)) pa_nil))
  case rd =>
   refine ⟨_, rfl, g, n, R, rfl, hT, ok, hRl, h1, h6, fun lh H1 hlh s1 hRL => ?_⟩
   obtain ⟨hs, hhs, hHs⟩ := hRL
   have hhl : (hs.map V.ref).length = (hopeL n R).length := by rw [List.length_map, hHs.length]
   have hbd := hope_len ok hRl h6
   have hpos := hope_pos ok hRl h1
   have hT1 := hT.same s1
   refine ⟨lh, rfl, ⟨_, SqL.of hhs⟩, fun lc hlc => ?_⟩
   refine comp_of (wlk_list (xs := hs.map V.ref)) (fun j ys σ H2 => ∃ (v0 : Option V) (us : List Addr), σ = [v0, some (.ref g)] /\ ys = us.map V.ref /\ Same H1 H2 /\ H2 lc = some (.lst ys) /\ Paired (fun p x => PrR H2 n R p x) us ((hopeL n R).take j))
    ⟨none, [], rfl, rfl, Same.new hlc, upd_same, .nil⟩ (fun j ys σ H2 zz0 => by obtain ⟨_, _, _, _, s2, hl, _⟩ := zz0; exact ⟨SqL.of (s2 _ _ hhs), hl⟩) ?_ ?_
   ·rintro j x ys σ H2 hj ⟨v0, us, rfl, rfl, s2, hl2, hU⟩
    rw [List.getElem?_map] at hj
    cases hpj : hs[j]? with
    | none => rw [hpj] at hj; cases hj
    | some pr =>
    rw [hpj] at hj
    cases hj
    obtain ⟨rj, hrj, hpr⟩ := Paired.getL hHs hpj
    have rn := hope_ren ok hRl h1 (List.mem_of_getElem? hrj)
    refine ⟨_, rfl, _, rfl, g, pr, n, _, rj, rfl, (hT1.same s2).grid, ints_EG ok hRl, hpr.same s2, rn, h1, by exact Om.b1 ‹_› rfl, fun tm H3 s3 hG3 => ?_⟩
    rw [renB_int ok hRl rn] at hG3
    have hTm := GridT.tg hG3
    refine ⟨_, rfl, (show 2 <= sizeLine from small6 (by decide)), fun t ht => ?_⟩
    have s4 : Same H3 (upd H3 t (.tup [.ref tm, .ref pr])) := Same.new ht
    have g4 : (upd H3 t (.tup [.ref tm, .ref pr])) t = some (.tup [.ref tm, .ref pr]) := upd_same
    generalize upd H3 t (.tup [.ref tm, .ref pr]) = H4 at s4 g4 ⊢
    have s34 := s3.trans s4
    have hl4 := s34 _ _ hl2
    have hjl := (List.getElem?_eq_some_iff.mp hrj).1
    have hul : us.length = j := by
     rw [hU.length, List.length_take]
     exact Om.m1 ‹_›
    have up : ∀ b row, H4 b = some (.tup row) -> (upd H4 lc (.lst (us.map V.ref ++ [.ref t]))) b = some (.tup row) := fun b row e => by
     rw [upd_ne (ne_of e hl4 (by intro z; cases z))]
     exact e
    refine ⟨hl4, by rw [List.length_map, hul]; exact small2m (by exact Om.b2 ‹_› ‹_› rfl), _, us ++ [t], rfl, by rw [List.map_append]; rfl, fun b u e => ?_, upd_same, ?_⟩
    ·rw [upd_ne (ne_of_none e hlc)]
     exact s34 _ _ (s2 _ _ e)
    ·have et : (hopeL n R).take (j + 1) = (hopeL n R).take j ++ [rj] := by rw [List.take_add_one, hrj]; rfl
     rw [et]
     exact Paired.snoc (Paired.mapP hU fun _ _ z => z.up fun b row e => up b row (s34 _ _ e)) (PrR.up (H := H4) ⟨tm, pr, g4, hTm.same s4, (hpr.same s2).same s34⟩ up)
   rintro ys σ HA ⟨v0, us, rfl, rfl, sA, hlA, hU⟩
   rw [hhl, List.take_of_length_le (Nat.le_refl _)] at hU
   have sHA := s1.trans sA
   have husl : (us.map V.ref).length = (hopeL n R).length := by rw [List.length_map, hU.length]
   refine ⟨_, rfl, lc, rfl, ⟨_, SqL.of hlA⟩, fun lm hlm => ?_⟩
   refine comp_of (wlk_list (xs := us.map V.ref)) (fun j ys σ H2 => ∃ (v0 v1 : Option V) (ms : List Addr), σ = [v0, v1] /\ ys = ms.map V.ref /\ Same HA H2 /\ H2 lm = some (.lst ys) /\ Paired (fun p x => TG H2 p (renI n R x)) ms ((hopeL n R).take j))
    ⟨none, none, [], rfl, rfl, Same.new hlm, upd_same, .nil⟩ (fun j ys σ H2 zz0 => by obtain ⟨_, _, _, _, _, s2, hl, _⟩ := zz0; exact ⟨SqL.of (s2 _ _ hlA), hl⟩) ?_ ?_
   ·rintro j x ys σ H2 hj ⟨v0, v1, ms, rfl, rfl, s2, hl2, hM⟩
    rw [List.getElem?_map] at hj
    cases hpj : us[j]? with
    | none => rw [hpj] at hj; cases hj
    | some p =>
    rw [hpj] at hj
    cases hj
    obtain ⟨rj, hrj, ta, tb, hp, hta, htb⟩ := Paired.getL hU hpj
    refine ⟨p, _, rfl, SqT.of (s2 _ _ hp), rfl, _, _, rfl, _, _, rfl, rfl, ?_⟩
    have hjl := (List.getElem?_eq_some_iff.mp hrj).1
    have hml : ms.length = j := by
     rw [hM.length, List.length_take]
     exact Om.m1 ‹_›
    have up : ∀ b row, H2 b = some (.tup row) -> (upd H2 lm (.lst (ms.map V.ref ++ [.ref ta]))) b = some (.tup row) := fun b row e => by
     rw [upd_ne (ne_of e hl2 (by intro z; cases z))]
     exact e
    refine ⟨_, rfl, hl2, by rw [List.length_map, hml]; exact small2m (by exact Om.b2 ‹_› ‹_› rfl), _, _, ms ++ [ta], rfl, by rw [List.map_append]; rfl, fun b u e => ?_, upd_same, ?_⟩
    ·rw [upd_ne (ne_of_none e hlm)]
     exact s2 _ _ e
    ·have et : (hopeL n R).take (j + 1) = (hopeL n R).take j ++ [rj] := by rw [List.take_add_one, hrj]; rfl
     rw [et]
     exact Paired.snoc (Paired.mapP hM fun _ _ z => z.up up) ((hta.same s2).up up)
   rintro ys σ HB ⟨v0, v1, ms, rfl, rfl, sB, hlB, hM⟩
   rw [husl, List.take_of_length_le (Nat.le_refl _)] at hM
   have hml : ms.length = (hopeL n R).length := hM.length
   obtain ⟨hbl, hbm⟩ := best_min ord_lexG (fun i => renI n R ((hopeL n R).getD i [])) ((hopeL n R).length - 1)
   have hbi : argBest (fun i j => lexG (renI n R ((hopeL n R).getD i [])) (renI n R ((hopeL n R).getD j []))) (ms.length - 1) < ms.length := by rw [hml]; omega
   obtain ⟨xm, hxm, hpm⟩ := Paired.getL hM (List.getElem?_eq_getElem hbi)
   have hleast : ∀ x ∈ hopeL n R, lexG (renI n R x) (renI n R xm) = false := fun x hx => by
    obtain ⟨i, hi, rfl⟩ := List.getElem_of_mem hx
    have h3 := hbm i (by exact Om.q2 ‹_›)
    rw [<- hml] at h3
    have e3 : (hopeL n R).getD (argBest (fun i j => lexG (renI n R ((hopeL n R).getD i [])) (renI n R ((hopeL n R).getD j []))) (ms.length - 1)) [] = xm := by rw [List.getD_eq_getElem?_getD, hxm]; rfl
    have e4 : (hopeL n R).getD i [] = (hopeL n R)[i] := by rw [List.getD_eq_getElem?_getD, List.getElem?_eq_getElem hi]; rfl
    rw [e3, e4] at h3
    exact h3
   have hxmm := List.mem_of_getElem? hxm
   refine ⟨lm, ms, fun i j => lexG (renI n R ((hopeL n R).getD i [])) (renI n R ((hopeL n R).getD j [])), _, rfl, SqL.of hlB, by exact Om.a1 ‹_› ‹_›, fun i j p p' hi hj => ?_, List.getElem?_eq_getElem hbi, ?_⟩
   ·obtain ⟨x1, hx1, hq1⟩ := Paired.getL hM hi
    obtain ⟨x2, hx2, hq2⟩ := Paired.getL hM hj
    obtain ⟨o1, l1⟩ := renI_ok ok hRl (hope_ren ok hRl h1 (List.mem_of_getElem? hx1))
    obtain ⟨o2, l2⟩ := renI_ok ok hRl (hope_ren ok hRl h1 (List.mem_of_getElem? hx2))
    show LtD K HB 2 (.ref p) (.ref p') (lexG (renI n R ((hopeL n R).getD i [])) (renI n R ((hopeL n R).getD j [])))
    rw [List.getD_eq_getElem?_getD, hx1, List.getD_eq_getElem?_getD, hx2]
    exact ltd_TG hq1 hq2 o1 o2 l1 l2
   generalize ms[argBest (fun i j => lexG (renI n R ((hopeL n R).getD i [])) (renI n R ((hopeL n R).getD j []))) (ms.length - 1)] = pm at hpm
   clear hbm hbi hxm hbl
   generalize eF : renI n R xm = FF at hpm hleast
   refine ⟨_, rfl, _, rfl, lc, rfl, ⟨_, SqL.of (sB _ _ hlA)⟩, fun lf hlf => ?_⟩
   have hlB2 := sB _ _ hlA
   refine comp_of (wlk_list (xs := us.map V.ref)) (fun j ys σ H2 => ∃ (v0 v1 : Option V) (zs : List Addr), σ = [v0, v1, some (.ref pm)] /\ ys = zs.map V.ref /\ Same HB H2 /\ H2 lf = some (.lst ys) /\ zs.length <= j /\ Paired (fun p x => TG H2 p x) zs (((hopeL n R).take j).filter fun x => decide (renI n R x = FF)))
    ⟨none, none, [], rfl, rfl, Same.new hlf, upd_same, Nat.le_refl _, .nil⟩ (fun j ys σ H2 zz0 => by obtain ⟨_, _, _, _, _, s2, hl, _⟩ := zz0; exact ⟨SqL.of (s2 _ _ hlB2), hl⟩) ?_ ?_
   ·rintro j x ys σ H2 hj ⟨v0, v1, zs, rfl, rfl, s2, hl2, hzl, hZ⟩
    rw [List.getElem?_map] at hj
    cases hpj : us[j]? with
    | none => rw [hpj] at hj; cases hj
    | some p =>
    rw [hpj] at hj
    cases hj
    obtain ⟨rj, hrj, ta, tb, hp, hta, htb⟩ := Paired.getL hU hpj
    have sB2 := sB.trans s2
    refine ⟨p, _, rfl, SqT.of (sB2 _ _ hp), rfl, _, _, rfl, _, _, rfl, rfl, ?_⟩
    have hjl := (List.getElem?_eq_some_iff.mp hrj).1
    have et : (hopeL n R).take (j + 1) = (hopeL n R).take j ++ [rj] := by rw [List.take_add_one, hrj]; rfl
    refine ⟨_, rfl, _, rfl, _, eqd_TG (hta.same sB2) (hpm.same s2), _, rfl, ?_⟩
    by_cases e : renI n R rj = FF
    ·rw [if_neg Bool.false_ne_true, decide_eq_true e]
     refine iteT ?_
     have up : ∀ b row, H2 b = some (.tup row) -> (upd H2 lf (.lst (zs.map V.ref ++ [.ref tb]))) b = some (.tup row) := fun b row e => by
      rw [upd_ne (ne_of e hl2 (by intro z; cases z))]
      exact e
     refine ⟨_, rfl, hl2, by rw [List.length_map]; exact small2m (by omega), _, _, zs ++ [tb], rfl, by rw [List.map_append]; rfl, fun b u e => ?_, upd_same, by rw [List.length_append, List.length_singleton]; omega, ?_⟩
     ·rw [upd_ne (ne_of_none e hlf)]
      exact s2 _ _ e
     ·rw [et, List.filter_append, List.filter_cons_of_pos (by exact decide_eq_true e), List.filter_nil]
      exact Paired.snoc (Paired.mapP hZ fun _ _ z => z.up up) ((htb.same sB2).up up)
    ·rw [if_neg Bool.false_ne_true, decide_eq_false e]
     refine iteF ⟨_, _, zs, rfl, rfl, s2, hl2, by omega, ?_⟩
     rw [et, List.filter_append, List.filter_cons_of_neg (by rw [decide_eq_true_eq]; exact e), List.filter_nil, List.append_nil]
     exact hZ
   rintro ys σ HC ⟨v0, v1, zs, rfl, rfl, sC, hlC, _, hZ⟩
   rw [husl, List.take_of_length_le (Nat.le_refl _)] at hZ
   refine ⟨(show 2 <= sizeLine from small6 (by decide)), fun t ht => ?_⟩
   have s5 : Same HC (upd HC t (.tup [.ref pm, .ref lf])) := Same.new ht
   exact q t pm lf _ FF _ (sHA.trans (sB.trans (sC.trans s5))) upd_same (hpm.same (sC.trans s5)) ⟨zs, s5 _ _ hlC, Paired.mapP hZ fun _ _ z => z.same s5⟩ ⟨rfl, ⟨xm, hxmm, eF⟩, hleast⟩
theorem scPlain : FnScope ["square", "told"] ["square"] (defScope sPlain) := ⟨rfl, rfl, rfl, by decide +kernel, rfl, by decide +kernel, by decide +kernel⟩
theorem ok_plain {f fG : Addr} {fd dG : FuncData} (F : Fun K "plain" "plain" sPlain f fd) (T : Blt mg) (DG : Dfn K mg "leading" sLeading ["square"] fG dG) (GG : FnOk P w K mg base CX0 6 fG dG ["square"] spLead) : FnOk P w K mg base CX0 7 f fd ["square"] spPlain := by
 refine F.ok scPlain (fun vs H Q E h => ?_) (fun cdv A outer s H vs Q E hr h => ?_)
 ·obtain ⟨_, _, _, rfl, _⟩ := h
  rfl
 ·obtain ⟨g, n, R, rfl, hT, ok, hRl, h1, h6, q⟩ := h
  refine' ⟨_, pss_cons ?s1 (pss_one (ps_ret ?s2)), ?rd⟩
  case s1 => exact ps_set (i := 1) scPlain.nd rfl (Or.inl rfl) (pe_call GG hr rfl DG.m DG.F.kp DG.b .nil pass0 (pa_cons (pv 0) pa_nil))
  case s2 => exact pe_tup (pa_cons (pe_ix (ix_tupK K) (pv 1) pe_int (fun _ _ => rfl)) (pa_cons (pe_ix (ix_listK K) (pe_ix (ix_tupK K) (pv 1) pe_int (fun _ _ => rfl)) pe_int (fun _ _ => rfl)) pa_nil))
  case rd =>
   refine ⟨_, rfl, g, n, R, rfl, hT, ok, hRl, h1, h6, fun t p l H1 FF L s1 ht hF hL ld => ?_⟩
   obtain ⟨h, hh, pl⟩ := ld.plain
   obtain ⟨zs, hz, hZ⟩ := hL
   have hzl : 0 < zs.length := by
    rw [hZ.length]
    exact (List.getElem?_eq_some_iff.mp hh).1
   obtain ⟨h', hh', hp⟩ := Paired.getL hZ (List.getElem?_eq_getElem hzl)
   rw [hh] at hh'
   cases hh'
   refine ⟨_, rfl, t, _, _, .ref p, rfl, rfl, SqT.of ht, rfl, ?_⟩
   refine ⟨_, rfl, t, _, _, .ref l, rfl, rfl, SqT.of ht, rfl, ?_⟩
   refine ⟨l, _, _, .ref zs[0], rfl, rfl, SqL.of hz, ?_, (show 2 <= sizeLine from small6 (by decide)), fun r hr' => ?_⟩
   ·exact atI_of (i := 0) (by rw [List.getElem?_map, List.getElem?_eq_getElem hzl]; rfl)
   ·have s5 : Same H1 (upd H1 r (.tup [.ref p, .ref zs[0]])) := Same.new hr'
    exact q r p zs[0] _ FF h (s1.trans s5) upd_same (hF.same s5) (hp.same s5) pl
end
end My
namespace My
open PySem L2
noncomputable def PL (H : Hp) (l : Addr) (L : List (List Nat)) : Prop := ∃ ps : List Addr, H l = some (.lst (ps.map V.ref)) /\ Paired (fun p (r : List Nat) => H p = some (.tup ((toI r).map V.int))) ps L
noncomputable def moreN (n : Nat) (l : List Nat) (j : Nat) : List (List Nat) := ((List.range j).filter fun x => decide (x ∉ l)).map fun x => l ++ [x]
theorem more_succ (n : Nat) (l : List Nat) (j : Nat) : moreN n l (j + 1) = if j ∈ l then moreN n l j else moreN n l j ++ [l ++ [j]] := by
 unfold moreN
 rw [List.range_succ, List.filter_append, List.map_append]
 split
 ·next h => rw [List.filter_cons_of_neg (by simpa using h), List.filter_nil, List.map_nil, List.append_nil]
 ·next h => rw [List.filter_cons_of_pos (by simpa using h), List.filter_nil]; rfl
theorem more_len (n : Nat) (l : List Nat) (j : Nat) : (moreN n l j).length <= j := by
 unfold moreN
 rw [List.length_map]
 exact Nat.le_trans (List.length_filter_le _ _) (by rw [List.length_range]; exact Nat.le_refl _)
theorem perms_succ (n k : Nat) : permsL n (k + 1) = (permsL n k).flatMap fun l => moreN n l n := rfl
theorem perms_few : ∀ n, n < 5 -> ∀ k, k < 5 -> (permsL n k).length <= 64 := by decide +kernel
theorem perms_lens {n : Nat} : ∀ (k : Nat) (l : List Nat), l ∈ permsL n k -> l.length = k /\ l.Nodup /\ ∀ x ∈ l, x < n
 | 0, l, h => by rw [List.mem_singleton.mp h]; exact ⟨rfl, List.nodup_nil, fun x hx => by cases hx⟩
 | k + 1, l, h => by
  obtain ⟨l', h1, h2⟩ := List.mem_flatMap.mp h
  obtain ⟨x, hx, rfl⟩ := List.mem_map.mp h2
  obtain ⟨hx1, hx2⟩ := List.mem_filter.mp hx
  obtain ⟨e1, e2, e3⟩ := perms_lens k l' h1
  refine ⟨by rw [List.length_append, e1]; rfl, List.nodup_append.mpr ⟨e2, List.nodup_cons.mpr ⟨by simp, List.nodup_nil⟩, fun a ha b hb e => ?_⟩, fun y hy => ?_⟩
  ·rw [List.mem_singleton.mp hb] at e
   exact of_decide_eq_true hx2 (e ▸ ha)
  ·rcases List.mem_append.mp hy with z | z
   ·exact e3 y z
   ·rw [List.mem_singleton.mp z]
    exact List.mem_range.mp hx1
noncomputable def spTurns : Sp := fun vs H Q _ => ∃ n : Nat, vs = [.int (n : Int)] /\ n <= 4 /\ ∀ l H', Same H H' -> PL H' l (permsL n n) -> Q (.ref l) H'
section
variable {P : Program} {w : World} {K : PySem.W.Frag} {mg : Str -> Option Value} {base : Heap}
theorem scTurns : FnScope ["_law_n", "_law_found", "_law_k", "_law_more", "_law_some"] ["_law_n"] (defScope sTurns) := ⟨rfl, rfl, rfl, by decide +kernel, rfl, by decide +kernel, by decide +kernel⟩
theorem ok_turns {f : Addr} {fd : FuncData} (F : Fun K "_law_turns" "_law_turns" sTurns f fd) (T : Blt mg) : FnOk P w K mg base CX0 1 f fd ["_law_n"] spTurns := by
 refine F.ok scTurns (fun vs H Q E h => ?_) (fun cdv A outer s H vs Q E hr h => ?_)
 ·obtain ⟨_, rfl, _⟩ := h
  rfl
 ·obtain ⟨n, rfl, h4, q⟩ := h
  refine' ⟨_, pss_cons (ps_set (i := 1) scTurns.nd rfl (Or.inl rfl) (pe_lst (pa_cons (pe_tup pa_nil) pa_nil))) (pss_cons (ps_for PassesOwn.never rfl (pi_range1 rfl T.range (pa_cons (pv 0) pa_nil)) (pg_name (i := 2) scTurns.nd rfl (Or.inl rfl)) (pss_cons (ps_set (i := 3) scTurns.nd rfl (Or.inl rfl) (pe_lst pa_nil)) (pss_cons (ps_for PassesOwn.never rfl (pi_list (pv 1)) (pg_name (i := 4) scTurns.nd rfl (Or.inr rfl)) (pss_one ?b)) (pss_one (ps_set (i := 1) scTurns.nd rfl (Or.inl rfl) (pv 3)))))) (pss_one (ps_ret (pv 1)))), ?rd⟩
  case b => exact ps_expr (pe_bm PySem.F.plainAttrs_list PySem.F.slot_list_extend PySem.F.type_list_extend mt_extend (pv 3) (pa_cons (pe_lc ["_law_thing", "_law_some"] [none, some 4] rfl rfl (pi_range1 rfl T.range (pa_cons (pv 0) pa_nil)) (fun _ _ _ _ _ => pg_c 0) (fun _ _ _ _ _ => pts_one (pt_cmpR (op_notInK K) (pv 0) (pv 1) rfl)) (fun _ _ _ _ _ => pe_op (op_sumT K) (pv 1) (pe_tup (pa_cons (pv 0) pa_nil)))) pa_nil))
  case rd =>
   refine ⟨Nat.zero_le _, fun p0 f0 => ?_⟩
   have s0 : Same H (upd H p0 (.tup [])) := Same.new f0
   have g0 : (upd H p0 (.tup [])) p0 = some (.tup ((toI []).map V.int)) := upd_same
   generalize upd H p0 (.tup []) = H0 at s0 g0 ⊢
   refine ⟨(show 1 <= sizeLine from small6 (by decide)), fun l0 e0 => ?_⟩
   have s1 : Same H0 (upd H0 l0 (.lst [.ref p0])) := Same.new e0
   have g1 : PL (upd H0 l0 (.lst [.ref p0])) l0 (permsL n 0) := ⟨[p0], upd_same, .cons (s1 _ _ g0) .nil⟩
   have s01 := s0.trans s1
   generalize upd H0 l0 (.lst [.ref p0]) = H1 at s1 g1 s01 ⊢
   refine ⟨_, rfl, (n : Int), rfl, by exact Om.c2, by exact Om.c1 ‹_› rfl, ?_⟩
   rw [Int.toNat_natCast]
   refine for_range (lo := 0) (n := n) (fun k σ H2 => ∃ (l : Addr) (v2 v3 v4 : Option V), σ = [some (.int (n : Int)), some (.ref l), v2, v3, v4] /\ Same H H2 /\ PL H2 l (permsL n k)) ⟨l0, none, none, none, rfl, s01, g1⟩ ?_ ?_
   ·rintro k σ H2 hk ⟨l, v2, v3, v4, rfl, s2, ps, hps, hP⟩
    have hpl : (ps.map V.ref).length = (permsL n k).length := by rw [List.length_map, hP.length]
    have hbd := perms_few n (by exact Om.f3 ‹_›) k (by omega)
    refine ⟨Nat.zero_le _, fun lm hlm => ?_⟩
    have s3 : Same H2 (upd H2 lm (.lst [])) := Same.new hlm
    have g3 : (upd H2 lm (.lst [])) lm = some (.lst (([] : List Addr).map V.ref)) := upd_same
    generalize upd H2 lm (.lst []) = H3 at s3 g3 ⊢
    refine ⟨_, rfl, l, rfl, ⟨_, SqL.of (s3 _ _ hps)⟩, for_list (xs := ps.map V.ref) (fun i σ H4 => ∃ (v4 : Option V) (zs : List Addr), σ = [some (.int (n : Int)), some (.ref l), some (.int (0 + (k : Int))), some (.ref lm), v4] /\ Same H2 H4 /\ H4 lm = some (.lst (zs.map V.ref)) /\ zs.length <= i * n /\ Paired (fun p (r : List Nat) => H4 p = some (.tup ((toI r).map V.int))) zs (((permsL n k).take i).flatMap fun l => moreN n l n)) ⟨_, [], rfl, s3, g3, Nat.zero_le _, .nil⟩ (fun i σ H4 _ hh => by obtain ⟨_, _, _, s4, _⟩ := hh; exact SqL.of (s4 _ _ hps)) ?_ ?_⟩
    ·rintro i x σ H4 hx ⟨v4, zs, rfl, s4, h4m, hzl, hZ⟩
     rw [List.getElem?_map] at hx
     cases hpi : ps[i]? with
     | none => rw [hpi] at hx; cases hx
     | some p =>
     rw [hpi] at hx
     cases hx
     obtain ⟨r, hri, hpr⟩ := Paired.getL hP hpi
     have hrl : r.length = k := (perms_lens k r (List.mem_of_getElem? hri)).1
     have hi64 : i < 64 := by have := (List.getElem?_eq_some_iff.mp hri).1; exact Om.a3 ‹_› ‹_›
     refine ⟨_, rfl, .inl ⟨rfl, _, SqL.of h4m⟩, _, rfl, (n : Int), rfl, by exact Om.c2, by exact Om.c1 ‹_› rfl, fun lc hlc => ?_⟩
     rw [Int.toNat_natCast]
     refine comp_of (wlk_range (n := n)) (fun j ys σ H5 => ∃ (v0 : Option V) (us : List Addr), σ = [v0, some (.ref p)] /\ ys = us.map V.ref /\ Same H4 H5 /\ H5 lc = some (.lst ys) /\ Paired (fun p (r : List Nat) => H5 p = some (.tup ((toI r).map V.int))) us (moreN n r j))
      ⟨none, [], rfl, rfl, Same.new hlc, upd_same, .nil⟩ (fun j ys σ H5 hh => by obtain ⟨_, _, _, _, _, hl, _⟩ := hh; exact ⟨trivial, hl⟩) ?_ ?_
     ·rintro j x ys σ H5 hj ⟨v0, us, rfl, rfl, s5, hl5, hU⟩
      obtain ⟨hjn, rfl⟩ := rng_get hj
      have hp5 := s5 _ _ (s4 _ _ hpr)
      refine ⟨_, rfl, _, rfl, p, _, rfl, .inr (SqT.of hp5), rfl, map_ints_flat _, _, rfl, ?_⟩
      rw [if_pos rfl, inV_toI]
      by_cases e : j ∈ r
      ·rw [decide_eq_true e]
       refine iteF ⟨_, us, rfl, rfl, s5, hl5, ?_⟩
       rw [more_succ, if_pos e]
       exact hU
      ·rw [decide_eq_false e]
       refine iteT ⟨_, rfl, _, rfl, (show 1 <= sizeLine from small6 (by decide)), fun t0 ht0 => ?_⟩
       have s6 : Same H5 (upd H5 t0 (.tup [.int (j : Int)])) := Same.new ht0
       have g6 : (upd H5 t0 (.tup [.int (j : Int)])) t0 = some (.tup [.int (j : Int)]) := upd_same
       generalize upd H5 t0 (.tup [.int (j : Int)]) = H6 at s6 g6 ⊢
       refine ⟨p, t0, _, _, rfl, rfl, s6 _ _ hp5, g6, small6 (by rw [List.length_map, toI_len, hrl]; show k + 1 <= 1000; omega), fun t H7 s7 ht => ?_⟩
       have s57 := s6.trans s7
       have hl7 := s57 _ _ hl5
       have hul : us.length <= j := by rw [hU.length]; exact more_len n r j
       have up : ∀ b row, H7 b = some (.tup row) -> (upd H7 lc (.lst (us.map V.ref ++ [.ref t]))) b = some (.tup row) := fun b row e => by
        rw [upd_ne (ne_of e hl7 (by intro z; cases z))]
        exact e
       have ht' : H7 t = some (.tup ((toI (r ++ [j])).map V.int)) := by rw [ht, toI_append, List.map_append]; rfl
       refine ⟨hl7, by rw [List.length_map]; exact small1000 (by omega), _, us ++ [t], rfl, by rw [List.map_append]; rfl, fun b u e => ?_, upd_same, ?_⟩
       ·rw [upd_ne (ne_of_none e hlc)]
        exact s57 _ _ (s5 _ _ e)
       ·rw [more_succ, if_neg e]
        exact Paired.snoc (Paired.mapP hU fun _ _ z => up _ _ (s57 _ _ z)) (up _ _ ht')
     ·rintro ys σ H5 ⟨v0, us, rfl, rfl, s5, hl5, hU⟩
      rw [rng_len] at hU
      have h5m := s5 _ _ h4m
      have hul : us.length <= n := by rw [hU.length]; exact more_len n r n
      have hin : i * n <= 64 * 4 := Nat.mul_le_mul (by exact Om.d1 ‹_›) h4
      have up : ∀ b row, H5 b = some (.tup row) -> (upd H5 lm (.lst (zs.map V.ref ++ us.map V.ref))) b = some (.tup row) := fun b row e => by
       rw [upd_ne (ne_of e h5m (by intro z; cases z))]
       exact e
      refine ⟨lm, lc, _, _, rfl, rfl, h5m, hl5, by rw [List.length_map, List.length_map]; exact small6 (by omega), _, zs ++ us, rfl, fun b u e => ?_, ?_, ?_, ?_⟩
      ·rw [upd_ne (ne_of_none e hlm)]
       exact s5 _ _ (s4 _ _ e)
      ·rw [upd_same, List.map_append]
      ·rw [List.length_append, Nat.succ_mul]
       omega
      ·have et : (permsL n k).take (i + 1) = (permsL n k).take i ++ [r] := by rw [List.take_add_one, hri]; rfl
       rw [et, List.flatMap_append, List.flatMap_cons, List.flatMap_nil, List.append_nil]
       exact Paired.append (Paired.mapP hZ fun _ _ z => up _ _ (s5 _ _ z)) (Paired.mapP hU fun _ _ z => up _ _ z)
    ·rintro σ H4 ⟨v4, zs, rfl, s4, h4m, _, hZ⟩
     rw [hpl, List.take_of_length_le (Nat.le_refl _), <- perms_succ] at hZ
     exact ⟨_, rfl, lm, _, _, _, rfl, s2.trans s4, zs, h4m, hZ⟩
   ·rintro σ H2 ⟨l, v2, v3, v4, rfl, s2, hP⟩
    exact ⟨_, rfl, q l H2 s2 hP⟩
end
end My
namespace L2
open PySem PySem.Spec PyProof.Rows PySem.W SeqAt
noncomputable def rLtD (K : PySem.W.Frag) (d : Nat) : R2 := fun x y H Q => ∃ b, LtD K H d x y b /\ Q (.bl b) H
theorem op_ltD {X : Cx} {d : Nat} (hu : X.A.units + d < cLine) (K : PySem.W.Frag) (hK : X.K = K := by rfl) : OpR X (compareOp .Lt) (rLtD K d) := by
 subst hK
 intro pins s σ H x y v u Q I rx ry h
 obtain ⟨b, e, q⟩ := h
 exact e.at I rx ry hu _ _ _ _ ⟨.bl b, H, I, rfl, q⟩
end L2
namespace My
open PySem L2
noncomputable def LI (H : Hp) (l : Addr) (L : List (List Int)) : Prop := ∃ ps : List Addr, H l = some (.lst (ps.map V.ref)) /\ Paired (fun p (r : List Int) => H p = some (.lst (r.map V.int))) ps L
noncomputable def thF (L : List (List Int)) : List (List Int) := L.map fun r => r.map fun v => (((L.getD 0 []).idxOf v : Nat) : Int)
noncomputable def spThF : Sp := fun vs H Q _ => ∃ (l : Addr) (n : Nat) (L : List (List Int)), vs = [.ref l] /\ LI H l L /\ L.length = n /\ (∀ r ∈ L, Turn n r) /\ 1 <= n /\ n <= 6 /\ ∀ t H', Same H H' -> TG H' t (thF L) -> Q (.ref t) H'
section
variable {P : Program} {w : World} {K : PySem.W.Frag} {mg : Str -> Option Value} {base : Heap}
theorem scThF : FnScope ["_law_rows", "_law_things"] ["_law_rows"] (defScope sThFirst) := ⟨rfl, rfl, rfl, by decide +kernel, rfl, by decide +kernel, by decide +kernel⟩
theorem ok_thF {f : Addr} {fd : FuncData} (F : Fun K "_law_things_first" "_law_things_first" sThFirst f fd) (T : Blt mg) : FnOk P w K mg base CX0 1 f fd ["_law_rows"] spThF := by
 refine F.ok scThF (fun vs H Q E h => ?_) (fun cdv A outer s H vs Q E hr h => ?_)
 ·obtain ⟨_, _, _, rfl, _⟩ := h
  rfl
 ·obtain ⟨l, n, L, rfl, hL, hLl, hLt, h1, h6, q⟩ := h
  refine' ⟨_, pss_cons ?s0 (pss_one (ps_ret ?s1)), ?rd⟩
  case s0 => exact ps_set (i := 1) scThF.nd rfl (Or.inr rfl) (pe_lc ["_law_thing", "_law_rows"] [none, some 0] rfl rfl (pi_range1 rfl T.range (pa_cons (pe_callB (call_lenK K) rfl T.len PySem.boot_len (pa_cons (pv 0) pa_nil)) pa_nil)) (fun _ _ _ _ _ => pg_c 0) (fun _ _ _ _ _ => pts_nil) (fun _ _ _ _ _ => pe_bmK K PySem.F.plainAttrs_list PySem.F.slot_list_index PySem.F.type_list_index mt_lindex (pe_ix (ix_listK K) (pv 1) pe_int (fun _ _ => rfl)) (pa_cons (pv 0) pa_nil)))
  case s1 => exact pe_callTy (call_tupleK K) rfl T.tuple bt_tuple (pa_cons (pe_lc ["_law_row_here", "_law_things"] [none, some 1] rfl rfl (pi_listK K (pv 0)) (fun _ _ _ _ _ => pg_c 0) (fun _ _ _ _ _ => pts_nil) (fun _ _ _ _ _ => pe_callTy (call_tupleK K) rfl T.tuple bt_tuple (pa_cons (pe_lc ["_law_thing", "_law_things"] [none, some 1] rfl rfl (pi_listK K (pv 0)) (fun _ _ _ _ _ => pg_c 0) (fun _ _ _ _ _ => pts_nil) (fun _ _ _ _ _ => pe_ix (ix_listK K) (pv 1) (pv 0) (fun _ _ => rfl))) pa_nil))) pa_nil)
  case rd =>
   obtain ⟨ps, hps, hP⟩ := id hL
   have hpl : (ps.map V.ref).length = n := by rw [List.length_map, hP.length, hLl]
   obtain ⟨p0, hp0, hr0⟩ := Paired.getR hP (List.getElem?_eq_getElem (show 0 < L.length by omega))
   have e0 : L.getD 0 [] = L[0]'(by omega) := by rw [List.getD_eq_getElem?_getD, List.getElem?_eq_getElem (by omega)]; rfl
   have t0 : Turn n (L.getD 0 []) := by rw [e0]; exact hLt _ (List.getElem_mem _)
   rw [<- e0] at hr0
   generalize hR0 : L.getD 0 [] = R0 at t0 hr0
   have at0 : atI (ps.map V.ref) (0 : Int) = some (.ref p0) := atI_of (i := 0) (by rw [List.getElem?_map, hp0]; rfl)
   refine ⟨_, rfl, l, _, rfl, .inl (SqL.of hps), _, rfl, by exact Om.c2, by rw [hpl]; exact Om.c1 ‹_› rfl, fun lt hlt => ?_⟩
   rw [hpl, Int.toNat_natCast]
   refine comp_pure (fun i => some (.int ((R0.idxOf (i : Int) : Nat) : Int))) (fun σ => ∃ v, σ = [v, some (.ref l)]) (wlk_range (n := n)) (by rw [rng_len]; exact small6 (by exact Om.b1 ‹_› rfl)) hlt (fun H' sm => trivial) ⟨none, rfl⟩ ?_ ?_
   ·rintro j x σ H' R' hj ⟨v, rfl⟩ sm kk
    obtain ⟨hjn, rfl⟩ := rng_get hj
    have hp' := sm _ _ hr0
    refine ⟨_, rfl, l, _, _, .ref p0, rfl, rfl, SqL.of (sm _ _ hps), at0, .inl ⟨rfl, _, SqL.of hp'⟩, _, rfl, p0, R0, (j : Int), rfl, rfl, hp', row_has t0.len t0.nd t0.rg ⟨by exact Om.c6, by exact Om.c5 ‹_›⟩, ?_⟩
    exact kk [some (.int (j : Int)), some (.ref l)] H' ⟨_, rfl⟩ (Same.refl _)
   intro H2 s2 h2
   have e2 : (List.range (rng n).length).filterMap (fun i : Nat => some (V.int ((R0.idxOf (i : Int) : Nat) : Int))) = (inv R0).map V.int := by
    rw [fm_some, rng_len]
    unfold inv
    rw [t0.len, List.map_map]
    rfl
   rw [e2] at h2
   refine ⟨_, rfl, l, rfl, ⟨_, SqL.of (s2 _ _ hps)⟩, fun lr hlr => ?_⟩
   refine comp_of (wlk_list (xs := ps.map V.ref)) (fun i ys σ H3 => ∃ (v : Option V) (qs : List Addr), σ = [v, some (.ref lt)] /\ ys = qs.map V.ref /\ Same H2 H3 /\ H3 lr = some (.lst ys) /\ Paired (fun p (r : List Int) => H3 p = some (.tup (r.map V.int))) qs ((thF L).take i))
    ⟨none, [], rfl, rfl, Same.new hlr, upd_same, .nil⟩ (fun i ys σ H3 hh => by obtain ⟨_, _, _, _, s3, hl3, _⟩ := hh; exact ⟨SqL.of (s3 _ _ (s2 _ _ hps)), hl3⟩) ?_ ?_
   ·rintro i x ys σ H3 hx ⟨v, qs, rfl, rfl, s3, hl3, hQ⟩
    rw [List.getElem?_map] at hx
    cases hpi : ps[i]? with
    | none => rw [hpi] at hx; cases hx
    | some p =>
    rw [hpi] at hx
    cases hx
    obtain ⟨r, hri, hpr⟩ := Paired.getL hP hpi
    have tr := hLt r (List.mem_of_getElem? hri)
    have s23 := s2.trans s3
    have hp3 := s23 _ _ hpr
    have ht3 := s3 _ _ h2
    have hrl : (r.map V.int).length = n := by rw [List.length_map, tr.len]
    refine ⟨_, rfl, p, rfl, ⟨_, SqL.of hp3⟩, fun li hli => ?_⟩
    refine comp_pure (fun j => some (.int ((R0.idxOf (r.getD j 0) : Nat) : Int))) (fun σ => ∃ v, σ = [v, some (.ref lt)]) (wlk_list (xs := r.map V.int)) (by rw [hrl]; exact small6 (by exact Om.b1 ‹_› rfl)) hli (fun H' sm => SqL.of (sm _ _ hp3)) ⟨none, rfl⟩ ?_ ?_
    ·rintro j y σ H' R' hy ⟨v', rfl⟩ sm kk
     rw [int_get hy]
     have hj : j < n := by rw [<- hrl]; exact (List.getElem?_eq_some_iff.mp hy).1
     obtain ⟨vz, ez, hz⟩ := tr.val hj
     have hat : atI ((inv R0).map V.int) (r.getD j 0) = some (.int ((R0.idxOf (r.getD j 0) : Nat) : Int)) := by
      rw [ez, int_at (by rw [t0.inv.len]; exact hz), inv_at t0 hz]
     exact ⟨_, rfl, _, rfl, lt, _, _, _, rfl, rfl, SqL.of (sm _ _ ht3), hat, kk _ H' ⟨some (.int (r.getD j 0)), rfl⟩ (Same.refl _)⟩
    ·intro H4 s4 h4
     have e4 : (List.range (r.map V.int).length).filterMap (fun j => some (V.int ((R0.idxOf (r.getD j 0) : Nat) : Int))) = (r.map fun v => ((R0.idxOf v : Nat) : Int)).map V.int := by
      rw [filterMap_some, List.length_map, List.map_map]
      refine List.ext_getElem (by rw [List.length_map, List.length_map, List.length_range]) fun j i1 i2 => ?_
      have hjr : j < r.length := by rw [List.length_map, List.length_range] at i1; exact i1
      rw [List.getElem_map, List.getElem_map, List.getElem_range]
      show V.int ((R0.idxOf (r.getD j 0) : Nat) : Int) = V.int ((R0.idxOf r[j] : Nat) : Int)
      rw [List.getD_eq_getElem?_getD, List.getElem?_eq_getElem hjr]
      rfl
     rw [e4] at h4
     refine ⟨li, _, rfl, .inl ⟨SqL.of h4, fun tp htp => ?_⟩⟩
     have s5 : Same H4 (upd H4 tp (.tup ((r.map fun v => ((R0.idxOf v : Nat) : Int)).map V.int))) := Same.new htp
     have s35 := s4.trans s5
     have hl5 := s35 _ _ hl3
     have hri' : (thF L)[i]? = some (r.map fun v => ((R0.idxOf v : Nat) : Int)) := by
      unfold thF
      rw [hR0, List.getElem?_map, hri]
      rfl
     have hiL : i < L.length := (List.getElem?_eq_some_iff.mp hri).1
     have hql : qs.length = i := by
      rw [hQ.length, List.length_take]
      unfold thF
      rw [List.length_map]
      exact Om.m1 ‹_›
     have up : ∀ b row, (upd H4 tp (.tup ((r.map fun v => ((R0.idxOf v : Nat) : Int)).map V.int))) b = some (.tup row) -> (upd (upd H4 tp (.tup ((r.map fun v => ((R0.idxOf v : Nat) : Int)).map V.int))) lr (.lst (qs.map V.ref ++ [.ref tp]))) b = some (.tup row) := fun b row e => by
      rw [upd_ne (ne_of e hl5 (by intro z; cases z))]
      exact e
     refine ⟨hl5, by rw [List.length_map, hql]; exact small1000 (by exact Om.b6 ‹_› ‹_› ‹_› rfl), _, qs ++ [tp], rfl, by rw [List.map_append]; rfl, fun b u e => ?_, upd_same, ?_⟩
     ·rw [upd_ne (ne_of_none e hlr)]
      exact s35 _ _ (s3 _ _ e)
     ·have et : (thF L).take (i + 1) = (thF L).take i ++ [r.map fun v => ((R0.idxOf v : Nat) : Int)] := by rw [List.take_add_one, hri']; rfl
      rw [et]
      exact Paired.snoc (Paired.mapP hQ fun _ _ z => up _ _ (s35 _ _ z)) (up _ _ upd_same)
   ·rintro ys σ H3 ⟨v, qs, rfl, rfl, s3, hl3, hQ⟩
    rw [List.take_of_length_le (by unfold thF; rw [List.length_map, hpl, hLl]; exact Nat.le_refl _)] at hQ
    exact ⟨lr, _, rfl, .inl ⟨SqL.of hl3, fun t ht => q t _ (s2.trans (s3.trans (Same.new ht))) ⟨qs, upd_same, Paired.mapP hQ fun _ _ z => (Same.new ht) _ _ z⟩⟩⟩
end
end My
namespace My
noncomputable def lay (R : List (List Int)) (γ ρ : List Nat) : List (List Int) := ρ.map fun i => γ.map fun j => ent R i j
noncomputable def gL (R : List (List Int)) (γ ρ : List Nat) : List (List Int) := [inv (toI ρ), inv (toI γ), thg R (ρ.getD 0 0) γ]
section
variable {n : Nat} {R F h : List (List Int)} {γ ρ : List Nat}
theorem cols_of (hp : γ ∈ permsL n n) : Cols n γ := by
 obtain ⟨h1, h2, h3⟩ := perms_lens n γ hp
 exact ⟨h2, fun x => ⟨h3 x, fun hx => by
  have : (x : Int) ∈ toI γ := row_has (n := n) (by rw [toI_len, h1]) (by
   unfold toI
   rw [List.nodup_iff_pairwise_ne, List.pairwise_map]
   exact (List.nodup_iff_pairwise_ne.mp h2).imp fun z e => z (by exact Om.e1 ‹_›)) (fun y hy => by
    obtain ⟨c, hc, rfl⟩ := List.mem_map.mp hy
    have := h3 c hc
    omega) ⟨by exact Om.c6, by exact Om.c5 ‹_›⟩
  obtain ⟨c, hc, e⟩ := List.mem_map.mp this
  have : c = x := by exact Om.e1 ‹_›
  exact this ▸ hc⟩⟩
theorem lay_row (i : Nat) (hi : i < ρ.length) : (lay R γ ρ).getD i [] = γ.map fun j => ent R (ρ.getD i 0) j := by
 unfold lay
 rw [List.getD_eq_getElem?_getD, List.getElem?_map, List.getElem?_eq_getElem hi, gDN hi]
 rfl
theorem lay_len : (lay R γ ρ).length = ρ.length := by unfold lay; rw [List.length_map]
theorem lay_turn (ok : OkRows n R) (hl : R.length = n) (cg : Cols n γ) (cr : Cols n ρ) : ∀ r ∈ lay R γ ρ, Turn n r := fun r hr => by
 obtain ⟨i, hi, rfl⟩ := List.mem_map.mp hr
 exact top_turn ok hl cg ((cr.all i).mp hi)
theorem gL_ren (ok : OkRows n R) (hl : R.length = n) (h1 : 1 <= n) (cg : Cols n γ) (cr : Cols n ρ) : Ren n (gL R γ ρ) := ⟨rfl, fun r hr => by
 rcases List.mem_cons.mp hr with e | hr
 ·rw [e]; exact cr.turn.inv
 ·rcases List.mem_cons.mp hr with e | hr
  ·rw [e]; exact cg.turn.inv
  ·rw [List.mem_singleton.mp hr]; exact (top_turn ok hl cg (cr.zero h1)).inv⟩
theorem col_at (c : Cols n γ) {i : Nat} (hi : i < n) : γ.getD i 0 < n /\ (toI γ).getD i 0 = ((γ.getD i 0 : Nat) : Int) := by
 have hg : i < γ.length := by rw [c.len]; exact hi
 refine ⟨by rw [gDN hg]; exact (c.all _).mp (List.getElem_mem _), ?_⟩
 unfold toI
 rw [List.getD_eq_getElem?_getD, List.getElem?_map, List.getElem?_eq_getElem hg, gDN hg]
 rfl
theorem ixo_inv' (c : Cols n γ) {i : Nat} (hi : i < n) : ixo (inv (toI γ)) i = γ.getD i 0 := by
 obtain ⟨h1, h2⟩ := col_at c hi
 refine idx_of c.turn.inv h1 hi ?_
 rw [inv_at c.turn h1, idx_of c.turn hi h1 h2]
theorem thF_ent {L : List (List Int)} {i j : Nat} (hi : i < L.length) (hj : j < (L.getD i []).length) : ent (thF L) i j = (((L.getD 0 []).idxOf ((L.getD i []).getD j 0) : Nat) : Int) := by
 have e : (thF L).getD i [] = (L.getD i []).map fun v => (((L.getD 0 []).idxOf v : Nat) : Int) := by
  unfold thF
  rw [List.getD_eq_getElem?_getD, List.getElem?_map, List.getElem?_eq_getElem hi, List.getD_eq_getElem?_getD (l := L) (i := i), List.getElem?_eq_getElem hi]
  rfl
 unfold ent
 rw [e, List.getD_eq_getElem?_getD, List.getElem?_map, List.getElem?_eq_getElem hj, List.getD_eq_getElem?_getD (l := L.getD i []), List.getElem?_eq_getElem hj]
 rfl
theorem lay_ent (hi : i < ρ.length) (hj : j < γ.length) : ((lay R γ ρ).getD i []).getD j 0 = ent R (ρ.getD i 0) (γ.getD j 0) := by
 rw [lay_row i hi, List.getD_eq_getElem?_getD, List.getElem?_map, List.getElem?_eq_getElem hj, gDN hj]
 rfl
theorem thF_lay_ent (ok : OkRows n R) (hl : R.length = n) (h1 : 1 <= n) (cg : Cols n γ) (cr : Cols n ρ) {i j : Nat} (hi : i < n) (hj : j < n) : ent (thF (lay R γ ρ)) i j = (((γ.map fun c => ent R (ρ.getD 0 0) c).idxOf (ent R (ρ.getD i 0) (γ.getD j 0)) : Nat) : Int) := by
 have i1 : i < ρ.length := by rw [cr.len]; exact hi
 have j1 : j < γ.length := by rw [cg.len]; exact hj
 rw [thF_ent (by rw [lay_len]; exact i1) (by rw [lay_row i i1, List.length_map]; exact j1), lay_ent i1 j1, lay_row 0 (by rw [cr.len]; exact Om.f5 ‹_›)]
theorem thF_len (cr : Cols n ρ) : (thF (lay R γ ρ)).length = n := by unfold thF; rw [List.length_map, lay_len, cr.len]
theorem thF_rows (cg : Cols n γ) : ∀ r ∈ thF (lay R γ ρ), r.length = n := fun r hr => by
 obtain ⟨r', hr', rfl⟩ := List.mem_map.mp hr
 obtain ⟨i, hi, rfl⟩ := List.mem_map.mp hr'
 rw [List.length_map, List.length_map, cg.len]
theorem lay_ren (ok : OkRows n R) (hl : R.length = n) (h1 : 1 <= n) (cg : Cols n γ) (cr : Cols n ρ) : thF (lay R γ ρ) = renI n R (gL R γ ρ) := by
 have rn := gL_ren ok hl h1 cg cr
 obtain ⟨ok2, hl2⟩ := renI_ok ok hl rn
 refine ext_gen (thF_len cr) (thF_rows cg) hl2 (fun r h => (ok2.row r h).1) fun i j hi hj => ?_
 rw [thF_lay_ent ok hl h1 cg cr hi hj]
 unfold renI
 rw [mk_ent hi hj]
 show _ = (thg R (ρ.getD 0 0) γ).getD (ent R (ixo (inv (toI ρ)) i) (ixo (inv (toI γ)) j)).toNat 0
 rw [ixo_inv' cr hi, ixo_inv' cg hj]
 obtain ⟨e1, e2⟩ := ent_nat ok hl (col_at cr hi).1 (col_at cg hj).1
 unfold thg
 rw [inv_at (top_turn ok hl cg (cr.zero h1)) e2, <- e1]
theorem plain_laid (ok : OkRows n R) (hl : R.length = n) (h1 : 1 <= n) (p : PlainOf n R F h) : ∃ γ ∈ permsL n n, ∃ ρ ∈ permsL n n, thF (lay R γ ρ) = F := by
 obtain ⟨rn, okF, hlF⟩ := p.ok ok hl h1
 have mk' : ∀ k, k < 3 -> (List.range n).map (ixo (h.getD k [])) ∈ permsL n n := fun k hk => by
  have t := rn.at hk
  refine mem_perms n _ (by rw [List.length_map, List.length_range]) (nodup_map fun i j hi hj e => ?_) fun x hx => ?_
  ·have e1 := ix_rw rn hk hi
   have e2 := ix_rw rn hk hj
   rw [<- e1, <- e2, e]
  ·obtain ⟨i, hi, rfl⟩ := List.mem_map.mp hx
   exact ixo_lt t (List.mem_range.mp hi)
 have at' : ∀ k i, i < n -> ((List.range n).map (ixo (h.getD k []))).getD i 0 = ixo (h.getD k []) i := fun k i hi => by
  rw [List.getD_eq_getElem?_getD, List.getElem?_map, List.getElem?_range hi]
  rfl
 refine ⟨_, mk' 1 (by decide), _, mk' 0 (by decide), ?_⟩
 have cg := cols_of (mk' 1 (by decide))
 have cr := cols_of (mk' 0 (by decide))
 refine ext_gen (thF_len cr) (thF_rows cg) hlF (fun r h => (okF.row r h).1) fun i j hi hj => ?_
 have z : 0 < n := by exact Om.f5 ‹_›
 rw [thF_lay_ent ok hl h1 cg cr hi hj, at' 0 i hi, at' 1 j hj, at' 0 0 z]
 have t0 := ixo_lt (rn.at (k := 0) (by decide)) hi
 have t1 := ixo_lt (rn.at (k := 1) (by decide)) hj
 have t00 := ixo_lt (rn.at (k := 0) (by decide)) z
 have hF : ∀ a b, a < n -> b < n -> ent F a b = ((rw_ h 2 (ent R (ixo (h.getD 0 []) a) (ixo (h.getD 1 []) b)).toNat : Nat) : Int) := fun a b ha hb => by
  have ta := ixo_lt (rn.at (k := 0) (by decide)) ha
  have tb := ixo_lt (rn.at (k := 1) (by decide)) hb
  have := ren_ent rn ok hl ta tb
  rw [ix_rw rn (by decide) ha, ix_rw rn (by decide) hb, p.is] at this
  exact this
 obtain ⟨v1, v2⟩ := ent_nat ok hl t0 t1
 have hj' := rw_lt rn (k := 2) (by decide) v2
 rw [hF i j hi hj]
 generalize hv : (ent R (ixo (h.getD 0 []) i) (ixo (h.getD 1 []) j)).toNat = v at v1 v2 hj'
 rw [v1]
 have tt := top_turn ok hl cg t00
 have key : ((((List.range n).map (ixo (h.getD 1 []))).map fun c => ent R (ixo (h.getD 0 []) 0) c).getD (rw_ h 2 v) 0) = ((v : Nat) : Int) := by
  rw [List.map_map, List.getD_eq_getElem?_getD, List.getElem?_map, List.getElem?_range hj']
  show ent R (ixo (h.getD 0 []) 0) (ixo (h.getD 1 []) (rw_ h 2 v)) = _
  have tj := ixo_lt (rn.at (k := 1) (by decide)) hj'
  obtain ⟨u1, u2⟩ := ent_nat ok hl t00 tj
  have e := hF 0 (rw_ h 2 v) z hj'
  rw [(p.first ok hl h1 hj').1] at e
  have := rw_inj rn (k := 2) (by decide) u2 v2 (by omega)
  omega
 rw [idx_of tt hj' v2 key]
end
noncomputable def Best (D : List (List (List Int))) (F : List (List Int)) : Prop := F ∈ D /\ ∀ G ∈ D, lexG G F = false
theorem Best.less {D : List (List (List Int))} {F G : List (List Int)} (b : Best D F) (h : lexG G F = true) : Best (D ++ [G]) G := by
 refine ⟨List.mem_append.mpr (.inr (List.mem_singleton.mpr rfl)), fun X hX => ?_⟩
 rcases List.mem_append.mp hX with z | z
 ·cases e : lexG X G with
  | false => rfl
  | true =>
   have := ord_lexG.tr _ _ _ e h
   rw [b.2 X z] at this
   cases this
 ·rw [List.mem_singleton.mp z]
  exact ord_lexG.irr _
theorem Best.keep {D : List (List (List Int))} {F G : List (List Int)} (b : Best D F) (h : lexG G F = false) : Best (D ++ [G]) F := by
 refine ⟨List.mem_append.mpr (.inl b.1), fun X hX => ?_⟩
 rcases List.mem_append.mp hX with z | z
 ·exact b.2 X z
 ·rw [List.mem_singleton.mp z]
  exact h
end My
namespace My
open PySem L2
theorem get_getD {us : List Addr} {c : Nat} (h : c < us.length) : us[c]? = some (us.getD c 0) := by
 rw [List.getD_eq_getElem?_getD, List.getElem?_eq_getElem h]
 rfl
theorem paired_two {α β γ : Type} {F : β -> γ -> Prop} {f : α -> β} {g : α -> γ} : ∀ {l : List α}, (∀ c ∈ l, F (f c) (g c)) -> Paired F (l.map f) (l.map g)
 | [], _ => .nil
 | c :: l, h => .cons (h c List.mem_cons_self) (paired_two fun d hd => h d (List.mem_cons_of_mem _ hd))
noncomputable def allF (n : Nat) (R : List (List Int)) : List (List (List Int)) := (permsL n n).flatMap fun γ => (permsL n n).map fun ρ => thF (lay R γ ρ)
noncomputable def BestV (H : Hp) (n : Nat) (v : V) (D : List (List (List Int))) : Prop := (v = .non /\ D = []) \/ ∃ t F, v = .ref t /\ TG H t F /\ OkRows n F /\ F.length = n /\ Best D F
theorem BestV.same {H H1 : Hp} {n : Nat} {v : V} {D : List (List (List Int))} (b : BestV H n v D) (s : Same H H1) : BestV H1 n v D := by
 rcases b with h | ⟨t, F, h1, h2, h3⟩
 ·exact .inl h
 ·exact .inr ⟨t, F, h1, h2.same s, h3⟩
theorem perms_some : ∀ n, n < 5 -> permsL n n ≠ [] := by decide +kernel
noncomputable def spLeast : Sp := fun vs H Q _ => ∃ (g : Addr) (n : Nat) (R : List (List Int)), vs = [.ref g] /\ TG H g R /\ OkRows n R /\ R.length = n /\ 1 <= n /\ n <= 4 /\ ∀ t H' F, Same H H' -> TG H' t F -> Best (allF n R) F -> Q (.ref t) H'
section
variable {P : Program} {w : World} {K : PySem.W.Frag} {mg : Str -> Option Value} {base : Heap}
theorem scLeast : FnScope ["_law_square_here", "_law_n", "_law_best", "_law_columns", "_law_lain", "_law_rows", "_law_form"] ["_law_square_here"] (defScope sLeast) := ⟨rfl, rfl, rfl, by decide +kernel, rfl, by decide +kernel, by decide +kernel⟩
set_option maxHeartbeats 1000000 in
theorem ok_least {f fT fF : Addr} {fd dT dF : FuncData} (F : Fun K "_law_least" "_law_least" sLeast f fd) (T : Blt mg) (DT : Dfn K mg "_law_turns" sTurns ["_law_n"] fT dT) (DF : Dfn K mg "_law_things_first" sThFirst ["_law_rows"] fF dF) : FnOk P w K mg base CX0 2 f fd ["_law_square_here"] spLeast := by
 have GT : FnOk P w K mg base CX0 1 fT dT ["_law_n"] spTurns := ok_turns DT.F T
 have GF : FnOk P w K mg base CX0 1 fF dF ["_law_rows"] spThF := ok_thF DF.F T
 refine F.ok scLeast (fun vs H Q E h => ?_) (fun cdv A outer s H vs Q E hr h => ?_)
 ·obtain ⟨_, _, _, rfl, _⟩ := h
  rfl
 ·obtain ⟨g, n, R, rfl, hT, ok, hRl, h1, h4, q⟩ := h
  have hu : ((A.deeper (PyProof.Rows.envOfC "_law_least" (defScope sLeast) s.heap.objs.size f cdv))).units + 2 < cLine := by have := hr.un; omega
  refine' ⟨_, pss_cons (ps_set (i := 1) scLeast.nd rfl (Or.inl rfl) (pe_callB (call_lenK K) rfl T.len PySem.boot_len (pa_cons (pv 0) pa_nil))) (pss_cons (ps_set (i := 2) scLeast.nd rfl (Or.inl rfl) pe_non) (pss_cons (ps_for PassesOwn.never rfl (pi_list ?i) (pg_name (i := 3) scLeast.nd rfl (Or.inr rfl)) (pss_cons ?b0 (pss_one (ps_for PassesOwn.never rfl (pi_list ?i2) (pg_name (i := 5) scLeast.nd rfl (Or.inl rfl)) (pss_cons ?b1 (pss_one ?b2)))))) (pss_one (ps_ret (pv 2))))), ?rd⟩
  case i => exact pe_call GT hr rfl DT.m DT.F.kp DT.b .nil pass0 (pa_cons (pv 1) pa_nil)
  case i2 => exact pe_call GT hr rfl DT.m DT.F.kp DT.b .nil pass0 (pa_cons (pv 1) pa_nil)
  case b0 => exact ps_set (i := 4) scLeast.nd rfl (Or.inr rfl) (pe_lcC "_law_row_here" ["_law_row_here", "_law_columns"] [none, some 3] rfl rfl (pi_tupK K (pv 0)) (fun _ _ _ _ _ => pg_own 0) (fun _ _ _ _ _ => pts_nil) (fun _ _ _ _ _ => pe_lc ["_law_column", "_law_row_here"] [none, some 0] rfl rfl (pi_tupK K (pv 1)) (fun _ _ _ _ _ => pg_c 0) (fun _ _ _ _ _ => pts_nil) (fun _ _ _ _ _ => pe_ix (ix_tupK K) (pv 1) (pv 0) (fun _ _ => rfl))))
  case b1 => exact ps_set (i := 6) scLeast.nd rfl (Or.inl rfl) (pe_call GF hr rfl DF.m DF.F.kp DF.b .nil pass0 (pa_cons (pe_lc ["_law_row_here", "_law_lain"] [none, some 4] rfl rfl (pi_tupK K (pv 5)) (fun _ _ _ _ _ => pg_c 0) (fun _ _ _ _ _ => pts_nil) (fun _ _ _ _ _ => pe_ix (ix_listK K) (pv 1) (pv 0) (fun _ _ => rfl))) pa_nil))
  case b2 => exact ps_if (PW.pt (pw_or (pt_cmp (pc_isN (pv 2))) (pw_or1 (pt_cmpR (op_ltD (d := 2) hu K) (pv 6) (pv 2) (nomark _))))) (pss_one (ps_set (i := 2) scLeast.nd rfl (Or.inl rfl) (pv 6))) pss_nil
  case rd =>
   obtain ⟨gs, hg, hG⟩ := id hT
   have hgl : (gs.map V.ref).length = n := by rw [List.length_map, hG.length, hRl]
   have h6 : n <= 6 := by exact Om.b1 ‹_› rfl
   refine ⟨_, rfl, g, _, rfl, .inr (SqT.of hg), ?_⟩
   rw [hgl]
   refine ⟨_, rfl, n, rfl, h4, fun lt H1 s1 hPL => ?_⟩
   obtain ⟨ps, hps, hP⟩ := hPL
   have hpl : (ps.map V.ref).length = (permsL n n).length := by rw [List.length_map, hP.length]
   refine ⟨lt, rfl, ⟨_, SqL.of hps⟩, for_list (xs := ps.map V.ref) (fun i σ H2 => ∃ (vb : V) (v3 v4 v5 v6 : Option V), σ = [some (.ref g), some (.int (n : Int)), some vb, v3, v4, v5, v6] /\ Same H1 H2 /\ BestV H2 n vb (((permsL n n).take i).flatMap fun γ => (permsL n n).map fun ρ => thF (lay R γ ρ))) ⟨.non, none, none, none, none, rfl, Same.refl _, .inl ⟨rfl, rfl⟩⟩ (fun i σ H2 _ hh => by obtain ⟨_, _, _, _, _, _, s2, _⟩ := hh; exact SqL.of (s2 _ _ hps)) ?_ ?_⟩
   ·rintro i x σ H2 hx ⟨vb, v3, v4, v5, v6, rfl, s2, hB⟩
    rw [List.getElem?_map] at hx
    cases hpi : ps[i]? with
    | none => rw [hpi] at hx; cases hx
    | some pc =>
    rw [hpi] at hx
    cases hx
    obtain ⟨γ, hγi, hpγ⟩ := Paired.getL hP hpi
    have hγm := List.mem_of_getElem? hγi
    have cg := cols_of hγm
    have s12 := s1.trans s2
    have hpc := s2 _ _ hpγ
    refine ⟨_, rfl, g, rfl, ⟨_, SqT.of (s12 _ _ hg)⟩, fun ll hll => ?_⟩
    refine comp_of (wlk_tup (xs := gs.map V.ref)) (fun j ys σ H3 => ∃ (v0 : Option V) (us : List Addr), σ = [v0, some (.ref pc)] /\ ys = us.map V.ref /\ Same H2 H3 /\ H3 ll = some (.lst ys) /\ (∀ u ∈ us, u ≠ ll) /\ Paired (fun p (r : List Int) => H3 p = some (.lst (r.map V.int))) us ((R.map fun r => γ.map fun c => r.getD c 0).take j))
     ⟨none, [], rfl, rfl, Same.new hll, upd_same, (fun u hu => by cases hu), .nil⟩ (fun j ys σ H3 hh => by obtain ⟨_, _, _, _, s3, hl3, _⟩ := hh; exact ⟨SqT.of (s3 _ _ (s12 _ _ hg)), hl3⟩) ?_ ?_
    ·rintro j x ys σ H3 hj ⟨v0, us, rfl, rfl, s3, hl3, hun, hU⟩
     rw [List.getElem?_map] at hj
     cases hpj : gs[j]? with
     | none => rw [hpj] at hj; cases hj
     | some pr =>
     rw [hpj] at hj
     cases hj
     obtain ⟨r, hrj, hpr⟩ := Paired.getL hG hpj
     have hrow : r.length = n := (ok.row r (List.mem_of_getElem? hrj)).1
     have hγl : ((toI γ).map V.int).length = n := by rw [List.length_map, toI_len, cg.len]
     have hpr3 := s3 _ _ (s12 _ _ hpr)
     have hpc3 := s3 _ _ hpc
     refine ⟨_, rfl, pc, rfl, ⟨_, SqT.of hpc3⟩, fun lr hlr => ?_⟩
     refine comp_pure (fun k => some (.int (r.getD (γ.getD k 0) 0))) (fun σ => ∃ v, σ = [v, some (.ref pr)]) (wlk_tup (xs := (toI γ).map V.int)) (by rw [hγl]; exact small6 (by exact Om.b1 ‹_› rfl)) hlr (fun H' sm => SqT.of (sm _ _ hpc3)) ⟨none, rfl⟩ ?_ ?_
     ·rintro k y σ H' R' hy ⟨v', rfl⟩ sm kk
      obtain ⟨hk, rfl⟩ := toI_get hy
      have hc : γ.getD k 0 < n := by rw [gDN hk]; exact (cg.all _).mp (List.getElem_mem _)
      exact ⟨_, rfl, _, rfl, pr, _, _, _, rfl, rfl, SqT.of (sm _ _ hpr3), int_at (by rw [hrow]; exact hc), kk _ H' ⟨some (.int ((γ.getD k 0 : Nat) : Int)), rfl⟩ (Same.refl _)⟩
     ·intro H4 s4 h4'
      have e4 : (List.range ((toI γ).map V.int).length).filterMap (fun k => some (V.int (r.getD (γ.getD k 0) 0))) = (γ.map fun c => r.getD c 0).map V.int := by
       rw [filterMap_some, List.length_map, toI_len, List.map_map]
       refine List.ext_getElem (by rw [List.length_map, List.length_map, List.length_range]) fun k i1 i2 => ?_
       have hk : k < γ.length := by rw [List.length_map, List.length_range] at i1; exact i1
       rw [List.getElem_map, List.getElem_map, List.getElem_range]
       show V.int (r.getD (γ.getD k 0) 0) = V.int (r.getD γ[k] 0)
       rw [gDN hk]
      rw [e4] at h4'
      have hl4 := s4 _ _ hl3
      have hjl : j < R.length := (List.getElem?_eq_some_iff.mp hrj).1
      have hul : us.length = j := by
       rw [hU.length, List.length_take, List.length_map]
       exact Om.m1 ‹_›
      have hne : lr ≠ ll := fun z => by rw [z, hl3] at hlr; cases hlr
      have hri' : (R.map fun r => γ.map fun c => r.getD c 0)[j]? = some (γ.map fun c => r.getD c 0) := by rw [List.getElem?_map, hrj]; rfl
      refine ⟨hl4, by rw [List.length_map, hul]; exact small1000 (by exact Om.b6 ‹_› ‹_› ‹_› rfl), _, us ++ [lr], rfl, by rw [List.map_append]; rfl, fun b u e => ?_, upd_same, fun u hu' => ?_, ?_⟩
      ·rw [upd_ne (ne_of_none e hll)]
       exact s4 _ _ (s3 _ _ e)
      ·rcases List.mem_append.mp hu' with z | z
       ·exact hun u z
       ·rw [List.mem_singleton.mp z]; exact hne
      ·have et : (R.map fun r => γ.map fun c => r.getD c 0).take (j + 1) = (R.map fun r => γ.map fun c => r.getD c 0).take j ++ [γ.map fun c => r.getD c 0] := by rw [List.take_add_one, hri']; rfl
       rw [et]
       refine Paired.snoc (paired_in hU fun a ha b e => ?_) ?_
       ·rw [upd_ne (hun a ha)]
        exact s4 _ _ e
       ·rw [upd_ne hne]
        exact h4'
    rintro ys σ H3 ⟨v0, us, rfl, rfl, s3, hl3, _, hU⟩
    rw [List.take_of_length_le (by rw [List.length_map, hgl, hRl]; exact Nat.le_refl _)] at hU
    have hB3 := hB.same s3
    have s13 := s2.trans s3
    refine ⟨_, rfl, n, rfl, h4, fun lt2 H4 s4 hPL2 => ?_⟩
    obtain ⟨ps2, hps2, hP2⟩ := hPL2
    have hpl2 : (ps2.map V.ref).length = (permsL n n).length := by rw [List.length_map, hP2.length]
    have hll4 := s4 _ _ hl3
    have hU4 := Paired.mapP hU fun _ _ z => s4 _ _ z
    refine ⟨lt2, rfl, ⟨_, SqL.of hps2⟩, for_list (xs := ps2.map V.ref) (fun j σ H5 => ∃ (vb : V) (v5 v6 : Option V), σ = [some (.ref g), some (.int (n : Int)), some vb, some (.ref pc), some (.ref ll), v5, v6] /\ Same H4 H5 /\ BestV H5 n vb ((((permsL n n).take i).flatMap fun γ => (permsL n n).map fun ρ => thF (lay R γ ρ)) ++ ((permsL n n).take j).map fun ρ => thF (lay R γ ρ))) ⟨vb, v5, v6, rfl, Same.refl _, by rw [List.take_zero, List.map_nil, List.append_nil]; exact hB3.same s4⟩ (fun j σ H5 _ hh => by obtain ⟨_, _, _, _, s5, _⟩ := hh; exact SqL.of (s5 _ _ hps2)) ?_ ?_⟩
    ·rintro j x σ H5 hx ⟨vb, v5, v6, rfl, s5, hB5⟩
     rw [List.getElem?_map] at hx
     cases hpj : ps2[j]? with
     | none => rw [hpj] at hx; cases hx
     | some pq =>
     rw [hpj] at hx
     cases hx
     obtain ⟨ρ, hρj, hpρ⟩ := Paired.getL hP2 hpj
     have cr := cols_of (List.mem_of_getElem? hρj)
     have hpq5 := s5 _ _ hpρ
     have hll5 := s5 _ _ hll4
     have hρl : ((toI ρ).map V.int).length = n := by rw [List.length_map, toI_len, cr.len]
     have husl : us.length = n := by rw [hU.length, List.length_map, hRl]
     refine ⟨_, rfl, pq, rfl, ⟨_, SqT.of hpq5⟩, fun lf hlf => ?_⟩
     refine comp_pure (fun k => some (.ref (us.getD (ρ.getD k 0) 0))) (fun σ => ∃ v, σ = [v, some (.ref ll)]) (wlk_tup (xs := (toI ρ).map V.int)) (by rw [hρl]; exact small6 (by exact Om.b1 ‹_› rfl)) hlf (fun H' sm => SqT.of (sm _ _ hpq5)) ⟨none, rfl⟩ ?_ ?_
     ·rintro k y σ H' R' hy ⟨v', rfl⟩ sm kk
      obtain ⟨hk, rfl⟩ := toI_get hy
      have hc : ρ.getD k 0 < n := by rw [gDN hk]; exact (cr.all _).mp (List.getElem_mem _)
      have hat : atI (us.map V.ref) ((ρ.getD k 0 : Nat) : Int) = some (.ref (us.getD (ρ.getD k 0) 0)) := atI_of (by rw [List.getElem?_map, get_getD (by exact Om.a1 ‹_› ‹_›)]; rfl)
      exact ⟨_, rfl, _, rfl, ll, _, _, _, rfl, rfl, SqL.of (sm _ _ hll5), hat, kk _ H' ⟨some (.int ((ρ.getD k 0 : Nat) : Int)), rfl⟩ (Same.refl _)⟩
     intro H6 s6 h6'
     have e6 : (List.range ((toI ρ).map V.int).length).filterMap (fun k => some (V.ref (us.getD (ρ.getD k 0) 0))) = (ρ.map fun c => us.getD c 0).map V.ref := by
      rw [filterMap_some, List.length_map, toI_len, List.map_map]
      refine List.ext_getElem (by rw [List.length_map, List.length_map, List.length_range]) fun k i1 i2 => ?_
      have hk : k < ρ.length := by rw [List.length_map, List.length_range] at i1; exact i1
      rw [List.getElem_map, List.getElem_map, List.getElem_range]
      show V.ref (us.getD (ρ.getD k 0) 0) = V.ref (us.getD ρ[k] 0)
      rw [gDN hk]
     rw [e6] at h6'
     have s56 := s5.trans s6
     have hLI : LI H6 lf (lay R γ ρ) := by
      refine ⟨_, h6', ?_⟩
      unfold lay
      refine paired_two (fun c hc => ?_)
      have hc' := (cr.all c).mp hc
      obtain ⟨p, hp1, hp2⟩ := Paired.getR hU4 (i := c) (List.getElem?_eq_getElem (by rw [List.length_map]; exact Om.a1 ‹_› ‹_›))
      rw [List.getD_eq_getElem?_getD, hp1]
      rw [List.getElem_map] at hp2
      have er : (γ.map fun j => ent R c j) = γ.map fun x => (R[c]'(by exact Om.a1 ‹_› ‹_›)).getD x 0 := by
       refine List.map_congr_left fun x _ => ?_
       unfold ent
       rw [List.getD_eq_getElem?_getD (l := R), List.getElem?_eq_getElem (by exact Om.a1 ‹_› ‹_›)]
       rfl
      rw [er]
      exact s56 _ _ hp2
     refine ⟨lf, n, lay R γ ρ, rfl, hLI, by rw [lay_len, cr.len], lay_turn ok hRl cg cr, h1, h6, fun tf H7 s7 hTf => ?_⟩
     have eG := lay_ren ok hRl h1 cg cr
     obtain ⟨okG, hlG⟩ := renI_ok ok hRl (gL_ren ok hRl h1 cg cr)
     rw [<- eG] at okG hlG
     generalize hGG : thF (lay R γ ρ) = G at hTf okG hlG
     have s57 := s6.trans s7
     have et : ((permsL n n).take (j + 1)).map (fun ρ => thF (lay R γ ρ)) = ((permsL n n).take j).map (fun ρ => thF (lay R γ ρ)) ++ [G] := by rw [List.take_add_one, hρj, List.map_append, <- hGG]; rfl
     rcases hB5.same s57 with ⟨rfl, hD⟩ | ⟨tb, Fb, rfl, hTb, okb, hlb, bst⟩
     ·refine ⟨_, rfl, _, rfl, ?_⟩
      rw [decide_eq_true rfl]
      refine iteT (iteT ⟨_, rfl, .ref tf, _, _, rfl, s5.trans s57, .inr ⟨tf, G, rfl, hTf, okG, hlG, ?_⟩⟩)
      rw [et, <- List.append_assoc, hD, List.nil_append]
      exact ⟨List.mem_singleton.mpr rfl, fun X hX => by rw [List.mem_singleton.mp hX]; exact ord_lexG.irr _⟩
     ·refine ⟨_, rfl, _, rfl, ?_⟩
      rw [show decide (V.ref tb = V.non) = false from decide_eq_false (by intro z; cases z)]
      refine iteF ⟨_, rfl, _, rfl, _, ltd_TG hTf hTb okG okb hlG hlb, _, rfl, ?_⟩
      cases hlx : lexG G Fb with
      | true =>
       refine iteT ⟨_, rfl, .ref tf, _, _, rfl, s5.trans s57, .inr ⟨tf, G, rfl, hTf, okG, hlG, ?_⟩⟩
       rw [et, <- List.append_assoc]
       exact bst.less hlx
      | false =>
       refine iteF ⟨.ref tb, _, _, rfl, s5.trans s57, .inr ⟨tb, Fb, rfl, hTb, okb, hlb, ?_⟩⟩
       rw [et, <- List.append_assoc]
       exact bst.keep hlx
    ·rintro σ H5 ⟨vb, v5, v6, rfl, s5, hB5⟩
     rw [hpl2, List.take_of_length_le (Nat.le_refl _)] at hB5
     refine ⟨vb, _, _, _, _, rfl, s13.trans (s4.trans s5), ?_⟩
     have et : (permsL n n).take (i + 1) = (permsL n n).take i ++ [γ] := by rw [List.take_add_one, hγi]; rfl
     rw [et, List.flatMap_append, List.flatMap_cons, List.flatMap_nil, List.append_nil]
     exact hB5
   ·rintro σ H2 ⟨vb, v3, v4, v5, v6, rfl, s2, hB⟩
    rw [hpl, List.take_of_length_le (Nat.le_refl _)] at hB
    rcases hB with ⟨rfl, hD⟩ | ⟨tb, Fb, rfl, hTb, okb, hlb, bst⟩
    ·exfalso
     have hne := perms_some n (by exact Om.f3 ‹_›)
     cases hpp : permsL n n with
     | nil => exact hne hpp
     | cons x l =>
      rw [hpp] at hD
      cases hD
    ·exact ⟨_, rfl, q tb H2 Fb (s1.trans s2) hTb bst⟩
end
end My
namespace L2
open PySem PySem.Spec PyProof.Rows PySem.W
section
variable {prog : Program} {w : World} {A : Around} {E : Value -> Shared -> Prop} {s : Shared}
theorem sorted_tupsT {d : Addr} {vs : List Value} {S : List (List Int)} {k : Nat} {p : Array Nat} {Q : Value -> Shared -> Prop} (hl : s.heap.IsTuple d vs.toArray) (ht : Tups s.heap vs S) (hk : ∀ r ∈ S, r.length = k) (hk0 : 0 < k)
  (h2 : 2 <= vs.length) (h64 : vs.length < 64) (hp : runT vs.length (fun i j => lexB (S.getD i []) (S.getD j [])) (kas_sort vs.length) = some p)
  (h : ∀ (l : Addr) (h1 h' : Heap) (e : Nat), (∀ b o, s.heap.get? b = some o -> h1.get? b = some o) -> h1.objs.size <= l -> (∀ b o, h1.get? b = some o -> h'.get? b = some o) -> h'.get? l = some (seqObj "list" (List.toArray (p.toList.map fun i => vs.getD i Value.none)) e) -> Q (.ref l) { s with heap := h' }) :
  wpAny (model prog w) A (call (.builtin "sorted") [.ref d]) Q E s := by
 obtain ⟨o, ho, hc, n, hd⟩ := id hl
 refine Calls.call_function_entry kind_sorted plain_sorted entry_sorted (args_sorted1 _) ?_
 unfold Builtin.«sorted»
 refine wpAny_bind (m := checkCount "sorted" 1 1 _) (wpAny_pure (wpAny_bind ?_))
 have hz : vs.toArray.size <= sizeLine := by rw [List.size_toArray, sizeLine_eq]; omega
 refine wpAny_collect_seq (hsz := hz) d (.inr rfl) ho hc hd fun h1 k1 => ?_
 rw [List.toList_toArray]
 refine wpAny_bind (wpAny_newList ?_ (by rw [sizeLine_eq]; omega))
 have g : (h1.push (seqObj "list" vs.toArray 0)).get? h1.objs.size = some (seqObj "list" vs.toArray 0) := Heap.get?_push_size _ rfl
 have ht1 : Tups (h1.push (seqObj "list" vs.toArray 0)) vs S := Paired.mapP ht fun v r ⟨b, o, us, m, e, g, c, d, iu⟩ => ⟨b, o, us, m, e, Heap.get?_push_of_some _ (k1 _ _ g), c, d, iu⟩
 refine wpAny_bind (wpAny_holding (wpAny_call_entry slot_list_sort ⟨_, g, rfl⟩ entry_list_sort (list_sort_tups g ht1 hk hk0 h2 h64 hp ⟨_, rfl, ?_⟩) (args_list_sort _)))
 obtain ⟨e, he⟩ := sortedHeap_at (out := List.toArray (p.toList.map fun i => vs.getD i Value.none)) g
 refine wpAny_pure ⟨_, rfl, h h1.objs.size h1 _ e k1 (Nat.le_refl _) (fun b o x => ?_) he⟩
 have hb := Heap.lt_size x
 rw [sortedHeap_old (Nat.ne_of_lt hb) (by rw [size_push']; exact Nat.lt_succ_of_lt hb)]
 exact Heap.get?_push_of_some _ x
end
noncomputable def rSortedTt : List V -> Hp -> VK -> Prop := fun xs H Q => ∃ (d : Addr) (ps : List Addr) (S : List (List Int)) (k : Nat) (p : Array Nat), xs = [.ref d] /\ H d = some (.tup (ps.map V.ref)) /\ Paired (fun q (r : List Int) => H q = some (.tup (r.map V.int))) ps S /\ (∀ r ∈ S, r.length = k) /\ 0 < k /\ 2 <= S.length /\ S.length < 64 /\
 runT S.length (fun i j => lexB (S.getD i []) (S.getD j [])) (kas_sort S.length) = some p /\ p.size = S.length /\ (∀ i ∈ p.toList, i < S.length) /\ ∀ l, H l = none -> Q (.ref l) (upd H l (.lst ((p.toList.map fun i => ps.getD i 0).map V.ref)))
theorem call_sortedTt {X : Cx} : CallR X (.builtin "sorted") rSortedTt := by
 intro pins s σ H xs us Q I r h
 obtain ⟨d, ps, S, k, p, rfl, hd, hP, hk, hk0, h2, h64, hp, hpz0, hpi, q⟩ := h
 obtain ⟨u, rfl, rx⟩ := vals1 r
 cases rx
 obtain ⟨its, rv, hti, hz⟩ := I.tuple (SqT.of hd)
 have tup : ∀ {ps : List Addr} {S : List (List Int)} {its : List Value}, Paired (fun q (r : List Int) => H q = some (.tup (r.map V.int))) ps S -> Vals (ps.map V.ref) its -> Tups s.heap its S := by
  intro ps S its hP
  induction hP generalizing its with
  | nil => intro rv; cases rv; exact .nil
  | @cons q r ps S hq _ ih =>
   intro rv
   rw [List.map_cons] at rv
   cases rv with
   | cons r1 r2 =>
    cases r1
    refine .cons ?_ (ih r2)
    obtain ⟨_, us, ru, o, g, c, m, e⟩ := I.hok q _ hq
    exact ⟨q, o, us, m, rfl, g, c, congrArg Prod.fst e, intsAre_of ru⟩
 have ht := tup hP rv
 have hlen : its.length = S.length := Paired.length ht
 refine sorted_tupsT (d := d) (vs := its) hti ht hk hk0 (by exact Om.l3 ‹_› ‹_›) (by exact Om.x1 ‹_› ‹_›) (by rw [hlen]; exact hp) fun l h1 h' e' k1 hl1 k2 he => ?_
 have I1 : Inv X pins σ H { s with heap := h1 } := I.kept (t' := s.toks) k1
 refine ⟨.ref l, _, I1.laid (t' := s.toks) (o := .lst ((p.toList.map fun i => ps.getD i 0).map V.ref)) k2 hl1 ?_, rfl, q _ (I1.hok.fresh hl1)⟩
 have hpz : p.toList.length <= sizeLine := by
  rw [Array.length_toList, hpz0, sizeLine_eq]
  omega
 refine ⟨by rw [List.length_map, List.length_map]; exact hpz, p.toList.map fun i => its.getD i Value.none, e', ?_, by simpa using he⟩
 have go : ∀ l : List Nat, (∀ i ∈ l, i < S.length) -> Vals ((l.map fun i => ps.getD i 0).map V.ref) (l.map fun i => its.getD i Value.none) := by
  intro l
  induction l with
  | nil => intro _; exact .nil
  | cons i l ih =>
   intro hl'
   refine .cons ?_ (ih fun j hj => hl' j (List.mem_cons_of_mem _ hj))
   have hi := hl' i List.mem_cons_self
   have hpl : ps.length = S.length := hP.length
   have hg : (ps.map V.ref)[i]? = some (.ref (ps.getD i 0)) := by
    rw [List.getElem?_map, List.getElem?_eq_getElem (by exact Om.a1 ‹_› ‹_›), List.getD_eq_getElem?_getD, List.getElem?_eq_getElem (by exact Om.a1 ‹_› ‹_›)]
    rfl
   obtain ⟨u, hu, ru⟩ := rv.get hg
   have : its.getD i Value.none = u := by rw [List.getD_eq_getElem?_getD, hu]; rfl
   show RelV (V.ref (ps.getD i 0)) (its.getD i Value.none)
   rw [this]
   exact ru
 exact go _ hpi
end L2
namespace My
open PySem L2
noncomputable def argS (n : Nat) (l : List Nat) : List Nat := (List.range n).map fun i => l.idxOf i
theorem P7 : ∀ n, n < 7 -> 2 <= n -> ∀ l ∈ permsL n n, runT n (fun i j => decide (l.getD i 0 < l.getD j 0)) (PySem.W.kas_sort n) = some (argS n l).toArray := by decide +kernel
end My
namespace My
open PySem L2
theorem runT_congr {α : Type} {n : Nat} {lt lt' : Nat -> Nat -> Bool} (h : ∀ i j, i < n -> j < n -> lt i j = lt' i j) : ∀ t : PySem.W.KasT α, runT n lt t = runT n lt' t
 | .ret a => rfl
 | .ask i j k => by
  unfold runT
  cases hb : (decide (i < n) && decide (j < n)) with
  | false => rfl
  | true =>
   rw [Bool.and_eq_true, decide_eq_true_eq, decide_eq_true_eq] at hb
   rw [h i j hb.1 hb.2]
   exact runT_congr h _
theorem lexB_ne {x y : Int} {a b : List Int} (h : x ≠ y) : lexB (x :: a) (y :: b) = decide (x < y) := by
 unfold lexB
 split <;> first | omega | (simp_all; done) | (simp_all; omega)
theorem lexB_irr : ∀ a : List Int, lexB a a = false
 | [] => rfl
 | x :: a => by
  unfold lexB
  simp [lexB_irr a]
noncomputable def fstN (n : Nat) (S : List (List Int)) : List Nat := (List.range n).map fun i => (ent S i 0).toNat
section
variable {n : Nat} {R S : List (List Int)}
theorem fstN_at {i : Nat} (hi : i < n) : (fstN n S).getD i 0 = (ent S i 0).toNat := by
 unfold fstN
 rw [List.getD_eq_getElem?_getD, List.getElem?_map, List.getElem?_range hi]
 rfl
theorem fstN_perm (ok : OkRows n S) (hl : S.length = n) (h1 : 1 <= n) : fstN n S ∈ permsL n n := by
 have z : 0 < n := by exact Om.f5 ‹_›
 refine mem_perms n _ (by unfold fstN; rw [List.length_map, List.length_range]) (nodup_map fun i j hi hj e => ?_) fun x hx => ?_
 ·have a := ent_nat ok hl hi z
  have b := ent_nat ok hl hj z
  exact ent_col ok hl hi hj z (by omega)
 ·obtain ⟨i, hi, rfl⟩ := List.mem_map.mp hx
  exact (ent_nat ok hl (List.mem_range.mp hi) z).2
theorem lex_fst (ok : OkRows n S) (hl : S.length = n) (h1 : 1 <= n) {i j : Nat} (hi : i < n) (hj : j < n) : lexB (S.getD i []) (S.getD j []) = decide ((fstN n S).getD i 0 < (fstN n S).getD j 0) := by
 have z : 0 < n := by exact Om.f5 ‹_›
 rw [fstN_at hi, fstN_at hj]
 by_cases e : i = j
 ·subst e
  rw [lexB_irr]
  exact (decide_eq_false (Nat.lt_irrefl _)).symm
 ·have a := ent_nat ok hl hi z
  have b := ent_nat ok hl hj z
  have ne : ent S i 0 ≠ ent S j 0 := fun q => e (ent_col ok hl hi hj z q)
  have la := ok_len ok hl hi
  have lb := ok_len ok hl hj
  unfold ent at ne a b ⊢
  cases ha : S.getD i [] with
  | nil => rw [ha] at la; simp at la; omega
  | cons x xs =>
   cases hb : S.getD j [] with
   | nil => rw [hb] at lb; simp at lb; omega
   | cons y ys =>
    rw [ha, hb] at ne
    rw [ha] at a
    rw [hb] at b
    have ne' : x ≠ y := ne
    have a' : x = ((x.toNat : Nat) : Int) := a.1
    have b' : y = ((y.toNat : Nat) : Int) := b.1
    rw [lexB_ne ne']
    show decide (x < y) = decide (x.toNat < y.toNat)
    rw [Bool.eq_iff_iff, decide_eq_true_eq, decide_eq_true_eq]
    omega
theorem sort_run (ok : OkRows n S) (hl : S.length = n) (h2 : 2 <= n) (h6 : n <= 6) : runT S.length (fun i j => lexB (S.getD i []) (S.getD j [])) (PySem.W.kas_sort S.length) = some (argS n (fstN n S)).toArray := by
 rw [hl, runT_congr (fun i j hi hj => lex_fst ok hl (by exact Om.f4 ‹_›) hi hj)]
 exact P7 n (by exact Om.f3 ‹_›) h2 _ (fstN_perm ok hl (by exact Om.f4 ‹_›))
theorem argS_lt (ok : OkRows n S) (hl : S.length = n) (h1 : 1 <= n) : ∀ i ∈ argS n (fstN n S), i < n := fun i hi => by
 obtain ⟨k, hk, rfl⟩ := List.mem_map.mp hi
 have c := cols_of (fstN_perm ok hl h1)
 have := List.idxOf_lt_length_of_mem ((c.all k).mpr (List.mem_range.mp hk))
 rw [c.len] at this
 exact this
theorem sort_rows (ok : OkRows n S) (hl : S.length = n) (h1 : 1 <= n) : ((argS n (fstN n S)).map fun i => S.getD i []) = renI n S (srt n S) := by
 have z : 0 < n := by exact Om.f5 ‹_›
 have c := cols_of (fstN_perm ok hl h1)
 obtain ⟨ok2, hl2⟩ := renI_ok ok hl (srt_ren ok hl h1)
 refine List.ext_getElem (by rw [List.length_map]; unfold argS; rw [List.length_map, List.length_range, hl2]) fun k i1 i2 => ?_
 have hk : k < n := by rw [hl2] at i2; exact i2
 have hm : k ∈ fstN n S := (c.all k).mpr hk
 have hx := List.idxOf_lt_length_of_mem hm
 have hx' : (fstN n S).idxOf k < n := by rw [c.len] at hx; exact hx
 have e1 : (fstN n S).getD ((fstN n S).idxOf k) 0 = k := by
  rw [gDN hx]
  exact List.getElem_idxOf hx
 rw [fstN_at hx'] at e1
 rw [List.getElem_map]
 have ea : (argS n (fstN n S))[k]'(by rw [List.length_map] at i1; exact i1) = (fstN n S).idxOf k := by
  unfold argS
  rw [List.getElem_map, List.getElem_range]
 rw [ea]
 have eg : (renI n S (srt n S))[k] = (renI n S (srt n S)).getD k [] := by rw [List.getD_eq_getElem?_getD, List.getElem?_eq_getElem i2]; rfl
 rw [eg, row_is' ok hl hx', row_is' ok2 hl2 hk]
 refine List.map_congr_left fun x hx2 => ?_
 have := srt_ent ok hl h1 hx' (List.mem_range.mp hx2)
 rw [e1] at this
 exact this.symm
theorem ring_form (ok : OkRows n R) (hl : R.length = n) (h1 : 1 <= n) {w ρ : List Nat} {a : Nat} (cw : Cols n w) (cr : Cols n ρ) (ha : a < n) (e0 : ρ.getD 0 0 = a) :
  renI n (thF (lay R w ρ)) (srt n (thF (lay R w ρ))) = renI n R (alongR n R a w) := by
 have z : 0 < n := by exact Om.f5 ‹_›
 rw [lay_ren ok hl h1 cw cr]
 have rg := gL_ren ok hl h1 cw cr
 have rh := along_ren ok hl cw h1 ha
 obtain ⟨okS, hlS⟩ := renI_ok ok hl rg
 obtain ⟨ok2, hl2⟩ := renI_ok okS hlS (srt_ren okS hlS h1)
 obtain ⟨okF, hlF⟩ := renI_ok ok hl rh
 have e1 : ∀ x, rw_ (gL R w ρ) 1 x = rw_ (alongR n R a w) 1 x := fun x => rfl
 have e2 : ∀ x, rw_ (gL R w ρ) 2 x = rw_ (alongR n R a w) 2 x := fun x => by
  show ((thg R (ρ.getD 0 0) w).getD x 0).toNat = ((thg R a w).getD x 0).toNat
  rw [e0]
 have hw0 := cw.zero h1
 have ew : rw_ (gL R w ρ) 1 (w.getD 0 0) = 0 := by
  rw [e1]
  unfold rw_
  rw [al1 cw hw0, Int.toNat_natCast]
  exact idx_of cw.turn z hw0 (col_at cw z).2
 have er : ∀ r, r < n -> rw_ (alongR n R a w) 0 r = rw_ (alongR n R a w) 2 (ent R r (w.getD 0 0)).toNat := fun r hr => by
  have en := ent_nat ok hl hr hw0
  unfold rw_
  rw [al0 ok hl cw h1 ha hr, al2 ok hl cw ha en.2, <- en.1]
 refine ext_gen hl2 (fun r h => (ok2.row r h).1) hlF (fun r h => (okF.row r h).1) fun i j hi hj => ?_
 have k0 := ixo_lt (rh.at (k := 0) (by decide)) hi
 have k1 := ixo_lt (rh.at (k := 1) (by decide)) hj
 have q0 := ix_rw rh (k := 0) (by decide) hi
 have q1 := ix_rw rh (k := 1) (by decide) hj
 generalize ixo ((alongR n R a w).getD 0 []) i = r at k0 q0
 generalize ixo ((alongR n R a w).getD 1 []) j = x at k1 q1
 have hF := ren_ent rh ok hl k0 k1
 have hS := ren_ent rg ok hl k0 k1
 have hS0 := ren_ent rg ok hl k0 hw0
 rw [ew, e2, <- er r k0, q0] at hS0
 have hs := srt_ent okS hlS h1 (rw_lt rg (k := 0) (by decide) k0) (rw_lt rg (k := 1) (by decide) k1)
 rw [hS0, Int.toNat_natCast, hS, e1, e2, q1] at hs
 rw [hs, <- hF, q0, q1]
end
end My
namespace L2
open PySem PySem.Spec PyProof.Rows
section
variable {X : Cx} {elt tg iter : Expr} {ifs : List Expr} {scope : Scope} {pos spos : Pos} {wi : TI} {g : TG} {tt : TT} {te : TE}
theorem ps_lcC {i : Nat} {x : Str} {px : Pos} (x0 : Str) (Nc : List Str) (fm : List (Option Nat)) (hN : X.N.Nodup) (hi' : X.N[i]? = some x) (hx : Loc X.env.scope x) (hc : X.calm = true) (hk : captOkC X.N X.env.scope x0 Nc scope fm = true) (hi : PI X tg iter wi)
  (hg : ∀ cl C s₁ H₁ fp, PG (cxCompC X x0 Nc scope cl C s₁ H₁ fp) tg g) (ht : ∀ cl C s₁ H₁ fp, PTs (cxCompC X x0 Nc scope cl C s₁ H₁ fp) ifs tt) (he : ∀ cl C s₁ H₁ fp, PE (cxCompC X x0 Nc scope cl C s₁ H₁ fp) elt te)
  (hsw : swapsWith (.ListComp elt [⟨tg, iter, ifs, 0⟩] scope pos) (some (.Name x px)) spos.line X.env = pure true := by rfl)
  (hs : ∀ x, foldedSetIterable iter X.env x = pure x := by intro _; rfl) (hf : X.fn x = true \/ X.env.scope.names.lookup x = some .local := by first | exact .inl rfl | exact .inr rfl | assumption) :
  PS X (.Assign [.Name x px] (.ListComp elt [⟨tg, iter, ifs, 0⟩] scope pos) spos) (tAsg (tComp fm wi g tt te) (gName i)) := by
 intro pins s σ H D I h
 have c := captOkC.capt hk
 rw [exec_Assign_Name_used _ _ _ _ hsw]
 refine wpAny_bind (wpAny_standAt (wpAny_bind ?_))
 show wpAny _ X.A (do let _ <- comprehension (.ListComp elt [⟨tg, iter, ifs, 0⟩] scope pos) scope X.env _ (newList []) false (eval iter X.env) (some (assign (.Name x px) X.env))) _ _ s
 refine wpAny_bind (wpAny_mono (wpAny_comprehension_free (use := some (assign (.Name x px) X.env)) (Q := fun _ s' => SP X pins D .next s') rfl hs (closureFor_eq fun y hy e => I.ok.has y.1 (c.free y hy e)) c.kind c.names
  (thn (hi pins s σ H _ I h) fun v s1 h1 => thn h1 fun itv s2 h2 => ?_)) (fun _ s' hq => wpAny_pure (wpAny_pure hq)) fun _ _ e => e)
 obtain ⟨it, fp, tn, J, H2, e, I2, T, st2, f2, h⟩ := h2
 subst e
 refine comp_blockC (Q := fun v H' => gName i v σ H' D.nx) (RR := fun acc C => compPost (model X.prog X.w) X.A X.xe (some (assign (.Name x px) X.env)) (fun _ s' => SP X pins D .next s') acc C) hc c I2 T st2 f2 hg ht he h fun σ' H' s' J' q => ?_
 obtain ⟨m, hn, _⟩ := J'.loc
 have IB := comp_backC I2 f2 J'
 show wpAny _ X.A (assign (.Name x px) X.env _) _ _ _
 refine wpAny_assign_Name (store_ok2 (v := .ref s2.heap.objs.size) IB hN hi' hx rfl (fun s'' I'' ⟨a, sa, ha⟩ => ?_) hf)
 have hle : s2.heap.objs.size <= s2.heap.objs.size + 1 := Nat.le_succ _
 have hne : s2.heap.objs.size + 1 ≠ a := by
  rcases ha with rfl | ha
  ·exact Nat.ne_of_gt (Nat.lt_of_lt_of_le I2.lt hle)
  ·obtain ⟨v, q⟩ := I2.cell x a ha
   exact Nat.ne_of_gt (Nat.lt_of_lt_of_le q.lt hle)
 exact ⟨m, hn.sameBut sa hne, fun h'' sb => ⟨_, H', comp_goC I2 J' I'' sb, q⟩⟩
end
end L2
namespace My
open PySem L2
noncomputable def rhoA (n a : Nat) : List Nat := [a] ++ (List.range n).take a ++ (List.range n).drop (a + 1)
theorem rhoA_cols {n a : Nat} (ha : a < n) : Cols n (rhoA n a) := by
 have p : (rhoA n a).Perm (List.range n) := by
  have h := erase_perm (C := List.range n) (i := a) (by rw [List.length_range]; exact ha)
  rw [List.getElem_range, List.eraseIdx_eq_take_drop_succ] at h
  unfold rhoA
  rw [List.append_assoc]
  exact h
 exact ⟨p.nodup_iff.mpr List.nodup_range, fun x => by rw [p.mem_iff]; exact List.mem_range⟩
noncomputable def spRinged : Sp := fun vs H Q _ => ∃ (g lw : Addr) (n a : Nat) (R : List (List Int)) (w : List Nat), vs = [.ref g, .int (a : Int), .ref lw] /\ TG H g R /\ OkRows n R /\ R.length = n /\ 2 <= n /\ n <= 6 /\ a < n /\ H lw = some (.lst ((toI w).map V.int)) /\ Cols n w /\ ∀ t H', Same H H' -> TG H' t (renI n R (alongR n R a w)) -> Q (.ref t) H'
section
variable {P : Program} {w : World} {K : PySem.W.Frag} {mg : Str -> Option Value} {base : Heap}
theorem scRinged : FnScope ["_law_square_here", "_law_first", "_law_columns", "_law_rows"] ["_law_square_here", "_law_first", "_law_columns"] (defScope sRinged) := ⟨rfl, rfl, rfl, by decide +kernel, rfl, by decide +kernel, by decide +kernel⟩
set_option maxHeartbeats 1000000 in
theorem ok_ringed {f fF : Addr} {fd dF : FuncData} (F : Fun K "_law_ringed" "_law_ringed" sRinged f fd) (T : Blt mg) (DF : Dfn K mg "_law_things_first" sThFirst ["_law_rows"] fF dF) : FnOk P w K mg base CX0 2 f fd ["_law_square_here", "_law_first", "_law_columns"] spRinged := by
 have GF : FnOk P w K mg base CX0 1 fF dF ["_law_rows"] spThF := ok_thF DF.F T
 refine F.ok scRinged (fun vs H Q E h => ?_) (fun cdv A outer s H vs Q E hr h => ?_)
 ·obtain ⟨_, _, _, _, _, _, rfl, _⟩ := h
  rfl
 ·obtain ⟨g, lw, n, a, R, γ, rfl, hT, ok, hRl, h2, h6, ha, hw, cg, q⟩ := h
  refine' ⟨_, pss_cons ?s0 (pss_cons ?s1 (pss_one (ps_ret ?s2))), ?rd⟩
  case s0 => exact ps_lcC (i := 3) "_law_row_here" ["_law_row_here", "_law_columns"] [none, some 2] scRinged.nd rfl (Or.inl rfl) rfl rfl (pi_tupK K (pv 0)) (fun _ _ _ _ _ => pg_own 0) (fun _ _ _ _ _ => pts_nil) (fun _ _ _ _ _ => pe_lc ["_law_column", "_law_row_here"] [none, some 0] rfl rfl (pi_listK K (pv 1)) (fun _ _ _ _ _ => pg_c 0) (fun _ _ _ _ _ => pts_nil) (fun _ _ _ _ _ => pe_ix (ix_tupK K) (pv 1) (pv 0) (fun _ _ => rfl)))
  case s1 => exact ps_set (i := 3) scRinged.nd rfl (Or.inl rfl) (pe_op op_cat (pe_op op_cat (pe_lst (pa_cons (pe_ix ix_list (pv 3) (pv 1) (fun _ _ => rfl)) pa_nil)) (pe_slice sl_list (pv 3) po_none (po_some (pv 1)))) (pe_slice sl_list (pv 3) (po_some (pe_op op_add (pv 1) pe_int)) po_none))
  case s2 => exact pe_callTy (call_tupleK K) rfl T.tuple bt_tuple (pa_cons (pe_callB call_sortedTt rfl T.sorted PyProof.Rows.boot_sorted (pa_cons (pe_call GF hr rfl DF.m DF.F.kp DF.b .nil pass0 (pa_cons (pv 3) pa_nil)) pa_nil)) pa_nil)
  case rd =>
   obtain ⟨gs, hg, hG⟩ := id hT
   have hgl : (gs.map V.ref).length = n := by rw [List.length_map, hG.length, hRl]
   have h1 : 1 <= n := by exact Om.f4 ‹_›
   have hγl : ((toI γ).map V.int).length = n := by rw [List.length_map, toI_len, cg.len]
   refine ⟨_, rfl, g, rfl, ⟨_, SqT.of hg⟩, fun ll hll => ?_⟩
   refine comp_of (wlk_tup (xs := gs.map V.ref)) (fun j ys σ H3 => ∃ (v0 : Option V) (us : List Addr), σ = [v0, some (.ref lw)] /\ ys = us.map V.ref /\ Same H H3 /\ H3 ll = some (.lst ys) /\ (∀ u ∈ us, u ≠ ll) /\ Paired (fun p (r : List Int) => H3 p = some (.lst (r.map V.int))) us (((List.range n).map fun i => γ.map fun c => ent R i c).take j))
    ⟨none, [], rfl, rfl, Same.new hll, upd_same, (fun u hu => by cases hu), .nil⟩ (fun j ys σ H3 hh => by obtain ⟨_, _, _, _, s3, hl3, _⟩ := hh; exact ⟨SqT.of (s3 _ _ hg), hl3⟩) ?_ ?_
   ·rintro j x ys σ H3 hj ⟨v0, us, rfl, rfl, s3, hl3, hun, hU⟩
    rw [List.getElem?_map] at hj
    cases hpj : gs[j]? with
    | none => rw [hpj] at hj; cases hj
    | some pr =>
    rw [hpj] at hj
    cases hj
    obtain ⟨r, hrj, hpr⟩ := Paired.getL hG hpj
    have hrow : r.length = n := (ok.row r (List.mem_of_getElem? hrj)).1
    have hjl : j < R.length := (List.getElem?_eq_some_iff.mp hrj).1
    have hRj : R.getD j [] = r := by rw [List.getD_eq_getElem?_getD, hrj]; rfl
    have hpr3 := s3 _ _ hpr
    have hw3 := s3 _ _ hw
    refine ⟨_, rfl, lw, rfl, ⟨_, SqL.of hw3⟩, fun lr hlr => ?_⟩
    refine comp_pure (fun k => some (.int (ent R j (γ.getD k 0)))) (fun σ => ∃ v, σ = [v, some (.ref pr)]) (wlk_list (xs := (toI γ).map V.int)) (by rw [hγl]; exact small6 (by exact Om.b1 ‹_› rfl)) hlr (fun H' sm => SqL.of (sm _ _ hw3)) ⟨none, rfl⟩ ?_ ?_
    ·rintro k y σ H' R' hy ⟨v', rfl⟩ sm kk
     obtain ⟨hk, rfl⟩ := toI_get hy
     have hc : γ.getD k 0 < n := by rw [gDN hk]; exact (cg.all _).mp (List.getElem_mem _)
     have hat : atI (r.map V.int) ((γ.getD k 0 : Nat) : Int) = some (.int (ent R j (γ.getD k 0))) := by
      unfold ent
      rw [hRj]
      exact int_at (by rw [hrow]; exact hc)
     exact ⟨_, rfl, _, rfl, pr, _, _, _, rfl, rfl, SqT.of (sm _ _ hpr3), hat, kk _ H' ⟨some (.int ((γ.getD k 0 : Nat) : Int)), rfl⟩ (Same.refl _)⟩
    ·intro H4 s4 h4'
     have e4 : (List.range ((toI γ).map V.int).length).filterMap (fun k => some (V.int (ent R j (γ.getD k 0)))) = (γ.map fun c => ent R j c).map V.int := by
      rw [filterMap_some, List.length_map, toI_len, List.map_map]
      refine List.ext_getElem (by rw [List.length_map, List.length_map, List.length_range]) fun k i1 i2 => ?_
      have hk : k < γ.length := by rw [List.length_map, List.length_range] at i1; exact i1
      rw [List.getElem_map, List.getElem_map, List.getElem_range]
      show V.int (ent R j (γ.getD k 0)) = V.int (ent R j γ[k])
      rw [gDN hk]
     rw [e4] at h4'
     have hl4 := s4 _ _ hl3
     have hul : us.length = j := by
      rw [hU.length, List.length_take, List.length_map, List.length_range]
      omega
     have hne : lr ≠ ll := fun z => by rw [z, hl3] at hlr; cases hlr
     have hri' : ((List.range n).map fun i => γ.map fun c => ent R i c)[j]? = some (γ.map fun c => ent R j c) := by rw [List.getElem?_map, List.getElem?_range (by exact Om.a2 ‹_› ‹_›)]; rfl
     refine ⟨hl4, by rw [List.length_map, hul]; exact small1000 (by exact Om.b6 ‹_› ‹_› ‹_› rfl), _, us ++ [lr], rfl, by rw [List.map_append]; rfl, fun b u e => ?_, upd_same, fun u hu' => ?_, ?_⟩
     ·rw [upd_ne (ne_of_none e hll)]
      exact s4 _ _ (s3 _ _ e)
     ·rcases List.mem_append.mp hu' with z | z
      ·exact hun u z
      ·rw [List.mem_singleton.mp z]; exact hne
     ·have et : ((List.range n).map fun i => γ.map fun c => ent R i c).take (j + 1) = ((List.range n).map fun i => γ.map fun c => ent R i c).take j ++ [γ.map fun c => ent R j c] := by rw [List.take_add_one, hri']; rfl
      rw [et]
      refine Paired.snoc (paired_in hU fun a ha b e => ?_) ?_
      ·rw [upd_ne (hun a ha)]
       exact s4 _ _ e
      ·rw [upd_ne hne]
       exact h4'
   rintro ys σ H3 ⟨v0, us, rfl, rfl, s3, hl3, _, hU⟩
   rw [List.take_of_length_le (by rw [List.length_map, List.length_range, hgl]; exact Nat.le_refl _)] at hU
   have hul : us.length = n := by rw [hU.length, List.length_map, List.length_range]
   have hat : atI (us.map V.ref) (a : Int) = some (.ref (us.getD a 0)) := atI_of (by rw [List.getElem?_map, get_getD (by exact Om.a1 ‹_› ‹_›)]; rfl)
   refine ⟨_, rfl, _, rfl, ll, _, _, _, rfl, rfl, SqL.of hl3, hat, (show 1 <= sizeLine from small6 (by decide)), fun l1 f1 => ?_⟩
   have u1 : Same H3 (upd H3 l1 (.lst [.ref (us.getD a 0)])) := Same.new f1
   have v1 : (upd H3 l1 (.lst [.ref (us.getD a 0)])) l1 = some (.lst ([us.getD a 0].map V.ref)) := upd_same
   generalize upd H3 l1 (.lst [.ref (us.getD a 0)]) = J1 at u1 v1 ⊢
   refine ⟨_, rfl, _, rfl, (a : Int), rfl, ll, _, rfl, SqL.of (u1 _ _ hl3), fun l2 f2 => ?_⟩
   rw [cut_to (us.map V.ref) (c := a) (by rw [List.length_map]; omega)]
   have u2 : Same J1 (upd J1 l2 (.lst ((us.map V.ref).take a))) := Same.new f2
   have v2 : (upd J1 l2 (.lst ((us.map V.ref).take a))) l2 = some (.lst ((us.take a).map V.ref)) := by rw [upd_same, List.map_take]
   generalize upd J1 l2 (.lst ((us.map V.ref).take a)) = J2 at u2 v2 ⊢
   refine ⟨l1, l2, _, _, rfl, rfl, u2 _ _ v1, v2, small6 (by rw [List.length_map, List.length_map, List.length_take]; show 1 + _ <= 1000; omega), fun l3 f3 => ?_⟩
   have u3 : Same J2 (upd J2 l3 (.lst ([us.getD a 0].map V.ref ++ (us.take a).map V.ref))) := Same.new f3
   have v3 : (upd J2 l3 (.lst ([us.getD a 0].map V.ref ++ (us.take a).map V.ref))) l3 = some (.lst (([us.getD a 0] ++ us.take a).map V.ref)) := by rw [upd_same, List.map_append]
   generalize upd J2 l3 (.lst ([us.getD a 0].map V.ref ++ (us.take a).map V.ref)) = J3 at u3 v3 ⊢
   have u13 := u1.trans (u2.trans u3)
   refine ⟨_, rfl, _, rfl, _, _, rfl, rfl, (a : Int) + 1, rfl, ll, _, rfl, SqL.of (u13 _ _ hl3), fun l4 f4 => ?_⟩
   have ec : cutV (us.map V.ref) (some ((a : Int) + 1)) none = (us.drop (a + 1)).map V.ref := by
    rw [List.map_drop]
    exact cut_from (c := a + 1) _ (by rw [List.length_map]; omega)
   rw [ec]
   have u4 : Same J3 (upd J3 l4 (.lst ((us.drop (a + 1)).map V.ref))) := Same.new f4
   have v4 : (upd J3 l4 (.lst ((us.drop (a + 1)).map V.ref))) l4 = some (.lst ((us.drop (a + 1)).map V.ref)) := upd_same
   generalize upd J3 l4 (.lst ((us.drop (a + 1)).map V.ref)) = J4 at u4 v4 ⊢
   refine ⟨l3, l4, _, _, rfl, rfl, u4 _ _ v3, v4, small6 (by rw [List.length_map, List.length_map, List.length_append, List.length_take, List.length_drop]; show 1 + _ + _ <= 1000; omega), fun l5 f5 => ?_⟩
   have u5 : Same J4 (upd J4 l5 (.lst (([us.getD a 0] ++ us.take a).map V.ref ++ (us.drop (a + 1)).map V.ref))) := Same.new f5
   have v5 : (upd J4 l5 (.lst (([us.getD a 0] ++ us.take a).map V.ref ++ (us.drop (a + 1)).map V.ref))) l5 = some (.lst (([us.getD a 0] ++ us.take a ++ us.drop (a + 1)).map V.ref)) := by rw [upd_same, List.map_append (l₁ := [us.getD a 0] ++ us.take a)]
   generalize upd J4 l5 (.lst (([us.getD a 0] ++ us.take a).map V.ref ++ (us.drop (a + 1)).map V.ref)) = J5 at u5 v5 ⊢
   have u15 := u13.trans (u4.trans u5)
   have cr := rhoA_cols ha
   have eL : lay R γ (rhoA n a) = [γ.map fun c => ent R a c] ++ ((List.range n).map fun i => γ.map fun c => ent R i c).take a ++ ((List.range n).map fun i => γ.map fun c => ent R i c).drop (a + 1) := by
    unfold lay rhoA
    rw [List.map_append, List.map_append, List.map_take, List.map_drop]
    rfl
   have hU5 := Paired.mapP hU fun _ _ z => u15 _ _ z
   have hLI : LI J5 l5 (lay R γ (rhoA n a)) := by
    refine ⟨_, v5, ?_⟩
    rw [eL]
    refine Paired.append (Paired.append (.cons ?_ .nil) (Paired.take5 a hU5)) (Paired.drop5 (a + 1) hU5)
    obtain ⟨r, hr1, hr2⟩ := Paired.getL hU5 (get_getD (us := us) (c := a) (by exact Om.a1 ‹_› ‹_›))
    rw [List.getElem?_map, List.getElem?_range ha] at hr1
    cases hr1
    exact hr2
   refine ⟨_, rfl, l5, n, _, rfl, hLI, by rw [lay_len, cr.len], lay_turn ok hRl cg cr, h1, h6, fun t6 J6 u6 hT6 => ?_⟩
   obtain ⟨okS, hlS⟩ := renI_ok ok hRl (gL_ren ok hRl h1 cg cr)
   rw [<- lay_ren ok hRl h1 cg cr] at okS hlS
   have ef := ring_form ok hRl h1 cg cr ha (show (rhoA n a).getD 0 0 = a from rfl)
   generalize thF (lay R γ (rhoA n a)) = S at hT6 okS hlS ef
   obtain ⟨qs, hq6, hQ6⟩ := hT6
   have hql : qs.length = n := by rw [hQ6.length, hlS]
   refine ⟨t6, qs, S, n, (argS n (fstN n S)).toArray, rfl, hq6, hQ6, fun r hr => (okS.row r hr).1, by exact Om.f5 ‹_›, by exact Om.l3 ‹_› ‹_›, by omega, sort_run okS hlS h2 h6, by rw [List.size_toArray, hlS]; unfold argS; rw [List.length_map, List.length_range], fun i hi => by rw [hlS]; exact argS_lt okS hlS h1 i hi, fun l7 f7 => ?_⟩
   have u7 : Same J6 (upd J6 l7 (.lst (((argS n (fstN n S)).toArray.toList.map fun i => qs.getD i 0).map V.ref))) := Same.new f7
   have v7 : (upd J6 l7 (.lst (((argS n (fstN n S)).toArray.toList.map fun i => qs.getD i 0).map V.ref))) l7 = some (.lst (((argS n (fstN n S)).map fun i => qs.getD i 0).map V.ref)) := upd_same
   generalize upd J6 l7 (.lst (((argS n (fstN n S)).toArray.toList.map fun i => qs.getD i 0).map V.ref)) = J7 at u7 v7 ⊢
   refine ⟨l7, _, rfl, .inl ⟨SqL.of v7, fun t8 f8 => ?_⟩⟩
   have u8 : Same J7 (upd J7 t8 (.tup (((argS n (fstN n S)).map fun i => qs.getD i 0).map V.ref))) := Same.new f8
   have u68 := u7.trans u8
   refine q t8 _ (s3.trans (u15.trans (u6.trans u68))) ⟨_, upd_same, ?_⟩
   rw [<- ef, <- sort_rows okS hlS h1]
   refine paired_two fun i hi => ?_
   have hi' := argS_lt okS hlS h1 i hi
   obtain ⟨r, hr1, hr2⟩ := Paired.getL hQ6 (get_getD (us := qs) (c := i) (by exact Om.a1 ‹_› ‹_›))
   rw [List.getD_eq_getElem?_getD (l := S), hr1]
   exact u68 _ _ hr2
end
end My
namespace My
open PySem L2
noncomputable def Shut (s : Nat -> Nat) (n : Nat) (D : List Nat) : Prop := ∀ x ∈ D, x < n /\ s x ∈ D /\ ∃ y ∈ D, s y = x
theorem ring_shut {s : Nat -> Nat} {n c : Nat} (o : One n s) (hc : c < n) : Shut s n (ringL s n c) := fun x hx => ⟨(ring_ok o hc).1.lt o x hx, ring_closed o hc hx⟩
theorem Shut.app {s : Nat -> Nat} {n : Nat} {D E : List Nat} (h : Shut s n D) (g : Shut s n E) : Shut s n (D ++ E) := fun x hx => by
 rcases List.mem_append.mp hx with z | z
 ·obtain ⟨h1, h2, y, hy, e⟩ := h x z
  exact ⟨h1, List.mem_append.mpr (.inl h2), y, List.mem_append.mpr (.inl hy), e⟩
 ·obtain ⟨h1, h2, y, hy, e⟩ := g x z
  exact ⟨h1, List.mem_append.mpr (.inr h2), y, List.mem_append.mpr (.inr hy), e⟩
theorem Shut.out {s : Nat -> Nat} {n : Nat} {D : List Nat} (o : One n s) (h : Shut s n D) {x : Nat} (hx : x < n) (hD : x ∉ D) : s x ∉ D := fun z => by
 obtain ⟨_, _, y, hy, e⟩ := h _ z
 exact hD (o.inj y x (h y hy).1 hx e ▸ hy)
theorem Shut.ring {s : Nat -> Nat} {n c : Nat} {D : List Nat} (o : One n s) (h : Shut s n D) (hc : c < n) (hD : c ∉ D) {x : Nat} (hx : x ∈ ringL s n c) : x ∉ D :=
 (path_in (S := fun x => x < n /\ x ∉ D) ⟨hc, hD⟩ (fun y hy => ⟨o.lt y hy.1, h.out o hy.1 hy.2⟩) (ring_ok o hc).1 x hx).2
theorem sub_len : ∀ {l m : List Nat}, l.Nodup -> (∀ x ∈ l, x ∈ m) -> l.length <= m.length
 | [], m, _, _ => Nat.zero_le _
 | x :: l, m, nd, h => by
  have hx := h x List.mem_cons_self
  have ih := sub_len (l := l) (m := m.erase x) (List.nodup_cons.mp nd).2 fun y hy => (List.mem_erase_of_ne (fun e : y = x => (List.nodup_cons.mp nd).1 (by rw [<- e]; exact hy))).mpr (h y (List.mem_cons_of_mem _ hy))
  rw [List.length_erase_of_mem hx] at ih
  have := List.length_pos_of_mem hx
  rw [List.length_cons]
  omega
theorem cols_full {n : Nat} {D : List Nat} (nd : D.Nodup) (lt : ∀ x ∈ D, x < n) (hl : D.length = n) : Cols n D := cols_of (mem_perms n D hl nd lt)
noncomputable def Laid (s : Nat -> Nat) (n : Nat) (D : List Nat) (Ls : List (List Nat)) : Prop := (∀ w ∈ Ls, Cols n w) /\ ∀ w ls, Alg s (fun x => x < n /\ x ∉ D) w ls -> D ++ w ∈ Ls
theorem laid_full {s : Nat -> Nat} {n : Nat} {D : List Nat} (c : Cols n D) : Laid s n D [D] := by
 refine ⟨fun w hw => by rw [List.mem_singleton.mp hw]; exact c, fun w ls a => ?_⟩
 cases a with
 | nil _ => rw [List.append_nil]; exact List.mem_singleton.mpr rfl
 | step hc hU _ _ =>
  have := hU _ hc.head
  exact absurd ((c.all _).mpr this.1) this.2
theorem alg_head {s : Nat -> Nat} {n : Nat} (o : One n s) {D w ls : List Nat} (hD : ∃ x, x < n /\ x ∉ D) (a : Alg s (fun x => x < n /\ x ∉ D) w ls) : ∃ c w' ls', c < n /\ c ∉ D /\ w = ringL s n c ++ w' /\ Alg s (fun x => x < n /\ x ∉ D ++ ringL s n c) w' ls' := by
 cases a with
 | nil h =>
  obtain ⟨x, hx⟩ := hD
  exact absurd hx (h x)
 | @step _ c w' ls' hc hU _ a' =>
  have h0 := hU _ hc.head
  have hr := ring_cyc o h0.1
  have e : c = ringL s n (c.getD 0 0) := by
   have hd := (path_nx (ring_ok o h0.1).1).1
   refine (cyc_same hc hr (k := 0) hr.pos hd.symm).trans ?_
   unfold rot
   rw [List.drop_zero, List.take_zero, List.append_nil]
  refine ⟨c.getD 0 0, w', ls', h0.1, h0.2, by rw [<- e], a'.congr fun x => ?_⟩
  rw [<- e, List.mem_append]
  constructor
  ·rintro ⟨⟨h1, h2⟩, h3⟩
   exact ⟨h1, fun z => z.elim h2 h3⟩
  ·rintro ⟨h1, h2⟩
   exact ⟨⟨h1, fun z => h2 (.inl z)⟩, fun z => h2 (.inr z)⟩
theorem small2m' {m : Nat} (h : m <= 5 * 6 ^ 6 + 6 ^ 6) : m <= sizeLine := Nat.le_trans h (by decide)
noncomputable def spLay (k : Nat) : Sp := fun vs H Q _ => ∃ (g ll : Addr) (n a b : Nat) (R : List (List Int)) (D : List Nat), vs = [.ref g, .int (a : Int), .int (b : Int), .ref ll] /\ TG H g R /\ OkRows n R /\ R.length = n /\ n <= 6 /\ a < n /\ b < n /\ H ll = some (.lst ((toI D).map V.int)) /\ Shut (sF R a b) n D /\ D.Nodup /\ n - D.length + 1 <= k /\ k <= 7 /\ ∀ (t : Addr) (H' : Hp) (ps : List Addr) (Ls : List (List Nat)), H t = none -> Same H H' -> H' t = some (.lst (ps.map V.ref)) -> (∀ p ∈ ps, p = ll \/ H p = none) -> Paired (fun p (r : List Nat) => H' p = some (.lst ((toI r).map V.int))) ps Ls -> Laid (sF R a b) n D Ls -> Ls.length <= 6 ^ k -> Q (.ref t) H'
noncomputable def WLy (H : Hp) (g ll lf : Addr) (n o1 o2 c : Nat) (s : Nat -> Nat) (l : Addr) (m : Nat) (σ : St) (H2 : Hp) : Prop :=
 ∃ (acc : List Nat) (x : Nat), σ = [some (.ref g), some (.int (o1 : Int)), some (.int (o2 : Int)), some (.ref ll), some (.ref lf), some (.int (c : Int)), some (.ref l), some (.int (x : Int))] /\ Same H H2 /\ H2 l = some (.lst ((toI acc).map V.int)) /\ ((acc = [] /\ x = c) \/ (Path n s c acc /\ x = s (lastN acc) /\ ringF s c (n + 1 - acc.length) acc = ringL s n c)) /\ m = n + 1 - acc.length
section
variable {P : Program} {w : World} {K : PySem.W.Frag} {mg : Str -> Option Value} {base : Heap}
theorem scLay : FnScope ["_law_square_here", "_law_first", "_law_second", "_law_lain", "_law_found", "_law_start", "_law_ring", "_law_here"] ["_law_square_here", "_law_first", "_law_second", "_law_lain"] (defScope sLayings) := ⟨rfl, rfl, rfl, by decide +kernel, rfl, by decide +kernel, by decide +kernel⟩
set_option maxHeartbeats 1000000 in
theorem ok_layings {f : Addr} {fd : FuncData} (D : Dfn K mg "_law_layings" sLayings ["_law_square_here", "_law_first", "_law_second", "_law_lain"] f fd) (T : Blt mg) : ∀ k : Nat, FnOk P w K mg base CX0 k f fd ["_law_square_here", "_law_first", "_law_second", "_law_lain"] (spLay k)
 | 0 => ⟨fun vs H Q E h => by obtain ⟨_, _, _, _, _, _, _, rfl, _⟩ := h; rfl, fun A outer s H args us vs Q E _ _ _ _ h => by obtain ⟨_, _, _, _, _, _, _, rfl, _, _, _, _, _, _, _, _, _, z, _⟩ := h; exact absurd z (Nat.not_succ_le_zero _)⟩
 | k + 1 => by
  have GL : FnOk P w K mg base CX0 k f fd ["_law_square_here", "_law_first", "_law_second", "_law_lain"] (spLay k) := ok_layings D T k
  refine D.F.ok scLay (fun vs H Q E h => ?_) (fun cdv A outer s H vs Q E hr h => ?_)
  ·obtain ⟨_, _, _, _, _, _, _, rfl, _⟩ := h
   rfl
  ·obtain ⟨g, ll, n, a, b, R, Ln, rfl, hT, ok, hRl, h6, ha, hb, hll, sh, nd, hk, hk7, q⟩ := h
   have hu : ((A.deeper (PyProof.Rows.envOfC "_law_layings" (defScope sLayings) s.heap.objs.size f cdv))).units < cLine := by have := hr.un; omega
   refine' ⟨_, pss_cons (ps_if ?c0 (pss_one (ps_ret (pe_lst (pa_cons (pv 3) pa_nil)))) pss_nil) (pss_cons (ps_set (i := 4) scLay.nd rfl (Or.inl rfl) (pe_lst pa_nil)) (pss_cons (ps_for PassesOwn.never rfl ?i (pg_name (i := 5) scLay.nd rfl (Or.inl rfl)) (pss_cons (ps_set (i := 6) scLay.nd rfl (Or.inl rfl) (pe_lst pa_nil)) (pss_cons (ps_set (i := 7) scLay.nd rfl (Or.inl rfl) (pv 5)) (pss_cons (ps_while PassesOwn.never ?cw (pss_cons ?w0 (pss_one ?w1))) (pss_one (ps_if ?c3 (pss_one ?e) pss_nil)))))) (pss_one (ps_ret (pv 4))))), ?rd⟩
   case c0 => exact pt_cmpR op_eq (pe_callB (call_lenK K) rfl T.len PySem.boot_len (pa_cons (pv 3) pa_nil)) (pe_callB (call_lenK K) rfl T.len PySem.boot_len (pa_cons (pv 0) pa_nil)) (nomark _)
   case i => exact pi_range1 rfl T.range (pa_cons (pe_callB (call_lenK K) rfl T.len PySem.boot_len (pa_cons (pv 0) pa_nil)) pa_nil)
   case cw => exact PW.pt (pw_and (pt_cmpR (op_notInK K) (pv 5) (pv 3) rfl) (pw_and1 (pt_cmpR (op_notInK K) (pv 7) (pv 6) rfl)))
   case w0 => exact ps_expr (pe_bm PySem.F.plainAttrs_list PySem.F.slot_list_append PySem.F.type_list_append mt_append (pv 6) (pa_cons (pv 7) pa_nil))
   case w1 => exact ps_set (i := 7) scLay.nd rfl (Or.inl rfl) (pe_tindex (pe_ix ix_tup (pv 0) (pv 1) (fun _ _ => rfl)) (pa_cons (pe_ix ix_tup (pe_ix ix_tup (pv 0) (pv 2) (fun _ _ => rfl)) (pv 7) (fun _ _ => rfl)) pa_nil))
   case c3 => exact pt_cmpR (op_neL hu K) (pv 6) (pe_lst pa_nil) (nomark _)
   case e => exact ps_expr (pe_bm PySem.F.plainAttrs_list PySem.F.slot_list_extend PySem.F.type_list_extend mt_extend (pv 4) (pa_cons (pe_call GL hr rfl D.m D.F.kp D.b .nil pass0 (pa_cons (pv 0) (pa_cons (pv 1) (pa_cons (pv 2) (pa_cons (pe_op op_cat (pv 3) (pv 6)) pa_nil))))) pa_nil))
   case rd =>
    obtain ⟨gs, hg, hG⟩ := id hT
    have hgl : (gs.map V.ref).length = n := by rw [List.length_map, hG.length, hRl]
    have ra : Row n (R.getD a []) := ok.rowAt (by exact Om.a1 ‹_› ‹_›)
    have rb : Row n (R.getD b []) := ok.rowAt (by exact Om.a1 ‹_› ‹_›)
    have so : One n (sF R a b) := stp_one ra rb
    have hLlt : ∀ x ∈ Ln, x < n := fun x hx => (sh x hx).1
    have hLle : Ln.length <= n := nat_len nd hLlt
    have h6k : 6 ^ (k + 1) <= 6 ^ 7 := Nat.pow_le_pow_right (by decide) hk7
    have h6k' : 6 ^ (k + 1) = 6 ^ k * 6 := Nat.pow_succ ..
    refine ⟨_, rfl, ll, _, rfl, .inl (SqL.of hll), _, rfl, g, _, rfl, .inr (SqT.of hg), rfl, _, rfl, ?_⟩
    rw [hgl, List.length_map, toI_len]
    by_cases eL : V.int (Ln.length : Int) = V.int (n : Int)
    ·rw [decide_eq_true eL]
     have eL' : Ln.length = n := by rw [V.int.injEq] at eL; exact Om.e1 ‹_›
     refine iteT ⟨_, rfl, (show 1 <= sizeLine from small6 (by decide)), fun t ht => ?_⟩
     have s1 : Same H (upd H t (.lst [.ref ll])) := Same.new ht
     exact q t _ [ll] [Ln] ht s1 upd_same (fun p hp => .inl (List.mem_singleton.mp hp)) (.cons (s1 _ _ hll) .nil) (laid_full (cols_full nd hLlt eL')) (Nat.pow_pos (by decide))
    rw [decide_eq_false eL]
    have eL' : Ln.length < n := by
     have : Ln.length ≠ n := fun z => eL (by rw [z])
     omega
    refine iteF ⟨Nat.zero_le _, fun lf hlf => ?_⟩
    have sf : Same H (upd H lf (.lst [])) := Same.new hlf
    have gf : (upd H lf (.lst [])) lf = some (.lst (([] : List Addr).map V.ref)) := upd_same
    generalize upd H lf (.lst []) = H1 at sf gf ⊢
    refine ⟨_, rfl, g, _, rfl, .inr (SqT.of (sf _ _ hg)), _, rfl, by exact Om.c2, by rw [hgl]; exact Om.c1 ‹_› rfl, ?_⟩
    rw [Int.toNat_natCast, hgl]
    refine for_range (lo := 0) (n := n) (fun i σ H2 => ∃ (v5 v6 v7 : Option V) (zs : List Addr) (Ls : List (List Nat)), σ = [some (.ref g), some (.int (a : Int)), some (.int (b : Int)), some (.ref ll), some (.ref lf), v5, v6, v7] /\ Same H H2 /\ H2 lf = some (.lst (zs.map V.ref)) /\ (∀ p ∈ zs, H p = none /\ p ≠ lf) /\ Paired (fun p (r : List Nat) => H2 p = some (.lst ((toI r).map V.int))) zs Ls /\ (∀ w ∈ Ls, Cols n w) /\ (∀ st, st < i -> st ∉ Ln -> ∀ w ls, Alg (sF R a b) (fun x => x < n /\ x ∉ Ln ++ ringL (sF R a b) n st) w ls -> Ln ++ ringL (sF R a b) n st ++ w ∈ Ls) /\ Ls.length <= i * 6 ^ k)
     ⟨none, none, none, [], [], rfl, sf, gf, (fun p hp => by cases hp), .nil, (fun w hw => by cases hw), (fun st hst => absurd hst (Nat.not_lt_zero st)), Nat.zero_le _⟩ ?_ ?_
    ·rintro i σ H2 hi ⟨v5, v6, v7, zs, Ls, rfl, s2, hf2, hzf, hZ, hC, hA, hLb⟩
     rw [Int.zero_add]
     have hin : i * 6 ^ k <= 5 * 6 ^ 6 := Nat.mul_le_mul (by omega) (Nat.pow_le_pow_right (by decide) (by omega))
     refine ⟨Nat.zero_le _, fun lr hlr => ?_⟩
     have sr : Same H2 (upd H2 lr (.lst [])) := Same.new hlr
     have gr : (upd H2 lr (.lst [])) lr = some (.lst ((toI []).map V.int)) := upd_same
     generalize upd H2 lr (.lst []) = H3 at sr gr ⊢
     have s3 := s2.trans sr
     have hfr : H lr = none := s2.free hlr
     refine ⟨_, rfl, ?_⟩
     by_cases hst : i ∈ Ln
     ·refine ⟨fun m σ H' => σ = [some (.ref g), some (.int (a : Int)), some (.int (b : Int)), some (.ref ll), some (.ref lf), some (.int (i : Int)), some (.ref lr), some (.int (i : Int))] /\ H' = H3, ⟨0, rfl, rfl⟩, ?_⟩
      rintro m σ H' ⟨rfl, rfl⟩
      refine ⟨_, rfl, _, rfl, ll, _, rfl, .inl (SqL.of (s3 _ _ hll)), rfl, map_ints_flat _, _, rfl, ?_⟩
      rw [if_pos rfl, inV_toI, decide_eq_true hst]
      refine iteF (iteF ⟨_, rfl, Nat.zero_le _, fun le hle => ⟨lr, le, _, [], rfl, rfl, SqL.of ((Same.new hle) _ _ gr), SqL.of upd_same, .inl ⟨map_ints_flat _, rfl⟩, _, rfl, iteF ?_⟩⟩)
      have se : Same H' (upd H' le (.lst [])) := Same.new hle
      have sre := sr.trans se
      refine ⟨_, _, _, zs, Ls, rfl, s2.trans sre, sre _ _ hf2, hzf, Paired.mapP hZ fun _ _ z => sre _ _ z, hC, fun st hst' hni => ?_, Nat.le_trans hLb (Nat.mul_le_mul (Nat.le_succ i) (Nat.le_refl _))⟩
      by_cases e : st = i
      ·subst e
       exact absurd hst hni
      ·exact hA st (by omega) hni
     refine ⟨WLy H2 g ll lf n a b i (sF R a b) lr, ⟨_, [], i, rfl, sr, gr, .inl ⟨rfl, rfl⟩, rfl⟩, ?_⟩
     rintro m σ H4 ⟨acc, x, rfl, sW, hl4, hcase, rfl⟩
     have hxn : x < n := by
      rcases hcase with ⟨_, z⟩ | ⟨pa, z, _⟩
      ·exact Om.x1 ‹_› ‹_›
      ·rw [z]
       exact so.lt _ (pa.lt so _ pa.last_mem)
     have hal : acc.length <= n := by
      rcases hcase with ⟨z, _⟩ | ⟨pa, _, _⟩
      ·rw [z]; exact Nat.zero_le _
      ·exact nat_len pa.nodup (pa.lt so)
     refine ⟨_, rfl, _, rfl, ll, _, rfl, .inl (SqL.of (sW _ _ (s2 _ _ hll))), rfl, map_ints_flat _, _, rfl, ?_⟩
     rw [if_pos rfl, inV_toI, decide_eq_false hst]
     refine iteT ⟨_, rfl, _, rfl, lr, _, rfl, .inl (SqL.of hl4), rfl, map_ints_flat _, _, rfl, ?_⟩
     rw [if_pos rfl, inV_toI]
     by_cases hin : x ∈ acc
     rotate_left
     ·rw [decide_eq_false hin]
      refine iteT ⟨fun σ' H' => ∃ m', m' < n + 1 - acc.length /\ WLy H2 g ll lf n a b i (sF R a b) lr m' σ' H', fun _ _ z => z, ?_⟩
      refine ⟨_, rfl, .inl ⟨rfl, _, SqL.of hl4⟩, _, rfl, lr, _, _, rfl, rfl, hl4, by rw [List.length_map, toI_len]; exact small1000 (by exact Om.b3 ‹_› ‹_› rfl), ?_⟩
      have s5 : Same H2 (upd H4 lr (.lst ((toI acc).map V.int ++ [.int (x : Int)]))) := fun b' u e => by
       rw [upd_ne (ne_of_none e hlr)]
       exact sW _ _ e
      have hl5 : (upd H4 lr (.lst ((toI acc).map V.int ++ [.int (x : Int)]))) lr = some (.lst ((toI (acc ++ [x])).map V.int)) := by rw [upd_same, toI_app, List.map_append]; rfl
      generalize upd H4 lr (.lst ((toI acc).map V.int ++ [.int (x : Int)])) = H5 at s5 hl5 ⊢
      have hT5 := hT.same (s2.trans s5)
      obtain ⟨xA, pA, a1, a2, a3, a4⟩ := hT5.at (k := a) (by exact Om.a1 ‹_› ‹_›)
      obtain ⟨xB, pB, b1, b2, b3, b4⟩ := hT5.at (k := b) (by exact Om.a1 ‹_› ‹_›)
      refine ⟨_, rfl, _, rfl, g, _, _, _, rfl, rfl, SqT.of a1, a3, pA, _, rfl, a4, _, rfl, _, rfl, g, _, _, _, rfl, rfl, SqT.of b1, b3, _, rfl, pB, _, _, _, rfl, rfl, SqT.of b4, int_at (by rw [rb.len]; exact hxn), _, rfl, a4, row_has ra.len ra.nd ra.rg (rb.val hxn), ?_⟩
      have hlast : lastN (acc ++ [x]) = x := lastN_app _ _
      have hpath : Path n (sF R a b) i (acc ++ [x]) /\ ringF (sF R a b) i (n + 1 - (acc ++ [x]).length) (acc ++ [x]) = ringL (sF R a b) n i := by
       rcases hcase with ⟨z1, z2⟩ | ⟨pa, z, hrf⟩
       ·subst z1
        subst z2
        exact ⟨.one hi, rfl⟩
       ·subst z
        have e' : sF R a b (lastN acc) ≠ i := fun e => hin (by rw [e]; exact pa.head_mem)
        refine ⟨.more pa hin, ?_⟩
        rw [show n + 1 - acc.length = (n - acc.length) + 1 by omega] at hrf
        rw [ringF, if_neg e'] at hrf
        rw [List.length_append, show n + 1 - (acc.length + [sF R a b (lastN acc)].length) = n - acc.length by simp]
        exact hrf
      refine ⟨n + 1 - (acc ++ [x]).length, by rw [List.length_append, List.length_singleton]; omega, acc ++ [x], sF R a b x, rfl, s5, hl5, .inr ⟨hpath.1, by rw [hlast], hpath.2⟩, rfl⟩
     ·rw [decide_eq_true hin]
      refine iteF ?_
      have eacc : acc = ringL (sF R a b) n i := by
       rcases hcase with ⟨z, _⟩ | ⟨pa, z, hrf⟩
       ·rw [z] at hin
        cases hin
       ·subst z
        have e' := pa.back so hin
        rw [show n + 1 - acc.length = (n - acc.length) + 1 by omega, ringF, if_pos e'] at hrf
        exact hrf
      subst eacc
      have hrp : 0 < (ringL (sF R a b) n i).length := (path_nx (ring_ok so hi).1).2.1
      refine ⟨_, rfl, Nat.zero_le _, fun le hle => ⟨lr, le, _, [], rfl, rfl, SqL.of ((Same.new hle) _ _ hl4), SqL.of upd_same, .inl ⟨map_ints_flat _, rfl⟩, _, rfl, ?_⟩⟩
      have hb' : (if true = true then !eqVs ((toI (ringL (sF R a b) n i)).map V.int) [] else eqVs ((toI (ringL (sF R a b) n i)).map V.int) []) = true := by
       rw [if_pos rfl, eqVs_nil]
       cases hr' : ringL (sF R a b) n i with
       | nil => rw [hr'] at hrp; exact absurd hrp (Nat.lt_irrefl 0)
       | cons y l => rfl
      rw [hb']
      refine iteT ?_
      have se : Same H4 (upd H4 le (.lst [])) := Same.new hle
      generalize upd H4 le (.lst []) = H5 at se ⊢
      have s25 := sW.trans se
      have s05 := s2.trans s25
      have hf5 := s25 _ _ hf2
      have hl5 := se _ _ hl4
      refine ⟨_, rfl, .inl ⟨rfl, _, SqL.of hf5⟩, _, rfl, _, rfl, _, rfl, _, rfl, _, rfl, ll, lr, _, _, rfl, rfl, s05 _ _ hll, hl5, small6 (by rw [List.length_map, List.length_map, toI_len, toI_len]; omega), fun ln hln => ?_⟩
      have sn : Same H5 (upd H5 ln (.lst ((toI Ln).map V.int ++ (toI (ringL (sF R a b) n i)).map V.int))) := Same.new hln
      have gn : (upd H5 ln (.lst ((toI Ln).map V.int ++ (toI (ringL (sF R a b) n i)).map V.int))) ln = some (.lst ((toI (Ln ++ ringL (sF R a b) n i)).map V.int)) := by rw [upd_same, toI_append, List.map_append]
      generalize upd H5 ln (.lst ((toI Ln).map V.int ++ (toI (ringL (sF R a b) n i)).map V.int)) = H6 at sn gn ⊢
      have s06 := s05.trans sn
      have hf6 := sn _ _ hf5
      have nd' : (Ln ++ ringL (sF R a b) n i).Nodup := List.nodup_append.mpr ⟨nd, (ring_ok so hi).1.nodup, fun u hu v hv e => sh.ring so hi hst hv (e ▸ hu)⟩
      refine ⟨g, ln, n, a, b, R, _, rfl, hT.same s06, ok, hRl, h6, ha, hb, gn, sh.app (ring_shut so hi), nd', by rw [List.length_append]; omega, by exact Om.f4 ‹_›, fun t H7 ps Ls' ht s7 ht7 hps hP7 hlaid hb7 => ?_⟩
      have s07 := s06.trans s7
      have hf7 := s7 _ _ hf6
      have ntf : ∀ p ∈ ps, H p = none /\ p ≠ lf := fun p hp => by
       rcases hps p hp with z | z
       ·rw [z]
        exact ⟨s05.free hln, fun e => by rw [e, hf5] at hln; cases hln⟩
       ·exact ⟨s06.free z, fun e => by rw [e, hf6] at z; cases z⟩
      have hzl : zs.length = Ls.length := hZ.length
      have hpl : ps.length = Ls'.length := hP7.length
      have hb7' : Ls'.length <= 6 ^ 6 := Nat.le_trans hb7 (Nat.pow_le_pow_right (by decide) (by omega))
      refine ⟨lf, t, _, _, rfl, rfl, hf7, ht7, by rw [List.length_map, List.length_map]; exact small2m' (by omega), _, _, _, zs ++ ps, Ls ++ Ls', rfl, fun b' u e => ?_, by rw [upd_same, List.map_append], fun p hp => ?_, ?_, fun w hw => ?_, fun st hst' hni w ls al => ?_, ?_⟩
      ·rw [upd_ne (ne_of_none e hlf)]
       exact s07 _ _ e
      ·rcases List.mem_append.mp hp with z | z
       ·exact hzf p z
       ·exact ntf p z
      ·refine Paired.append (paired_in hZ fun p hp r e => ?_) (paired_in hP7 fun p hp r e => ?_)
       ·rw [upd_ne (hzf p hp).2]
        exact s7 _ _ (sn _ _ (s25 _ _ e))
       ·rw [upd_ne (ntf p hp).2]
        exact e
      ·rcases List.mem_append.mp hw with z | z
       ·exact hC w z
       ·exact hlaid.1 w z
      ·by_cases e : st = i
       ·subst e
        exact List.mem_append.mpr (.inr (hlaid.2 w ls al))
       ·exact List.mem_append.mpr (.inl (hA st (by omega) hni w ls al))
      ·rw [List.length_append, Nat.succ_mul]
       omega
    ·rintro σ H2 ⟨v5, v6, v7, zs, Ls, rfl, s2, hf2, hzf, hZ, hC, hA, hLb⟩
     refine ⟨_, rfl, q lf H2 zs Ls hlf s2 hf2 (fun p hp => .inr (hzf p hp).1) hZ ⟨hC, fun w ls al => ?_⟩ ?_⟩
     ·obtain ⟨x, hx⟩ : ∃ x, x < n /\ x ∉ Ln := by
       by_cases z : ∃ x, x < n /\ x ∉ Ln
       ·exact z
       ·have hall : ∀ x, x < n -> x ∈ Ln := fun x hx => Classical.byContradiction fun y => z ⟨x, hx, y⟩
        have hs := sub_len (List.nodup_range (n := n)) fun x hx => hall x (List.mem_range.mp hx)
        rw [List.length_range] at hs
        omega
      obtain ⟨c, w', ls', hc, hcD, rfl, al'⟩ := alg_head so ⟨x, hx⟩ al
      rw [<- List.append_assoc]
      exact hA c hc hcD w' ls' al'
     ·rw [h6k']
      exact Nat.le_trans hLb (by rw [Nat.mul_comm]; exact Nat.mul_le_mul (Nat.le_refl _) h6)
end
end My
namespace My
open PySem L2
noncomputable abbrev fm (n : Nat) (R : List (List Int)) (a : Nat) (w : List Nat) : List (List Int) := renI n R (alongR n R a w)
noncomputable def RenD (n : Nat) (R : List (List Int)) (D : List (List (List Int))) : Prop := ∀ G ∈ D, ∃ g, Ren n g /\ G = renI n R g
theorem RenD.snoc {n : Nat} {R G g : List (List Int)} {D : List (List (List Int))} (h : RenD n R D) (rn : Ren n g) (e : G = renI n R g) : RenD n R (D ++ [G]) := fun X hX => by
 rcases List.mem_append.mp hX with z | z
 ·exact h X z
 ·rw [List.mem_singleton.mp z]
  exact ⟨g, rn, e⟩
noncomputable def spLeastR : Sp := fun vs H Q _ => ∃ (g : Addr) (n : Nat) (R : List (List Int)), vs = [.ref g] /\ TG H g R /\ OkRows n R /\ R.length = n /\ 2 <= n /\ n <= 6 /\ ∀ t H' F D, Same H H' -> TG H' t F -> Best D F -> RenD n R D -> (∀ a b w, a < n -> b < n -> a ≠ b -> w ∈ walksF n (rgs n R a b) -> fm n R a w ∈ D) -> Q (.ref t) H'
section
variable {P : Program} {w : World} {K : PySem.W.Frag} {mg : Str -> Option Value} {base : Heap}
theorem scLeastR : FnScope ["_law_square_here", "_law_best", "_law_first", "_law_second", "_law_columns", "_law_form"] ["_law_square_here"] (defScope sLeastR) := ⟨rfl, rfl, rfl, by decide +kernel, rfl, by decide +kernel, by decide +kernel⟩
set_option maxHeartbeats 1000000 in
theorem ok_leastR {f fL fG fF : Addr} {fd dL dG dF : FuncData} (F : Fun K "_law_least_by_rings" "_law_least_by_rings" sLeastR f fd) (T : Blt mg) (DL : Dfn K mg "_law_layings" sLayings ["_law_square_here", "_law_first", "_law_second", "_law_lain"] fL dL) (DG : Dfn K mg "_law_ringed" sRinged ["_law_square_here", "_law_first", "_law_columns"] fG dG) (DF : Dfn K mg "_law_things_first" sThFirst ["_law_rows"] fF dF) : FnOk P w K mg base CX0 8 f fd ["_law_square_here"] spLeastR := by
 have GL : FnOk P w K mg base CX0 7 fL dL ["_law_square_here", "_law_first", "_law_second", "_law_lain"] (spLay 7) := ok_layings DL T 7
 have GG : FnOk P w K mg base CX0 7 fG dG ["_law_square_here", "_law_first", "_law_columns"] spRinged := (ok_ringed DG.F T DF).mono (by decide)
 refine F.ok scLeastR (fun vs H Q E h => ?_) (fun cdv A outer s H vs Q E hr h => ?_)
 ·obtain ⟨_, _, _, rfl, _⟩ := h
  rfl
 ·obtain ⟨g, n, R, rfl, hT, ok, hRl, h2, h6, q⟩ := h
  have hu : ((A.deeper (PyProof.Rows.envOfC "_law_least_by_rings" (defScope sLeastR) s.heap.objs.size f cdv))).units + 2 < cLine := by have := hr.un; omega
  refine' ⟨_, pss_cons (ps_set (i := 1) scLeastR.nd rfl (Or.inl rfl) pe_non) (pss_cons (ps_for PassesOwn.never rfl ?i (pg_name (i := 2) scLeastR.nd rfl (Or.inl rfl)) (pss_one (ps_for PassesOwn.never rfl ?i2 (pg_name (i := 3) scLeastR.nd rfl (Or.inl rfl)) (pss_one (ps_if ?c (pss_one (ps_for PassesOwn.never rfl (pi_list ?i3) (pg_name (i := 4) scLeastR.nd rfl (Or.inl rfl)) (pss_cons ?b1 (pss_one ?b2)))) pss_nil))))) (pss_one (ps_ret (pv 1)))), ?rd⟩
  case i => exact pi_range1 rfl T.range (pa_cons (pe_callB (call_lenK K) rfl T.len PySem.boot_len (pa_cons (pv 0) pa_nil)) pa_nil)
  case i2 => exact pi_range1 rfl T.range (pa_cons (pe_callB (call_lenK K) rfl T.len PySem.boot_len (pa_cons (pv 0) pa_nil)) pa_nil)
  case c => exact pt_cmpR op_ne (pv 2) (pv 3) (nomark _)
  case i3 => exact pe_call GL hr rfl DL.m DL.F.kp DL.b .nil pass0 (pa_cons (pv 0) (pa_cons (pv 2) (pa_cons (pv 3) (pa_cons (pe_lst pa_nil) pa_nil))))
  case b1 => exact ps_set (i := 5) scLeastR.nd rfl (Or.inl rfl) (pe_call GG hr rfl DG.m DG.F.kp DG.b .nil pass0 (pa_cons (pv 0) (pa_cons (pv 2) (pa_cons (pv 4) pa_nil))))
  case b2 => exact ps_if (PW.pt (pw_or (pt_cmp (pc_isN (pv 1))) (pw_or1 (pt_cmpR (op_ltD (d := 2) hu K) (pv 5) (pv 1) (nomark _))))) (pss_one (ps_set (i := 1) scLeastR.nd rfl (Or.inl rfl) (pv 5))) pss_nil
  case rd =>
   obtain ⟨gs, hg, hG⟩ := id hT
   have hgl : (gs.map V.ref).length = n := by rw [List.length_map, hG.length, hRl]
   have h1 : 1 <= n := by exact Om.f4 ‹_›
   refine ⟨_, rfl, g, _, rfl, .inr (SqT.of hg), _, rfl, by exact Om.c2, by rw [hgl]; exact Om.c1 ‹_› rfl, ?_⟩
   rw [Int.toNat_natCast, hgl]
   refine for_range (lo := 0) (n := n) (fun i σ H2 => ∃ (vb : V) (v2 v3 v4 v5 : Option V) (D : List (List (List Int))), σ = [some (.ref g), some vb, v2, v3, v4, v5] /\ Same H H2 /\ BestV H2 n vb D /\ RenD n R D /\ ∀ a b w ls, a < i -> b < n -> a ≠ b -> Alg (sF R a b) (fun x => x < n) w ls -> fm n R a w ∈ D)
    ⟨.non, none, none, none, none, [], rfl, Same.refl _, .inl ⟨rfl, rfl⟩, (fun G hG => by cases hG), fun a b w ls ha => absurd ha (Nat.not_lt_zero a)⟩ ?_ ?_
   ·rintro a σ H2 ha ⟨vb, v2, v3, v4, v5, D, rfl, s2, hB, hR, hA⟩
    rw [Int.zero_add]
    refine ⟨_, rfl, g, _, rfl, .inr (SqT.of (s2 _ _ hg)), _, rfl, by exact Om.c2, by rw [hgl]; exact Om.c1 ‹_› rfl, ?_⟩
    rw [Int.toNat_natCast, hgl]
    refine for_range (lo := 0) (n := n) (fun j σ H3 => ∃ (vb : V) (v3 v4 v5 : Option V) (D : List (List (List Int))), σ = [some (.ref g), some vb, some (.int (a : Int)), v3, v4, v5] /\ Same H H3 /\ BestV H3 n vb D /\ RenD n R D /\ (∀ a' b w ls, a' < a -> b < n -> a' ≠ b -> Alg (sF R a' b) (fun x => x < n) w ls -> fm n R a' w ∈ D) /\ ∀ b w ls, b < j -> a ≠ b -> Alg (sF R a b) (fun x => x < n) w ls -> fm n R a w ∈ D)
     ⟨vb, v3, v4, v5, D, rfl, s2, hB, hR, hA, fun b w ls hb => absurd hb (Nat.not_lt_zero b)⟩ ?_ ?_
    ·clear hB hR hA s2
     rintro b σ H3 hb ⟨vb, v3, v4, v5, D, rfl, s3, hB, hR, hA, hA2⟩
     rw [Int.zero_add]
     refine ⟨_, rfl, _, rfl, rfl, _, rfl, ?_⟩
     by_cases eab : a = b
     ·rw [show decide (V.int (a : Int) = V.int (b : Int)) = true from decide_eq_true (by rw [eab])]
      refine iteF ⟨vb, _, _, _, D, rfl, s3, hB, hR, hA, fun b' w ls hb' hne al => ?_⟩
      by_cases e : b' = b
      ·subst e
       exact absurd eab hne
      ·exact hA2 b' w ls (by omega) hne al
     rw [show decide (V.int (a : Int) = V.int (b : Int)) = false from decide_eq_false fun z => eab (by rw [V.int.injEq] at z; exact Om.e1 ‹_›)]
     refine iteT ⟨_, rfl, _, rfl, _, rfl, Nat.zero_le _, fun l0 e0 => ?_⟩
     have s0 : Same H3 (upd H3 l0 (.lst [])) := Same.new e0
     have g0 : (upd H3 l0 (.lst [])) l0 = some (.lst ((toI []).map V.int)) := upd_same
     generalize upd H3 l0 (.lst []) = H4 at s0 g0 ⊢
     refine ⟨g, l0, n, a, b, R, [], rfl, hT.same (s3.trans s0), ok, hRl, h6, ha, hb, g0, (fun x hx => by cases hx), List.nodup_nil, by show n - 0 + 1 <= 7; omega, by decide, fun ll H5 ps Ls _ s5 hps _ hP hlaid hLb => ?_⟩
     have s35 := s0.trans s5
     have hlaid2 : ∀ w ls, Alg (sF R a b) (fun x => x < n) w ls -> w ∈ Ls := fun w ls al => by
      have := hlaid.2 w ls (al.congr fun x => ⟨fun h => ⟨h, by simp⟩, fun h => h.1⟩)
      rw [List.nil_append] at this
      exact this
     have hpl : (ps.map V.ref).length = Ls.length := by rw [List.length_map, hP.length]
     refine ⟨ll, rfl, ⟨_, SqL.of hps⟩, for_list (xs := ps.map V.ref) (fun m σ H6 => ∃ (vb : V) (v4 v5 : Option V) (D : List (List (List Int))), σ = [some (.ref g), some vb, some (.int (a : Int)), some (.int (b : Int)), v4, v5] /\ Same H5 H6 /\ BestV H6 n vb D /\ RenD n R D /\ (∀ a' b w ls, a' < a -> b < n -> a' ≠ b -> Alg (sF R a' b) (fun x => x < n) w ls -> fm n R a' w ∈ D) /\ (∀ b' w ls, b' < b -> a ≠ b' -> Alg (sF R a b') (fun x => x < n) w ls -> fm n R a w ∈ D) /\ ∀ w ∈ Ls.take m, fm n R a w ∈ D) ⟨vb, v4, v5, D, rfl, Same.refl _, hB.same s35, hR, hA, hA2, fun w hw => by cases hw⟩ (fun m σ H6 _ hh => by obtain ⟨_, _, _, _, _, s6, _⟩ := hh; exact SqL.of (s6 _ _ hps)) ?_ ?_⟩
     ·clear hB hR hA hA2
      rintro m x σ H6 hx ⟨vb, v4, v5, D, rfl, s6, hB, hR, hA, hA2, hA3⟩
      rw [List.getElem?_map] at hx
      cases hpm : ps[m]? with
      | none => rw [hpm] at hx; cases hx
      | some pc =>
      rw [hpm] at hx
      cases hx
      obtain ⟨γ, hγ, hpγ⟩ := Paired.getL hP hpm
      have cg := hlaid.1 γ (List.mem_of_getElem? hγ)
      refine ⟨_, rfl, _, rfl, _, rfl, g, pc, n, a, R, γ, rfl, hT.same (s3.trans (s35.trans s6)), ok, hRl, h2, h6, ha, s6 _ _ hpγ, cg, fun tf H7 s7 hTf => ?_⟩
      have rg := along_ren ok hRl cg h1 ha
      obtain ⟨okG, hlG⟩ := renI_ok ok hRl rg
      have et : Ls.take (m + 1) = Ls.take m ++ [γ] := by rw [List.take_add_one, hγ]; rfl
      have mem3 : ∀ w ∈ Ls.take (m + 1), fm n R a w ∈ D ++ [fm n R a γ] := fun w hw => by
       rw [et] at hw
       rcases List.mem_append.mp hw with z | z
       ·exact List.mem_append.mpr (.inl (hA3 w z))
       ·rw [List.mem_singleton.mp z]
        exact List.mem_append.mpr (.inr (List.mem_singleton.mpr rfl))
      have hR' := hR.snoc (G := fm n R a γ) rg rfl
      have hA' : ∀ a' b w ls, a' < a -> b < n -> a' ≠ b -> Alg (sF R a' b) (fun x => x < n) w ls -> fm n R a' w ∈ D ++ [fm n R a γ] := fun a' b w ls x1 x2 x3 x4 => List.mem_append.mpr (.inl (hA a' b w ls x1 x2 x3 x4))
      have hA2' : ∀ b' w ls, b' < b -> a ≠ b' -> Alg (sF R a b') (fun x => x < n) w ls -> fm n R a w ∈ D ++ [fm n R a γ] := fun b' w ls x1 x2 x3 => List.mem_append.mpr (.inl (hA2 b' w ls x1 x2 x3))
      have s67 := s6.trans s7
      rcases hB.same s7 with ⟨rfl, hD⟩ | ⟨tb, Fb, rfl, hTb, okb, hlb, bst⟩
      ·refine ⟨_, rfl, _, rfl, ?_⟩
       rw [decide_eq_true rfl]
       refine iteT (iteT ⟨_, rfl, .ref tf, _, _, D ++ [fm n R a γ], rfl, s67, .inr ⟨tf, _, rfl, hTf, okG, hlG, ?_⟩, hR', hA', hA2', mem3⟩)
       rw [hD, List.nil_append]
       exact ⟨List.mem_singleton.mpr rfl, fun X hX => by rw [List.mem_singleton.mp hX]; exact ord_lexG.irr _⟩
      ·refine ⟨_, rfl, _, rfl, ?_⟩
       rw [show decide (V.ref tb = V.non) = false from decide_eq_false (by intro z; cases z)]
       refine iteF ⟨_, rfl, _, rfl, _, ltd_TG hTf hTb okG okb hlG hlb, _, rfl, ?_⟩
       cases hlx : lexG (fm n R a γ) Fb with
       | true => exact iteT ⟨_, rfl, .ref tf, _, _, D ++ [fm n R a γ], rfl, s67, .inr ⟨tf, _, rfl, hTf, okG, hlG, bst.less hlx⟩, hR', hA', hA2', mem3⟩
       | false => exact iteF ⟨.ref tb, _, _, D ++ [fm n R a γ], rfl, s67, .inr ⟨tb, Fb, rfl, hTb, okb, hlb, bst.keep hlx⟩, hR', hA', hA2', mem3⟩
     ·rintro σ H6 ⟨vb, v4, v5, D, rfl, s6, hB, hR, hA, hA2, hA3⟩
      rw [hpl, List.take_of_length_le (Nat.le_refl _)] at hA3
      refine ⟨vb, _, _, _, D, rfl, s3.trans (s35.trans s6), hB, hR, hA, fun b' w ls hb' hne al => ?_⟩
      by_cases e : b' = b
      ·subst e
       exact hA3 w (hlaid2 w ls al)
      ·exact hA2 b' w ls (by omega) hne al
    ·rintro σ H3 ⟨vb, v3, v4, v5, D, rfl, s3, hB, hR, hA, hA2⟩
     refine ⟨vb, _, _, _, _, D, rfl, s3, hB, hR, fun a' b w ls ha' hb hne al => ?_⟩
     by_cases e : a' = a
     ·subst e
      exact hA2 b w ls hb hne al
     ·exact hA a' b w ls (by omega) hb hne al
   ·rintro σ H2 ⟨vb, v2, v3, v4, v5, D, rfl, s2, hB, hR, hA⟩
    have hA' : ∀ a b w, a < n -> b < n -> a ≠ b -> w ∈ walksF n (rgs n R a b) -> fm n R a w ∈ D := fun a b w ha hb hne hw => by
     have v := rings_cov (sF_one ok hRl ha hb)
     obtain ⟨ls, al⟩ := (walks_alg v (few_rings _ _ _)).mp hw
     exact hA a b w ls ha hb hne al
    rcases hB with ⟨rfl, hD⟩ | ⟨tb, Fb, rfl, hTb, okb, hlb, bst⟩
    ·exfalso
     have v := rings_cov (sF_one ok hRl (show 0 < n by exact Om.f5 ‹_›) (show 1 < n by exact Om.f5 ‹_›))
     obtain ⟨w, hw⟩ := alg_some (s := sF R 0 1) (f := n) (C := rgs n R 0 1) (fun c hc => (v.cy c hc).pos) (few_rings _ _ _)
     have := hA' 0 1 w (by exact Om.f5 ‹_›) (by exact Om.f5 ‹_›) (by decide) hw
     rw [hD] at this
     cases this
    ·exact ⟨_, rfl, q tb H2 Fb D s2 hTb bst hR hA'⟩
end
end My
namespace My
open PySem L2
noncomputable def spLaw (K : PySem.W.Frag) : Sp := fun vs H Q _ => ∃ (a : Addr) (ns : List Int), vs = [.ref a] /\ SqL K H a (ns.map V.int) /\ ns.length <= 63 /\ ∀ H', Q (.bl true) H'
theorem best_is {n : Nat} {R F F' h : List (List Int)} {D : List (List (List Int))} (ok : OkRows n R) (hl : R.length = n) (h1 : 1 <= n) (h6 : n <= 6) (p : PlainOf n R F h) (b : Best D F') (hr : RenD n R D) (hm : F ∈ D) : F = F' := by
 obtain ⟨g, rn, e⟩ := hr F' b.1
 refine ord_lexG.tot _ _ (b.2 F hm) ?_
 rw [e]
 exact plain_least ok hl h1 h6 p rn
theorem all_ren {n : Nat} {R : List (List Int)} (ok : OkRows n R) (hl : R.length = n) (h1 : 1 <= n) : RenD n R (allF n R) := fun G hG => by
 obtain ⟨γ, hγ, h2⟩ := List.mem_flatMap.mp hG
 obtain ⟨ρ, hρ, rfl⟩ := List.mem_map.mp h2
 exact ⟨_, gL_ren ok hl h1 (cols_of hγ) (cols_of hρ), lay_ren ok hl h1 (cols_of hγ) (cols_of hρ)⟩
theorem all_has {n : Nat} {R F h : List (List Int)} (ok : OkRows n R) (hl : R.length = n) (h1 : 1 <= n) (p : PlainOf n R F h) : F ∈ allF n R := by
 obtain ⟨γ, hγ, ρ, hρ, e⟩ := plain_laid ok hl h1 p
 exact List.mem_flatMap.mpr ⟨γ, hγ, List.mem_map.mpr ⟨ρ, hρ, e⟩⟩
theorem rings_has {n : Nat} {R F h : List (List Int)} {D : List (List (List Int))} (h2 : 2 <= n) (p : PlainOf n R F h) (hA : ∀ a b w, a < n -> b < n -> a ≠ b -> w ∈ walksF n (rgs n R a b) -> fm n R a w ∈ D) : F ∈ D := by
 obtain ⟨a, b, w, hp, e⟩ := (p.form h2).1
 rw [e]
 exact hA a b w hp.ha hp.hb hp.hne hp.hw
structure Defs (P : Program) (w : World) (K : PySem.W.Frag) (mg : Str -> Option Value) (base : Heap) (fC fQ fP fL fM fN fR : Addr) (dC dQ dP dL dM dN dR : FuncData) : Prop where
 T : Blt mg
 C : Dfn K mg "_law_cell_at" sCell ["_law_script", "_law_k"] fC dC
 Q : Dfn K mg "_law_square" sSquare ["_law_script", "_law_k", "_law_n"] fQ dQ
 Pl : Dfn K mg "plain" sPlain ["square"] fP dP
 L : Dfn K mg "_law_least" sLeast ["_law_square_here"] fL dL
 M : Dfn K mg "_law_renamed" sRenL ["_law_begun", "_law_renaming_here"] fM dM
 N : Dfn K mg "_law_renaming" sRenaming ["_law_script", "_law_k", "_law_n"] fN dN
 B : Dfn K mg "_law_least_by_rings" sLeastR ["_law_square_here"] fR dR
 GQ : FnOk P w K mg base CX0 11 fQ dQ ["_law_script", "_law_k", "_law_n"] (spSquare K)
 GP : FnOk P w K mg base CX0 11 fP dP ["square"] spPlain
 GL : FnOk P w K mg base CX0 11 fL dL ["_law_square_here"] spLeast
 GN : FnOk P w K mg base CX0 11 fN dN ["_law_script", "_law_k", "_law_n"] (spRenaming K)
 GB : FnOk P w K mg base CX0 11 fR dR ["_law_square_here"] spLeastR
theorem seq_mid {u v : TS} {D : Ends} {σ : St} {H : Hp} (M : St -> Hp -> Prop) (h2 : ∀ σ H, M σ H -> v D σ H) (h1 : (∀ σ H, M σ H -> v D σ H) -> tSeq u v D σ H) : tSeq u v D σ H := h1 h2
section
variable {P : Program} {w : World} {K : PySem.W.Frag} {mg : Str -> Option Value} {base : Heap}
variable {fC fQ fP fL fM fN fR : Addr} {dC dQ dP dL dM dN dR : FuncData}
theorem scLaw : FnScope ["_law_script", "_law_n", "_law_square_here", "_law_form", "_law_k"] ["_law_script"] (defScope sLaw) := ⟨rfl, rfl, rfl, by decide +kernel, rfl, by decide +kernel, by decide +kernel⟩
set_option maxHeartbeats 1000000 in
theorem ok_law {f : Addr} {fd : FuncData} (F : Fun K "law" "law" sLaw f fd) (Z : Defs P w K mg base fC fQ fP fL fM fN fR dC dQ dP dL dM dN dR) : FnOk P w K mg base CX0 12 f fd ["_law_script"] (spLaw K) := by
 have T := Z.T
 have GC : FnOk P w K mg base CX0 11 fC dC ["_law_script", "_law_k"] (spCell K) := (ok_cell Z.C.F T).mono (by decide)
 have GQ := Z.GQ
 have GP := Z.GP
 have GL := Z.GL
 have GN := Z.GN
 have GB := Z.GB
 have GM : FnOk P w K mg base CX0 11 fM dM ["_law_begun", "_law_renaming_here"] spRenamed := (ok_renL Z.M.F T).mono (by decide)
 refine F.ok scLaw (fun vs H Q E h => ?_) (fun cdv A outer s H vs Q E hr h => ?_)
 ·obtain ⟨_, _, rfl, _⟩ := h
  rfl
 ·obtain ⟨a, ns, rfl, hS, hnl, k⟩ := h
  have hu : ((A.deeper (PyProof.Rows.envOfC "law" (defScope sLaw) s.heap.objs.size f cdv))).units + 2 < cLine := by have := hr.un; omega
  refine' ⟨_, W.h ?all, ?rd⟩
  case' all => refine' wss_cons ?s0 (wss_cons ?s1 (wss_cons ?s2 (wss_cons ?s3 (wss_cons ?s4 (wss_cons ?s5 (wss_one ?s6))))))
  case s0 => exact ⟨ps_set (i := 1) scLaw.nd rfl (Or.inl rfl) (pe_op op_add pe_int (pe_op op_mod (pe_call GC hr rfl Z.C.m Z.C.F.kp Z.C.b .nil pass0 (pa_cons (pv 0) (pa_cons pe_int pa_nil))) pe_int))⟩
  case s1 => exact ⟨ps_if (pt_cmpR op_gt (pe_op op_mod (pe_op op_fdiv (pe_call GC hr rfl Z.C.m Z.C.F.kp Z.C.b .nil pass0 (pa_cons (pv 0) (pa_cons pe_int pa_nil))) pe_int) pe_int) pe_int (nomark _)) (pss_one (ps_set (i := 1) scLaw.nd rfl (Or.inl rfl) (pe_op op_add pe_int (pe_op op_mod (pe_op op_fdiv (pe_call GC hr rfl Z.C.m Z.C.F.kp Z.C.b .nil pass0 (pa_cons (pv 0) (pa_cons pe_int pa_nil))) pe_int) pe_int)))) pss_nil⟩
  case s2 => exact ⟨ps_set (i := 2) scLaw.nd rfl (Or.inl rfl) (pe_call GQ hr rfl Z.Q.m Z.Q.F.kp Z.Q.b .nil pass0 (pa_cons (pv 0) (pa_cons pe_int (pa_cons (pv 1) pa_nil))))⟩
  case s3 => exact ⟨ps_set (i := 3) scLaw.nd rfl (Or.inl rfl) (pe_ix (ix_tupK K) (pe_call GP hr rfl Z.Pl.m Z.Pl.F.kp Z.Pl.b .nil pass0 (pa_cons (pv 2) pa_nil)) pe_int (fun _ _ => rfl))⟩
  case s4 => exact ⟨ps_if (pt_cmpR op_lt (pv 1) pe_int (nomark _)) (pss_one (ps_ret (pe_cmpR (op_eqD (d := 2) hu K) (pv 3) (pe_call GL hr rfl Z.L.m Z.L.F.kp Z.L.b .nil pass0 (pa_cons (pv 2) pa_nil)) (nomark _)))) pss_nil⟩
  case s5 =>
   refine' W.mk (ps_for PassesOwn.never rfl (pi_range1 rfl T.range (pa_cons pe_int pa_nil)) (pg_name (i := 4) scLaw.nd rfl (Or.inl rfl)) (pss_one ?b))
   case b => exact ps_if (pt_cmpR (op_ltD (d := 2) hu K) (pe_call GM hr rfl Z.M.m Z.M.F.kp Z.M.b .nil pass0 (pa_cons (pv 2) (pa_cons (pe_call GN hr rfl Z.N.m Z.N.F.kp Z.N.b .nil pass0 (pa_cons (pv 0) (pa_cons (pe_op op_add pe_int (pe_op op_mul pe_int (pv 4))) (pa_cons (pv 1) pa_nil)))) pa_nil))) (pv 3) (nomark _)) (pss_one (ps_ret pe_bl)) pss_nil
  case s6 => exact ⟨ps_ret (pe_cmpR (op_eqD (d := 2) hu K) (pv 3) (pe_call GB hr rfl Z.B.m Z.B.F.kp Z.B.b .nil pass0 (pa_cons (pv 2) pa_nil)) (nomark _))⟩
  case rd =>
   refine ⟨_, rfl, a, ns, 0, rfl, hS, fun z0 => ?_⟩
   refine ⟨_, _, rfl, rfl, (by show (0 : Int) < 6; decide), _, _, rfl, rfl, ?_⟩
   obtain ⟨n0, hz0, h10, h60⟩ : ∃ n : Nat, 1 + z0 % 6 = (n : Int) /\ 1 <= n /\ n <= 6 := ⟨(1 + z0 % 6).toNat, by omega, by omega, by omega⟩
   show gName 1 (V.int (1 + z0 % 6)) _ _ _
   rw [hz0]
   dsimp only [gName]
   refine seq_mid (fun σ H' => ∃ n : Nat, σ = [some (.ref a), some (.int (n : Int)), none, none, none] /\ H' = H /\ 1 <= n /\ n <= 6) ?_ (fun hv => ?_)
   rotate_left
   ·refine ⟨_, rfl, a, ns, 0, rfl, hS, fun z2 => ?_⟩
    refine ⟨_, _, rfl, rfl, ⟨by decide, by decide⟩, _, _, rfl, rfl, (by show (0 : Int) < 3; decide), _, _, rfl, rfl, _, rfl, ?_⟩
    refine ite2 (fun _ => ?_) (fun _ => hv _ _ ⟨n0, rfl, rfl, h10, h60⟩)
    refine ⟨_, rfl, a, ns, 0, rfl, hS, fun z3 => ?_⟩
    refine ⟨_, _, rfl, rfl, ⟨by decide, by decide⟩, _, _, rfl, rfl, (by show (0 : Int) < 4; decide), _, _, rfl, rfl, ?_⟩
    obtain ⟨n1, hz1, h11, h61⟩ : ∃ n : Nat, 1 + z3 / 18 % 4 = (n : Int) /\ 1 <= n /\ n <= 6 := ⟨(1 + z3 / 18 % 4).toNat, by omega, by omega, by omega⟩
    show gName 1 (V.int (1 + z3 / 18 % 4)) _ _ _
    rw [hz1]
    exact hv _ _ ⟨n1, rfl, rfl, h11, h61⟩
   rintro σ H' ⟨n, rfl, rfl, h1, h6⟩
   have h8 : n <= 8 := by exact Om.b1 ‹_› rfl
   refine ⟨_, rfl, _, rfl, a, ns, 2, n, rfl, hS, h1, h8, fun g H1 R s1 hT ok hRl => ?_⟩
   refine ⟨_, rfl, g, n, R, rfl, hT, ok, hRl, h1, h6, fun t p qq H2 FF hh s2 ht hF hH pl => ?_⟩
   obtain ⟨rnh, okF, hlF⟩ := pl.ok ok hRl h1
   refine ⟨t, _, _, .ref p, rfl, rfl, SqT.of ht, rfl, ?_⟩
   have hT2 := hT.same s2
   have s12 := s1.trans s2
   refine ⟨_, rfl, _, _, rfl, rfl, _, rfl, ?_⟩
   refine ite2 (fun hd => ?_) (fun hd => ?_)
   ·have h4 : n <= 4 := by have := of_decide_eq_true hd; omega
    refine ⟨_, rfl, _, rfl, g, n, R, rfl, hT2, ok, hRl, h1, h4, fun t2 H3 F' s3 hT3 bst => ?_⟩
    have e := best_is ok hRl h1 h6 pl bst (all_ren ok hRl h1) (all_has ok hRl h1 pl)
    subst e
    exact ⟨true, (eqd_TG (hF.same s3) hT3).cast (decide_eq_true rfl), k _⟩
   ·have h5 : 5 <= n := by
     have : ¬ (n : Int) < 5 := fun z => hd (decide_eq_true z)
     omega
    refine ⟨8, rfl, by decide, by decide, ?_⟩
    refine for_range (lo := 0) (n := 8) (fun i σ H3 => ∃ (v4 : Option V), σ = [some (.ref a), some (.int (n : Int)), some (.ref g), some (.ref p), v4] /\ Same H2 H3) ⟨none, rfl, Same.refl _⟩ ?_ ?_
    ·rintro i σ H3 hi ⟨v4, rfl, s3⟩
     rw [Int.zero_add]
     refine ⟨_, rfl, _, rfl, _, rfl, _, _, rfl, rfl, .inl ⟨by decide, by decide⟩, _, _, rfl, rfl, _, rfl, a, ns, 6 + 3 * i, n, by rfl, (s12.trans s3).seq hS, h8, fun w0 H4 Rn s4 _ hW rn => ?_⟩
     have s34 := s3.trans s4
     refine ⟨g, w0, n, _, Rn, rfl, (hT2.same s34).grid, ints_EG ok hRl, hW, rn, h1, h8, fun tm H5 s5 hG5 => ?_⟩
     rw [renB_int ok hRl rn] at hG5
     obtain ⟨okN, hlN⟩ := renI_ok ok hRl rn
     have s35 := s34.trans s5
     refine ⟨_, rfl, _, ltd_TG (GridT.tg hG5) (hF.same s35) okN okF hlN hlF, _, rfl, ?_⟩
     rw [plain_least ok hRl h1 h6 pl rn]
     exact iteF ⟨_, rfl, s35⟩
    ·rintro σ H3 ⟨v4, rfl, s3⟩
     refine ⟨_, rfl, _, rfl, g, n, R, rfl, hT2.same s3, ok, hRl, by omega, h6, fun t2 H4 F' D s4 hT4 bst hR hA => ?_⟩
     have e := best_is ok hRl h1 h6 pl bst hR (rings_has (by omega) pl hA)
     subst e
     exact ⟨true, (eqd_TG (hF.same (s3.trans s4)) hT4).cast (decide_eq_true rfl), k _⟩
end
end My
namespace My
open PySem L2
theorem bnd1 {K : PySem.W.Frag} {x qual : Str} {st : Stmt} {f : Addr} {fd : FuncData} {ps : List Str} (hl : ps.length = 1) (F : Fun K x qual st f fd) (h : ∀ (kV doc pm : Value) (an : Option Addr) (cdv ct : Value) (a0 : Value), bindArgs (PySem.W.fnOf x qual (defArgs st) (defBody st) (defScope st) .none kV doc pm an cdv ct) ⟨[a0], []⟩ = pure (ps.zip [a0])) : Binds K fd ps [] :=
 F.binds fun kV doc pm an cdv ct us hu => match us, hu.trans hl with | [a0], _ => h kV doc pm an cdv ct a0
theorem bnd2 {K : PySem.W.Frag} {x qual : Str} {st : Stmt} {f : Addr} {fd : FuncData} {ps : List Str} (hl : ps.length = 2) (F : Fun K x qual st f fd) (h : ∀ (kV doc pm : Value) (an : Option Addr) (cdv ct : Value) (a0 a1 : Value), bindArgs (PySem.W.fnOf x qual (defArgs st) (defBody st) (defScope st) .none kV doc pm an cdv ct) ⟨[a0, a1], []⟩ = pure (ps.zip [a0, a1])) : Binds K fd ps [] :=
 F.binds fun kV doc pm an cdv ct us hu => match us, hu.trans hl with | [a0, a1], _ => h kV doc pm an cdv ct a0 a1
theorem bnd3 {K : PySem.W.Frag} {x qual : Str} {st : Stmt} {f : Addr} {fd : FuncData} {ps : List Str} (hl : ps.length = 3) (F : Fun K x qual st f fd) (h : ∀ (kV doc pm : Value) (an : Option Addr) (cdv ct : Value) (a0 a1 a2 : Value), bindArgs (PySem.W.fnOf x qual (defArgs st) (defBody st) (defScope st) .none kV doc pm an cdv ct) ⟨[a0, a1, a2], []⟩ = pure (ps.zip [a0, a1, a2])) : Binds K fd ps [] :=
 F.binds fun kV doc pm an cdv ct us hu => match us, hu.trans hl with | [a0, a1, a2], _ => h kV doc pm an cdv ct a0 a1 a2
theorem bnd4 {K : PySem.W.Frag} {x qual : Str} {st : Stmt} {f : Addr} {fd : FuncData} {ps : List Str} (hl : ps.length = 4) (F : Fun K x qual st f fd) (h : ∀ (kV doc pm : Value) (an : Option Addr) (cdv ct : Value) (a0 a1 a2 a3 : Value), bindArgs (PySem.W.fnOf x qual (defArgs st) (defBody st) (defScope st) .none kV doc pm an cdv ct) ⟨[a0, a1, a2, a3], []⟩ = pure (ps.zip [a0, a1, a2, a3])) : Binds K fd ps [] :=
 F.binds fun kV doc pm an cdv ct us hu => match us, hu.trans hl with | [a0, a1, a2, a3], _ => h kV doc pm an cdv ct a0 a1 a2 a3
set_option maxHeartbeats 2000000 in
theorem all_mk {l : PySem.W.OpenLaw} {w : World} {K : PySem.W.Frag} {h : Heap} {mg : Str -> Option Value} {fa fS fTU fU fY fM fRF fRG fLE fWA fTW fAL fHO fLD fPL fC fN fT fR fL fB fA fV fX fG fQ fTN fTF fLT fLY fRI fLR fLaw : Addr}  (X : K.In h) (G : h.Ns mainGlobals mg) (hfa : mg "law" = some (.ref fa))
  {odS anS odTU anTU odU anU odY anY odM anM odRF anRF odRG anRG odLE anLE odWA anWA odTW anTW odAL anAL odHO anHO odLD anLD odPL anPL odC anC odN anN odT anT odR anR odL anL odB anB odA anA odV anV odX anX odG anG odQ anQ odTN anTN odTF anTF odLT anLT odLY anLY odRI anRI odLR anLR odLaw anLaw : Option Addr} {slS slTU slU slY slM slRF slRG slLE slWA slTW slAL slHO slLD slPL slC slN slT slR slL slB slA slV slX slG slQ slTN slTF slLT slLY slRI slLR slLaw : Array (Option Value)}
  {ocS kVS dcS pmS cdS ctS ocTU kVTU dcTU pmTU cdTU ctTU ocU kVU dcU pmU cdU ctU ocY kVY dcY pmY cdY ctY ocM kVM dcM pmM cdM ctM ocRF kVRF dcRF pmRF cdRF ctRF ocRG kVRG dcRG pmRG cdRG ctRG ocLE kVLE dcLE pmLE cdLE ctLE ocWA kVWA dcWA pmWA cdWA ctWA ocTW kVTW dcTW pmTW cdTW ctTW ocAL kVAL dcAL pmAL cdAL ctAL ocHO kVHO dcHO pmHO cdHO ctHO ocLD kVLD dcLD pmLD cdLD ctLD ocPL kVPL dcPL pmPL cdPL ctPL ocC kVC dcC pmC cdC ctC ocN kVN dcN pmN cdN ctN ocT kVT dcT pmT cdT ctT ocR kVR dcR pmR cdR ctR ocL kVL dcL pmL cdL ctL ocB kVB dcB pmB cdB ctB ocA kVA dcA pmA cdA ctA ocV kVV dcV pmV cdV ctV ocX kVX dcX pmX cdX ctX ocG kVG dcG pmG cdG ctG ocQ kVQ dcQ pmQ cdQ ctQ ocTN kVTN dcTN pmTN cdTN ctTN ocTF kVTF dcTF pmTF cdTF ctTF ocLT kVLT dcLT pmLT cdLT ctLT ocLY kVLY dcLY pmLY cdLY ctLY ocRI kVRI dcRI pmRI cdRI ctRI ocLR kVLR dcLR pmLR cdLR ctLR ocLaw kVLaw dcLaw pmLaw cdLaw ctLaw : Value}
  (aS : PySem.W.nsIn K mainGlobals "still" = some (some (.ref fS))) (lS : K.lookup fS = some ⟨ocS, odS, .func (PySem.W.fnOf "still" "still" (defArgs sStill) (defBody sStill) (defScope sStill) .none kVS dcS pmS anS cdS ctS), slS⟩) (cS : PySem.W.codeIn K cdS "still" = true) (kS : PySem.W.keepIn K (.ref fS) = true)
  (aTU : PySem.W.nsIn K mainGlobals "turn_undone" = some (some (.ref fTU))) (lTU : K.lookup fTU = some ⟨ocTU, odTU, .func (PySem.W.fnOf "turn_undone" "turn_undone" (defArgs sTurnUndone) (defBody sTurnUndone) (defScope sTurnUndone) .none kVTU dcTU pmTU anTU cdTU ctTU), slTU⟩) (cTU : PySem.W.codeIn K cdTU "turn_undone" = true) (kTU : PySem.W.keepIn K (.ref fTU) = true)
  (aU : PySem.W.nsIn K mainGlobals "undone" = some (some (.ref fU))) (lU : K.lookup fU = some ⟨ocU, odU, .func (PySem.W.fnOf "undone" "undone" (defArgs sUndone) (defBody sUndone) (defScope sUndone) .none kVU dcU pmU anU cdU ctU), slU⟩) (cU : PySem.W.codeIn K cdU "undone" = true) (kU : PySem.W.keepIn K (.ref fU) = true)
  (aY : PySem.W.nsIn K mainGlobals "entry_renamed" = some (some (.ref fY))) (lY : K.lookup fY = some ⟨ocY, odY, .func (PySem.W.fnOf "entry_renamed" "entry_renamed" (defArgs sEntry) (defBody sEntry) (defScope sEntry) .none kVY dcY pmY anY cdY ctY), slY⟩) (cY : PySem.W.codeIn K cdY "entry_renamed" = true) (kY : PySem.W.keepIn K (.ref fY) = true)
  (aM : PySem.W.nsIn K mainGlobals "renamed" = some (some (.ref fM))) (lM : K.lookup fM = some ⟨ocM, odM, .func (PySem.W.fnOf "renamed" "renamed" (defArgs sRenamed) (defBody sRenamed) (defScope sRenamed) .none kVM dcM pmM anM cdM ctM), slM⟩) (cM : PySem.W.codeIn K cdM "renamed" = true) (kM : PySem.W.keepIn K (.ref fM) = true)
  (aRF : PySem.W.nsIn K mainGlobals "ring_from" = some (some (.ref fRF))) (lRF : K.lookup fRF = some ⟨ocRF, odRF, .func (PySem.W.fnOf "ring_from" "ring_from" (defArgs sRingFrom) (defBody sRingFrom) (defScope sRingFrom) .none kVRF dcRF pmRF anRF cdRF ctRF), slRF⟩) (cRF : PySem.W.codeIn K cdRF "ring_from" = true) (kRF : PySem.W.keepIn K (.ref fRF) = true)
  (aRG : PySem.W.nsIn K mainGlobals "rings" = some (some (.ref fRG))) (lRG : K.lookup fRG = some ⟨ocRG, odRG, .func (PySem.W.fnOf "rings" "rings" (defArgs sRingsP) (defBody sRingsP) (defScope sRingsP) .none kVRG dcRG pmRG anRG cdRG ctRG), slRG⟩) (cRG : PySem.W.codeIn K cdRG "rings" = true) (kRG : PySem.W.keepIn K (.ref fRG) = true)
  (aLE : PySem.W.nsIn K mainGlobals "lengths_of" = some (some (.ref fLE))) (lLE : K.lookup fLE = some ⟨ocLE, odLE, .func (PySem.W.fnOf "lengths_of" "lengths_of" (defArgs sLengths) (defBody sLengths) (defScope sLengths) .none kVLE dcLE pmLE anLE cdLE ctLE), slLE⟩) (cLE : PySem.W.codeIn K cdLE "lengths_of" = true) (kLE : PySem.W.keepIn K (.ref fLE) = true)
  (aWA : PySem.W.nsIn K mainGlobals "walks" = some (some (.ref fWA))) (lWA : K.lookup fWA = some ⟨ocWA, odWA, .func (PySem.W.fnOf "walks" "walks" (defArgs sWalks) (defBody sWalks) (defScope sWalks) .none kVWA dcWA pmWA anWA cdWA ctWA), slWA⟩) (cWA : PySem.W.codeIn K cdWA "walks" = true) (kWA : PySem.W.keepIn K (.ref fWA) = true)
  (aTW : PySem.W.nsIn K mainGlobals "two_rows" = some (some (.ref fTW))) (lTW : K.lookup fTW = some ⟨ocTW, odTW, .func (PySem.W.fnOf "two_rows" "two_rows" (defArgs sTwoRows) (defBody sTwoRows) (defScope sTwoRows) .none kVTW dcTW pmTW anTW cdTW ctTW), slTW⟩) (cTW : PySem.W.codeIn K cdTW "two_rows" = true) (kTW : PySem.W.keepIn K (.ref fTW) = true)
  (aAL : PySem.W.nsIn K mainGlobals "renaming_along" = some (some (.ref fAL))) (lAL : K.lookup fAL = some ⟨ocAL, odAL, .func (PySem.W.fnOf "renaming_along" "renaming_along" (defArgs sAlongP) (defBody sAlongP) (defScope sAlongP) .none kVAL dcAL pmAL anAL cdAL ctAL), slAL⟩) (cAL : PySem.W.codeIn K cdAL "renaming_along" = true) (kAL : PySem.W.keepIn K (.ref fAL) = true)
  (aHO : PySem.W.nsIn K mainGlobals "hopeful" = some (some (.ref fHO))) (lHO : K.lookup fHO = some ⟨ocHO, odHO, .func (PySem.W.fnOf "hopeful" "hopeful" (defArgs sHopeful) (defBody sHopeful) (defScope sHopeful) .none kVHO dcHO pmHO anHO cdHO ctHO), slHO⟩) (cHO : PySem.W.codeIn K cdHO "hopeful" = true) (kHO : PySem.W.keepIn K (.ref fHO) = true)
  (aLD : PySem.W.nsIn K mainGlobals "leading" = some (some (.ref fLD))) (lLD : K.lookup fLD = some ⟨ocLD, odLD, .func (PySem.W.fnOf "leading" "leading" (defArgs sLeading) (defBody sLeading) (defScope sLeading) .none kVLD dcLD pmLD anLD cdLD ctLD), slLD⟩) (cLD : PySem.W.codeIn K cdLD "leading" = true) (kLD : PySem.W.keepIn K (.ref fLD) = true)
  (aPL : PySem.W.nsIn K mainGlobals "plain" = some (some (.ref fPL))) (lPL : K.lookup fPL = some ⟨ocPL, odPL, .func (PySem.W.fnOf "plain" "plain" (defArgs sPlain) (defBody sPlain) (defScope sPlain) .none kVPL dcPL pmPL anPL cdPL ctPL), slPL⟩) (cPL : PySem.W.codeIn K cdPL "plain" = true) (kPL : PySem.W.keepIn K (.ref fPL) = true)
  (aC : PySem.W.nsIn K mainGlobals "_law_cell_at" = some (some (.ref fC))) (lC : K.lookup fC = some ⟨ocC, odC, .func (PySem.W.fnOf "_law_cell_at" "_law_cell_at" (defArgs sCell) (defBody sCell) (defScope sCell) .none kVC dcC pmC anC cdC ctC), slC⟩) (cC : PySem.W.codeIn K cdC "_law_cell_at" = true) (kC : PySem.W.keepIn K (.ref fC) = true)
  (aN : PySem.W.nsIn K mainGlobals "_law_number" = some (some (.ref fN))) (lN : K.lookup fN = some ⟨ocN, odN, .func (PySem.W.fnOf "_law_number" "_law_number" (defArgs sNumber) (defBody sNumber) (defScope sNumber) .none kVN dcN pmN anN cdN ctN), slN⟩) (cN : PySem.W.codeIn K cdN "_law_number" = true) (kN : PySem.W.keepIn K (.ref fN) = true)
  (aT : PySem.W.nsIn K mainGlobals "_law_turn" = some (some (.ref fT))) (lT : K.lookup fT = some ⟨ocT, odT, .func (PySem.W.fnOf "_law_turn" "_law_turn" (defArgs sTurn) (defBody sTurn) (defScope sTurn) .none kVT dcT pmT anT cdT ctT), slT⟩) (cT : PySem.W.codeIn K cdT "_law_turn" = true) (kT : PySem.W.keepIn K (.ref fT) = true)
  (aR : PySem.W.nsIn K mainGlobals "_law_renaming" = some (some (.ref fR))) (lR : K.lookup fR = some ⟨ocR, odR, .func (PySem.W.fnOf "_law_renaming" "_law_renaming" (defArgs sRenaming) (defBody sRenaming) (defScope sRenaming) .none kVR dcR pmR anR cdR ctR), slR⟩) (cR : PySem.W.codeIn K cdR "_law_renaming" = true) (kR : PySem.W.keepIn K (.ref fR) = true)
  (aL : PySem.W.nsIn K mainGlobals "_law_renamed" = some (some (.ref fL))) (lL : K.lookup fL = some ⟨ocL, odL, .func (PySem.W.fnOf "_law_renamed" "_law_renamed" (defArgs sRenL) (defBody sRenL) (defScope sRenL) .none kVL dcL pmL anL cdL ctL), slL⟩) (cL : PySem.W.codeIn K cdL "_law_renamed" = true) (kL : PySem.W.keepIn K (.ref fL) = true)
  (aB : PySem.W.nsIn K mainGlobals "_law_base" = some (some (.ref fB))) (lB : K.lookup fB = some ⟨ocB, odB, .func (PySem.W.fnOf "_law_base" "_law_base" (defArgs sBase) (defBody sBase) (defScope sBase) .none kVB dcB pmB anB cdB ctB), slB⟩) (cB : PySem.W.codeIn K cdB "_law_base" = true) (kB : PySem.W.keepIn K (.ref fB) = true)
  (aA : PySem.W.nsIn K mainGlobals "_law_along" = some (some (.ref fA))) (lA : K.lookup fA = some ⟨ocA, odA, .func (PySem.W.fnOf "_law_along" "_law_along" (defArgs sAlong) (defBody sAlong) (defScope sAlong) .none kVA dcA pmA anA cdA ctA), slA⟩) (cA : PySem.W.codeIn K cdA "_law_along" = true) (kA : PySem.W.keepIn K (.ref fA) = true)
  (aV : PySem.W.nsIn K mainGlobals "_law_row" = some (some (.ref fV))) (lV : K.lookup fV = some ⟨ocV, odV, .func (PySem.W.fnOf "_law_row" "_law_row" (defArgs sRow) (defBody sRow) (defScope sRow) .none kVV dcV pmV anV cdV ctV), slV⟩) (cV : PySem.W.codeIn K cdV "_law_row" = true) (kV : PySem.W.keepIn K (.ref fV) = true)
  (aX : PySem.W.nsIn K mainGlobals "_law_by_rows" = some (some (.ref fX))) (lX : K.lookup fX = some ⟨ocX, odX, .func (PySem.W.fnOf "_law_by_rows" "_law_by_rows" (defArgs sByRows) (defBody sByRows) (defScope sByRows) .none kVX dcX pmX anX cdX ctX), slX⟩) (cX : PySem.W.codeIn K cdX "_law_by_rows" = true) (kX : PySem.W.keepIn K (.ref fX) = true)
  (aG : PySem.W.nsIn K mainGlobals "_law_by_rings" = some (some (.ref fG))) (lG : K.lookup fG = some ⟨ocG, odG, .func (PySem.W.fnOf "_law_by_rings" "_law_by_rings" (defArgs sByRings) (defBody sByRings) (defScope sByRings) .none kVG dcG pmG anG cdG ctG), slG⟩) (cG : PySem.W.codeIn K cdG "_law_by_rings" = true) (kG : PySem.W.keepIn K (.ref fG) = true)
  (aQ : PySem.W.nsIn K mainGlobals "_law_square" = some (some (.ref fQ))) (lQ : K.lookup fQ = some ⟨ocQ, odQ, .func (PySem.W.fnOf "_law_square" "_law_square" (defArgs sSquare) (defBody sSquare) (defScope sSquare) .none kVQ dcQ pmQ anQ cdQ ctQ), slQ⟩) (cQ : PySem.W.codeIn K cdQ "_law_square" = true) (kQ : PySem.W.keepIn K (.ref fQ) = true)
  (aTN : PySem.W.nsIn K mainGlobals "_law_turns" = some (some (.ref fTN))) (lTN : K.lookup fTN = some ⟨ocTN, odTN, .func (PySem.W.fnOf "_law_turns" "_law_turns" (defArgs sTurns) (defBody sTurns) (defScope sTurns) .none kVTN dcTN pmTN anTN cdTN ctTN), slTN⟩) (cTN : PySem.W.codeIn K cdTN "_law_turns" = true) (kTN : PySem.W.keepIn K (.ref fTN) = true)
  (aTF : PySem.W.nsIn K mainGlobals "_law_things_first" = some (some (.ref fTF))) (lTF : K.lookup fTF = some ⟨ocTF, odTF, .func (PySem.W.fnOf "_law_things_first" "_law_things_first" (defArgs sThFirst) (defBody sThFirst) (defScope sThFirst) .none kVTF dcTF pmTF anTF cdTF ctTF), slTF⟩) (cTF : PySem.W.codeIn K cdTF "_law_things_first" = true) (kTF : PySem.W.keepIn K (.ref fTF) = true)
  (aLT : PySem.W.nsIn K mainGlobals "_law_least" = some (some (.ref fLT))) (lLT : K.lookup fLT = some ⟨ocLT, odLT, .func (PySem.W.fnOf "_law_least" "_law_least" (defArgs sLeast) (defBody sLeast) (defScope sLeast) .none kVLT dcLT pmLT anLT cdLT ctLT), slLT⟩) (cLT : PySem.W.codeIn K cdLT "_law_least" = true) (kLT : PySem.W.keepIn K (.ref fLT) = true)
  (aLY : PySem.W.nsIn K mainGlobals "_law_layings" = some (some (.ref fLY))) (lLY : K.lookup fLY = some ⟨ocLY, odLY, .func (PySem.W.fnOf "_law_layings" "_law_layings" (defArgs sLayings) (defBody sLayings) (defScope sLayings) .none kVLY dcLY pmLY anLY cdLY ctLY), slLY⟩) (cLY : PySem.W.codeIn K cdLY "_law_layings" = true) (kLY : PySem.W.keepIn K (.ref fLY) = true)
  (aRI : PySem.W.nsIn K mainGlobals "_law_ringed" = some (some (.ref fRI))) (lRI : K.lookup fRI = some ⟨ocRI, odRI, .func (PySem.W.fnOf "_law_ringed" "_law_ringed" (defArgs sRinged) (defBody sRinged) (defScope sRinged) .none kVRI dcRI pmRI anRI cdRI ctRI), slRI⟩) (cRI : PySem.W.codeIn K cdRI "_law_ringed" = true) (kRI : PySem.W.keepIn K (.ref fRI) = true)
  (aLR : PySem.W.nsIn K mainGlobals "_law_least_by_rings" = some (some (.ref fLR))) (lLR : K.lookup fLR = some ⟨ocLR, odLR, .func (PySem.W.fnOf "_law_least_by_rings" "_law_least_by_rings" (defArgs sLeastR) (defBody sLeastR) (defScope sLeastR) .none kVLR dcLR pmLR anLR cdLR ctLR), slLR⟩) (cLR : PySem.W.codeIn K cdLR "_law_least_by_rings" = true) (kLR : PySem.W.keepIn K (.ref fLR) = true)
  (aLaw : PySem.W.nsIn K mainGlobals "law" = some (some (.ref fLaw))) (lLaw : K.lookup fLaw = some ⟨ocLaw, odLaw, .func (PySem.W.fnOf "law" "law" (defArgs sLaw) (defBody sLaw) (defScope sLaw) .none kVLaw dcLaw pmLaw anLaw cdLaw ctLaw), slLaw⟩) (cLaw : PySem.W.codeIn K cdLaw "law" = true) (kLaw : PySem.W.keepIn K (.ref fLaw) = true)
  (z0 : PySem.W.nsIn K mainGlobals "len" = some none)
  (z1 : PySem.W.nsIn K mainGlobals "range" = some none)
  (z2 : PySem.W.nsIn K mainGlobals "tuple" = some none)
  (z3 : PySem.W.nsIn K mainGlobals "list" = some none)
  (z4 : PySem.W.nsIn K mainGlobals "isinstance" = some none)
  (z5 : PySem.W.nsIn K mainGlobals "int" = some none)
  (z6 : PySem.W.nsIn K mainGlobals "bool" = some none)
  (z7 : PySem.W.nsIn K mainGlobals "zip" = some none)
  (z8 : PySem.W.nsIn K mainGlobals "max" = some none)
  (z9 : PySem.W.nsIn K mainGlobals "sorted" = some none)
  (z10 : PySem.W.nsIn K mainGlobals "enumerate" = some none)
  (z11 : PySem.W.nsIn K mainGlobals "min" = some none) :
  ∃ fd : FuncData, (∀ (s : Shared) (v : Value), BindsTo s fd ⟨[v], []⟩ [("_law_script", v)]) /\ ∀ base : Heap, K.In base -> base.Ns mainGlobals mg -> FnOk l.prog w K mg base CX0 12 fa fd ["_law_script"] (spLaw K) := by
 have e := hfa.symm.trans (PySem.W.mg_of X G aLaw)
 cases e
 have T : Blt mg := ⟨PySem.W.mg_none_of X G z0, PySem.W.mg_none_of X G z1, PySem.W.mg_none_of X G z2, PySem.W.mg_none_of X G z3, PySem.W.mg_none_of X G z4, PySem.W.mg_none_of X G z5, PySem.W.mg_none_of X G z6, PySem.W.mg_none_of X G z7, PySem.W.mg_none_of X G z8, PySem.W.mg_none_of X G z9, PySem.W.mg_none_of X G z10, PySem.W.mg_none_of X G z11⟩
 have FS := fun_mk (st := sStill) lS cS kS
 have FTU := fun_mk (st := sTurnUndone) lTU cTU kTU
 have FU := fun_mk (st := sUndone) lU cU kU
 have FY := fun_mk (st := sEntry) lY cY kY
 have FM := fun_mk (st := sRenamed) lM cM kM
 have FRF := fun_mk (st := sRingFrom) lRF cRF kRF
 have FRG := fun_mk (st := sRingsP) lRG cRG kRG
 have FLE := fun_mk (st := sLengths) lLE cLE kLE
 have FWA := fun_mk (st := sWalks) lWA cWA kWA
 have FTW := fun_mk (st := sTwoRows) lTW cTW kTW
 have FAL := fun_mk (st := sAlongP) lAL cAL kAL
 have FHO := fun_mk (st := sHopeful) lHO cHO kHO
 have FLD := fun_mk (st := sLeading) lLD cLD kLD
 have FPL := fun_mk (st := sPlain) lPL cPL kPL
 have FC := fun_mk (st := sCell) lC cC kC
 have FN := fun_mk (st := sNumber) lN cN kN
 have FT := fun_mk (st := sTurn) lT cT kT
 have FR := fun_mk (st := sRenaming) lR cR kR
 have FL := fun_mk (st := sRenL) lL cL kL
 have FB := fun_mk (st := sBase) lB cB kB
 have FA := fun_mk (st := sAlong) lA cA kA
 have FV := fun_mk (st := sRow) lV cV kV
 have FX := fun_mk (st := sByRows) lX cX kX
 have FG := fun_mk (st := sByRings) lG cG kG
 have FQ := fun_mk (st := sSquare) lQ cQ kQ
 have FTN := fun_mk (st := sTurns) lTN cTN kTN
 have FTF := fun_mk (st := sThFirst) lTF cTF kTF
 have FLT := fun_mk (st := sLeast) lLT cLT kLT
 have FLY := fun_mk (st := sLayings) lLY cLY kLY
 have FRI := fun_mk (st := sRinged) lRI cRI kRI
 have FLR := fun_mk (st := sLeastR) lLR cLR kLR
 have FLaw := fun_mk (st := sLaw) lLaw cLaw kLaw
 have DS : Dfn K mg "still" sStill ["n"] fS _ := ⟨FS, bnd1 (ps := ["n"]) rfl FS fun _ _ _ _ _ _ _ => rfl, PySem.W.mg_of X G aS⟩
 have DTU : Dfn K mg "turn_undone" sTurnUndone ["turn"] fTU _ := ⟨FTU, bnd1 (ps := ["turn"]) rfl FTU fun _ _ _ _ _ _ _ => rfl, PySem.W.mg_of X G aTU⟩
 have DU : Dfn K mg "undone" sUndone ["renaming"] fU _ := ⟨FU, bnd1 (ps := ["renaming"]) rfl FU fun _ _ _ _ _ _ _ => rfl, PySem.W.mg_of X G aU⟩
 have DY : Dfn K mg "entry_renamed" sEntry ["entry", "things"] fY _ := ⟨FY, bnd2 (ps := ["entry", "things"]) rfl FY fun _ _ _ _ _ _ _ _ => rfl, PySem.W.mg_of X G aY⟩
 have DM : Dfn K mg "renamed" sRenamed ["begun", "renaming"] fM _ := ⟨FM, bnd2 (ps := ["begun", "renaming"]) rfl FM fun _ _ _ _ _ _ _ _ => rfl, PySem.W.mg_of X G aM⟩
 have DRF : Dfn K mg "ring_from" sRingFrom ["square", "one", "other", "column"] fRF _ := ⟨FRF, bnd4 (ps := ["square", "one", "other", "column"]) rfl FRF fun _ _ _ _ _ _ _ _ _ _ => rfl, PySem.W.mg_of X G aRF⟩
 have DRG : Dfn K mg "rings" sRingsP ["square", "one", "other"] fRG _ := ⟨FRG, bnd3 (ps := ["square", "one", "other"]) rfl FRG fun _ _ _ _ _ _ _ _ _ => rfl, PySem.W.mg_of X G aRG⟩
 have DLE : Dfn K mg "lengths_of" sLengths ["circles"] fLE _ := ⟨FLE, bnd1 (ps := ["circles"]) rfl FLE fun _ _ _ _ _ _ _ => rfl, PySem.W.mg_of X G aLE⟩
 have DWA : Dfn K mg "walks" sWalks ["circles"] fWA _ := ⟨FWA, bnd1 (ps := ["circles"]) rfl FWA fun _ _ _ _ _ _ _ => rfl, PySem.W.mg_of X G aWA⟩
 have DTW : Dfn K mg "two_rows" sTwoRows ["size"] fTW _ := ⟨FTW, bnd1 (ps := ["size"]) rfl FTW fun _ _ _ _ _ _ _ => rfl, PySem.W.mg_of X G aTW⟩
 have DAL : Dfn K mg "renaming_along" sAlongP ["square", "top", "walk"] fAL _ := ⟨FAL, bnd3 (ps := ["square", "top", "walk"]) rfl FAL fun _ _ _ _ _ _ _ _ _ => rfl, PySem.W.mg_of X G aAL⟩
 have DHO : Dfn K mg "hopeful" sHopeful ["square"] fHO _ := ⟨FHO, bnd1 (ps := ["square"]) rfl FHO fun _ _ _ _ _ _ _ => rfl, PySem.W.mg_of X G aHO⟩
 have DLD : Dfn K mg "leading" sLeading ["square"] fLD _ := ⟨FLD, bnd1 (ps := ["square"]) rfl FLD fun _ _ _ _ _ _ _ => rfl, PySem.W.mg_of X G aLD⟩
 have DPL : Dfn K mg "plain" sPlain ["square"] fPL _ := ⟨FPL, bnd1 (ps := ["square"]) rfl FPL fun _ _ _ _ _ _ _ => rfl, PySem.W.mg_of X G aPL⟩
 have DC : Dfn K mg "_law_cell_at" sCell ["_law_script", "_law_k"] fC _ := ⟨FC, bnd2 (ps := ["_law_script", "_law_k"]) rfl FC fun _ _ _ _ _ _ _ _ => rfl, PySem.W.mg_of X G aC⟩
 have DN : Dfn K mg "_law_number" sNumber ["_law_script", "_law_k"] fN _ := ⟨FN, bnd2 (ps := ["_law_script", "_law_k"]) rfl FN fun _ _ _ _ _ _ _ _ => rfl, PySem.W.mg_of X G aN⟩
 have DT : Dfn K mg "_law_turn" sTurn ["_law_n", "_law_number_here"] fT _ := ⟨FT, bnd2 (ps := ["_law_n", "_law_number_here"]) rfl FT fun _ _ _ _ _ _ _ _ => rfl, PySem.W.mg_of X G aT⟩
 have DR : Dfn K mg "_law_renaming" sRenaming ["_law_script", "_law_k", "_law_n"] fR _ := ⟨FR, bnd3 (ps := ["_law_script", "_law_k", "_law_n"]) rfl FR fun _ _ _ _ _ _ _ _ _ => rfl, PySem.W.mg_of X G aR⟩
 have DL : Dfn K mg "_law_renamed" sRenL ["_law_begun", "_law_renaming_here"] fL _ := ⟨FL, bnd2 (ps := ["_law_begun", "_law_renaming_here"]) rfl FL fun _ _ _ _ _ _ _ _ => rfl, PySem.W.mg_of X G aL⟩
 have DB : Dfn K mg "_law_base" sBase ["_law_n", "_law_number_here"] fB _ := ⟨FB, bnd2 (ps := ["_law_n", "_law_number_here"]) rfl FB fun _ _ _ _ _ _ _ _ => rfl, PySem.W.mg_of X G aB⟩
 have DA : Dfn K mg "_law_along" sAlong ["_law_rows", "_law_one", "_law_other", "_law_column"] fA _ := ⟨FA, bnd4 (ps := ["_law_rows", "_law_one", "_law_other", "_law_column"]) rfl FA fun _ _ _ _ _ _ _ _ _ _ => rfl, PySem.W.mg_of X G aA⟩
 have DV : Dfn K mg "_law_row" sRow ["_law_rows", "_law_made", "_law_digits"] fV _ := ⟨FV, bnd3 (ps := ["_law_rows", "_law_made", "_law_digits"]) rfl FV fun _ _ _ _ _ _ _ _ _ => rfl, PySem.W.mg_of X G aV⟩
 have DX : Dfn K mg "_law_by_rows" sByRows ["_law_n", "_law_number_here"] fX _ := ⟨FX, bnd2 (ps := ["_law_n", "_law_number_here"]) rfl FX fun _ _ _ _ _ _ _ _ => rfl, PySem.W.mg_of X G aX⟩
 have DG : Dfn K mg "_law_by_rings" sByRings ["_law_n", "_law_number_here"] fG _ := ⟨FG, bnd2 (ps := ["_law_n", "_law_number_here"]) rfl FG fun _ _ _ _ _ _ _ _ => rfl, PySem.W.mg_of X G aG⟩
 have DQ : Dfn K mg "_law_square" sSquare ["_law_script", "_law_k", "_law_n"] fQ _ := ⟨FQ, bnd3 (ps := ["_law_script", "_law_k", "_law_n"]) rfl FQ fun _ _ _ _ _ _ _ _ _ => rfl, PySem.W.mg_of X G aQ⟩
 have DTN : Dfn K mg "_law_turns" sTurns ["_law_n"] fTN _ := ⟨FTN, bnd1 (ps := ["_law_n"]) rfl FTN fun _ _ _ _ _ _ _ => rfl, PySem.W.mg_of X G aTN⟩
 have DTF : Dfn K mg "_law_things_first" sThFirst ["_law_rows"] fTF _ := ⟨FTF, bnd1 (ps := ["_law_rows"]) rfl FTF fun _ _ _ _ _ _ _ => rfl, PySem.W.mg_of X G aTF⟩
 have DLT : Dfn K mg "_law_least" sLeast ["_law_square_here"] fLT _ := ⟨FLT, bnd1 (ps := ["_law_square_here"]) rfl FLT fun _ _ _ _ _ _ _ => rfl, PySem.W.mg_of X G aLT⟩
 have DLY : Dfn K mg "_law_layings" sLayings ["_law_square_here", "_law_first", "_law_second", "_law_lain"] fLY _ := ⟨FLY, bnd4 (ps := ["_law_square_here", "_law_first", "_law_second", "_law_lain"]) rfl FLY fun _ _ _ _ _ _ _ _ _ _ => rfl, PySem.W.mg_of X G aLY⟩
 have DRI : Dfn K mg "_law_ringed" sRinged ["_law_square_here", "_law_first", "_law_columns"] fRI _ := ⟨FRI, bnd3 (ps := ["_law_square_here", "_law_first", "_law_columns"]) rfl FRI fun _ _ _ _ _ _ _ _ _ => rfl, PySem.W.mg_of X G aRI⟩
 have DLR : Dfn K mg "_law_least_by_rings" sLeastR ["_law_square_here"] fLR _ := ⟨FLR, bnd1 (ps := ["_law_square_here"]) rfl FLR fun _ _ _ _ _ _ _ => rfl, PySem.W.mg_of X G aLR⟩
 exact ⟨PySem.W.fnOf "law" "law" (defArgs sLaw) (defBody sLaw) (defScope sLaw) .none kVLaw dcLaw pmLaw anLaw cdLaw ctLaw, fun s v => .of_eq rfl, fun base _ _ => ok_law FLaw (Defs.mk T DC DQ DPL DLT DL DR DLR (ok_square FQ T (SqD.mk DC DN DT DR DL DB DA DV DX DG)) ((ok_plain FPL T DLD (ok_lead FLD T (HpD.mk DS DTU DRF DRG DLE DWA DTW DAL) DHO DM DU DY)).mono (by decide)) ((ok_least FLT T DTN DTF).mono (by decide)) ((ok_renaming FR T DC DN DT).mono (by decide)) ((ok_leastR FLR T DLY DRI DTF).mono (by decide)))⟩
theorem walk {l : PySem.W.OpenLaw} {q : Program} {loose : List Str} {XP : (Str -> Option Value) -> Heap -> Prop} {YP : World -> Heap -> Prop} {d : DefRec} {K : Params -> PySem.W.Frag} (hn : l.most = some 63) (hdf : d.params.defaults = [])
  (hY : ∀ (w : World) (h : Heap), YP w h -> (K w.params).In h)
  (F : ∀ (w : World) (mg : Str -> Option Value) (fa : Addr) (h : Heap), (K w.params).In h -> h.Ns mainGlobals mg -> mg d.name = some (.ref fa) ->
   ∃ fd : FuncData, (∀ (s : Shared) (u : Value), BindsTo s fd ⟨[u], []⟩ [("_law_script", u)]) /\ ∀ base : Heap, (K w.params).In base -> base.Ns mainGlobals mg -> FnOk l.prog w (K w.params) mg base CX0 12 fa fd ["_law_script"] (spLaw (K w.params))) :
  PySem.W.WalkO q loose XP YP l.row.toRowW d [] (fun f vs => PySem.call f vs) :=
 L2.walk_of (n := 63) (k := 12) (x := "_law_script") (CX := fun _ => CX0) (sp := fun w => spLaw (K w.params)) hn (by decide) hdf ⟨rfl, by decide, by decide⟩ hY F (fun _ _ a ns hl _ hS => ⟨a, ns, rfl, hS, hl, fun _ => rfl⟩) fun _ _ _ _ _ z => z
end My
open PySem PySem.W PyProof.Rows
set_option maxRecDepth 100000 in
set_option maxHeartbeats 0 in
theorem PySem.Challenge.cw_latinclose_k51_none_ahead_of_the_plain_f_holds : PySem.Challenge.rw_latinclose_k51_none_ahead_of_the_plain_f.Holds := by
 w_on; o_law; k_head; (case hw => w_witness2)
 k_fill
 refine My.walk (l := PySem.Challenge.rw_latinclose_k51_none_ahead_of_the_plain_f) rfl rfl (fun w h Y => PySem.W.kIn_of Y) ?F
 case F =>
  intro w mg fa h KX G hmg
  refine' My.all_mk KX G hmg ?aS ?lS ?cS ?kS ?aTU ?lTU ?cTU ?kTU ?aU ?lU ?cU ?kU ?aY ?lY ?cY ?kY ?aM ?lM ?cM ?kM ?aRF ?lRF ?cRF ?kRF ?aRG ?lRG ?cRG ?kRG ?aLE ?lLE ?cLE ?kLE ?aWA ?lWA ?cWA ?kWA ?aTW ?lTW ?cTW ?kTW ?aAL ?lAL ?cAL ?kAL ?aHO ?lHO ?cHO ?kHO ?aLD ?lLD ?cLD ?kLD ?aPL ?lPL ?cPL ?kPL ?aC ?lC ?cC ?kC ?aN ?lN ?cN ?kN ?aT ?lT ?cT ?kT ?aR ?lR ?cR ?kR ?aL ?lL ?cL ?kL ?aB ?lB ?cB ?kB ?aA ?lA ?cA ?kA ?aV ?lV ?cV ?kV ?aX ?lX ?cX ?kX ?aG ?lG ?cG ?kG ?aQ ?lQ ?cQ ?kQ ?aTN ?lTN ?cTN ?kTN ?aTF ?lTF ?cTF ?kTF ?aLT ?lLT ?cLT ?kLT ?aLY ?lLY ?cLY ?kLY ?aRI ?lRI ?cRI ?kRI ?aLR ?lLR ?cLR ?kLR ?aLaw ?lLaw ?cLaw ?kLaw ?z0 ?z1 ?z2 ?z3 ?z4 ?z5 ?z6 ?z7 ?z8 ?z9 ?z10 ?z11
  (case aS => k_is)
  (case lS => k_is)
  (case cS => k_is)
  (case kS => k_is)
  (case aTU => k_is)
  (case lTU => k_is)
  (case cTU => k_is)
  (case kTU => k_is)
  (case aU => k_is)
  (case lU => k_is)
  (case cU => k_is)
  (case kU => k_is)
  (case aY => k_is)
  (case lY => k_is)
  (case cY => k_is)
  (case kY => k_is)
  (case aM => k_is)
  (case lM => k_is)
  (case cM => k_is)
  (case kM => k_is)
  (case aRF => k_is)
  (case lRF => k_is)
  (case cRF => k_is)
  (case kRF => k_is)
  (case aRG => k_is)
  (case lRG => k_is)
  (case cRG => k_is)
  (case kRG => k_is)
  (case aLE => k_is)
  (case lLE => k_is)
  (case cLE => k_is)
  (case kLE => k_is)
  (case aWA => k_is)
  (case lWA => k_is)
  (case cWA => k_is)
  (case kWA => k_is)
  (case aTW => k_is)
  (case lTW => k_is)
  (case cTW => k_is)
  (case kTW => k_is)
  (case aAL => k_is)
  (case lAL => k_is)
  (case cAL => k_is)
  (case kAL => k_is)
  (case aHO => k_is)
  (case lHO => k_is)
  (case cHO => k_is)
  (case kHO => k_is)
  (case aLD => k_is)
  (case lLD => k_is)
  (case cLD => k_is)
  (case kLD => k_is)
  (case aPL => k_is)
  (case lPL => k_is)
  (case cPL => k_is)
  (case kPL => k_is)
  (case aC => k_is)
  (case lC => k_is)
  (case cC => k_is)
  (case kC => k_is)
  (case aN => k_is)
  (case lN => k_is)
  (case cN => k_is)
  (case kN => k_is)
  (case aT => k_is)
  (case lT => k_is)
  (case cT => k_is)
  (case kT => k_is)
  (case aR => k_is)
  (case lR => k_is)
  (case cR => k_is)
  (case kR => k_is)
  (case aL => k_is)
  (case lL => k_is)
  (case cL => k_is)
  (case kL => k_is)
  (case aB => k_is)
  (case lB => k_is)
  (case cB => k_is)
  (case kB => k_is)
  (case aA => k_is)
  (case lA => k_is)
  (case cA => k_is)
  (case kA => k_is)
  (case aV => k_is)
  (case lV => k_is)
  (case cV => k_is)
  (case kV => k_is)
  (case aX => k_is)
  (case lX => k_is)
  (case cX => k_is)
  (case kX => k_is)
  (case aG => k_is)
  (case lG => k_is)
  (case cG => k_is)
  (case kG => k_is)
  (case aQ => k_is)
  (case lQ => k_is)
  (case cQ => k_is)
  (case kQ => k_is)
  (case aTN => k_is)
  (case lTN => k_is)
  (case cTN => k_is)
  (case kTN => k_is)
  (case aTF => k_is)
  (case lTF => k_is)
  (case cTF => k_is)
  (case kTF => k_is)
  (case aLT => k_is)
  (case lLT => k_is)
  (case cLT => k_is)
  (case kLT => k_is)
  (case aLY => k_is)
  (case lLY => k_is)
  (case cLY => k_is)
  (case kLY => k_is)
  (case aRI => k_is)
  (case lRI => k_is)
  (case cRI => k_is)
  (case kRI => k_is)
  (case aLR => k_is)
  (case lLR => k_is)
  (case cLR => k_is)
  (case kLR => k_is)
  (case aLaw => k_is)
  (case lLaw => k_is)
  (case cLaw => k_is)
  (case kLaw => k_is)
  (case z0 => k_is)
  (case z1 => k_is)
  (case z2 => k_is)
  (case z3 => k_is)
  (case z4 => k_is)
  (case z5 => k_is)
  (case z6 => k_is)
  (case z7 => k_is)
  (case z8 => k_is)
  (case z9 => k_is)
  (case z10 => k_is)
  (case z11 => k_is)
