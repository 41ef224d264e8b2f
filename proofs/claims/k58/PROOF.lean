import PyProof.Rows.All
import Wide.All
import OpenK.AllK
import Wide.FinOn
import Lean
import PyProof.EqAt
import PyProof.EqKinds
import PyProof.TupleCall
import PyProof.NeKinds
import PyProof.StrOps2
import PyProof.InstStoreFacts
import PyProof.ExcInit
import PyProof.ListRange
import PyProof.ListMulRoad
import PyProof.DictWalks
import PyProof.Rows.SortWalk
import KE.KDictOf
import PyProof.AttrMissSeq
import PyProof.DictItemsLoops
import PyProof.ZipIter
import PyProof.Rows.SetFrom
import PyProof.Rows.ZipGen
import PyProof.EnumIter
import PyProof.TupleIter
import KE.KDictSum
import PyProof.DictIter
import PyProof.TupleOfSeq
import PyProof.Draws
import PyProof.EnumFor
import PyProof.EnumMake
import PyProof.EnumStmt
import PyProof.Rows.EnumRows
import KE.KRevSl
import KE.KSortTup
import PyProof.MinMaxWalk
import KE.KMinKey
import PyProof.Rows.CallKwBuiltin
import PyProof.MeetsSeq3
import PyProof.Rows.SortShell
import PySem.Challenge.RW_latinclose_k58_all_own_renamings_of_six
set_option Elab.async false
set_option linter.all false
set_option maxRecDepth 100000
def QAa:=@List.length_map
def QAb:=@List.getElem?_eq_getElem
def QAc:=@Nat.le_refl
def QAd:=@List.getD_eq_getElem?_getD
def QAe:=@List.getElem?_map
def QAf:=@Int.toNat_natCast
def QAg:=@Nat.zero_le
def QAh:=@PySem.Heap.lt_size
def QAi:=@List.size_toArray
def QAj:=@List.mem_cons_self
def QAk:=@PySem.Heap.get?_push_of_some
def QAl:=@List.map_cons
def QAm:=@List.map_append
def QAn:=@Bool.false_ne_true
def QAo:=@List.length_append
def QAp:=@List.mem_cons_of_mem
def QAq:=@List.length_range
def QAr:=@Nat.le_trans
def QAs:=@List.getElem_mem
def QAt:=@List.length_take
def QAu:=@List.length_cons
def QAv:=@Bool.and_eq_true
def QAw:=@List.map_map
def QAx:=@List.mem_of_getElem?
def QAy:=@Nat.ne_of_lt
def QAz:=@Array.length_toList
def QBa:=@PySem.Heap.get?_push_size
def QBb:=@Nat.lt_of_lt_of_le
def QBc:=@List.take_of_length_le
def QBd:=@List.getElem_of_mem
def QBe:=@List.mem_append_left
def QBf:=@List.mem_append_right
def QBg:=@List.nodup_nil
def QBh:=@List.all_eq_true
def QBi:=@List.getElem?_range
def QBj:=@Bool.eq_iff_iff
def QBk:=@List.drop_eq_getElem_cons
def QBl:=@List.lookup_cons
def QBm:=@Int.le_trans
def QBn:=@List.length_drop
def QBo:=@List.append_assoc
def QBp:=@Int.zero_add
def QBq:=@List.append_nil
def QBr:=@List.mem_cons
def QBs:=@List.ext_getElem
def QBt:=@List.countP_cons
def QBu:=@List.getElem_map
def QBv:=@Nat.mul_le_mul
def QBw:=@Int.le_of_lt
def QBx:=@Nat.lt_irrefl
def QBy:=@List.map_congr_left
def QBz:=@Array.toList_append
def QCa:=@Nat.le_of_lt
def QCb:=@List.not_mem_nil
def QCc:=@Nat.not_lt_zero
def QCd:=@List.drop_of_length_le
def QCe:=@List.take_add_one
def QCf:=@Bool.false_and
def QCg:=@List.nodup_range
def QCh:=@Array.getElem_toList
def QCi:=@List.filterMap_cons
def QCj:=@Nat.le_succ
def QCk:=@PySem.Heap.size_push
def QCl:=@Bool.true_and
def QCm:=@Nat.lt_or_ge
def QCn:=@List.mem_append
def QCo:=@Nat.mod_eq_of_lt
def QCp:=@List.take_append_drop
def QCq:=@Int.le_refl
def QCr:=@List.getElem?_append_left
def QCs:=@Nat.succ_mul
def QCt:=@List.find?_cons
def QCu:=@List.getElem?_set
def QCv:=@List.getElem?_eq_none
def QCw:=@List.getElem?_append_right
def QCx:=@List.length_set
def QCy:=@List.mem_singleton
def QCz:=@List.eraseIdx_eq_take_drop_succ
def QDa:=@Int.emod_nonneg
def QDb:=@Nat.lt_succ_of_lt
def QDd:=@List.any_cons
def QDe:=@List.replicate_succ
def QDf:=@List.length_singleton
def QDg:=@Array.getElem?_toList
def QDh:=@Bool.false_eq_true
def QDi:=@List.range_succ
def QDj:=@List.length_pos_of_mem
def QDk:=@List.sum_cons
def QDm:=@List.getElem_range
def QDn:=@List.ext_getElem?
def QDo:=@List.flatMap_cons
def QDp:=@Bool.or_eq_true
def QDr:=@List.filter_cons_of_pos
def QDs:=@List.filter_cons_of_neg
def QDt:=@List.getElem_idxOf
def QDu:=@Option.map_some
def QEa:=@PySem.Heap.get?_update_other
def QEc:=@Nat.lt_of_le_of_lt
def QEg:=@Int.emod_lt_of_pos
def QEh:=@List.flatMap_append
def QEk:=@List.reverse_append
def QEl:=@Array.toList_reverse
def QEm:=@List.length_reverse
def QEv:=@List.idxOf_lt_length_of_mem
def QFa:=@Array.getD_eq_getD_getElem?
def QFc:=@List.extract_eq_take_drop
def QFf:=@List.eq_nil_of_length_eq_zero
abbrev QZa:=PySem.W.Frag
def QZb:=@List.getElem?_eq_some_iff
def QZc:=@List.mem_singleton
def QZd:=@List.mem_map
def QZe:=@List.mem_range
def QZf:=@List.mem_append
def QZg:=@decide_eq_true_eq
def QZh:=@decide_eq_true
def QZi:=@decide_eq_false
def QZj:=@of_decide_eq_true
def QZk:=@List.nodup_iff_pairwise_ne
def QZl:=@Option.some.inj
def QZm:=@List.pairwise_map
def QZn:=@List.mem_cons
def QZo:=@List.mem_filter
def QZp:=@List.mem_flatMap
open PySem PyProof.Rows in
def QZq:=@wpAny_bind
open PySem PyProof.Rows in
def QZr:=@wpAny_pure
open PySem PyProof.Rows in
def QZs:=@wpS_bind
open PySem PyProof.Rows in
def QZt:=@wpS_pure
abbrev LI:=List (List Int)
namespace Om
theorem a1 {a b c:Nat} (h:c=b) (g:a<b):a<c := h ▸ g
theorem a2 {a b c:Nat} (g:a<b) (h:b=c):a<c := h ▸ g
theorem a3 {a b c:Nat} (g:a<b) (h:b<=c):a<c := QBb g h
theorem b1 {a m k:Nat} (h:a<=m) (g:Nat.ble m k=true):a<=k := QAr h (Nat.le_of_ble_eq_true g)
theorem b2 {a n m k:Nat} (f:a<n) (h:n<=m) (g:Nat.ble m k=true):a<=k := QAr (QCa f) (b1 h g)
theorem b3 {a n m k:Nat} (f:a<=n) (h:n<=m) (g:Nat.ble m k=true):a<=k := QAr f (b1 h g)
theorem b4 {a n m k:Nat} (f:a=n) (h:n<=m) (g:Nat.ble m k=true):a<=k := f ▸ b1 h g
theorem b5 {a n j m k:Nat} (f:a=n) (e:n<j) (h:j<=m) (g:Nat.ble m k=true):a<=k := f ▸ b2 e h g
theorem c1 {n m:Nat} (h:n<=m) (g:Nat.ble m 100000=true):(n:Int)<2 ^ 62 := Int.lt_of_le_of_lt (Int.ofNat_le.mpr (b1 h g)) (by decide)
theorem c2 {n:Nat}:-2 ^ 62<=(n:Int) := QBm (by decide:(-2 ^ 62:Int)<=0) (Int.natCast_nonneg n)
theorem c3 {n:Nat} (h:1<=n):(0:Int)<n := Int.natCast_pos.mpr h
theorem c5 {a b:Nat} (h:a<b):(a:Int)<(b:Int) := Int.ofNat_lt.mpr h
theorem c6 {a:Nat}:(0:Int)<=(a:Int) := Int.natCast_nonneg a
theorem d1 {a b:Nat} (h:a<b):a<=b := QCa h
theorem e1 {a b:Nat} (h:(a:Int)=(b:Int)):a=b := Int.ofNat.inj h
theorem f1 {a b:Nat} (h:a<b):a+1<=b := h
theorem f2 {a b:Nat} (h:a<b):a<b+1 := QDb h
theorem f3 {a b:Nat} (h:a<=b):a<b+1 := Nat.lt_succ_of_le h
theorem f4 {a b:Nat} (h:a+1<=b):a<=b := Nat.le_of_succ_le h
theorem f5 {a b:Nat} (h:a+1<=b):a<b := h
theorem p1 {a:Nat} (h:2<=a):0<a := QBb (Nat.zero_lt_succ 1) h
theorem q1 {a b:Nat} (h:a<=b+1) (g:¬a=b+1):a<=b := Nat.le_of_lt_succ (Nat.lt_of_le_of_ne h g)
theorem q2 {a b:Nat} (h:a<b):a<=b-1 := Nat.le_sub_one_of_lt h
theorem g2 {a b c:Nat} (h:a=b) (g:c=b):a=c := h.trans g.symm
theorem l1 {a b:Nat} (h:a=b):a<=b := Nat.le_of_eq h
theorem l4 {a b c:Nat} (h:a=b) (g:b<=c):a<=c := h ▸ g
theorem z1 {a:Int} (h:0<=a):a=(a.toNat:Int) := (Int.toNat_of_nonneg h).symm
theorem m1 {a b:Nat} (h:a<b):min a b=a := Nat.min_eq_left (QCa h)
theorem m2 {a b:Nat} (h:a<=b):min a b=a := Nat.min_eq_left h
theorem u2 {a b c d:Nat} (h:a=c) (f:b=d) (g:c=d):a=b := h.trans (g.trans f.symm)
theorem x1 {a b c:Nat} (h:a=b) (g:b<c):a<c := h ▸ g
theorem y2 {a b m:Nat} (h:b=a) (e:b<=m) (g:Nat.ble m k=true):a<=k := h ▸ b1 e g
end Om
section
variable {x0 x1 x2 x3 x4 x5 x6 x7 x8 x9:Nat} {y0 y1 y2:Int}
theorem O0 {x0 x1:Nat} (h0:x0<=46656) (h1:(0:Nat)<x0) (h2:x1=x0):((x0:Nat):Int)<((2:Int) ^ 64):=by lia
theorem O1 {x0 x1:Nat} (h0:x0<=46656) (h1:(0:Nat)<x0) (h2:x1=x0):(-((2:Int) ^ 64))<((x0:Nat):Int):=by lia
theorem O2 (_:(2:Nat)<=x1) (_:x1<=6) (_:x2=x1) (_:x0<x1):x0<7:=by lia
theorem O3 (_:(2:Nat)<=x1) (_:x1<=6) (_:x2=x1) (_:x0<x1):x0+1<=7:=by lia
theorem O4 (_:x1<=30000):min x0 x1<=30000:=by lia
theorem O5 (_:x0<=(x1+x2)*720):x0<=(x1+(x2+1))*720:=by lia
theorem O6 (_:x2=x1) (_:x3=x2/\x0<x1):x0<x1+1:=by lia
theorem O7 (_:¬x0=x1) (_:((x0:Nat):Int)=((x1:Nat):Int)):False:=by lia
theorem O8 (_:x0<=(x2+x3)*720) (_:x4=x1) (_:x1<=720):x0+x1<=(x2+(x3+1))*720:=by lia
theorem O9 (_:x0<40000):x0<=1000000:=by lia
theorem O10 (_:x3=x2) (_:x2<=720) (_:x0<=30000):x0+min x1 x2<40000:=by lia
theorem O11 (_:(2:Nat)<=x1) (_:x1<=6) (_:x2=x1) (_:x0<x1):x0<=6:=by lia
theorem O12 (_:(2:Nat)<=x0) (_:x0<=6) (_:x1=x0):x0-0<7:=by lia
theorem O13 {y0:Int}:(((2:Int)+((y0 / (4:Int)) % (3:Int)))).toNat<=6:=by lia
theorem O14 {y0:Int}:(2:Nat)<=(((2:Int)+((y0 / (4:Int)) % (3:Int)))).toNat:=by lia
theorem O15 {y0:Int}:((2:Int)+((y0 / (4:Int)) % (3:Int)))=(((((2:Int)+((y0 / (4:Int)) % (3:Int)))).toNat:Nat):Int):=by lia
theorem O16:y0%(4:Int)=(((0:Nat):Nat):Int)\/y0%(4:Int)=(((1:Nat):Nat):Int)\/y0%(4:Int)=(((2:Nat):Nat):Int)\/y0%(4:Int)=(((3:Nat):Nat):Int):=by lia
theorem O17 (_:(1:Nat)<=x1) (_:x1<=6) (_:x2=x1) (_:x3=x1) (_:x4=x1) (_:x0<x1) (_:x5=x0):x0+1<=1000:=by lia
theorem O18 (_:(1:Nat)<=x0) (_:x0<=6) (_:x1=x0) (_:x2=x0) (_:x3=x0):(1:Nat)*x0<=1000:=by lia
theorem O19 {x0 x1 x2 x3:Nat} (h0:(1:Nat)<=x0) (h1:x0<=6) (h2:x1=x0) (h3:x2=x0) (h4:x3=x0):((x0:Nat):Int)<((2:Int) ^ 63):=by lia
theorem O20 {x0 x1 x2 x3:Nat} (h0:(1:Nat)<=x1) (h1:x1<=6) (h2:x0=x1) (h3:x2=x1) (h4:x3=x1):(-((2:Int) ^ 63))<=((x0:Nat):Int):=by lia
theorem O21 (_:(1:Nat)<=x0) (_:x0<=6) (_:x1=x0) (_:x2=x0):(1:Nat)*x0<=1000:=by lia
theorem O22 {x0 x1 x2:Nat} (h0:(1:Nat)<=x0) (h1:x0<=6) (h2:x1=x0) (h3:x2=x0):((x0:Nat):Int)<((2:Int) ^ 63):=by lia
theorem O23 {x0 x1 x2:Nat} (h0:(1:Nat)<=x1) (h1:x1<=6) (h2:x0=x1) (h3:x2=x1):(-((2:Int) ^ 63))<=((x0:Nat):Int):=by lia
theorem O24 {x0:Nat} (h0:(-(1:Int))=((x0:Nat):Int)):False:=by lia
theorem O25 (_:x2=x0) (_:x1<x0):x0-(x1+1)<x0-x1:=by lia
theorem O26 (_:(2:Nat)<=x1) (_:x1<=6) (_:x2=x1) (_:x0<x1):x0+1<=1000:=by lia
theorem O27 (_:x3=x0) (_:x0-x1=x2+1) (_:x1<x0) (_:¬y0=y1):x0-(x1+1)=x2:=by lia
theorem O28 (_:x1-x0=x2+1) (_:x0<=x1):x0<x1:=by lia
theorem O29 (_:x0=x2) (_:x1=x2):x0<=x1:=by lia
theorem O30 (_:x1=x0):x0<=x1:=by lia
theorem O31 (_:x1-x0=0) (_:x0<=x1):x0=x1:=by lia
theorem O32 {x0 x1:Nat} (h0:x0<=x1) (h1:x0 ≥ x1):x0=x1:=by lia
theorem O33 (_:x2<x3) (_:x1=x3) (_:x0<=x2):x0<x1:=by lia
theorem O34 (_:x0<x1) (_:x2<=x0) (_:x1-x2=0):False:=by lia
theorem O35 (_:x0<=x1) (_:¬x0=x1):x0+1<=x1:=by lia
theorem O36 (_:x2<x1) (_:x0<=x2):x0<x1:=by lia
theorem O37 (_:x2<x0) (_:x1<=x2):x0-x1=x0-(x1+1)+1:=by lia
theorem O38 (_:x1=x0) (_:x2<x0):(0:Nat)<x0:=by lia
theorem O39 (_:x0<x1+1) (_:¬x0=x1):x0<x1:=by lia
theorem O40 (_:x0<x1) (_:x0=x1):False:=by lia
theorem O41 (_:x0<=46656) (_:(0:Nat)<x0) (_:x1=x0):((x0:Nat):Int)<(1073741824:Int):=by lia
theorem O42 (_:x0<=46656) (_:(0:Nat)<x0) (_:x1=x0):(0:Int)<((x0:Nat):Int):=by lia
theorem O43 {x0 x1:Nat} (h0:x1<=6) (h1:x0<x1):((1:Int)+((x0:Nat):Int))<((2:Int) ^ 64):=by lia
theorem O44 {x0:Nat}:(-((2:Int) ^ 64))<((1:Int)+((x0:Nat):Int)):=by lia
theorem O45 {x0:Nat} (h0:x0<=6):(((((x0+1):Nat):Int)-(1:Int))).toNat=x0:=by lia
theorem O46 {x0:Nat} (h0:x0<=6):(((x0+1):Nat):Int)<((2:Int) ^ 62):=by lia
theorem O47 (_:x0=0) (_:(0:Nat)<x0):False:=by lia
theorem O48 (_:x2=x1) (_:x3=x4) (_:x2=x3+x0) (_:(0:Nat)<x4):x0<x1:=by lia
theorem O49 {x0:Nat} {y0 y1:Int} (h0:(y0).toNat=(y1).toNat) (h1:((0:Int)<=y0)/\(y0<((x0:Nat):Int))) (h2:((0:Int)<=y1)/\(y1<((x0:Nat):Int))):y0=y1:=by lia
theorem O50 {x0:Nat} {y0:Int} (h0:((0:Int)<=y0)/\(y0<((x0:Nat):Int))):y0=(((y0).toNat:Nat):Int):=by lia
theorem O51 (_:y0<y1) (_:y1<y0):False:=by lia
theorem O52 {y0 y1 y2:Int}:((y0+y1)<(y0+y2))↔(y1<y2):=by lia
theorem O53 (_:y0=y1) (_:y1<y0):False:=by lia
theorem O54 (_:y0=y1) (_:y0<y1):False:=by lia
theorem O55 (_:y0<y1):y0+(1:Int)<=y1:=by lia
theorem O56 (_:x2=x3) (_:x1=x3) (_:x0<x2):x0<x1:=by lia
theorem O57 (_:x1<=100000) (_:x0=x1) (_:x2=x1) (_:¬x0<2):(2:Nat)<=x0:=by lia
theorem O58 (_:x0=x1) (_:x1=x2) (_:x1<2) (_:x1=x3+1+1):False:=by lia
theorem O59 (_:x0+6<x1):x0+1+1+3<x1:=by lia
theorem O60 (_:x2=x3) (_:x1=x3) (_:x4=x3) (_:x5=x3) (_:x0<x5):x0<x1:=by lia
theorem O61 (_:(2:Nat)<=x1) (_:x1<=100000) (_:x2=x1) (_:x0=x1):(1:Nat)<=x0:=by lia
theorem O62 (_:x0+3<x1):x0<x1:=by lia
theorem O63 (_:(2:Nat)<=x1) (_:x1<=100000) (_:x0=x1):(0:Nat)<x0:=by lia
theorem O64 (_:(0:Nat)<x0) (_:(0:Nat)=x0):False:=by lia
theorem O65 (_:(2:Nat)<=x0) (_:x0<=100000):¬x0<2:=by lia
theorem O66 (_:x0+1+1<=1):False:=by lia
theorem O67 (_:(1:Nat)<=x0) (_:x1=x0) (_:(0:Nat)=x0):False:=by lia
theorem O68 (_:¬x0<=1):x0-2+1<x0:=by lia
theorem O69 (_:¬x0<=1):x0-2-1+1<x0:=by lia
theorem O70 (_:x3=x2) (_:x4+x1<=x2+1) (_:x0+1=x4):x0+(x1+1)<=x2+1:=by lia
theorem O71 (_:(1:Nat)<=x1) (_:x2=x1) (_:x0+max (0:Nat) x1<=x1+1):x0<=1:=by lia
theorem O72 {x0 x1 x2 x3 x4:Nat} (h0:x4=x3) (h1:(x0<=x1)\/(x3<=x1)) (h2:¬(x1 ≥ x3)) (h3:(1:Nat)<=x2):((x0+1)<=(x1+x2))\/(x3<=(x1+x2)):=by lia
theorem O73 (_:x0<=x2) (_:x2<=x1):x0<=x1:=by lia
theorem O74 {x0:Nat} (h0:x0>(1:Nat)):((x0-2)+1)<x0:=by lia
theorem O75 {x0:Nat} (h0:x0>(1:Nat)):(x0-2)<x0:=by lia
theorem O76 {x0 x1 x2 x3:Nat} (h0:x3=x2) (h1:¬(x0 ≥ x2)) (h2:x1<=(x2-x0)):(x0+x1)<=x2:=by lia
theorem O77 {x0 x1 x2 x3:Nat} (h0:x3=x1) (h1:¬(x0 ≥ x1)):(x0+(min (x1-x0) x2))<=x1:=by lia
theorem O78 (_:(1:Nat)<=x3) (_:x3<=x0-x1) (_:x3<x2):(1:Nat)<=min (x0-x1) x2:=by lia
theorem O79 (_:x0<=x1-x2) (_:x0<x3):x0<=min (x1-x2) x3:=by lia
theorem O80 {x0 x1 x2:Nat} (h0:x2=x1) (h1:¬(x0 ≥ x1)):(x0+(x1-x0))<=x1:=by lia
theorem O81 {x0 x1 x2:Nat} (h0:x2=x0) (h1:¬(x1 ≥ x0)):(1:Nat)<=(x0-x1):=by lia
theorem O82 {x0 x1 x2:Nat} (h0:x2=x1) (h1:x0<=x1) (h2:x0 ≥ x1):x0=x1:=by lia
theorem O83 (_:(1:Nat)<=x1) (_:x2=x1) (_:x0<=x1) (_:max (0:Nat) x1<=x0\/x1<=x0):x0=x1:=by lia
theorem O84 (_:x3<=x1) (_:x4=x5) (_:x6=x1-x3+x5) (_:¬x2<x0+x3+x6):x0+x1<=x2:=by lia
theorem O85 (_:x4<=x3) (_:¬x4<x0+x1+x2):x0+x1+x2<=x3:=by lia
theorem O86 (_:¬x3<x0+x1+x2):x0+x1+x2<=x3:=by lia
theorem O87 (_:x2<=x3) (_:x4=x5) (_:x6=x3-x2+x5) (_:¬x1<x7+x2+x6) (_:x0<x7+x3+x5):x0<=x1:=by lia
theorem O88 (_:¬x2<x0+x1):x0+x1<=x2:=by lia
theorem O89 (_:x4<=x1) (_:x5=x2) (_:x6=x1-x4+x2) (_:¬x3<x0+x4+x6):x0+x1+x2<=x3:=by lia
theorem O90 (_:x2<=x1) (_:x0+x2+(x1-x2)-1=x0+x1-1) (_:¬x3=0) (_:x4=x3) (_:x5=x1-x2+x3) (_:x6<x0+x1):x0+x1-1<x0+x1:=by lia
theorem O91 (_:x0+x2<=x1):x0<=x1:=by lia
theorem O92 (_:x4<=x0) (_:¬x4<x1+x2) (_:x0<x1+x2+x3):x0-(x1+x2)<x3:=by lia
theorem O93 (_:x0<=x3) (_:¬x0<x1+x2):x0-(x1+x2)<=x3-(x1+x2):=by lia
theorem O94 (_:x3<=x2) (_:¬x3<x0+x1):x0+x1<=x2:=by lia
theorem O95:x0+x1<=x0+x1:=by lia
theorem O96 (_:x4<=x3) (_:x5=x4) (_:x0<x1+x2+x4):x0<x1+x2+x3:=by lia
theorem O97 (_:x0<x2+x3) (_:x2+x3<=x1):x0<=x1:=by lia
theorem O98 (_:x3<=x2) (_:x0<x1+x3):x0<x1+x2:=by lia
theorem O99 (_:x1<=x2) (_:x4=x3) (_:x5=x2-x1+x3):x0+x1+(x2-x1+x3)=x0+x2+x3:=by lia
theorem O100 (_:x1<=x2) (_:x3=x4) (_:x5=x2-x1+x4):x0+x1+(x2-x1)=x0+x2:=by lia
theorem O101 (_:x2<=x4) (_:x5<=x6) (_:x7=x5) (_:x3=x4-x2+x5) (_:x0<x1\/x1+x4+x6<=x0):x0<x1+x2\/x1+x2+x3<=x0:=by lia
theorem O102 (_:x1<=x3) (_:x0+x3<=x2):x0+x1<=x2:=by lia
theorem O103 (_:x4=x3) (_:x0<x1+x2):x0<x1+x2+x3:=by lia
theorem O104 (_:x1+x2<=x0) (_:x0<x1+x2+x3):x0-(x1+x2)<x3:=by lia
theorem O105 (_:x0+x4+x5<=x3) (_:x1<=x4) (_:x6<=x5) (_:x7=x6) (_:x2=x4-x1+x6):x0+x1+x2<=x3:=by lia
theorem O106 (_:x0+x4+x5<=x3) (_:x1<=x4) (_:x6<=x5) (_:x7=x6) (_:x2=x4-x1+x6) (_:x8<x0+x1\/x0+x1+x2<=x8):x0+x1+x2<=x3:=by lia
theorem O107 (_:x0+x4+x5<=x3) (_:x1<=x4) (_:x6<=x5) (_:x7=x6) (_:x2=x4-x1+x6):x0+x1+0+x2<=x3:=by lia
theorem O108 (_:x0=x2-x3) (_:x1=x4):x0+x1=x2-x3+x4:=by lia
theorem O109 (_:x1<=x2) (_:¬x3=0) (_:x0=x3):(0:Nat)<x0:=by lia
theorem O110 (_:(0:Nat)<x1) (_:x2<=x1) (_:¬x1-x2=0) (_:¬x3=0) (_:x0=x1-x2) (_:x4=x3):(0:Nat)<x0:=by lia
theorem O111 (_:x1=x2-x3) (_:x1-1<=x0) (_:x0<x1):x0=x1-1:=by lia
theorem O112 (_:x4=x3) (_:x2<x4):x0+x1+x2<x0+x1+x3:=by lia
theorem O113:x0+x1<=x0+x1+x2:=by lia
theorem O114 (_:(0:Nat)<x3) (_:x1<=x3) (_:¬x3-x1=0) (_:x0+x1+(x3-x1)-1=x0+x3-1) (_:¬x4=0) (_:x2=x3-x1) (_:x5=x4):x0+x1+(x2-1)=x0+x3-1:=by lia
theorem O115 (_:(0:Nat)<x1) (_:x2<=x1) (_:¬x1-x2=0) (_:¬x3=0) (_:x0=x1-x2) (_:x4=x3):x0-1<x1-x2:=by lia
theorem O116 (_:x1<=x2) (_:¬x0=0) (_:x3=x0):(0:Nat)<x0:=by lia
theorem O117 (_:(0:Nat)<=x2):x0+x1<=x0+x1+x2:=by lia
theorem O118 (_:x1<=x3) (_:x4=x3-x1) (_:x2<x4):x0+x1+x2<x0+x3:=by lia
theorem O119 (_:x4=x3) (_:x0+x1+x5<=x4) (_:x6<=x5) (_:x7=x6) (_:x2<x7):x0+x1+x2<x3:=by lia
theorem O120 (_:x4=x3) (_:x0+x5+x6<=x4) (_:x1<=x5) (_:x7<=x6) (_:x8=x5-x1) (_:x9=x7) (_:x2<x8):x0+x1+x2<x3:=by lia
theorem O121 (_:x0+x1+x4<=x3) (_:x2<=x4) (_:x5=x2):x0+x1+x2<=x3:=by lia
theorem O122 (_:x4=x3) (_:x2<x3):x0+x1+x2<x0+x1+x3:=by lia
theorem O123 (_:x1<=x3) (_:x2<x3-x1):x0+x1+x2<x0+x3:=by lia
theorem O124 (_:x0+x1<x3) (_:x0+x1+x4<=x3) (_:x2<=x4):min (x0+x1+x2) x3-(x0+x1)=x2:=by lia
theorem O125 (_:x0+x1<x2) (_:x3<=x1):min (x0+x1) x2-(x0+x3)=x1-x3:=by lia
theorem O126 (_:x2=0) (_:¬x3<x0+x1):x0+x1+x2<=x3:=by lia
theorem O127 (_:x2<=x1) (_:x0+x2+(x1-x2)-1=x0+x1-1) (_:x3<x0+x1):x0+x1-1<x0+x1:=by lia
theorem O128 (_:x0+x1+x3<=x2):x0+x1+(x2-(x0+x1))=x2:=by lia
theorem O129 (_:x1+x2+x4<=x0) (_:x0<x1+x2+x3):x0-(x1+x2)<x3:=by lia
theorem O130 (_:x2+x3+x0<=x1):x0<=x1-(x2+x3):=by lia
theorem O131 (_:x0+x1<=x2):x0+x1+(x2-(x0+x1))=x2:=by lia
theorem O132 (_:(0:Nat)<x0):x0-1<x0:=by lia
theorem O133 (_:x4=x3) (_:x0+x1+x5<=x4) (_:x2<x5):x0+x1+x2<x3:=by lia
theorem O134 (_:(0:Nat)<x2) (_:x1<=x2) (_:¬x2-x1=0):x0+x1+(x2-x1)-1=x0+x2-1:=by lia
theorem O135 (_:x2<=x3) (_:x3-x2=0) (_:x0<x1+x3):x0<x1+x2:=by lia
theorem O136 (_:x0+x2<=x1):x0+(x1-x0)=x1:=by lia
theorem O137 (_:x1+x3<=x0) (_:x0<x1+x2):x0-x1<x2:=by lia
theorem O138 (_:x2+x0<=x1):x0<=x1-x2:=by lia
theorem O139 (_:x0<=x1):x0+(x1-x0)=x1:=by lia
theorem O140 (_:x1<=x0) (_:x0<x1+x2):x0-x1<x2:=by lia
theorem O141 (_:x3=x2) (_:x0+x4<x3) (_:x1<x4):x0+x1<x2:=by lia
theorem O142 (_:(0:Nat)<x1) (_:x0+x1<x2):x0+x1-1<x2:=by lia
theorem O143 (_:x4<=x5) (_:x0+x1+x2+x6<=x4) (_:x3=x5):x0+x1+x2<=x3:=by lia
theorem O144 (_:x3<=x4) (_:(0:Nat)<x5) (_:x0+x1+x5+x6<=x3) (_:x2=x4):x0+x1<x2:=by lia
theorem O145 (_:x2<x3):x0+x1+x2<x0+x1+x3:=by lia
theorem O146 (_:x2<=x3):x0+x1+x2<=x0+x1+x3:=by lia
theorem O147 (_:x1<x2):x0+x1<x0+x2:=by lia
theorem O148 (_:x1<=x2):x0+x1<=x0+x2:=by lia
theorem O149:x0<=x0+x1:=by lia
theorem O150 (_:x0+x1+x2+x4<=x5) (_:x5<=x3):x0+x1+x2<=x3:=by lia
theorem O151 (_:x0+1<x1):min x0 x1+(x1-(x0+2)+1)+1=x1:=by lia
theorem O152 (_:x0+1<x1):x0<x1:=by lia
theorem O153 (_:x2<x1) (_:x0<x2):x0<x1:=by lia
theorem O154 (_:x3<x2-x0) (_:x1<x2-x0) (_:x4=x2-x0):x0+x1<x2:=by lia
theorem O155 (_:x1<x2):x0+x1<=x0+x2:=by lia
theorem O156 (_:x1<x2-x0) (_:x3<x2-x0) (_:x1<x3) (_:x4=x2-x0):x0+x1<x2:=by lia
theorem O157 (_:x0<=x1):min x0 x1-x2=x0-x2:=by lia
theorem O158 (_:x3+x0<x1) (_:x1<=x2):x0<min x1 x2-x3:=by lia
theorem O159:x0+1-x0=1:=by lia
theorem O160 (_:x0=x1):x0<=x1+1:=by lia
theorem O161 (_:x0+1<x1):min x0 x1=x0:=by lia
theorem O162 (_:x2+x3+x4<=x1) (_:x0<x2+x3):x0<x1:=by lia
theorem O163 (_:x2+x3+x4<=x1) (_:x0<=x5) (_:x5<x2+x3):x0<x1:=by lia
theorem O164 (_:(0:Nat)<x2) (_:x0+x2<=x1):x0<=x1:=by lia
theorem O165 (_:x1<=x0) (_:x0<x1+x2) (_:x3=x1):x0-x1<x2:=by lia
theorem O166 (_:x0+x2<=x1):min x0 x1=x0:=by lia
theorem O167 (_:x3=x0) (_:x0+x1<=x2):x0+x1+(x2-x0-x1)=x2:=by lia
theorem O168 (_:x2=x3) (_:x3+x0<=x1):x0<=x1-x2:=by lia
theorem O169 (_:x0=x2) (_:x2+x3<=x1):x0<=x1:=by lia
theorem O170:x0+(x1+1)+x2=x0+x1+(x2+1):=by lia
theorem O171:x0+x1<x0+(x1+1)+x2:=by lia
theorem O172 (_:x0+x1+(x3+1)<=x2):x0+x1<x2:=by lia
theorem O173 (_:x0+x1+(x2+1)<=x3):x0+(x1+1)+x2<=x3:=by lia
theorem O174 (_:x1<x4) (_:x2<=x1) (_:x3<x0\/x0+x4<=x3):¬(x0+x1-(x0+x1-(x0+x2))<x3/\x3<=x0+x1):=by lia
theorem O175 (_:x2<x4) (_:x3<=x2) (_:x0<x1\/x1+x4<=x0):¬x0=x1+x2-(x1+x2-(x1+x3)):=by lia
theorem O176 (_:x2<=x1):x0+x1-(x0+x2)<=x0+x1:=by lia
theorem O177 (_:x0+x3<=x4) (_:x1<x3) (_:x2=x4):x0+x1<x2:=by lia
theorem O178 {x0 x1 x2 x3:Nat} (h0:x2<=x3) (h1:¬(x1 ≥ x2)):(x0+((x1+x2) / (2:Nat)))<(x0+x3):=by lia
theorem O179 (_:x1<(x2+x3)/(2:Nat)+1):x0+x1<=x0+(x2+x3)/(2:Nat):=by lia
theorem O180 {x0 x1 x2 x3:Nat} (h0:x3<x2) (h1:(x0-x1)<=(x2-x3)) (h2:¬(x1 ≥ x0)):(x0-(((x1+x0) / (2:Nat))+1))<=(x2-(x3+1)):=by lia
theorem O181 {x0 x1:Nat} (h0:¬(x0 ≥ x1)):(((x0+x1) / (2:Nat))+1)<=x1:=by lia
theorem O182 (_:(x1+x2)/(2:Nat)<=x3):x0+(x1+x2)/(2:Nat)<=x0+x3:=by lia
theorem O183 {x0 x1 x2:Nat} (h0:¬(x1 ≥ x2)):x0<=(x0+((x1+x2) / (2:Nat))):=by lia
theorem O184 {x0 x1 x2 x3:Nat} (h0:x3<x2) (h1:(x1-x0)<=(x2-x3)) (h2:¬(x0 ≥ x1)):(((x0+x1) / (2:Nat))-x0)<=(x2-(x3+1)):=by lia
theorem O185 {x0 x1 x2:Nat} (h0:x1<=x2) (h1:¬(x0 ≥ x1)):((x0+x1) / (2:Nat))<=x2:=by lia
theorem O186 {x0 x1:Nat} (h0:¬(x0 ≥ x1)):x0<=((x0+x1) / (2:Nat)):=by lia
theorem O187 {x0 x1 x2 x3 x4 x5:Nat} (h0:(x0+x4)<=x3) (h1:x5<x4) (h2:x2<=x5) (h3:¬(x1 ≥ x2)):(x0+((x1+x2) / (2:Nat)))<x3:=by lia
theorem O188 (_:x0+x3<=x2) (_:x1<x3):x0+x1<x2:=by lia
theorem O189 {x0 x1 x2:Nat} (h0:x2<=x0) (h1:x2 ≥ x0) (h2:x2<=x1):x0<=x1:=by lia
theorem O190 {x0 x1 x2:Nat} (h0:x0<=x2) (h1:x2<=x1) (h2:x0 ≥ x2):x0<=x1:=by lia
theorem O191 (_:x2<=x0) (_:x0-x2<=x3-max (0:Nat) x3) (_:x2<=x1):x0<=x1:=by lia
theorem O192 (_:x0<=x1) (_:x1<x0):y0<=y1:=by lia
theorem O193 (_:x0<0):y0<=y1:=by lia
theorem O194:x0-0<=x0-0:=by lia
theorem O195:x0<=x0:=by lia
theorem O196:(0:Nat)<=x0:=by lia
theorem O197 (_:(1:Nat)<=x0) (_:x0<=x1):max (max x0 (1:Nat)) x1=x1:=by lia
theorem O198 (_:(1:Nat)<=x0):max x0 (1:Nat)=x0:=by lia
theorem O199 (_:(1:Nat)<=x0):(1:Nat)<=x0+1:=by lia
theorem O200 (_:x0+x3<=x2) (_:x4=x2) (_:x1<x3) (_:(1:Nat)<=x1):x0+x1-1<x2:=by lia
theorem O201 (_:x0+x3<=x2) (_:x4=x2) (_:x1<x3):x0+x1<x2:=by lia
theorem O202 (_:x0<=x2) (_:x3<x0+x1):x0+(x0+x1)-1-x2<x0+x1:=by lia
theorem O203 (_:x3<=x2) (_:x2<x0+x1):x0+(x0+x1)-1-x2<=x0+(x0+x1)-1-x3:=by lia
theorem O204 (_:x2<x0+x1):x0<=x0+(x0+x1)-1-x2:=by lia
theorem O205 (_:x0<=x3) (_:x3<=x1) (_:x1<x0+x2):x0<=x1/\x1<x0+x2:=by lia
theorem O206 (_:x0<=x1) (_:x1<=x3) (_:x3<x0+x2):x0<=x1/\x1<x0+x2:=by lia
theorem O207 (_:x2<=x3) (_:x1<x0\/x0+x3<=x1):¬(x0<=x1/\x1<x0+x2):=by lia
theorem O208 (_:x0+x3<=x4) (_:x1<=x3) (_:x2=x4):x0+x1<=x2:=by lia
theorem O209:¬((0:Nat)>(0:Nat)):=by lia
theorem O210 (_:¬y1<y0) (_:y0≠y1):y0<y1:=by lia
theorem O211 (_:(1:Nat)+1<=x1):x0+x1-1<x0+x1:=by lia
theorem O212 (_:x0+x3<=x2) (_:(1:Nat)+1<=x1) (_:x1<x3):x0+x1-1<x2:=by lia
theorem O213 (_:(1:Nat)+1<=x1) (_:x2<x0+(x1+1)) (_:¬x2<x0+x1):x0+x1-1<x0+x1:=by lia
theorem O214 (_:(1:Nat)+1<=x2) (_:x0<=x3) (_:x3<x1+(x2+1)) (_:¬x3<x1+x2) (_:¬x0=x3):x0<=x1+x2-1:=by lia
theorem O215 (_:x0<x1+(x2+1)) (_:¬x0<x1+x2):x0=x1+x2:=by lia
theorem O216 (_:(1:Nat)+1<=x0):(1:Nat)<=x0+1:=by lia
theorem O217 (_:x1<=x2) (_:x2<=x0) (_:x0<x1+((1:Nat)+1)) (_:¬x2=x0):x0=x1+1:=by lia
theorem O218 (_:x1<=x0) (_:x0<=x2) (_:x2<x1+((1:Nat)+1)) (_:¬x0=x2):x0=x1+1-1:=by lia
theorem O219 (_:(1:Nat)<=x0) (_:¬(1:Nat)=x0):(1:Nat)+1<=x0:=by lia
theorem O220:(1:Nat)<=((1:Nat)+1):=by lia
theorem O221 {x0:Nat} (h0:(1:Nat)<=x0) (h1:¬(x0>(1:Nat))):x0=1:=by lia
theorem O222 {x0 x1 x2 x3:Nat} (h0:(x0+x3)<=x2) (h1:x1<=x3) (h2:x1>(1:Nat)):((x0+x1)-1)<x2:=by lia
theorem O223 {x0 x1:Nat} (h0:x1>(1:Nat)):x0<((x0+x1)-1):=by lia
theorem O224 {x0 x1:Nat} (h0:x1>(1:Nat)):((x0+x1)-1)<(x0+x1):=by lia
theorem O225 {x0 x1:Nat} (h0:x1>(1:Nat)):x0<=((x0+x1)-1):=by lia
theorem O226 (_:(1:Nat)<=x2) (_:x0+x2<=x1):x0<x1:=by lia
theorem O227 (_:x0+x3<=x2) (_:(1:Nat)<=x1) (_:x1<x3):x0+x1-1<x2:=by lia
theorem O228 (_:(1:Nat)<=x0):max (1:Nat) x0=x0:=by lia
theorem O229 (_:x2<=x0) (_:x0<=x1) (_:x1<x2+1):x0=x1:=by lia
theorem O230 (_:(1:Nat)<=x1) (_:x2<x0+(x1+1)) (_:¬x2<x0+x1):x0+x1-1<x0+x1:=by lia
theorem O231 (_:(1:Nat)<=x2) (_:x0<=x3) (_:x3<x1+(x2+1)) (_:¬x3<x1+x2) (_:¬x0=x3):x0<=x1+x2-1:=by lia
theorem O232 (_:x0<x2) (_:x2<x3) (_:x1=x3):x0<x1:=by lia
theorem O233 (_:(0:Nat)<x1) (_:x0+1+x1+x2<x3+x4):x0+1+(x1-1)+x2<x3+x4:=by lia
theorem O234 (_:(0:Nat)<x0) (_:¬x0-1=0):(0:Nat)<x0-1:=by lia
theorem O235 (_:(0:Nat)<x0) (_:x0<=x1):x0-1<x1:=by lia
theorem O236 {x0 x1 x2 x3 x4 x5 x6:Nat} (h0:(1:Nat)<x2) (h1:(((x0+1)+x1)+x2)<(x3+x4)) (h2:((x2-1)-x5)=x6) (h3:¬(x6>(0:Nat))) (h4:x5=(x2-1)):(((x0+1)+x1)+(x2-1))<(x3+x4):=by lia
theorem O237 {x0 x1 x2:Nat} (h0:(1:Nat)<x0) (h1:¬((x0-1)=1)) (h2:((x0-1)-x1)=x2) (h3:¬(x2>(0:Nat))) (h4:x1=(x0-1)):(1:Nat)<(x0-1):=by lia
theorem O238 {x0 x1 x2:Nat} (h0:(1:Nat)<x1) (h1:x0<=(x1-1)) (h2:((x1-1)-x0)=x2) (h3:¬(x2>(0:Nat))):x0=(x1-1):=by lia
theorem O239 {x0 x1 x2 x3 x4 x5 x6:Nat} (h0:(((x0+1)+x1)+x5)<(x3+x4)) (h1:((x5-1)-x2)=x6) (h2:x6>(0:Nat)) (h3:¬(x2=1)) (h4:¬(x2=0)) (h5:(1:Nat)<x2):(((x0+1)+x1)+x2)<(x3+x4):=by lia
theorem O240 (_:¬x0=1) (_:¬x0=0):(1:Nat)<x0:=by lia
theorem O241 (_:(1:Nat)<x0):x0-1-1<x0-1:=by lia
theorem O242 (_:(1:Nat)<x0) (_:x0<=x1):(0:Nat)+(x0-1)<=x1:=by lia
theorem O243 (_:(1:Nat)<x0):(0:Nat)<x0:=by lia
theorem O244 (_:(1:Nat)<x0) (_:x0<=x1):x0-1<x1:=by lia
theorem O245 {x0 x1 x2:Nat} (h0:x0<=x1) (h1:(x1-x0)=x2) (h2:¬(x2>(0:Nat))):x0=x1:=by lia
theorem O246 (_:x0+1+x5+x2<x3+x4) (_:x1<=x5):x0+1+x1+x2<x3+x4:=by lia
theorem O247 (_:¬x0=0):(0:Nat)<x0:=by lia
theorem O248 (_:x0<=x1):(0:Nat)+x0<=x1:=by lia
theorem O249 (_:(1:Nat)<x3) (_:x0+x1+x2+x3<x4+x5):x0+(x1+1)+x2+(x3-1)<x4+x5:=by lia
theorem O250 (_:(1:Nat)<x0) (_:¬x0-1=1):(1:Nat)<x0-1:=by lia
theorem O251 (_:(0:Nat)<=x5) (_:(1:Nat)<x2) (_:x0+x5+x1+x2<x3+x4):x0+1+x1+(x2-1)<x3+x4:=by lia
theorem O252 (_:(0:Nat)<x2) (_:x0+x1+x2+x3<x4+x5):x0+(x1+1)+(x2-1)+x3<x4+x5:=by lia
theorem O253 (_:(0:Nat)<=x5) (_:(0:Nat)<x1) (_:x0+x5+x1+x2<x3+x4):x0+1+(x1-1)+x2<x3+x4:=by lia
theorem O254 (_:(0:Nat)<x0) (_:(1:Nat)<x1) (_:max (0:Nat) (x2+x3)+x0+x1<x2+x3):False:=by lia
theorem O255 (_:(0:Nat)<x0):(0:Nat)+(x0-1)+x1<x0+x1:=by lia
theorem O256 (_:(0:Nat)<x0) (_:¬x0=1):(1:Nat)<x0:=by lia
theorem O257 (_:(0:Nat)<x0) (_:(0:Nat)<x1) (_:¬x0-1=0) (_:¬x1=1):(0:Nat)<x0-1:=by lia
theorem O258 (_:x0<1):x0=0:=by lia
theorem O259 (_:x1=1) (_:x1<=x0):(1:Nat)<=x0:=by lia
theorem O260 (_:x1=1) (_:x1<=x0):x0-x1+1=x0:=by lia
theorem O261 (_:x3=0\/x1=0) (_:x3<=x2) (_:x1<=x0):x0<=x0-x1\/x2<=x2-x3:=by lia
theorem O262 (_:x1<=x0):x0-(x0-x1)<=x1-0:=by lia
theorem O263 (_:(0:Nat)<x1) (_:x1-1<=x0) (_:x0<x1):x0=x1-1:=by lia
theorem O264 (_:(0:Nat)<x0):x0-1<=x0:=by lia
theorem O265 (_:x1<=x2) (_:x2<=x0):x0-x1=x0-x2+(x2-x1):=by lia
theorem O266 (_:x0<=x1) (_:x0=x0-1+1):x0-1<x1:=by lia
theorem O267 (_:(0:Nat)<x0):x0=x0-1+1:=by lia
theorem O268 (_:x1<x2-x0):x0+x1<x2:=by lia
theorem O269 (_:x0<=x1) (_:x2<=x0):min x0 x1-(x0-x2)=x2:=by lia
theorem O270 (_:x1<=x0):x0-(x0-x1)=x1:=by lia
theorem O271 {y0 y1:Int} (h0:y1<=y0):(-y0)<=(-y1):=by lia
theorem O272 {y0 y1:Int} (h0:(-y1)<=(-y0)):y0<=y1:=by lia
theorem O273 (_:x0+1<x1+x2):x0+1<x1+1+x2:=by lia
theorem O274 (_:x2=x1) (_:x0+1<x1) (_:¬x0+1+1=x1):x0+1+1<x1:=by lia
theorem O275 (_:x2=x1) (_:x0+1<x1):x0<x1:=by lia
theorem O276 (_:x2=x1) (_:x0<x1) (_:¬x0+1=x1):x0+1<x1:=by lia
theorem O277 (_:x0+1<x1+x2):x0+1<x1+(x2+1):=by lia
theorem O278 {x0:Nat} (h0:¬(x0>(0:Nat))):x0=0:=by lia
theorem O279 (_:x3=x2) (_:x0<x2) (_:x1<=x2-(x0+1)) (_:¬x0+1+x1=x2):x0+1+x1<x2:=by lia
theorem O280 (_:x3=x0) (_:x1+1+x2=x0):x0<=x1+1+x2:=by lia
theorem O281 (_:x0+1<x1+x2):x0+1<x1+(x2+1+x3):=by lia
theorem O282 (_:x0+1+x2<=x1):x0+1+(x1-(x0+1))=x1:=by lia
theorem O283 (_:x3=x2) (_:x1<x2) (_:x1+1+x4<=x0) (_:x0<x2):x0-(x1+1)<x2-(x1+1):=by lia
theorem O284 (_:x2+1+x0<=x1):x0<=x1-(x2+1):=by lia
theorem O285 (_:x2=x0) (_:x1<x0) (_:¬x1+1=x0):(0:Nat)<x0-(x1+1):=by lia
theorem O286 (_:x2=x1) (_:x0<x1):x0+1+(x1-(x0+1))<=x1:=by lia
theorem O287 (_:x2=x0) (_:x1+1=x0):x0<=x1+1:=by lia
theorem O288 {x0 x1 x2 x3:Nat} (h0:(x0+1)<(x1+x3)) (h1:x2>(0:Nat)):(x0+1)<((x1+x2)+x3):=by lia
theorem O289 (_:x3=x2) (_:x0+1<x2) (_:x1<=x2-x0) (_:¬x0+x1+1=x2) (_:¬x0+x1=x2):x0+x1+1<x2:=by lia
theorem O290 (_:x3=x0) (_:x1+x2=x0):x0<=x1+x2:=by lia
theorem O291 (_:x3=x2) (_:x1+1<x2) (_:x1+x4<=x0) (_:x0<x2):x0-x1<x2-x1:=by lia
theorem O292 (_:x2=x0) (_:x1+1<x0):(0:Nat)<x0-x1:=by lia
theorem O293 (_:x2=x1) (_:x0+1<x1):x0+(x1-x0)<=x1:=by lia
theorem O294 (_:x0+x1<x2+x3):x0+(x1+1)<x2+1+x3:=by lia
theorem O295 (_:(0:Nat)<=x3) (_:x0+x3<x1+x2):x0+1<x1+1+x2:=by lia
theorem O296 (_:x0+x1<x2+x3):x0+(x1+1)<x2+(x3+1):=by lia
theorem O297 (_:(0:Nat)<=x3) (_:x0+x3<x1+x2):x0+1<x1+(x2+1):=by lia
theorem O298 (_:(0:Nat)<x0) (_:(0:Nat)<x1) (_:x2=x0) (_:x3=x1) (_:x4+1<x0) (_:x5<x1) (_:max (0:Nat) (x0+x1)<x4+x5):False:=by lia
theorem O299:(0:Nat)<((0:Nat)+1):=by lia
theorem O300 (_:(0:Nat)<x1) (_:(0:Nat)<x0) (_:x2=x1) (_:x3=x0) (_:¬(1:Nat)=x0) (_:¬(0:Nat)+1=x1):(1:Nat)<x0:=by lia
theorem O301 (_:(0:Nat)<x0) (_:x1=x0) (_:¬(0:Nat)+1=x0):(0:Nat)+1<x0:=by lia
theorem O302 (_:x1=x0) (_:(1:Nat)=x0):x0<=1:=by lia
theorem O303 (_:x1<min x3 (x2-x0)):x0+x1<x2:=by lia
theorem O304 (_:x0<min x1 (x2-x3)):x0<x1:=by lia
theorem O305:x0-x1<=x0-x1:=by lia
theorem O306:x0+x1-x0=x1:=by lia
theorem O307 (_:x0+1=x1):x0=x1-1:=by lia
theorem O308 (_:x1<=x2) (_:x2-x1<=x3-max (0:Nat) x3) (_:x0<x2):x0<x1:=by lia
theorem O309 {x0 x1 x2 x3:Nat} (h0:x3<x2) (h1:(x1-x0)<=(x2-x3)) (h2:¬(x0 ≥ x1)):((x0+((x1-x0) / (2:Nat)))-x0)<=(x2-(x3+1)):=by lia
theorem O310 {x0 x1 x2:Nat} (h0:x1<=x2) (h1:¬(x0 ≥ x1)):(x0+((x1-x0) / (2:Nat)))<=x2:=by lia
theorem O311:x0<=x0+(x1-x0)/(2:Nat):=by lia
theorem O312 {x0 x1 x2:Nat} (h0:x1<=x2) (h1:¬(x0 ≥ x1)):(x0+((x1-x0) / (2:Nat)))<x2:=by lia
theorem O313 (_:x0<x1+(x2-x1)/(2:Nat)+1):x0<=x1+(x2-x1)/(2:Nat):=by lia
theorem O314 {x0 x1 x2 x3:Nat} (h0:x3<x2) (h1:(x0-x1)<=(x2-x3)) (h2:¬(x1 ≥ x0)):(x0-((x1+((x0-x1) / (2:Nat)))+1))<=(x2-(x3+1)):=by lia
theorem O315 {x0 x1:Nat} (h0:¬(x0 ≥ x1)):((x0+((x1-x0) / (2:Nat)))+1)<=x1:=by lia
theorem O316 {x0 x1 x2 x3 x4:Nat} (h0:(x0+x4)<=x3) (h1:x2<=x4) (h2:¬(x1 ≥ x2)):(x0+(x1+((x2-x1) / (2:Nat))))<x3:=by lia
theorem O317 (_:x2<x1+1-min x0 (x1+1)):x0<x1+1:=by lia
theorem O318 (_:x0<x2) (_:x3<x0+1) (_:x3<x1):x0-x1<x2:=by lia
theorem O319 (_:x0<x1+1-min x2 (x1+1)):x0<=x1-x2:=by lia
theorem O320 (_:x0<x3):x0-x1-(x0+1-min x2 (x0+1))<=x3-0:=by lia
theorem O321 (_:x0<x2) (_:x1<x0+1):x0-x1<=x2:=by lia
theorem O322 (_:x2<x0+1) (_:x2<x1):x0+1-min x1 (x0+1)<=x0-x2:=by lia
theorem O323 (_:x0<x1) (_:max (0:Nat) x1<x2) (_:x2<x0+1):False:=by lia
theorem O324 (_:x2<x1) (_:x0<x1):x0+1<(2:Nat)*x1+1:=by lia
theorem O325:x0<(2:Nat)*x0+1:=by lia
theorem O326 {x0 x1:Nat} (h0:¬(x0 ≥ (x1+1))):x0<(x1+1):=by lia
theorem O327 (_:x0<x2) (_:(0:Nat)<=x3) (_:x3<x2):x0-x1<x2:=by lia
theorem O328 (_:x0+x4<=x3) (_:x1<x4) (_:(0:Nat)<=x5) (_:x5<x4):x0+(x1-x2)<x3:=by lia
theorem O329 {x0 x1:Nat} (h0:x0 ≥ (x1+1)) (h1:x0<(x1+1)):False:=by lia
theorem O330:(0:Nat)<1:=by lia
theorem O331:(0:Nat)<x0+1:=by lia
theorem O332 (_:x0<x1+x2+1):x0<=x1+x2:=by lia
theorem O333 (_:x1<x3-x0) (_:x1<x2):x0+x1+1<=x0+min x2 (x3-x0):=by lia
theorem O334 (_:x0<x1) (_:max (0:Nat) x1<x2) (_:x2<x1-x0):False:=by lia
theorem O335 {x0 x1 x2:Nat} (h0:¬(x0 ≥ (x1-x2))):x0<(x1-x2):=by lia
theorem O336 {x0 x1 x2:Nat} (h0:x0<x2) (h1:¬(x1 ≥ (x2-x0))):(x0+x1)<x2:=by lia
theorem O337 {x0 x1 x2 x3 x4:Nat} (h0:(x0+x4)<=x3) (h1:x1<x4) (h2:¬(x2 ≥ (x4-x1))):(x0+(x1+x2))<x3:=by lia
theorem O338 {x0 x1 x2:Nat} (h0:x0 ≥ (x1-x2)) (h1:x0<(x1-x2)):False:=by lia
theorem O339 (_:x1<x0):(0:Nat)<x0-x1:=by lia
theorem O340 (_:x0<2):x0<=16777216:=by lia
theorem O341 (_:x0<2):x0<=(16777216:Nat)+1:=by lia
theorem O342 (_:(1:Nat)<=x0) (_:¬x0=1):(2:Nat)<=x0:=by lia
theorem O343 (_:(2:Nat)<=x0) (_:(0:Nat)=x0):False:=by lia
theorem O344 {x0 x1:Nat} (h0:x1≠x0) (h1:x1 ≥ x0):x0<x1:=by lia
theorem O345 (_:(0:Int)<=y0/\y0<(((1:Nat):Nat):Int)):y0=(0:Int):=by lia
theorem O346 (_:x2+1+1+1<3):x0=x1:=by lia
theorem O347 (_:x0<3) (_:x1=x0):x0<=1000:=by lia
theorem O348 (_:x0<=x1):x0<=x1+1:=by lia
theorem O349 (_:x0<=x1):x0+1<=x1+1:=by lia
theorem O350 (_:x1=x2) (_:x2<=(36:Nat)*1296) (_:(0:Nat)<x2) (_:x3=x2) (_:x4=x2) (_:x0<=x5) (_:x5<x2):x0<=1000000:=by lia
theorem O351 (_:x2=x1) (_:x1<=(36:Nat)*1296) (_:(0:Nat)<x1) (_:x3=x1) (_:x4=x1) (_:x0<=x1-1):x0<x1:=by lia
theorem O352 (_:x0+1<x1+1):x0<x1:=by lia
theorem O353 (_:x2=x3) (_:x4=x3) (_:x0=x2) (_:x1=x4):x0=x1:=by lia
theorem O354 (_:x0=x3) (_:x0-x1=x2+1) (_:x1<x0) (_:x1<x3):x0-(x1+1)=x2:=by lia
theorem O355 (_:x1=x2) (_:x1-x0=x3+1) (_:x0<=x1):x0<x1:=by lia
theorem O356 (_:x2=x0) (_:x2-x1=0):x0<=x1:=by lia
theorem O357 (_:x0=x2) (_:x0-x1=0):x0<=x1:=by lia
theorem O358 (_:x1<=1296) (_:x0<=(36:Nat)*1296):x0+x1<=1000000:=by lia
theorem O359 (_:x1<=x2) (_:x2<=(6:Nat)*6) (_:x3=x1) (_:x4=x1):min x0 x1<=36:=by lia
theorem O360 (_:(1:Nat)<=x1) (_:x1<=6) (_:x2=x1) (_:(2:Nat)<=x1) (_:(2:Nat)*x0<=x1):x0<=3:=by lia
theorem O361 (_:(1:Nat)<=x1) (_:x1<=6) (_:x2=x1) (_:(2:Nat)<=x1) (_:(2:Nat)*x0<=x1):x0+1<=4:=by lia
theorem O362 (_:(1:Nat)<=x1) (_:x1<=6) (_:x2=x1) (_:(2:Nat)<=x1) (_:(2:Nat)*x0<=x1):x0<=8:=by lia
theorem O363 (_:(0:Nat)<x1) (_:x0<=x1-1):x0<x1:=by lia
theorem O364 (_:(1:Nat)<=x0) (_:x0<=6) (_:x1=x0) (_:¬x0=1):(2:Nat)<=x0:=by lia
theorem O365 (_:x1=x0) (_:((x0:Nat):Int)=(1:Int)):x0=1:=by lia
theorem O366 (_:x1=x2) (_:x2<=6) (_:(2:Nat)*x0<=x2):x0<=3:=by lia
theorem O367 (_:(2:Nat)<=x0):¬x0=1:=by lia
theorem O368 (_:x1=x2) (_:(1:Nat)<=x2) (_:x2<=6) (_:x0=x2) (_:x3=x2) (_:x4=x1) (_:x5=x2) (_:x6=x2):(0:Nat)<x0:=by lia
theorem O369 (_:¬x1<x0):x0<=x1:=by lia
theorem O370 (_:x0<=x2) (_:x1<=x3):x0+x1<=x2+x3:=by lia
theorem O371 (_:x2<=6) (_:x0<=x3) (_:x1<=x2) (_:x3<=(6:Nat)*6):x0+x1<=1000:=by lia
theorem O372 (_:x1<=6) (_:x2<x1) (_:x0<=x2):x0<=1000:=by lia
theorem O373 (_:x0<=(3:Nat)*((6:Nat)*1296)) (_:x2<=1296) (_:x1<=(6:Nat)*1296):x0+x1+x2<=1000000:=by lia
theorem O374 (_:x1<=1296) (_:x2<=x1) (_:x3=x2) (_:x0<x2) (_:x4=x0):x0<=1000000:=by lia
theorem O375 (_:x2<=3) (_:x3=x2) (_:(0:Nat)<x2) (_:x4=x5) (_:x5<=6) (_:x0=x5) (_:x6=x2) (_:x1<=(6:Nat)*(x2-1)):x0+x1<=1000:=by lia
theorem O376 (_:x2=x3) (_:x3<=6) (_:x0=x3) (_:x1<x3):x0-x1+min x1 x0<=1000:=by lia
theorem O377 (_:x1<=3) (_:x2=x1) (_:(0:Nat)<x1) (_:x3=x1) (_:x0<x1):min x0 x1+(x1-(x0+1))=x1-1:=by lia
theorem O378 (_:x2=x1) (_:x3<x1) (_:x4=x1) (_:x0<x3):x0<x1:=by lia
theorem O379 (_:x0<=3) (_:x1=x0) (_:(0:Nat)<x0) (_:x2=x0):x0-1<=3:=by lia
theorem O380 (_:x1<=3) (_:x2=x1) (_:(0:Nat)<x1) (_:x3=x1) (_:x0=x1-1):x0<=3:=by lia
theorem O381 (_:x2+1<=x1+1) (_:x2<=3) (_:x3=x2) (_:(0:Nat)<x2) (_:x4=x2) (_:x0=x2-1):x0+1<=x1:=by lia
theorem O382 (_:x1<=3) (_:x2=x1) (_:(0:Nat)<x1) (_:x0<x1) (_:x3=x1):min x0 x1+(x1-(x0+1))=x1-1:=by lia
theorem O383 (_:x1<=3) (_:x2=x1) (_:(0:Nat)<x1) (_:x0<x1) (_:x3=x1):min x0 x1+(x1-(x0+1))<=1000:=by lia
theorem O384 (_:x0<=3) (_:(0:Nat)<x0) (_:(0:Nat)=x0):False:=by lia
theorem O385 (_:x1+1=x2+1) (_:x0<x1+1):min x0 (x1+1)+(x1+1-(x0+1))=x2:=by lia
theorem O386 (_:(0:Nat)<x2) (_:x3=x2) (_:x1=x2) (_:x0<x2):x0<=x1-1:=by lia
theorem O387 (_:(0:Nat)<x1) (_:x2=x1) (_:x0<=x3-1) (_:x3=x1):x0<x1:=by lia
theorem O388 (_:¬y1<y0):y0<=y1:=by lia
theorem O389 (_:x0<=0):x0=0:=by lia
theorem O390 (_:x0<=8) (_:x1=x0):x0<64:=by lia
theorem O391 (_:x0<=x1):((x0:Nat):Int)<=((x1:Nat):Int):=by lia
theorem O392 (_:x2+1<=x1+1) (_:x0=x2):x0<=x1:=by lia
theorem O393 (_:x0<x1+1):min x0 (x1+1)+(x1+1-(x0+1))=x1:=by lia
theorem O394 {x0 x1:Nat} {y0:Int} (h0:x1<x0) (h1:((0:Int)<=y0)/\(y0<((x0:Nat):Int))):(y0).toNat<x0:=by lia
theorem O395 (_:x0=x3) (_:x0-x1=x2+1) (_:x1<x0):x0-(x1+1)=x2:=by lia
theorem O396:¬y0<y0:=by lia
theorem O397 (_:x2=x3) (_:x3<=8) (_:x4<x3) (_:x5=x3) (_:x0<=x6) (_:x6<=(8:Nat)*8) (_:x1<=x3):x0+x1<=1000:=by lia
theorem O398 (_:x1=x2) (_:x2<=8) (_:x3<x2) (_:x4=x2) (_:x5<x2) (_:x0=x6) (_:x6<=x5):x0<=1000:=by lia
theorem O399 {x0 x1 x2:Nat} (h0:x1=x2) (h1:x2<=8) (h2:x0=x2):((x0:Nat):Int)<((2:Int) ^ 62):=by lia
theorem O400 (_:x1<=x0):x0+1-x1=x0-x1+1:=by lia
theorem O401 (_:x2=x0) (_:x1<=x0) (_:x3=x2) (_:x4=x2):x0+1-(x1+1)<x0+1-x1:=by lia
theorem O402 (_:x2=x0) (_:x1<=x0) (_:x3=x2) (_:x4=x2):x0+1-x1=x0-x1+1:=by lia
theorem O403 {x0 x1 x2 x3 x4:Nat} {y0:Int} (h0:x0=x1) (h1:x2<x1) (h2:x3<x1) (h3:x4=x1) (h4:((0:Int)<=y0)/\(y0<((x1:Nat):Int))):y0=(((y0).toNat:Nat):Int):=by lia
theorem O404 {x0 x1 x2 x3 x4:Nat} {y0:Int} (h0:x1=x0) (h1:x2<x0) (h2:x3<x0) (h3:x4=x0) (h4:((0:Int)<=y0)/\(y0<((x0:Nat):Int))):(y0).toNat<x0:=by lia
theorem O405 (_:x0<x1):(0:Int)<=((x0:Nat):Int)/\((x0:Nat):Int)<((x1:Nat):Int):=by lia
theorem O406 (_:(0:Int)<y0) (_:y0<=(8:Int)):y0<(1073741824:Int):=by lia
theorem O407 (_:(1:Nat)<=x0) (_:x0<=8) (_:x1=x0):((x0:Nat):Int)<(1073741824:Int):=by lia
theorem O408 (_:(1:Nat)<=x0) (_:x0<=8) (_:x1=x0):((x0:Nat):Int)≠(0:Int):=by lia
theorem O409 {x0:Nat} {y0:Int} (h0:((y0 / (3:Int)) % (7:Int))=((x0:Nat):Int)):((x0:Nat):Int)<((2:Int) ^ 62):=by lia
theorem O410 {y0:Int}:(((y0 / (3:Int)) % (7:Int))).toNat<7:=by lia
theorem O411 {y0:Int}:((y0 / (3:Int)) % (7:Int))=(((((y0 / (3:Int)) % (7:Int))).toNat:Nat):Int):=by lia
theorem O412 (_:(1:Nat)<=x0) (_:x0<=8) (_:x1=x0) (_:(0:Nat)=x0):False:=by lia
theorem O413 (_:x0<x1+1) (_:¬x0<x1):x0=x1:=by lia
theorem O414 (_:x3=x0) (_:x0-x1<x2+1) (_:x4=x0) (_:x1<x0) (_:x5=x6):x0-(x1+1)<x2:=by lia
theorem O415 (_:x2<=8) (_:x3=x2) (_:x4=x5) (_:x6=x2) (_:x5<x2) (_:x0<=x2) (_:x7=x0) (_:x1<=x0):x0-x1+min x1 x0<=1000:=by lia
theorem O416 {x0 x1:Nat} {y0 y1:Int} (h0:x1=x0) (h1:y1<=(max (1:Int) ((x0:Nat):Int))) (h2:y0<y1):(y0).toNat<=x0:=by lia
theorem O417 (_:(0:Int)<y0):y0≠(0:Int):=by lia
theorem O418:x0-(x1+1)=x0-x1-1:=by lia
theorem O419 (_:x1<x0):x0-(x1+1)<x0-x1:=by lia
theorem O420 (_:x1<x0):x0-x1=x0-x1-1+1:=by lia
theorem O421 (_:x0=x2) (_:¬x1<x2):x0<=x1:=by lia
theorem O422:x0+x1-x1=x0:=by lia
theorem O423 (_:(1:Nat)<=x1) (_:x1<=8) (_:x0<x1) (_:x2=x0):x0<=1000:=by lia
theorem O424 (_:x1=6) (_:x0<x1) (_:x2=x0):x0<=1000:=by lia
theorem O425 (_:x0<6) (_:x1=x0):x0<=1000:=by lia
theorem O426 (_:x1=4) (_:x0<x1) (_:x2=x0):x0<=1000:=by lia
theorem O427 (_:x0=4) (_:((x0:Nat):Int)=(6:Int)):False:=by lia
theorem O428 (_:x0<4) (_:x1=x0):x0<=1000:=by lia
theorem O429 (_:(1:Nat)<=x1) (_:x1<=8) (_:x2=x1) (_:x0<x1) (_:x3=x0):x0<=1000:=by lia
theorem O430 (_:(1:Nat)<=x1) (_:x1<=8) (_:x2=x1) (_:x3=x1) (_:x0<x1) (_:x4=x0):x0<=1000:=by lia
theorem O431 (_:x1<x2) (_:y0=((x3:Nat):Int)) (_:x3<x0):(0:Int)<=y0/\y0<((x0:Nat):Int):=by lia
theorem O432 (_:x2=x1) (_:x0<x2):x0<x1:=by lia
theorem O433 (_:x1=x0) (_:x0<3):x0<=1000:=by lia
theorem O434 (_:y1=y0):y0<=y1:=by lia
theorem O435 (_:(0:Nat)<x0) (_:x1=x0):x0-1<x0:=by lia
theorem O436:(0:Int)<((x0:Nat):Int)+(1:Int):=by lia
theorem O437 (_:x1<=8) (_:x0+x2=x1) (_:(0:Nat)<x2) (_:x3=x2):x0<=1000:=by lia
theorem O438 {x0 x1 x2 x3 x4:Nat} (h0:x1<=8) (h1:(x2+x3)=x1) (h2:(0:Nat)<x3) (h3:x4=x3) (h4:x0<x3):((x0:Nat):Int)<((2:Int) ^ 63):=by lia
theorem O439 {x0:Nat}:(-((2:Int) ^ 63))<=((x0:Nat):Int):=by lia
theorem O440 {x0 x1 x2 x3:Nat} {y0:Int} (h0:x1<=8) (h1:(x2+x0)=x1) (h2:(0:Nat)<x0) (h3:x3=x0) (h4:y0<((x0:Nat):Int)):(y0).toNat<x0:=by lia
theorem O441 (_:(0:Nat)<x0) (_:x1=x0):((x0:Nat):Int)≠(0:Int):=by lia
theorem O442 (_:(0:Nat)<x0) (_:x1=x0):(0:Int)<((x0:Nat):Int):=by lia
theorem O443 (_:x0+(x1+1)<x2):x0+1+x1<x2:=by lia
theorem O444 (_:x0+(x2+1)<x1):x0<x1:=by lia
theorem O445 (_:x2=x3) (_:x2=x0) (_:x3=x1):x0=x1:=by lia
theorem O446 (_:x0+x2<x1):x0<x1:=by lia
theorem O447 (_:x0=x2) (_:x3=x0) (_:x0<=x1):x0-x1=0:=by lia
theorem O448 (_:x0=x2) (_:x3=x0) (_:x1<x3):x0-x1=x0-(x1+1)+1:=by lia
theorem O449 (_:x0=x1):min x0 x1=x0:=by lia
theorem O450 (_:x0-x1=x2+1) (_:x1<x0) (_:x1<x3):x0-(x1+1)=x2:=by lia
theorem O451 (_:x0-x1=0) (_:x1<=x0):x0=x1:=by lia
theorem O452 (_:x0=x2) (_:x2-x1=0):x0<=x1:=by lia
theorem O453 (_:x2<=x0) (_:x1=x2):¬x0<x1:=by lia
theorem O454 (_:x0<=x1) (_:¬x1=x0):x0<x1:=by lia
theorem O455 (_:x1=x2) (_:x0=x2):¬x0<x1:=by lia
theorem O456 (_:x2<=x1) (_:x0=x2) (_:¬x1=x2):x0<x1:=by lia
theorem O457 (_:x0=x2) (_:x1=x2):¬x0<x1:=by lia
theorem O458 (_:x0-(x1+1)=x2+1) (_:x1+1<x0):x0-(x1+1+1)=x2:=by lia
theorem O459 (_:x1-(x0+1)=x2+1) (_:x0+1<=x1):x0+1<x1:=by lia
theorem O460 (_:x1-(x0+1)=0) (_:x0+1<=x1):x0+1=x1:=by lia
theorem O461 (_:x2=x3) (_:x0=x2) (_:x1=x3):min x0 x1=x2:=by lia
theorem O462 (_:x2<=x1) (_:x2=x0):x0<=x1:=by lia
theorem O463 (_:x0<x1) (_:¬x0+1<x1):x0=x1-1:=by lia
theorem O464 (_:x0<x1) (_:¬x0+1<x1):x0+1=x1:=by lia
theorem O465 (_:(0:Nat)<x0) (_:x1<x0) (_:¬x1+1<x0):x0-1=x1:=by lia
theorem O466 (_:¬x1<=x0):x0<=x1:=by lia
theorem O467 (_:x2<x1) (_:¬x2+x0<x1):x0-(x1-x2)=x2+x0-x1:=by lia
theorem O468 (_:x0<x2) (_:x1<x2) (_:¬x0+x1<x2):x0+x1-x2<x2:=by lia
theorem O469 {x0 x1 x2:Nat} (h0:¬((x0+x1)<x2)):(x0+x1) ≥ x2:=by lia
theorem O470 (_:x2<x1) (_:x0<x1) (_:¬x2+x0<x1):x0-(x1-x2)<x2:=by lia
theorem O471 (_:x1<x0) (_:¬x1+x2<x0):x0-x1<=x2:=by lia
theorem O472 (_:x2<x1) (_:x2+x0<x1):x0<x1-x2:=by lia
theorem O473:x0-x1+min x1 x0=x0:=by lia
theorem O474:x0<x0+1+1:=by lia
theorem O475 (_:x0<x1+1+x2+1):x0<x1+(x2+1)+1:=by lia
theorem O476 (_:x0<(0:Nat)+x1+1) (_:x1<x0):False:=by lia
theorem O477:(0:Nat)+x0=x0:=by lia
theorem O478:x0<x0+1:=by lia
theorem O479 (_:x0=1):(0:Nat)<x0:=by lia
theorem O480 (_:x0+(x1-x2)<=x3) (_:x3<=x0) (_:(0:Nat)<x1-x2):False:=by lia
theorem O481 (_:((x1:Nat):Int)=((x0:Nat):Int)):x0=x1:=by lia
theorem O482 (_:x0+x3=x4):x0+x1+(x2+x3)=x2+x1+x4:=by lia
theorem O483 (_:x3<x4) (_:x0+1<=x1):x0+1<=x1+x2:=by lia
theorem O484 (_:x0<=x1) (_:x1<=x0-1) (_:(0:Nat)<x0):False:=by lia
theorem O485 {x0:Nat} {y0:Int} (h0:((0:Int)<=y0)/\(y0<((x0:Nat):Int))):(((y0).toNat:Nat):Int)=y0:=by lia
theorem O486 {x0:Nat} {y0:Int} (h0:((0:Int)<=y0)/\(y0<((x0:Nat):Int))):(y0).toNat<x0:=by lia
theorem O487 (_:((x0:Nat):Int)=((x1:Nat):Int)) (_:x2≠x1) (_:x0=x2):False:=by lia
theorem O488:¬x0<0:=by lia
theorem O489 (_:x1+(x2+1)=x3) (_:x0<x1):x0≠x1:=by lia
theorem O490 (_:x2+(x3+1)=x1) (_:x2<x1) (_:x0<x2):x0<x1:=by lia
theorem O491 (_:x1+(x2+1)=x3) (_:¬x0<x1) (_:¬x0=x1):¬x0<x1+1:=by lia
theorem O492 (_:x1+(x2+1)=x3) (_:x0=x1):x0<x1+1:=by lia
theorem O493 (_:x1+(x2+1)=x3) (_:x0<x1):¬x0=x1:=by lia
theorem O494 (_:x0+(x1+1)=x2):x0+1+x1=x2:=by lia
theorem O495 (_:x0+(x2+1)=x1):x0<x1:=by lia
theorem O496 (_:(1:Nat)<=0):False:=by lia
theorem O497:(2:Nat)<=x0+1+1:=by lia
theorem O498:(1:Nat)<=x0+1:=by lia
theorem O499 {x0 x1 x2 x3 x4:Nat} (h0:x1<=x2) (h1:x1=x3) (h2:x3=x4) (h3:x0<x4) (h4:x2<((2:Nat) ^ 63)):((x0:Nat):Int)<(((2:Int) ^ 63)-(1:Int)):=by lia
theorem O500 (_:x0=x1) (_:x2<x1) (_:x3<=x2) (_:x0-x3=0):False:=by lia
theorem O501 (_:x0=x2) (_:x3<x2) (_:x1<=x3):x0-x1=x0-(x1+1)+1:=by lia
theorem O502 (_:x0+2=x1):x0<=x1:=by lia
theorem O503 (_:x1=x0+2):x0<=x1:=by lia
theorem O504:x0<=x0+2:=by lia
theorem O505:x0+2≠x0:=by lia
theorem O506 (_:x1<x2) (_:x0=x2+2):x0≠x1:=by lia
theorem O507 (_:x0<x1) (_:x0=x1+2):False:=by lia
theorem O508:(0:Int)<((2:Int) ^ 62):=by lia
theorem O509:(-((2:Int) ^ 62))<=(0:Int):=by lia
theorem O510 (_:x0<=x1) (_:¬x0<x1):x0=x1:=by lia
theorem O511 (_:x2=x0) (_:x2<=x1):x0<=x1:=by lia
theorem O512:x0+((0:Nat)+1)<=x0+1:=by lia
theorem O513:x0<=x0+1:=by lia
theorem O514 (_:x2=x0) (_:x3=x1) (_:¬x2=x3):x0≠x1:=by lia
theorem O515 (_:x2=x0) (_:x3=x1) (_:x2=x3):x0=x1:=by lia
theorem O516 (_:x1=x2) (_:x0<x1):x0<min x1 x2:=by lia
theorem O517 (_:x1=x2) (_:x0<min x1 x2):x0<x1:=by lia
theorem O518 (_:x3+x4<=x2) (_:x3=x0) (_:x4=x1):x0+x1<=x2:=by lia
theorem O519 {x0 x1:Nat} (h0:x0<=x1):¬(x0>x1):=by lia
theorem O520 {x0 x1 x2:Nat} (h0:x1<((2:Nat) ^ 63)) (h1:x2<=x1) (h2:x2=x0):((x0:Nat):Int)<((2:Int) ^ 63):=by lia
theorem O521 {x0:Nat} {y0:Int} (h0:¬(y0<(0:Int))):(max (0:Int) (min y0 ((x0:Nat):Int)))=(((min (y0).toNat x0):Nat):Int):=by lia
theorem O522 {x0:Nat} {y0:Int} (h0:y0<(0:Int)):(max (0:Int) (min (y0+((x0:Nat):Int)) ((x0:Nat):Int)))=((((y0+((x0:Nat):Int))).toNat:Nat):Int):=by lia
theorem O523 {x0 x1 x2:Nat} {y0:Int} (h0:x0<=x1) (h1:(-((x0:Nat):Int))<=y0) (h2:x0=x2) (h3:x1<((2:Nat) ^ 63)):(-((2:Int) ^ 63))<=y0:=by lia
theorem O524 (_:¬(0:Int)<=y0):y0<(0:Int):=by lia
theorem O525 {x0 x1 x2:Nat} {y0:Int} (h0:x0<=x1) (h1:y0<((x0:Nat):Int)) (h2:x0=x2) (h3:x1<((2:Nat) ^ 63)):y0<((2:Int) ^ 63):=by lia
theorem O526 {x0 x1 x2 x3:Nat} {y0:Int} (h0:x0<=x1) (h1:x2<x0) (h2:y0<((x0:Nat):Int)) (h3:x0=x3) (h4:x1<((2:Nat) ^ 63)):y0<((2:Int) ^ 63):=by lia
theorem O527 {x0 x1 x2 x3:Nat} {y0:Int} (h0:x0<=x1) (h1:x2<x0) (h2:(-((x0:Nat):Int))<=y0) (h3:x0=x3) (h4:x1<((2:Nat) ^ 63)):(-((2:Int) ^ 63))<=y0:=by lia
theorem O528 {x0 x1:Nat} {y0:Int} (h0:(-((x1:Nat):Int))<=y0) (h1:x1=x0):(-((x0:Nat):Int))<=y0:=by lia
theorem O529 {x0:Nat} {y0:Int} (h0:¬((0:Int)<=y0)) (h1:(-((x0:Nat):Int))<=y0):y0<((x0:Nat):Int):=by lia
theorem O530 {x0 x1:Nat} {y0:Int} (h0:¬((0:Int)<=y0)) (h1:(-((x1:Nat):Int))<=y0) (h2:((y0+((x1:Nat):Int))).toNat=x0):x0<x1:=by lia
theorem O531 {x0:Nat} {y0:Int} (h0:(0:Int)<=y0):(-((x0:Nat):Int))<=y0:=by lia
theorem O532 {x0 x1:Nat} {y0:Int} (h0:(0:Int)<=y0) (h1:y0<((x1:Nat):Int)) (h2:(y0).toNat=x0):x0<x1:=by lia
theorem O533:min (x0-x1) (x2-x1)<=x2:=by lia
theorem O534:¬((x0:Nat):Int)<(0:Int):=by lia
theorem O535 (_:x0=x2) (_:x2<=x1):x0+(x1-x0)=x1:=by lia
theorem O536 (_:x0+(16:Nat)*(x1+1)+200<x2):x0+3+(16:Nat)*x1+200<x2:=by lia
theorem O537 (_:x0+(3:Nat)*(x1+1)+5<x2):x0+1+(3:Nat)*x1+5<x2:=by lia
theorem O538 {x0 x1 x2:Nat} (h0:x1=16777216) (h1:x2<=x1) (h2:x2=x0):((x0:Nat):Int)<((2:Int) ^ 63):=by lia
theorem O539 {x0 x1:Nat} (h0:x1=16777216) (h1:x0<=x1):¬(((x0:Nat):Int) ≥ ((2:Int) ^ 63)):=by lia
theorem O540 (_:(0:Int)<y0):(0:Int)<=y0:=by lia
theorem O541 (_:(0:Int)<y0) (_:y0<(1073741824:Int)):(0:Int)<=y0:=by lia
theorem O542 (_:(0:Int)<y0) (_:y0<(1073741824:Int)):y0≠(0:Int):=by lia
end

namespace _L
open PySem PySem.Spec PyProof.Rows
noncomputable abbrev Key:=Sum Int Str
noncomputable def ZdR:Key->Value->Bool
 | .inl k,v=>Value.isInt k v
 | .inr x,v=>Value.isStrOf x v
noncomputable def Zn9 (w:World):Key->Int
 | .inl k=>hashInt k
 | .inr x=>hashStr w x
theorem Yb:∀ {k:Key} {v:Value},ZdR k v=true->(∃ i t,k=Sum.inl i/\v=Value.int i t)\/(∃ x t,k=Sum.inr x/\v=Value.str x t)
 | .inl i,v,h=>by
  obtain ⟨t,e⟩:=Value.isInt_shape (k:=i) (v:=v) h;exact .inl ⟨i,t,rfl,e⟩
 | .inr x,v,h=>by
  obtain ⟨t,e⟩:=Value.isStrOf_shape (x:=x) (v:=v) h;exact .inr ⟨x,t,rfl,e⟩
theorem Zir (i:Int) (t:Tok):ZdR (.inl i) (.int i t)=true:=by simp [ZdR,Value.isInt]
theorem Ziq (x:Str) (t:Tok):ZdR (.inr x) (.str x t)=true:=by simp [ZdR,Value.isStrOf]
theorem ZmD (a b:Int):decide ((Sum.inl a:Key)=Sum.inl b)=(a==b):=by
 by_cases e:a=b
 ·subst e; simp
 ·have h:¬ (Sum.inl a:Key)=Sum.inl b:=fun q=>e (Sum.inl.inj q)
  rw [QZi h];exact (beq_eq_false_iff_ne.mpr e).symm
theorem ZmA (a b:Str):decide ((Sum.inr a:Key)=Sum.inr b)=decide (a=b):=by
 by_cases e:a=b
 ·subst e; simp
 ·have h:¬ (Sum.inr a:Key)=Sum.inr b:=fun q=>e (Sum.inr.inj q)
  rw [QZi h,QZi e]
theorem ZmC (a:Int) (b:Str):decide ((Sum.inl a:Key)=Sum.inr b)=false:=QZi (fun q=>nomatch q)
theorem ZmB (a:Str) (b:Int):decide ((Sum.inr a:Key)=Sum.inl b)=false:=QZi (fun q=>nomatch q)
noncomputable def ZZ (prog:Program) (w:World):PySem.KeyKind prog w Key where
 is:=ZdR
 hash:=Zn9 w
 inj:=fun v a b ha hb=>by
  rcases Yb ha with ⟨i,t,rfl,rfl⟩ | ⟨x,t,rfl,rfl⟩
  ·rcases Yb hb with ⟨j,u,rfl,e⟩ | ⟨y,u,rfl,e⟩
   ·injection e with e1 _; rw [e1]
   ·exact nomatch e
  ·rcases Yb hb with ⟨j,u,rfl,e⟩ | ⟨y,u,rfl,e⟩
   ·exact nomatch e
   ·injection e with e1 _; rw [e1]
 byValue:=fun k v h=>by
  rcases Yb h with ⟨i,t,rfl,rfl⟩ | ⟨x,t,rfl,rfl⟩ <;> rfl
 pyHash:=fun hv h=>by
  rcases Yb hv with ⟨i,t,rfl,rfl⟩ | ⟨x,t,rfl,rfl⟩
  ·exact wpAny_pyHash_int h
  ·exact wpAny_pyHash_str h
 eqBool:=fun hu hv h=>by
  rcases Yb hu with ⟨i,t,rfl,rfl⟩ | ⟨x,t,rfl,rfl⟩
  ·rcases Yb hv with ⟨j,u,rfl,rfl⟩ | ⟨y,u,rfl,rfl⟩
   ·rw [ZmD] at h; exact wpAny_eqBool_int h
   ·rw [ZmC] at h; exact SeqAt.EqAt.int_str i t y u _ _ _ _ h
  ·rcases Yb hv with ⟨j,u,rfl,rfl⟩ | ⟨y,u,rfl,rfl⟩
   ·rw [ZmB] at h; exact SeqAt.EqAt.str_int x t j u _ _ _ _ h
   ·rw [ZmA] at h; exact wpAny_eqBool_str h
 «strs»:=fun k x t v h=>by
  rcases Yb h with ⟨i,u,rfl,e⟩ | ⟨y,u,rfl,e⟩
  ·exact nomatch e
  ·injection e with e1 _
   subst e1
   cases v <;> rfl
theorem Zfl (prog:Program) (w:World) (i:Int) (t:Tok):(ZZ prog w).is (.inl i) (.int i t)=true:=Zir i t
theorem Zfk (prog:Program) (w:World) (x:Str) (t:Tok):(ZZ prog w).is (.inr x) (.str x t)=true:=Ziq x t
inductive V where
 | non | bl (b:Bool) | int (i:Int) | str (x:Str) | byt (b:Array UInt8) | flt (b:UInt64) | ref (a:Addr) | ty (n:String)
 deriving DecidableEq
def RelV:V->Value->Prop
 | .non,u=>u=Value.none
 | .bl b,u=>u=Value.bool b
 | .int i,u=>∃ t,u=Value.int i t
 | .str x,u=>∃ t,u=Value.str x t
 | .byt b,u=>∃ t,u=Value.bytes b t
 | .flt b,u=>∃ t,u=Value.float b t
 | .ref a,u=>u=Value.ref a
 | .ty n,u=>u=Value.type n
noncomputable abbrev Vals:List V->List Value->Prop:=Paired RelV
theorem Vals.length {xs:List V} {us:List Value} (r:Vals xs us):xs.length=us.length:=Paired.length r
theorem Vals.get:∀ {xs:List V} {us:List Value} {i:Nat} {x:V},Vals xs us->xs[i]? = some x->∃ u,us[i]? = some u/\RelV x u
 | _,_,_,_,.nil,e=>by simp at e
 | _,_,0,_,.cons r _,e=>by simp at e; subst e; exact ⟨_,rfl,r⟩
 | _,_,i+1,x,.cons _ t,e=>by
  obtain ⟨u,h1,h2⟩:=Vals.get (i:=i) (x:=x) t (by simpa using e);exact ⟨u,by simpa using h1,h2⟩
theorem Vals.set {x:V} {u:Value} (r:RelV x u):∀ {xs:List V} {us:List Value} (i:Nat),Vals xs us->Vals (xs.set i x) (us.set i u)
 | _,_,_,.nil=>.nil
 | _,_,0,.cons _ t=>.cons r t
 | _,_,i+1,.cons q t=>.cons q (Vals.set r i t)
theorem Vals.append:∀ {xs ys:List V} {us ws:List Value},Vals xs us->Vals ys ws->Vals (xs++ys) (us++ws)
 | _,_,_,_,.nil,s=>s
 | _,_,_,_,.cons r t,s=>.cons r (Vals.append t s)
theorem Vals.take:∀ {xs:List V} {us:List Value} (n:Nat),Vals xs us->Vals (xs.take n) (us.take n)
 | _,_,0,_=>.nil
 | _,_,_+1,.nil=>.nil
 | _,_,n+1,.cons r t=>.cons r (Vals.take n t)
theorem Vals.drop:∀ {xs:List V} {us:List Value} (n:Nat),Vals xs us->Vals (xs.drop n) (us.drop n)
 | _,_,0,r=>r
 | _,_,_+1,.nil=>.nil
 | _,_,n+1,.cons _ t=>Vals.drop n t
def RelO:Option V->Option Value->Prop
 | some v,some u=>RelV v u
 | none,none=>True
 | _,_=>False
noncomputable def KV {κ:Type}:List (κ × V)->List (κ × Value)->Prop:=Paired fun (p:κ × V) (q:κ × Value)=>p.1=q.1/\RelV p.2 q.2
noncomputable def kV:Key->V
 | .inl i=>.int i
 | .inr x=>.str x
inductive HO where
  | lst (xs:List V)
  | tup (xs:List V)
  | dK (kvs:List (Key × V)) | dT (kvs:List (List Key × V))
  | set (S:Int->Bool) (n:Nat)
  | ins (C dx:Addr) (fs:List (Str × V))
  | own (x:Addr)
  | xd (fs:List (Str × V))
  | met (f x:Addr)
  | rng (lo hi:Int)
  | frz (o:Obj) (u:HO)
  | tbl (ps:Array Value)
  | ext (φ:Heap->Prop)
noncomputable abbrev Hp:=Addr->Option HO
noncomputable def upd (H:Hp) (a:Addr) (o:HO):Hp:=fun b=>if b=a then some o else H b
theorem Zb {H:Hp} {a:Addr} {o:HO}:upd H a o a=some o:=by unfold upd; rw [if_pos rfl]
theorem Ze {H:Hp} {a b:Addr} {o:HO} (h:b≠a):upd H a o b=H b:=by unfold upd; rw [if_neg h]
theorem YE {H:Hp} {a b:Addr} {o u:HO} (h:H a=some o) (h':H b=some u) (d:o≠u):a≠b:=by
 intro e; subst e; rw [h] at h'; exact d (QZl h')
theorem Zg {H:Hp} {a b:Addr} {o:HO} (h:H a=some o) (h':H b=none):a≠b:=by
 intro e; subst e; rw [h] at h'; cases h'
def IsTupN (h:Heap) (a:Addr) (items:Array Value):Prop:=∃ o,h.get? a=some o/\o.cls = .type "tuple" /\ ∃ n,(o.data,o.dict)=(.seq items n,none)
theorem IsTupN.is {h:Heap} {a:Addr} {items:Array Value} (x:IsTupN h a items):IsTup h a items:=let ⟨o,g,c,n,e⟩:=x; ⟨o,g,c,n,congrArg Prod.fst e⟩
theorem IsTupN.bare {h:Heap} {a:Addr} {items:Array Value} (x:IsTupN h a items):∃ o,h.get? a=some o/\o.dict=none:=let ⟨o,g,_,_,e⟩:=x; ⟨o,g,congrArg Prod.snd e⟩
theorem IsTupN.new (h:Heap) (items:Array Value):IsTupN (h.push { cls:=.type "tuple",data:=.seq items }) h.objs.size items:=⟨_,QBa _ rfl,rfl,_,rfl⟩
section
variable (P:Program) (w:World)
def ObjOk (H:Hp) (h:Heap) (a:Addr):HO->Prop
 | .lst xs=>xs.length<=sizeLine/\∃ (its:List Value) (n:Nat),Vals xs its/\h.get? a=some { cls:=.type "list",data:=.seq its.toArray n }
 | .tup xs=>xs.length<=sizeLine/\∃ its:List Value,Vals xs its/\IsTupN h a its.toArray
 | .dK kvs=>kvs.length<=sizeLine/\(a==sysModules)=false/\∃ vs,KV kvs vs/\h.DictOf (ZZ P w) a vs
 | .dT kvs=>kvs.length<=sizeLine/\(a==sysModules)=false/\∃ xs:List (List Key × Addr × Value),
   Paired (fun (p:List Key × V) (q:List Key × Addr × Value)=>p.1=q.1/\H q.2.1=some (.tup (p.1.map kV))/\RelV p.2 q.2.2) kvs xs /\
   ∃ o es ep,h.get? a=some o/\o.ExactDict/\o.data = .dict es ep/\es.toList=xs.map (entryOfKey (tupleKind (ZZ P w)))/\(xs.map (·.1)).Nodup
 | .set S n=>h.SetOf (intKind P w) a S n
 | .ins C dx fs=>H dx=some (.own a)/\fs.length<=1000/\dx≠a/\h.get? a=some (PySem.W.instObj C dx) /\
   ∃ mA,h.Ns1 dx mA/\(∀ f,RelO (fs.lookup f) (mA f))/\PySem.Within mA (fs.map (·.1))
 | .own _=>∃ o,h.get? a=some o
 | .xd fs=>∃ mA,h.Ns1 a mA/\∀ f,RelO (fs.lookup f) (mA f)
 | .rng lo hi=>∃ t u v,h.get? a=some { cls:=.type "range",data:=.fields #[.int lo t,.int hi u,.int 1 v] }
 | .frz o u=>h.get? a=some o/\ObjOk H h a u
 | .tbl ps=>∃ qs:Array Value,h.get? a=some { cls:=.none,data:=.fields qs }/\TriplesOk qs.toList/\∀ pos cv,codeAmong pos qs.toList=some cv->∃ (c':Addr) (oc:Obj) (vs:Array Value) (q:Str) (t:Tok),cv = .ref c'/\H c'=some (.own a)/\h.get? c'=some oc/\oc.data = .fields vs/\vs[1]? = some (.str q t)/\ps = #[.str q 0]
 | .met f x=>h.get? a=some (PySem.W.methodObj (.ref f) (.ref x))
 | .ext φ=>φ h/\(∃ o,h.get? a=some o)/\∀ h1 h2:Heap,φ h1->(∀ o,h1.get? a=some o->h2.get? a=some o)->φ h2
def HOk (H:Hp) (h:Heap):Prop:=∀ a o,H a=some o->ObjOk P w H h a o
end
section
variable {P:Program} {w:World} {H H':Hp} {h h':Heap} {a:Addr} {o:HO}
theorem ObjOk.lt (x:ObjOk P w H h a o):a<h.objs.size:=by
 cases o with
 | lst xs=>obtain ⟨_,_,_,_,e⟩:=x; exact QAh e
 | tup xs=>obtain ⟨_,_,_,p⟩:=x; exact IsTup.lt (IsTupN.is p)
 | dK kvs=>obtain ⟨_,_,_,_,o,_,_,e,_⟩:=x; exact QAh e
 | dT kvs=>obtain ⟨_,_,_,_,o,_,_,e,_⟩:=x; exact QAh e
 | set S n=>obtain ⟨o,_,_,_,e,_⟩:=x; exact QAh e
 | ins C dx fs=>obtain ⟨_,_,_,e,_⟩:=x; exact QAh e
 | own y=>obtain ⟨_,e⟩:=x; exact QAh e
 | xd fs=>obtain ⟨_,⟨_,_,_,e,_⟩,_⟩:=x; exact QAh e
 | rng lo hi=>obtain ⟨_,_,_,e⟩:=x; exact QAh e
 | frz ob u=>obtain ⟨e,_⟩:=x; exact QAh e
 | tbl ps=>obtain ⟨_,e,_⟩:=x; exact QAh e
 | met f y=>exact QAh (show h.get? a=some _ from x)
 | ext φ=>obtain ⟨_,⟨_,e⟩,_⟩:=x; exact QAh e
theorem Paired.mapP {α β:Type} {F G:α->β->Prop}:∀ {l₁:List α} {l₂:List β},Paired F l₁ l₂->(∀ a b,F a b->G a b)->Paired G l₁ l₂
 | _,_,.nil,_=>.nil
 | _,_,.cons r t,f=>.cons (f _ _ r) (Paired.mapP t f)
theorem ObjOk.stay (x:ObjOk P w H h a o) (k:∀ b u,(b=a\/H b=some (.own a))->h.get? b=some u->h'.get? b=some u)
  (ho:∀ b,H b=some (.own a)->H' b=some (.own a)) (ht:∀ b xs,H b=some (.tup xs)->H' b=some (.tup xs)):ObjOk P w H' h' a o:=by
 induction o with
 | lst xs=>obtain ⟨z,its,n,r,e⟩:=x; exact ⟨z,its,n,r,k _ _ (.inl rfl) e⟩
 | tup xs=>obtain ⟨z,its,r,ob,e,c⟩:=x; exact ⟨z,its,r,ob,k _ _ (.inl rfl) e,c⟩
 | dK kvs=>obtain ⟨z,y,vs,r,ob,es,ep,e,c⟩:=x; exact ⟨z,y,vs,r,ob,es,ep,k _ _ (.inl rfl) e,c⟩
 | dT kvs =>
  obtain ⟨z,y,xs,r,ob,es,ep,e,c⟩:=x;exact ⟨z,y,xs,Paired.mapP r fun p q z=>⟨z.1,ht _ _ z.2.1,z.2.2⟩,ob,es,ep,k _ _ (.inl rfl) e,c⟩
 | set S n=>obtain ⟨ob,es,ep,t,e,c⟩:=x; exact ⟨ob,es,ep,t,k _ _ (.inl rfl) e,c⟩
 | ins C dx fs =>
  obtain ⟨d,z,ne,e,mA,⟨od,es,ep,e2,c⟩,r⟩:=x;exact ⟨ho _ d,z,ne,k _ _ (.inl rfl) e,mA,⟨od,es,ep,k _ _ (.inr d) e2,c⟩,r⟩
 | own y=>obtain ⟨ob,e⟩:=x; exact ⟨ob,k _ _ (.inl rfl) e⟩
 | xd fs=>obtain ⟨mA,⟨od,es,ep,e,c⟩,r⟩:=x; exact ⟨mA,⟨od,es,ep,k _ _ (.inl rfl) e,c⟩,r⟩
 | rng lo hi=>obtain ⟨t,u,v,e⟩:=x; exact ⟨t,u,v,k _ _ (.inl rfl) e⟩
 | frz ob u ih=>obtain ⟨e,q⟩:=x; exact ⟨k _ _ (.inl rfl) e,ih q⟩
 | tbl ps =>
  obtain ⟨qs,e,tr,al⟩:=x;refine ⟨qs,k a _ (.inl rfl) e,tr,fun pos cv hq=>?_⟩;obtain ⟨c',oc,vs,q,t,e1,e2,e3,r⟩:=al pos cv hq;exact ⟨c',oc,vs,q,t,e1,ho _ e2,k _ _ (.inr e2) e3,r⟩
 | met f y =>
  have e:h.get? a=some (PySem.W.methodObj (.ref f) (.ref y)):=x;show h'.get? a=some (PySem.W.methodObj (.ref f) (.ref y));exact k a _ (.inl rfl) e
 | ext φ=>obtain ⟨p,⟨o,e⟩,st⟩:=x; exact ⟨st _ _ p fun o q=>k _ _ (.inl rfl) q,⟨o,k _ _ (.inl rfl) e⟩,st⟩
theorem HOk.lt (x:HOk P w H h) (e:H a=some o):a<h.objs.size:=(x a o e).lt
theorem HOk.fresh (x:HOk P w H h) (e:h.objs.size<=a):H a=none:=by
 cases q:H a with
 | none=>rfl
 | some u=>exact absurd (QBb (x.lt q) e) (QBx _)
theorem HOk.kept (x:HOk P w H h) (k:∀ b u,h.get? b=some u->h'.get? b=some u):HOk P w H h':=fun a o e =>
 (x a o e).stay (fun b u _ q=>k b u q) (fun _ q=>q) fun _ _ q=>q
theorem HOk.laid (x:HOk P w H h) (k:∀ b u,h.get? b=some u->h'.get? b=some u) (hp:h.objs.size<=a) (new:ObjOk P w (upd H a o) h' a o):HOk P w (upd H a o) h':=fun b u e=>by
 have hn:=x.fresh hp
 by_cases hb:b=a
 ·subst hb; rw [Zb] at e; cases e; exact new
 ·rw [Ze hb] at e;exact (x b u e).stay (fun c v _ q=>k c v q) (fun c q=>by rw [Ze (Zg q hn)]; exact q) fun c xs q=>by rw [Ze (Zg q hn)]; exact q
end
def Rd (H:Hp) (a:Addr) (u:HO):Prop:=H a=some u\/∃ o,H a=some (.frz o u)
theorem Rd.ok {P:Program} {w:World} {H:Hp} {h:Heap} {a:Addr} {u:HO} (r:Rd H a u) (x:HOk P w H h):ObjOk P w H h a u:=by
 rcases r with r | ⟨o,r⟩
 ·exact x a u r
 ·obtain ⟨_,q⟩:=x a _ r;exact q
def Mut:Option HO->Prop
 | some (.lst _)=>True
 | some (.dK _)=>True
 | some (.dT _)=>True
 | some (.set _ _)=>True
 | some (.ins _ _ _)=>True
 | some (.ext _)=>True
 | _=>False
section
variable {P:Program} {w:World} {H:Hp} {h h':Heap} {x e:Addr} {o':HO}
theorem HOk.write (ok:HOk P w H h) (mu:Mut (H x)) (he:e=x\/H e=some (.own x)) (k:∀ b u,b≠e->h.get? b=some u->h'.get? b=some u) (heo:∃ u,h'.get? e=some u)
  (new:ObjOk P w (upd H x o') h' x o'):HOk P w (upd H x o') h':=fun b u q=>by
 have nown:∀ c y,H c=some (.own y)->c≠x:=fun c y r z=>by subst z; rw [r] at mu; exact mu
 have ntup:∀ c xs,H c=some (.tup xs)->c≠x:=fun c xs r z=>by subst z; rw [r] at mu; exact mu
 by_cases hb:b=x
 ·subst hb; rw [Zb] at q; cases q; exact new
 ·rw [Ze hb] at q
  by_cases hbe:b=e
  ·have q':H b=some (.own x):=by
    rcases he with z | z
    ·exact absurd (hbe.trans z) hb
    ·rw [hbe]; exact z
   rw [q] at q'; cases q';obtain ⟨v,hv⟩:=heo;exact ⟨v,by rw [hbe]; exact hv⟩
  ·refine (ok b u q).stay (fun c v hc r=>k c v ?_ r) (fun c r=>by rw [Ze (nown c b r)]; exact r) fun c xs r=>by rw [Ze (ntup c xs r)]; exact r
   rcases hc with rfl | hc
   ·exact hbe
   ·rintro rfl
    rcases he with z | z
    ·exact nown c b hc z
    ·rw [hc] at z; cases z; exact hb rfl
end
structure Un (fs ex:List Addr) (H H':Hp) (h h':Heap):Prop where
 keep:∀ b o,h.get? b=some o->H b=none->b∉fs->b∉ex->h'.get? b=some o
 slot:∀ b o,h.get? b=some o->H b=none->b∈fs->b∉ex->∃ sl,h'.get? b=some { o with slots:=sl }
 free:∀ b o,h.get? b=some o->H b=none->b∉ex->H' b=none
 there:∀ b o,h.get? b=some o->b∉ex->∃ o',h'.get? b=some o'
 tups:∀ b xs,H b=some (.tup xs)->H' b=some (.tup xs)
 frzs:∀ b o u,H b=some (.frz o u)->H' b=some (.frz o u)
 tbls:∀ b ps,H b=some (.tbl ps)->∃ more,H' b=some (.tbl (ps++more))
section
variable {fs fs' ex ex':List Addr} {H H1 H2:Hp} {h h1 h2 h':Heap} {a x e:Addr} {o:HO}
theorem Un.any (u:Un fs ex H H1 h h1) {b:Addr} {ob:Obj} (q:h.get? b=some ob) (n:H b=none) (hx:b∉ex):∃ sl,h1.get? b=some { ob with slots:=sl }:=by
 by_cases hb:b∈fs
 ·exact u.slot b ob q n hb hx
 ·exact ⟨ob.slots,u.keep b ob q n hb hx⟩
theorem Un.kept (k:∀ b u,h.get? b=some u->h'.get? b=some u):Un fs ex H H h h' :=
 ⟨fun b ob q _ _ _=>k b ob q,fun b ob q _ _ _=>⟨ob.slots,k b ob q⟩,fun _ _ _ n _=>n,fun b ob q _=>⟨ob,k b ob q⟩,fun _ _ q=>q,fun _ _ _ q=>q,fun _ ps q=>⟨#[],by rw [q]; simp⟩⟩
theorem Un.refl:Un fs ex H H h h:=Un.kept fun _ _ q=>q
theorem Un.laid (k:∀ b u,h.get? b=some u->h'.get? b=some u) (hp:h.objs.size<=a) (hn:H a=none):Un fs ex H (upd H a o) h h' where
 keep:=fun b u q _ _ _=>k b u q
 slot:=fun b u q _ _ _=>⟨u.slots,k b u q⟩
 free:=fun b u q n _=>by rw [Ze (QAy (QBb (QAh q) hp))]; exact n
 there:=fun b u q _=>⟨u,k b u q⟩
 tups:=fun b xs q=>by rw [Ze (Zg q hn)]; exact q
 frzs:=fun b u xs q=>by rw [Ze (Zg q hn)]; exact q
 tbls:=fun b ps q=>⟨#[],by rw [Ze (Zg q hn),q]; simp⟩
theorem Un.write (mu:Mut (H x)) (he:e=x\/H e=some (.own x)) (k:∀ b u,b≠e->h.get? b=some u->h'.get? b=some u) (heo:∃ u,h'.get? e=some u):Un fs ex H (upd H x o) h h':=by
 have hx:∀ b,H b=none->b≠x:=fun b n z=>by subst z; rw [n] at mu; exact mu
 have hb:∀ b,H b=none->b≠e:=fun b n z=>by
  subst z
  rcases he with r | r
  ·exact hx b n r
  ·rw [n] at r; cases r
 have hm:∀ b u,H b=some u->¬ Mut (some u)->b≠x:=fun b u q nm z=>by subst z; rw [q] at mu; exact nm mu
 refine ⟨fun b u q n _ _=>k b u (hb b n) q,fun b u q n _ _=>⟨u.slots,k b u (hb b n) q⟩,fun b u q n _=>by rw [Ze (hx b n)]; exact n,fun b u q _=>?_,
  fun b xs q=>by rw [Ze (hm b _ q fun z=>z)]; exact q,fun b u xs q=>by rw [Ze (hm b _ q fun z=>z)]; exact q,fun b ps q=>⟨#[],by rw [Ze (hm b _ q fun z=>z),q]; simp⟩⟩
 by_cases hbe:b=e
 ·subst hbe; exact heo
 ·exact ⟨u,k b u hbe q⟩
end
noncomputable def trk (h:Heap) (H:Hp):List Addr:=(List.range h.objs.size).filter fun a=>(H a).isSome
noncomputable def ZeJ (h:Heap) (H:Hp):Heap:=PySem.W.hideAll h (trk h H)
theorem Ziu (h:Heap) (H:Hp):(ZeJ h H).objs.size=h.objs.size:=PySem.W.hideAll_size _ _
theorem ZjK {h:Heap} {H:Hp} {b:Addr} {o:Obj} (e:h.get? b=some o) (n:H b=none):(ZeJ h H).get? b=some o :=
 PySem.W.hideAll_get _ e fun hm=>by
  have q:(H b).isSome=true:=(QZo.mp hm).2;rw [n] at q; simp at q
theorem ZkQ {h:Heap} {H:Hp} {b:Addr} {o:Obj} (e:(ZeJ h H).get? b=some o):h.get? b=some o/\H b=none:=by
 have e':h.get? b=some o:=PySem.W.of_hideAll (trk h H) e;refine ⟨e',?_⟩
 cases q:H b with
 | none=>rfl
 | some x =>
  have hm:b∈trk h H:=QZo.mpr ⟨QZe.mpr (QAh e'),by simp [q]⟩;have z:(ZeJ h H).get? b=none:=PySem.W.hideAll_none (trk h H) hm;rw [z] at e; cases e
structure Mod (K:QZa) (mg:Str->Option Value) (base:Heap):Prop where
 kin:K.In base
 glob:base.Ns mainGlobals mg
 blt:∃ mb,base.Ns builtinsNs mb/\∀ x:Str,x ≠ "__name__" -> mb x=bootBuiltins x
 nolimit:base.NoLimit
structure Cx where
 prog:Program
 w:World
 K:QZa
 mg:Str->Option Value
 base:Heap
 A:Around
 N:List Str
 s₀:Shared
 H₀:Hp
 env:Env
 outer:List Env
 stack:List Env
 ex:List Addr
 fn:Str->Bool
 calm:Bool
 pn:List (Addr × Obj)
 xe:Value->Shared->Prop
noncomputable def frs (l:List Env):List Addr:=l.filterMap (·.frame)
noncomputable abbrev Cx.fs (X:Cx):List Addr:=frs X.outer
def Vis (sc:Scope) (x:Str):Prop:=sc.names.lookup x=some .local\/sc.names.lookup x=some .cell\/sc.names.lookup x=some .free
def Loc (sc:Scope) (x:Str):Prop:=sc.names.lookup x=some .local\/sc.names.lookup x=some .cell
def Zoh (env:Env) (h:Heap) (m:Str->Option Value) (x:Str) (u:Value):Prop :=
 (env.kindOf x=some .local/\m x=some u)\/((env.kindOf x=some .cell\/env.kindOf x=some .free)/\∃ c,env.cells.lookup x=some c/\h.IsCell c (some u))
structure Cx.Ok (X:Cx):Prop where
 mod:Mod X.K X.mg X.base
 kind:X.env.scope.kind = .function
 glob:X.env.globals=mainGlobals
 blt:X.env.builtins=builtinsNs
 above:X.s₀.heap.objs.size<=X.env.locals
 inj:∀ x y c,X.env.cells.lookup x=some c->X.env.cells.lookup y=some c->x=y
 has:∀ x,(X.env.kindOf x=some .cell\/X.env.kindOf x=some .free)->∃ c,X.env.cells.lookup x=some c
 cab:∀ x c,X.fn x=true->X.env.cells.lookup x=some c->X.s₀.heap.objs.size<=c
 hd:X.calm=true->X.A.handled=none
 frames:X.A.frames=some X.stack
 stk:X.stack=X.outer\/(X.stack=X.env::X.outer/\X.env.frame=some X.env.locals)
 exf:∀ b∈X.ex,b≠X.env.locals/\∀ x c,X.env.cells.lookup x=some c->c≠b
 bs:∀ b o,X.base.get? b=some o->X.s₀.heap.get? b=some o/\X.H₀ b=none
 bsz:X.base.objs.size<=X.s₀.heap.objs.size
 noex:∀ b o,X.base.get? b=some o->b∉X.ex
 exfs:∀ b∈X.ex,b∉X.fs
 funs:X.s₀.heap.FunFrames X.base X.outer
 frf:∀ b∈X.fs,X.H₀ b=none
structure Inv (X:Cx) (pins:List (Addr × Obj)) (σ:List (Option V)) (H:Hp) (s:Shared):Prop where
 ok:X.Ok
 os:s.os=X.s₀.os
 bare:AllBare s.gens
 base:Un X.fs X.ex X.H₀ H X.s₀.heap s.heap
 loc:∃ m,s.heap.Ns X.env.locals m/\∀ (i:Nat) (x:Str) (v:V),X.N[i]? = some x->σ[i]? = some (some v)->Vis X.env.scope x->∃ u,RelV v u/\Zoh X.env s.heap m x u
 cell:∀ x c,X.env.cells.lookup x=some c->∃ v,s.heap.IsCell c v
 free:H X.env.locals=none
 freeC:∀ x c,X.env.cells.lookup x=some c->H c=none
 pin:∀ p∈X.pn++pins,s.heap.get? p.1=some p.2/\H p.1=none/\p.1≠X.env.locals/\p.1∉X.fs/\∀ v,p.2.data ≠ .cell v
 hok:HOk X.prog X.w H s.heap
 len:σ.length=X.N.length
section
variable {X:Cx} {pins:List (Addr × Obj)} {σ:List (Option V)} {H H':Hp} {s:Shared} {h':Heap}
theorem Cx.Ok.nofr (ok:X.Ok) {b:Addr} {o:Obj} (e:X.base.get? b=some o):b∉X.fs:=fun hb=>by
 have:=(ok.funs.mem hb).1;rw [e] at this; cases this
theorem Inv.bs (I:Inv X pins σ H s):∀ b o,X.base.get? b=some o->s.heap.get? b=some o/\H b=none:=fun b o e =>
 ⟨I.base.keep b o (I.ok.bs b o e).1 (I.ok.bs b o e).2 (I.ok.nofr e) (I.ok.noex b o e),I.base.free b o (I.ok.bs b o e).1 (I.ok.bs b o e).2 (I.ok.noex b o e)⟩
theorem Inv.bk (I:Inv X pins σ H s):∀ b o,X.base.get? b=some o->s.heap.get? b=some o:=fun b o e=>(I.bs b o e).1
theorem Inv.mod (I:Inv X pins σ H s):Mod X.K X.mg X.base:=I.ok.mod
theorem Inv.kIn (I:Inv X pins σ H s):X.K.In s.heap:=I.ok.mod.kin.keeps I.bk
theorem Inv.lt (I:Inv X pins σ H s):X.env.locals<s.heap.objs.size:=let ⟨_,hn,_⟩:=I.loc; hn.lt
theorem Inv.sz (I:Inv X pins σ H s):X.s₀.heap.objs.size<=s.heap.objs.size:=QAr I.ok.above (QCa I.lt)
theorem Inv.nofs (I:Inv X pins σ H s) {a:Addr} (h:s.heap.objs.size<=a):a∉X.fs:=fun hb=>by
 obtain ⟨_,o,ho,_⟩:=I.ok.funs.mem hb;exact absurd (QBb (QAh ho) (QAr I.sz h)) (QBx _)
theorem Inv.cne (I:Inv X pins σ H s):∀ x c,X.env.cells.lookup x=some c->c≠X.env.locals:=fun x c e z=>by
 obtain ⟨v,o,ho,hd⟩:=I.cell x c e;obtain ⟨m,⟨o',es,ep,ho',hd',_⟩,_⟩:=I.loc;rw [z,ho'] at ho; cases ho; rw [hd'] at hd; cases hd
theorem Inv.funs (I:Inv X pins σ H s):s.heap.FunFrames X.base X.outer:=by
 have all:∀ (l:List Env),(∀ b∈frs l,b∈X.fs)->X.s₀.heap.FunFrames X.base l->s.heap.FunFrames X.base l:=by
  intro l
  induction l with
  | nil=>intro _ _; trivial
  | cons env r ih =>
   intro hs hl;obtain ⟨hk,⟨L,o,hf,hn,ho,hd⟩,hr⟩:=hl;have hL:L∈X.fs:=hs L (by unfold frs; rw [QCi,hf]; exact QAj);obtain ⟨sl,e⟩:=I.base.slot L o ho (I.ok.frf L hL) hL fun z=>I.ok.exfs L z hL
   exact ⟨hk,⟨L,_,hf,hn,e,hd⟩,ih (fun b hb=>hs b (by unfold frs; rw [QCi,hf]; exact QAp _ hb)) hr⟩
 exact all X.outer (fun _ hb=>hb) I.ok.funs
theorem Inv.stack (I:Inv X pins σ H s):s.heap.FunFrames X.base X.stack:=by
 rcases I.ok.stk with e | ⟨e,hf⟩
 ·rw [e]; exact I.funs
 ·rw [e];obtain ⟨m,hn,_⟩:=I.loc;refine .cons (by rw [I.ok.kind]; decide) hf hn ?_ I.funs;exact Heap.get?_none_of_le (QAr I.ok.bsz I.ok.above)
theorem Inv.stkSub (I:Inv X pins σ H s):∀ b∈frs X.stack,b∈X.env.locals::X.fs:=fun b hb=>by
 rcases I.ok.stk with e | ⟨e,hf⟩
 ·rw [e] at hb; exact QAp _ hb
 ·rw [e] at hb;unfold frs at hb;rw [QCi,hf] at hb;exact hb
theorem Inv.stkFree (I:Inv X pins σ H s):∀ b∈frs X.stack,H b=none:=fun b hb=>by
 rcases QZn.mp (I.stkSub b hb) with e | hb
 ·rw [e]; exact I.free
 ·obtain ⟨_,o,ho,_⟩:=I.ok.funs.mem hb;exact I.base.free b o ho (I.ok.frf b hb) fun z=>I.ok.exfs b z hb
theorem Inv.step {g':Array GenState} {t':Nat} {d':Drawn} {ch:List Addr} (I:Inv X pins σ H s)
  (hch:∀ b∈ch,(b∈X.ex\/X.s₀.heap.objs.size<=b)/\b≠X.env.locals/\(∀ x c,X.env.cells.lookup x=some c->c≠b)/\∀ p∈X.pn++pins,p.1≠b)
  (keep:∀ b o,b≠X.env.locals->b∉X.fs->b∉ch->s.heap.get? b=some o->H b=none->h'.get? b=some o)
  (slot:∀ b o,b≠X.env.locals->b∈X.fs->b∉ch->s.heap.get? b=some o->H b=none->∃ sl,h'.get? b=some { o with slots:=sl }) (free:∀ b o,b∉ch->s.heap.get? b=some o->H b=none->H' b=none)
  (there:∀ b o,b∉ch->s.heap.get? b=some o->∃ o',h'.get? b=some o')
  (tups:∀ b xs,H b=some (.tup xs)->H' b=some (.tup xs)) (frzs:∀ b o u,H b=some (.frz o u)->H' b=some (.frz o u)) (tbls:∀ b ps,H b=some (.tbl ps)->∃ more,H' b=some (.tbl (ps++more)))
  (ns:∀ m,s.heap.Ns X.env.locals m->h'.Ns X.env.locals m) (hok:HOk X.prog X.w H' h') (hg:AllBare g') :
  Inv X pins σ H' { s with heap:=h',gens:=g',drawn:=d',toks:=t' }:=by
 have neL:∀ b o,X.s₀.heap.get? b=some o->b≠X.env.locals:=fun b o e=>QAy (QBb (QAh e) I.ok.above)
 have neC:∀ b o,X.s₀.heap.get? b=some o->b∉X.ex->b∉ch:=fun b o e hx hb=>by
  rcases (hch b hb).1 with z | z
  ·exact hx z
  ·exact absurd (QBb (QAh e) z) (QBx _)
 have cellK:∀ x c,X.env.cells.lookup x=some c->∀ v,s.heap.IsCell c v->h'.IsCell c v:=fun x c e v ⟨o,ho,hd⟩=>by
  have nch:c∉ch:=fun z=>(hch c z).2.2.1 x c e rfl
  by_cases hc:c∈X.fs
  ·obtain ⟨sl,q⟩:=slot c o (I.cne x c e) hc nch ho (I.freeC x c e);exact ⟨_,q,hd⟩
  ·exact ⟨o,keep c o (I.cne x c e) hc nch ho (I.freeC x c e),hd⟩
 refine ⟨I.ok,I.os,hg,⟨fun b o e n hb hx=>?_,fun b o e n hb hx=>?_,fun b o e n hx=>?_,fun b o e hx=>?_,fun b xs e=>tups b xs (I.base.tups b xs e),fun b o xs e=>frzs b o xs (I.base.frzs b o xs e),fun b ps e=>?_⟩,?_,fun x c e=>?_,?_,fun x c e=>?_,fun p hp=>?_,hok,I.len⟩
 ·exact keep b o (neL b o e) hb (neC b o e hx) (I.base.keep b o e n hb hx) (I.base.free b o e n hx)
 ·obtain ⟨sl,e1⟩:=I.base.slot b o e n hb hx;obtain ⟨sl',e2⟩:=slot b _ (neL b o e) hb (neC b o e hx) e1 (I.base.free b o e n hx);exact ⟨sl',e2⟩
 ·obtain ⟨o',e1⟩:=I.base.there b o e hx;exact free b o' (neC b o e hx) e1 (I.base.free b o e n hx)
 ·obtain ⟨o',e1⟩:=I.base.there b o e hx;exact there b o' (neC b o e hx) e1
 ·obtain ⟨m1,e1⟩:=I.base.tbls b ps e;obtain ⟨m2,e2⟩:=tbls b _ e1;exact ⟨m1++m2,by rw [e2,Array.append_assoc]⟩
 ·obtain ⟨m,hn,hl⟩:=I.loc;refine ⟨m,ns m hn,fun i x v e1 e2 e3=>?_⟩;obtain ⟨u,r,l⟩:=hl i x v e1 e2 e3;refine ⟨u,r,?_⟩
  rcases l with l | ⟨k,c,e,z⟩
  ·exact .inl l
  ·exact .inr ⟨k,c,e,cellK x c e _ z⟩
 ·obtain ⟨v,z⟩:=I.cell x c e;exact ⟨v,cellK x c e v z⟩
 ·obtain ⟨m,⟨o,_,_,ho,_⟩,_⟩:=I.loc;exact free _ o (fun z=>(hch _ z).2.1 rfl) ho I.free
 ·obtain ⟨v,o,ho,hd⟩:=I.cell x c e;exact free c o (fun z=>(hch c z).2.2.1 x c e rfl) ho (I.freeC x c e)
 ·obtain ⟨e,n,ne,nf,d⟩:=I.pin p hp;have nch:p.1∉ch:=fun z=>(hch p.1 z).2.2.2 p hp rfl
  exact ⟨keep p.1 p.2 ne nf nch e n,free p.1 p.2 nch e n,ne,nf,d⟩
theorem Inv.un {t':Nat} (I:Inv X pins σ H s) (u:Un X.fs [] H H' s.heap h') (hok:HOk X.prog X.w H' h'):Inv X pins σ H' { s with heap:=h',toks:=t' }:=by
 obtain ⟨m,⟨o,es,ep,ho,r⟩,_⟩:=id I.loc;obtain ⟨sl,hL⟩:=u.any ho I.free (by simp);exact I.step (g':=s.gens) (d':=s.drawn) (ch:=[]) (fun _ z=>nomatch z) (fun b o _ hb _ e n=>u.keep b o e n hb (by simp)) (fun b o _ hb _ e n=>u.slot b o e n hb (by simp)) (fun b o _ e n=>u.free b o e n (by simp)) (fun b o _ e=>u.there b o e (by simp)) u.tups u.frzs u.tbls (fun m' hm=>by
  obtain ⟨o',es',ep',ho',r'⟩:=hm;rw [ho] at ho'; cases ho';exact ⟨_,es',ep',hL,r'⟩) hok I.bare
theorem Inv.call {g':Array GenState} {t':Nat} {d':Drawn} {ch:List Addr} (I:Inv X pins σ H s) (u:Un (frs X.stack) ch H H' s.heap h') (hok:HOk X.prog X.w H' h') (hg:AllBare g')
  (hch:∀ b∈ch,(b∈X.ex\/X.s₀.heap.objs.size<=b)/\b≠X.env.locals/\(∀ x c,X.env.cells.lookup x=some c->c≠b)/\∀ p∈X.pn++pins,p.1≠b) :
  Inv X pins σ H' { s with heap:=h',gens:=g',drawn:=d',toks:=t' }:=by
 obtain ⟨m,⟨o,es,ep,ho,r⟩,_⟩:=id I.loc;obtain ⟨sl,hL⟩:=u.any ho I.free fun z=>(hch _ z).2.1 rfl
 exact I.step (ch:=ch) hch (fun b o hL hb hc e n=>u.keep b o e n (fun z=>(QZn.mp (I.stkSub b z)).elim hL hb) hc) (fun b o _ _ hc e n=>u.any e n hc) (fun b o hc e n=>u.free b o e n hc) (fun b o hc e=>u.there b o e hc) u.tups u.frzs u.tbls (fun m' hm=>by
  obtain ⟨o',es',ep',ho',r'⟩:=hm;rw [ho] at ho'; cases ho';exact ⟨_,es',ep',hL,r'⟩) hok hg
theorem Inv.turned {t':Nat} {it:Addr} (I:Inv X pins σ H s) (k:∀ b o,b≠it->s.heap.get? b=some o->h'.get? b=some o) (hn:H it=none) (hL:it≠X.env.locals)
  (h1:it∈X.ex\/X.s₀.heap.objs.size<=it) (h2:∀ x c,X.env.cells.lookup x=some c->c≠it) (h3:∀ p∈X.pn++pins,p.1≠it):Inv X pins σ H { s with heap:=h',toks:=t' }:=by
 have nit:∀ b u,H b=some u->b≠it:=fun b u e z=>by rw [z,hn] at e; cases e
 refine I.step (g':=s.gens) (d':=s.drawn) (ch:=[it]) (fun b hb=>?_) (fun b o _ _ hc e _=>k b o (fun z=>hc (by simp [z])) e) (fun b o _ _ hc e _=>⟨o.slots,k b o (fun z=>hc (by simp [z])) e⟩) (fun _ _ _ _ n=>n)
  (fun b o hc e=>⟨o,k b o (fun z=>hc (by simp [z])) e⟩) (fun _ _ e=>e) (fun _ _ _ e=>e) (fun b ps e=>⟨#[],by rw [e]; simp⟩) (fun m hm=>?_) (fun b u e=>?_) I.bare
 ·have e:b=it:=by simpa using hb
  subst e;exact ⟨h1,hL,h2,h3⟩
 ·obtain ⟨o,es,ep,ho,r⟩:=hm;exact ⟨o,es,ep,k _ o (Ne.symm hL) ho,r⟩
 ·refine (I.hok b u e).stay (fun c v hc q=>k c v ?_ q) (fun _ q=>q) fun _ _ q=>q
  rcases hc with z | z
  ·rw [z]; exact nit b u e
  ·exact nit c _ z
theorem Inv.tok (I:Inv X pins σ H s) (t:Nat):Inv X pins σ H { s with toks:=t }:=I.un (h':=s.heap) (t':=t) Un.refl I.hok
theorem Inv.kept {t':Nat} (I:Inv X pins σ H s) (k:∀ b u,s.heap.get? b=some u->h'.get? b=some u):Inv X pins σ H { s with heap:=h',toks:=t' }:=I.un (Un.kept k) (I.hok.kept k)
theorem Inv.laid {a:Addr} {o:HO} {t':Nat} (I:Inv X pins σ H s) (k:∀ b u,s.heap.get? b=some u->h'.get? b=some u) (hp:s.heap.objs.size<=a) (new:ObjOk X.prog X.w (upd H a o) h' a o) :
  Inv X pins σ (upd H a o) { s with heap:=h',toks:=t' }:=I.un (Un.laid k hp (I.hok.fresh hp)) (I.hok.laid k hp new)
theorem Inv.write {x e:Addr} {o:HO} {t':Nat} (I:Inv X pins σ H s) (mu:Mut (H x)) (he:e=x\/H e=some (.own x)) (k:∀ b u,b≠e->s.heap.get? b=some u->h'.get? b=some u) (heo:∃ u,h'.get? e=some u)
  (new:ObjOk X.prog X.w (upd H x o) h' x o):Inv X pins σ (upd H x o) { s with heap:=h',toks:=t' }:=I.un (Un.write mu he k heo) (I.hok.write mu he k heo new)
theorem Inv.pins_of {pins':List (Addr × Obj)} (I:Inv X pins σ H s) (h:∀ p∈pins',s.heap.get? p.1=some p.2/\H p.1=none/\p.1≠X.env.locals/\p.1∉X.fs/\∀ v,p.2.data ≠ .cell v):Inv X pins' σ H s :=
 ⟨I.ok,I.os,I.bare,I.base,I.loc,I.cell,I.free,I.freeC,fun p hp=>(QZf.mp hp).elim (fun z=>I.pin p (QBe _ z)) (h p),I.hok,I.len⟩
theorem Zfh {N:List Str} (hN:N.Nodup) {i j:Nat} {x:Str} (a:N[i]? = some x) (b:N[j]? = some x):i=j:=by
 obtain ⟨h1,e1⟩:=QZb.mp a;obtain ⟨h2,e2⟩:=QZb.mp b;exact (List.getElem_inj hN).mp (e1.trans e2.symm)
theorem Zdw {M:Model} {A:Around} {E:Value->Shared->Prop} {i:Nat} {x:Str} {v:V} {u:Value} {Q:Unit->Shared->Prop} (I:Inv X pins σ H s) (hN:X.N.Nodup) (hi:X.N[i]? = some x) (hx:Loc X.env.scope x) (r:RelV v u)
  (h:∀ s',Inv X pins (σ.set i (some v)) H s'->(∃ a,Heap.SameBut a s.heap s'.heap/\(a=X.env.locals\/X.env.cells.lookup x=some a))->Q () s') (hf:X.fn x=true\/X.env.scope.names.lookup x=some .local:=by first | exact .inl rfl | exact .inr rfl | assumption):wpAny M A (storeName X.env x u) Q E s:=by
 obtain ⟨m,hn,hl⟩:=id I.loc;have hcls:(X.env.scope.kind == .class||(X.env.scope.kind == .module&&X.env.locals != X.env.globals))=false:=by rw [I.ok.kind]; rfl
 have hiσ:i<σ.length:=by rw [I.len]; exact (QZb.mp hi).1
 have cne:=I.cne;have tracked:∀ {a:Addr} {h':Heap},(∃ o,s.heap.get? a=some o/\H a=none)->Heap.SameBut a s.heap h'->HOk X.prog X.w H h':=fun {a h'} ha hs b ob e=>by
  obtain ⟨_,_,hfree⟩:=ha;refine (I.hok b ob e).stay (fun c w' hc q=>(hs.2 c ?_).trans q) (fun _ q=>q) fun _ _ q=>q
  rintro rfl
  rcases hc with rfl | hc
  ·rw [hfree] at e; cases e
  ·rw [hfree] at hc; cases hc
 rcases hx with hk | hk
 ·refine wpAny_storeName_local hk hn (fun h' hn' hs=>?_) hcls;obtain ⟨oL,_,_,hoL,_⟩:=id hn;refine h _ ⟨I.ok,I.os,I.bare,⟨fun b o e n hb hx=>?_,fun b o e n hb hx=>?_,I.base.free,fun b o e hx=>?_,I.base.tups,I.base.frzs,I.base.tbls⟩,⟨_,hn',fun j y v' e1 e2 e3=>?_⟩,fun y c e=>?_,I.free,I.freeC,fun p hp=>?_,tracked ⟨oL,hoL,I.free⟩ hs,by simpa using I.len⟩ ⟨_,hs,.inl rfl⟩
  ·exact (hs.2 b (QAy (QBb (QAh e) I.ok.above))).trans (I.base.keep b o e n hb hx)
  ·obtain ⟨sl,e1⟩:=I.base.slot b o e n hb hx;exact ⟨sl,(hs.2 b (QAy (QBb (QAh e) I.ok.above))).trans e1⟩
  ·obtain ⟨o',e1⟩:=I.base.there b o e hx;exact ⟨o',(hs.2 b (QAy (QBb (QAh e) I.ok.above))).trans e1⟩
  ·by_cases hj:j=i
   ·subst hj;rw [hi] at e1; cases e1;rw [List.getElem?_set_self hiσ] at e2
    cases e2;exact ⟨u,r,.inl ⟨hk,by simp⟩⟩
   ·rw [List.getElem?_set_ne (Ne.symm hj)] at e2;obtain ⟨u',r',q⟩:=hl j y v' e1 e2 e3;refine ⟨u',r',?_⟩
    rcases q with ⟨k,e⟩ | ⟨k,c,e,z⟩
    ·refine .inl ⟨k,?_⟩;have:y≠x:=fun e=>hj (Zfh hN e1 (e ▸ hi))
     simp [this,e]
    ·exact .inr ⟨k,c,e,z.sameBut hs (cne y c e)⟩
  ·obtain ⟨w',z⟩:=I.cell y c e;exact ⟨w',z.sameBut hs (cne y c e)⟩
  ·obtain ⟨e,n,ne,nf,d⟩:=I.pin p hp;exact ⟨(hs.2 p.1 ne).trans e,n,ne,nf,d⟩
 ·have hfn:X.fn x=true:=by
   rcases hf with z | z
   ·exact z
   ·rw [z] at hk; cases hk
  obtain ⟨c,hc⟩:=I.ok.has x (.inl hk);obtain ⟨w',z⟩:=I.cell x c hc;refine wpAny_storeName_cell I.ok.kind hk hc z (fun h' hc' hs=>?_);obtain ⟨oc,hoc,hocd⟩:=id z;refine h { s with heap:=h' } ⟨I.ok,I.os,I.bare,⟨fun b o e n hb hx=>?_,fun b o e n hb hx=>?_,I.base.free,fun b o e hx=>?_,I.base.tups,I.base.frzs,I.base.tbls⟩,⟨m,hn.sameBut hs (Ne.symm (cne x c hc)),fun j y v' e1 e2 e3=>?_⟩,fun y c' e=>?_,I.free,I.freeC,fun p hp=>?_,tracked ⟨oc,hoc,I.freeC x c hc⟩ hs,by simpa using I.len⟩ ⟨c,hs,.inr hc⟩
  ·exact (hs.2 b (QAy (QBb (QAh e) (I.ok.cab x c hfn hc)))).trans (I.base.keep b o e n hb hx)
  ·obtain ⟨sl,e1⟩:=I.base.slot b o e n hb hx;exact ⟨sl,(hs.2 b (QAy (QBb (QAh e) (I.ok.cab x c hfn hc)))).trans e1⟩
  ·obtain ⟨o',e1⟩:=I.base.there b o e hx;exact ⟨o',(hs.2 b (QAy (QBb (QAh e) (I.ok.cab x c hfn hc)))).trans e1⟩
  ·by_cases hj:j=i
   ·subst hj;rw [hi] at e1; cases e1;rw [List.getElem?_set_self hiσ] at e2
    cases e2;exact ⟨u,r,.inr ⟨.inl hk,c,hc,hc'⟩⟩
   ·rw [List.getElem?_set_ne (Ne.symm hj)] at e2;obtain ⟨u',r',q⟩:=hl j y v' e1 e2 e3;refine ⟨u',r',?_⟩
    rcases q with q | ⟨k,c',e,z'⟩
    ·exact .inl q
    ·refine .inr ⟨k,c',e,z'.sameBut hs ?_⟩;rintro rfl;exact hj (Zfh hN e1 (I.ok.inj _ _ _ e hc ▸ hi))
  ·by_cases hcc:c'=c
   ·subst hcc; exact ⟨_,hc'⟩
   ·obtain ⟨w2,z2⟩:=I.cell y c' e;exact ⟨w2,z2.sameBut hs hcc⟩
  ·obtain ⟨e,n,ne,nf,d⟩:=I.pin p hp;refine ⟨(hs.2 p.1 ?_).trans e,n,ne,nf,d⟩;intro q;rw [q,hoc] at e;have q':oc=p.2:=QZl e;exact d w' (by rw [<- q']; exact hocd)
theorem Zcl {M:Model} {A:Around} {E:Value->Shared->Prop} {i:Nat} {x:Str} {v:V} {u:Value} {Q:Unit->Shared->Prop} (I:Inv X pins σ H s) (hN:X.N.Nodup) (hi:X.N[i]? = some x) (hx:Loc X.env.scope x) (r:RelV v u)
  (h:∀ s',Inv X pins (σ.set i (some v)) H s'->Q () s') (hf:X.fn x=true\/X.env.scope.names.lookup x=some .local:=by first | exact .inl rfl | exact .inr rfl | assumption):wpAny M A (storeName X.env x u) Q E s :=
 Zdw I hN hi hx r (fun s' I' _=>h s' I') hf
theorem Inv.call' {s':Shared} {ch:List Addr} (I:Inv X pins σ H s) (ho:s'.os=s.os) (u:Un (frs X.stack) ch H H' s.heap s'.heap) (hok:HOk X.prog X.w H' s'.heap) (hg:AllBare s'.gens)
  (hch:∀ b∈ch,(b∈X.ex\/X.s₀.heap.objs.size<=b)/\b≠X.env.locals/\(∀ x c,X.env.cells.lookup x=some c->c≠b)/\∀ p∈X.pn++pins,p.1≠b):Inv X pins σ H' s':=by
 obtain ⟨h',g',d',t',o'⟩:=s';have e:o'=s.os:=ho;subst e;exact I.call (g':=g') (t':=t') (d':=d') u hok hg hch
end
noncomputable abbrev XK:=Value->Option Addr->Hp->Prop
noncomputable abbrev St:=List (Option V)
noncomputable abbrev VK:=V->Hp->Prop
noncomputable abbrev TE:=St->Hp->VK->Prop
noncomputable abbrev TT:=St->Hp->(Bool->Hp->Prop)->Prop
noncomputable abbrev TA:=St->Hp->(List V->Hp->Prop)->Prop
structure ZeS where
 nx:St->Hp->Prop
 rt:VK
 bk:St->Hp->Prop:=fun _ _=>False
 ct:St->Hp->Prop:=fun _ _=>False
noncomputable abbrev TS:=ZeS->St->Hp->Prop
def EP (X:Cx) (pins:List (Addr × Obj)) (σ:St) (Q:VK) (u:Value) (s':Shared):Prop:=∃ v H',Inv X pins σ H' s'/\RelV v u/\Q v H'
def TP (X:Cx) (pins:List (Addr × Obj)) (σ:St) (Q:Bool->Hp->Prop) (b:Bool) (s':Shared):Prop:=∃ H',Inv X pins σ H' s'/\Q b H'
def AP (X:Cx) (pins:List (Addr × Obj)) (σ:St) (Q:List V->Hp->Prop) (us:List Value) (s':Shared):Prop:=∃ vs H',Inv X pins σ H' s'/\Vals vs us/\Q vs H'
def SP (X:Cx) (pins:List (Addr × Obj)) (D:ZeS) (f:Flow) (s':Shared):Prop :=
 match f with
 | .next=>∃ σ' H',Inv X pins σ' H' s'/\D.nx σ' H'
 | .brk=>∃ σ' H',Inv X pins σ' H' s'/\D.bk σ' H'
 | .cont=>∃ σ' H',Inv X pins σ' H' s'/\D.ct σ' H'
 | .ret u=>∃ v σ' H',Inv X pins σ' H' s'/\RelV v u/\D.rt v H'
def PE (X:Cx) (e:Expr) (t:TE):Prop :=
 ∀ (pins:List (Addr × Obj)) (s:Shared) (σ:St) (H:Hp) (Q:VK),Inv X pins σ H s->t σ H Q->wpAny (model X.prog X.w) X.A (eval e X.env) (EP X pins σ Q) X.xe s
def PT (X:Cx) (e:Expr) (t:TT):Prop :=
 ∀ (pins:List (Addr × Obj)) (s:Shared) (σ:St) (H:Hp) (Q:Bool->Hp->Prop),Inv X pins σ H s->t σ H Q->wpAny (model X.prog X.w) X.A (isTrue e X.env (eval e X.env)) (TP X pins σ Q) X.xe s
def PW (X:Cx) (e:Expr) (t:TT):Prop :=
 ∀ (whole:Sem Value) (pins:List (Addr × Obj)) (s:Shared) (σ:St) (H:Hp) (Q:Bool->Hp->Prop),Inv X pins σ H s->t σ H Q->wpAny (model X.prog X.w) X.A (isTrue e X.env whole) (TP X pins σ Q) X.xe s
theorem PW.pt {X:Cx} {e:Expr} {t:TT} (h:PW X e t):PT X e t:=h _
def PA (X:Cx) (es:List Expr) (t:TA):Prop :=
 ∀ (pos:Pos) (pins:List (Addr × Obj)) (s:Shared) (σ:St) (H:Hp) (Q:List V->Hp->Prop),Inv X pins σ H s->t σ H Q->wpAny (model X.prog X.w) X.A (spliced (backTo pos (starEach es X.env))) (AP X pins σ Q) X.xe s
def PS (X:Cx) (st:Stmt) (t:TS):Prop :=
 ∀ (pins:List (Addr × Obj)) (s:Shared) (σ:St) (H:Hp) (D:ZeS),Inv X pins σ H s->t D σ H->wpAny (model X.prog X.w) X.A (exec st X.env) (SP X pins D) X.xe s
def PSs (X:Cx) (st:List Stmt) (t:TS):Prop :=
 ∀ (pins:List (Addr × Obj)) (s:Shared) (σ:St) (H:Hp) (D:ZeS),Inv X pins σ H s->t D σ H->wpAny (model X.prog X.w) X.A (execs st X.env) (SP X pins D) X.xe s
theorem thn {α:Type} {t:Sem α} {Q Q':α->Shared->Prop} {M:Model} {A:Around} {E:Value->Shared->Prop} {s:Shared} (h:wpAny M A t Q E s) (hQ:∀ a s,Q a s->Q' a s):wpAny M A t Q' E s:=wpAny_mono h hQ fun _ _ x=>x
section
variable {X:Cx}
inductive ZlH (i:Nat) (σ:St) (H:Hp) (Q:VK):Prop where
 | mk (v:V) (_:σ[i]? = some (some v)) (_:Q v H):ZlH i σ H Q
def Zm3 (i:Nat):TE:=fun σ H Q=>ZlH i σ H Q
def tC (v:V):TE:=fun _ H Q=>Q v H
theorem Zmi {i:Nat} {x:Str} {pos:Pos} (hN:X.N[i]? = some x) (hv:Vis X.env.scope x) (hd:(x==("__debug__" : Str))=false:=by decide) (hcd:(x==("__classdict__" : Str))=false:=by decide):PE X (.Name x pos) (Zm3 i):=by
 intro pins s σ H Q I h;obtain ⟨v,e,h⟩:=h;obtain ⟨m,hn,hl⟩:=I.loc;obtain ⟨u,r,l⟩:=hl i x v hN e hv;have fin:EP X pins σ Q u s:=⟨v,H,I,r,h⟩
 rcases l with ⟨hk,hm⟩ | ⟨hk,c,hc,hcell⟩
 ·exact wpAny_Name (wpAny_loadName_local I.ok.kind hk hn hm fin) hd
 ·rcases hk with hk | hk
  ·exact wpAny_Name (wpAny_loadName_cell I.ok.kind hk hc hcell fin) hd
  ·exact wpAny_Name (wpAny_loadName_free I.ok.kind hk hc hcell fin hcd) hd
theorem Zh {i j pos}:PE X (.Constant (.int i) j pos) (tC (.int i)):=fun _ _ _ H _ I h=>wpAny_Constant_int ⟨.int i,H,I.tok _,⟨_,rfl⟩,h⟩
theorem Zly {b j pos}:PE X (.Constant (.bool b) j pos) (tC (.bl b)):=fun _ _ _ H _ I h=>Constant_bool ⟨.bl b,H,I,rfl,h⟩
theorem Zez {j pos}:PE X (.Constant .none j pos) (tC .non):=fun _ _ _ H _ I h=>Constant_none ⟨.non,H,I,rfl,h⟩
def Gl (X:Cx) (x:Str):Prop:=X.env.kindOf x=some .globalImplicit
theorem Zk3 {E:Value->Shared->Prop} {pins:List (Addr × Obj)} {s:Shared} {σ:St} {H:Hp} {x:Str} {u:Value} {pos:Pos} {Q:Value->Shared->Prop} (I:Inv X pins σ H s) (hg:Gl X x) (hm:X.mg x=some u) (h:Q u s)
  (hd:(x==("__debug__" : Str))=false:=by decide):wpAny (model X.prog X.w) X.A (eval (.Name x pos) X.env) Q E s :=
 Calls.Name_function_global I.ok.kind hg (Calls.loadGlobal_global (by rw [I.ok.glob]; exact I.mod.glob.keeps I.bk) hm h) hd
theorem ZbH {E:Value->Shared->Prop} {pins:List (Addr × Obj)} {s:Shared} {σ:St} {H:Hp} {x:Str} {u:Value} {pos:Pos} {Q:Value->Shared->Prop} (I:Inv X pins σ H s) (hg:Gl X x) (hm:X.mg x=none) (hv:bootBuiltins x=some u) (h:Q u s)
  (hn:x ≠ "__name__":=by decide) (hd:(x==("__debug__" : Str))=false:=by decide):wpAny (model X.prog X.w) X.A (eval (.Name x pos) X.env) Q E s:=by
 obtain ⟨mb,h1,h2⟩:=I.mod.blt;exact Calls.Name_function_global I.ok.kind hg (Calls.loadGlobal_builtin (by rw [I.ok.glob]; exact I.mod.glob.keeps I.bk) hm (by rw [I.ok.blt]; exact h1.keeps I.bk) ((h2 x hn).trans hv) h) hd
variable {a b:Expr} {ta tb:TE} {pos:Pos}
def PC (X:Cx) (op:CmpOp) (a b:Expr) (t:TE):Prop :=
 ∀ (pins:List (Addr × Obj)) (s:Shared) (σ:St) (H:Hp) (Q:VK),Inv X pins σ H s->t σ H Q ->
  wpAny (model X.prog X.w) X.A (eval a X.env) (fun v s₁=>wpAny (model X.prog X.w) X.A (eval b X.env) (fun u s₂=>wpAny (model X.prog X.w) X.A (compareOp op v u) (EP X pins σ Q) X.xe s₂) X.xe s₁) X.xe s
theorem Zjs (b:Expr) {op:CmpOp} (h:op ≠ .In) (h2:op ≠ .NotIn):behindInMarks op b=false:=by
 have e1:(op==CmpOp.In)=false:=by cases op <;> first | rfl | exact absurd rfl h
 have e2:(op==CmpOp.NotIn)=false:=by cases op <;> first | rfl | exact absurd rfl h2
 cases b <;> simp [behindInMarks,e1,e2]
def ZnY (ta:TE):TE:=fun σ H Q=>ta σ H fun x H1=>Q (.bl (decide (x = .non))) H1
def Zm7 (ta:TE):TE:=fun σ H Q=>ta σ H fun x H1=>Q (.bl (!decide (x = .non))) H1
theorem RelV.none_iff {x:V} {v:Value} (r:RelV x v):(v==Value.none)=decide (x = .non):=by
 cases x with
 | non=>cases r; rfl
 | bl _=>cases r; rfl
 | int _=>obtain ⟨t,rfl⟩:=r; rfl
 | str _=>obtain ⟨t,rfl⟩:=r; rfl
 | byt _=>obtain ⟨t,rfl⟩:=r; rfl
 | flt _=>obtain ⟨t,rfl⟩:=r; rfl
 | ref _=>cases r; rfl
 | ty _=>cases r; rfl
theorem Zjf {j pos'} (ha:PE X a ta):PC X .Is a (.Constant .none j pos') (ZnY ta):=by
 intro pins s σ H Q I h;refine thn (ha pins s σ H _ I h) fun v s1 zz0=>?_;obtain ⟨x,H1,I1,r1,q1⟩:=zz0;exact Constant_none (is_none_gen ⟨.bl _,H1,I1,by rw [r1.none_iff]; rfl,q1⟩)
theorem Zhz {j pos'} (ha:PE X a ta):PC X .IsNot a (.Constant .none j pos') (Zm7 ta):=by
 intro pins s σ H Q I h;refine thn (ha pins s σ H _ I h) fun v s1 zz0=>?_;obtain ⟨x,H1,I1,r1,q1⟩:=zz0;exact Constant_none (isnot_none_gen ⟨.bl _,H1,I1,by rw [r1.none_iff]; rfl,q1⟩)
inductive ZmZ (x:V) (Q:Bool->Hp->Prop) (H:Hp):Prop where
 | mk (c:Bool) (_:x = .bl c) (_:Q c H):ZmZ x Q H
def tB (t:TE):TT:=fun σ H Q=>t σ H fun x H1=>ZmZ x Q H1
theorem ZaJ {op:CmpOp} {t:TE} (h:PC X op a b t) (h1:behindInMarks op b=false:=by rfl):PT X (.Compare a [op] [b] pos) (tB t):=by
 intro pins s σ H Q I hw;refine wpAny_isTrue_Compare1 (thn (h pins s σ H _ I hw) fun v s1 h1=>thn h1 fun u s2 h2=>thn h2 fun c s3 zz0=>?_) h1;obtain ⟨x,H1,I1,r1,q1⟩:=zz0;obtain ⟨d,rfl,q⟩:=q1
 cases r1;exact wpAny_truthy_bool ⟨H1,I1,q⟩
theorem Zmf {e:Expr} {t:TE} (h:PE X e t) (he:∀ whole,isTrue e X.env whole=(do let v <- whole; standAt e.pos; holding [v] (truthy v)):=by intro _; rfl):PT X e (tB t):=by
 intro pins s σ H Q I hw;refine isTrue_plain (thn (h pins s σ H _ I hw) fun v s1 zz0=>?_) (he _);obtain ⟨x,H1,I1,r1,q1⟩:=zz0;obtain ⟨d,rfl,q⟩:=q1
 cases r1;exact wpAny_truthy_bool ⟨H1,I1,q⟩
variable {tA tB':TT} {rest:List Expr}
def Zne (t u:TT):TT:=fun σ H Q=>t σ H fun c H1=>if c=true then u σ H1 Q else Q false H1
def ZnV (t:TT):TT:=fun σ H Q=>t σ H fun c H1=>Q (!c) H1
theorem Zew (ha:PT X a tA):PW X (.BoolOp .And [a] pos) tA:=by
 intro wh pins s σ H Q I h;refine isTrue_and (thn (ha pins s σ H Q I h) fun c s1 e=>?_)
 cases c with
 | true=>exact isTrue_and_nil e
 | false=>exact e
theorem ZgB (ha:PT X a tA) (hb:PW X (.BoolOp .And (b::rest) pos) tB'):PW X (.BoolOp .And (a::b::rest) pos) (Zne tA tB'):=by
 intro wh pins s σ H Q I h;refine isTrue_and (thn (ha pins s σ H _ I h) fun c s1 zz0=>?_);obtain ⟨H1,I1,q1⟩:=zz0
 cases c with
 | true=>exact hb wh pins s1 σ H1 Q I1 q1
 | false=>exact ⟨H1,I1,q1⟩
theorem Zmg (ha:PT X a tA):PT X (.UnaryOp .Not a pos) (ZnV tA):=by
 intro pins s σ H Q I h;exact isTrue_not (ha pins s σ H (fun c H1=>Q (!c) H1) I h)
def ZnU (ta tb:TE):TE:=fun σ H Q=>ta σ H fun x H1=>∃ c,x = .bl c/\if c=true then Q (.bl true) H1 else tb σ H1 Q
theorem Zmj {op} {t:TE} (h:PE X a t):PE X (.BoolOp op [a] pos) t:=fun pins s σ H Q I hw=>BoolOp_one (h pins s σ H Q I hw)
theorem Znr (ha:PE X a ta) (hb:PE X (.BoolOp .Or (b::rest) pos) tb):PE X (.BoolOp .Or (a::b::rest) pos) (ZnU ta tb):=by
 intro pins s σ H Q I h;refine BoolOp_or (thn (ha pins s σ H _ I h) fun v s1 zz0=>?_);obtain ⟨x,H1,I1,r1,q1⟩:=zz0;obtain ⟨c,rfl,q1⟩:=q1
 cases r1;refine wpAny_truthy_bool ?_
 cases c with
 | false=>exact hb pins s1 σ H1 Q I1 q1
 | true=>exact ⟨.bl true,H1,I1,rfl,q1⟩
def tIf (t:TT) (ta tb:TE):TE:=fun σ H Q=>t σ H fun c H1=>if c=true then ta σ H1 Q else tb σ H1 Q
theorem Zfc {c:Expr} (hc:PT X c tA) (ha:PE X a ta) (hb:PE X b tb):PE X (.IfExp c a b pos) (tIf tA ta tb):=by
 intro pins s σ H Q I h;refine wpAny_IfExp (thn (hc pins s σ H _ I h) fun d s1 zz0=>?_);obtain ⟨H1,I1,q1⟩:=zz0
 cases d with
 | true=>exact ha pins s1 σ H1 Q I1 q1
 | false=>exact hb pins s1 σ H1 Q I1 q1
end
def SqL (K:QZa) (H:Hp) (a:Addr) (xs:List V):Prop :=
 Rd H a (.lst xs) \/
  ∃ (o:Obj) (its:Array Value) (n:Nat),K.lookup a=some o/\o.cls = .type "list" /\ o.dict=none/\o.data = .seq its n/\its.size<=sizeLine/\Vals xs its.toList
def SqT (K:QZa) (H:Hp) (a:Addr) (xs:List V):Prop :=
 Rd H a (.tup xs) \/
  ∃ (o:Obj) (its:Array Value) (n:Nat),K.lookup a=some o/\o.cls = .type "tuple" /\ o.data = .seq its n/\its.size<=sizeLine/\Vals xs its.toList
noncomputable def Zoe:Value->Option V
 | .none=>some .non
 | .bool b=>some (.bl b)
 | .int i _=>some (.int i)
 | .str x _=>some (.str x)
 | .bytes b _=>some (.byt b)
 | .float b _=>some (.flt b)
 | .ref a=>some (.ref a)
 | .type n=>some (.ty n)
 | _=>none
theorem RelV.abs {x:V} {u:Value} (r:RelV x u):Zoe u=some x:=by
 cases x with
 | non=>cases r; rfl
 | bl _=>cases r; rfl
 | int _=>obtain ⟨t,rfl⟩:=r; rfl
 | str _=>obtain ⟨t,rfl⟩:=r; rfl
 | byt _=>obtain ⟨t,rfl⟩:=r; rfl
 | flt _=>obtain ⟨t,rfl⟩:=r; rfl
 | ref _=>cases r; rfl
 | ty _=>cases r; rfl
theorem RelV.inj {x y:V} {u:Value} (r:RelV x u) (q:RelV y u):x=y:=QZl (r.abs.symm.trans q.abs)
theorem Vals.inj:∀ {xs ys:List V} {us:List Value},Vals xs us->Vals ys us->xs=ys
 | _,_,_,.nil,.nil=>rfl
 | _,_,_,.cons r t,.cons r' t'=>by rw [r.inj r',Vals.inj t t']
section
variable {X:Cx} {pins:List (Addr × Obj)} {σ:St} {H:Hp} {s:Shared} {a:Addr} {xs ys:List V}
theorem SqL.of {K:QZa} (h:H a=some (.lst xs)):SqL K H a xs:=.inl (.inl h)
theorem SqT.of {K:QZa} (h:H a=some (.tup xs)):SqT K H a xs:=.inl (.inl h)
theorem Inv.list (I:Inv X pins σ H s) (h:SqL X.K H a xs):∃ its:List Value,Vals xs its/\PlainL s.heap a its.toArray/\xs.length<=sizeLine:=by
 rcases h with h | ⟨o,its,n,hk,hc,hd,hs,hz,r⟩
 ·obtain ⟨z,its,n,r,e⟩:=h.ok I.hok;exact ⟨its,r,⟨_,n,e,rfl,rfl,rfl⟩,z⟩
 ·refine ⟨its.toList,r,⟨o,n,I.kIn a o hk,hc,hd,by simpa using hs⟩,?_⟩;have e:=r.length
  simp only [QAz] at e;exact Om.b4 ‹_› ‹_› rfl
theorem Inv.tuple (I:Inv X pins σ H s) (h:SqT X.K H a xs):∃ its:List Value,Vals xs its/\IsTup s.heap a its.toArray/\xs.length<=sizeLine:=by
 rcases h with h | ⟨o,its,n,hk,hc,hs,hz,r⟩
 ·obtain ⟨z,its,r,p⟩:=h.ok I.hok;exact ⟨its,r,p.is,z⟩
 ·refine ⟨its.toList,r,⟨o,I.kIn a o hk,hc,n,by simpa using hs⟩,?_⟩;have e:=r.length
  simp only [QAz] at e;exact Om.b4 ‹_› ‹_› rfl
theorem Inv.list_inj (I:Inv X pins σ H s) (h:SqL X.K H a xs) (h':SqL X.K H a ys):xs=ys:=by
 obtain ⟨its,r,⟨o,n,e,_,_,d⟩,_⟩:=I.list h;obtain ⟨its',r',⟨o',n',e',_,_,d'⟩,_⟩:=I.list h';rw [e] at e'; cases e';rw [d] at d'
 injection d' with d1 _
 have:its=its':=by simpa using congrArg Array.toList d1
 subst this;exact r.inj r'
theorem Inv.tuple_inj (I:Inv X pins σ H s) (h:SqT X.K H a xs) (h':SqT X.K H a ys):xs=ys:=by
 obtain ⟨its,r,⟨o,e,_,n,d⟩,_⟩:=I.tuple h;obtain ⟨its',r',⟨o',e',_,n',d'⟩,_⟩:=I.tuple h';rw [e] at e'; cases e';rw [d] at d'
 injection d' with d1 _
 have:its=its':=by simpa using congrArg Array.toList d1
 subst this;exact r.inj r'
end
noncomputable abbrev Cx.wish (X:Cx) (E:Value->Shared->Prop):Cx:={ X with xe:=E }
noncomputable abbrev Cx.nox (X:Cx):Cx:=X.wish fun _ _=>False
theorem Cx.Ok.wish {X:Cx} (ok:X.Ok) (E:Value->Shared->Prop):(X.wish E).Ok :=
 ⟨ok.mod,ok.kind,ok.glob,ok.blt,ok.above,ok.inj,ok.has,ok.cab,ok.hd,ok.frames,ok.stk,ok.exf,ok.bs,ok.bsz,ok.noex,ok.exfs,ok.funs,ok.frf⟩
theorem Cx.Ok.unwish {X:Cx} {E:Value->Shared->Prop} (ok:(X.wish E).Ok):X.Ok :=
 ⟨ok.mod,ok.kind,ok.glob,ok.blt,ok.above,ok.inj,ok.has,ok.cab,ok.hd,ok.frames,ok.stk,ok.exf,ok.bs,ok.bsz,ok.noex,ok.exfs,ok.funs,ok.frf⟩
section
variable {X:Cx} {pins:List (Addr × Obj)} {σ:St} {H:Hp} {s:Shared} {E:Value->Shared->Prop}
theorem Inv.wish (I:Inv X pins σ H s) (E:Value->Shared->Prop):Inv (X.wish E) pins σ H s:=⟨I.ok.wish E,I.os,I.bare,I.base,I.loc,I.cell,I.free,I.freeC,I.pin,I.hok,I.len⟩
theorem Inv.unwish (I:Inv (X.wish E) pins σ H s):Inv X pins σ H s:=⟨I.ok.unwish,I.os,I.bare,I.base,I.loc,I.cell,I.free,I.freeC,I.pin,I.hok,I.len⟩
theorem SP.unwish {D:ZeS} {f:Flow} {s':Shared} (h:SP (X.wish E) pins D f s'):SP X pins D f s':=by
 cases f with
 | next=>obtain ⟨σ',H',I,q⟩:=h; exact ⟨σ',H',I.unwish,q⟩
 | brk=>obtain ⟨σ',H',I,q⟩:=h; exact ⟨σ',H',I.unwish,q⟩
 | cont=>obtain ⟨σ',H',I,q⟩:=h; exact ⟨σ',H',I.unwish,q⟩
 | ret u=>obtain ⟨v,σ',H',I,r,q⟩:=h; exact ⟨v,σ',H',I.unwish,r,q⟩
theorem PSs.nox {st:List Stmt} {t:TS} (h:PSs X.nox st t):PSs X st t:=fun pins s σ H D I hw =>
 wpAny_mono (h pins s σ H D (I.wish _) hw) (fun _ _ q=>q.unwish) fun _ _ z=>False.elim z
end
section
variable {X:Cx} {st:Stmt} {rest:List Stmt} {t u:TS} {e:Expr} {te:TE} {pos:Pos}
def Zm8:TS:=fun D σ H=>D.nx σ H
def Zm5 (t u:TS):TS:=fun D σ H=>t { D with nx:=u D } σ H
theorem Z8:PSs X [] Zm8:=fun _ _ σ H _ I h=>wpAny_execs_nil ⟨σ,H,I,h⟩
theorem Zd (h1:PS X st t) (h2:PSs X rest u):PSs X (st::rest) (Zm5 t u):=by
 intro pins s σ H D I h;refine wpAny_execs_cons (thn (h1 pins s σ H { D with nx:=u D } I h) fun f s1 q=>?_)
 cases f with
 | next =>
  obtain ⟨σ',H',I',q⟩:=q;exact h2 pins s1 σ' H' D I' q
 | ret v=>exact q
 | brk=>exact q
 | cont=>exact q
theorem Zf (h1:PS X st t):PSs X [st] t:=by
 intro pins s σ H D I h;refine wpAny_execs_cons (thn (h1 pins s σ H D I h) fun f s1 q=>?_)
 cases f with
 | next=>exact wpAny_execs_nil q
 | ret v=>exact q
 | brk=>exact q
 | cont=>exact q
theorem Inv.quiet {pins:List (Addr × Obj)} {σ:St} {H:Hp} {s:Shared} (I:Inv X pins σ H s):interactive X.env=false:=by simp [interactive,I.ok.kind]
def Zna (te:TE):TS:=fun D σ H=>te σ H fun _ H1=>D.nx σ H1
theorem Yx (he:PE X e te) (hs:swapsWith e none pos.line X.env=pure false:=by rfl):PS X (.Expr e pos) (Zna te):=by
 intro pins s σ H D I h;exact wpAny_Expr_any (thn (he pins s σ H _ I h) fun v s1 zz0=> by obtain ⟨x,H1,I1,r1,q1⟩ := zz0; exact ⟨σ,H1,I1,q1⟩) I.quiet hs
def ZnT (te:TE):TS:=fun D σ H=>te σ H D.rt
theorem Zu (he:PE X e te):PS X (.Return (some e) pos) (ZnT te):=by
 intro pins s σ H D I h;exact wpAny_Return_some (thn (he pins s σ H _ I h) fun v s1 zz0=> by obtain ⟨x,H1,I1,r1,q1⟩ := zz0; exact ⟨x,σ,H1,I1,r1,q1⟩)
def ZnZ (c:TT) (t u:TS):TS:=fun D σ H=>c σ H fun b H1=>if b=true then t D σ H1 else u D σ H1
theorem YT {c:Expr} {a b:List Stmt} {tc:TT} (hc:PT X c tc) (ha:PSs X a t) (hb:PSs X b u):PS X (.If c a b pos) (ZnZ tc t u):=by
 intro pins s σ H D I h;refine wpAny_If (thn (hc pins s σ H _ I h) fun d s1 zz0=>?_);obtain ⟨H1,I1,q1⟩:=zz0
 cases d with
 | true=>exact ha pins s1 σ H1 D I1 q1
 | false=>exact hb pins s1 σ H1 D I1 q1
end
noncomputable abbrev TG:=V->St->Hp->(St->Hp->Prop)->Prop
noncomputable abbrev TGs:=List V->St->Hp->(St->Hp->Prop)->Prop
def PG (X:Cx) (target:Expr) (t:TG):Prop :=
 ∀ (pins:List (Addr × Obj)) (s:Shared) (σ:St) (H:Hp) (v:V) (u:Value) (Q:St->Hp->Prop),Inv X pins σ H s->RelV v u->t v σ H Q ->
  wpAny (model X.prog X.w) X.A (assign target X.env u) (fun _ s'=>∃ σ' H',Inv X pins σ' H' s'/\Q σ' H') X.xe s
def PGs (X:Cx) (ts:List Expr) (t:TGs):Prop :=
 ∀ (pins:List (Addr × Obj)) (s:Shared) (σ:St) (H:Hp) (vs:List V) (us:List Value) (Q:St->Hp->Prop),Inv X pins σ H s->Vals vs us->t vs σ H Q ->
  wpAny (model X.prog X.w) X.A (assignInOrder ((assignEach ts X.env).map (·.2)) us) (fun _ s'=>∃ σ' H',Inv X pins σ' H' s'/\Q σ' H') X.xe s
noncomputable abbrev ZmW:=V->V->V->Hp->(Hp->Prop)->Prop
def ZnK (X:Cx) (t:ZmW):Prop :=
 ∀ (pins:List (Addr × Obj)) (s:Shared) (σ:St) (H:Hp) (o i v:V) (ov iv u:Value) (Q:Hp->Prop),Inv X pins σ H s->RelV o ov->RelV i iv->RelV v u->t o i v H Q ->
  wpAny (model X.prog X.w) X.A (setItem ov iv u) (fun _ s'=>∃ H',Inv X pins σ H' s'/\Q H') X.xe s
noncomputable abbrev TIp:=V->V->Hp->VK->Prop
def PIp (X:Cx) (op:Operator) (t:TIp):Prop :=
 ∀ (pins:List (Addr × Obj)) (s:Shared) (σ:St) (H:Hp) (x y:V) (v u:Value) (Q:VK),Inv X pins σ H s->RelV x v->RelV y u->t x y H Q ->
  wpAny (model X.prog X.w) X.A (inplaceOp op v u) (EP X pins σ Q) X.xe s
section
variable {X:Cx} {pos:Pos}
def ZaF (i:Nat):TG:=fun v σ H Q=>Q (σ.set i (some v)) H
theorem ZC {i:Nat} {x:Str} (hN:X.N.Nodup) (hi:X.N[i]? = some x) (hx:Loc X.env.scope x) (hf:X.fn x=true\/X.env.scope.names.lookup x=some .local:=by first | exact .inl rfl | exact .inr rfl | assumption):PG X (.Name x pos) (ZaF i):=by
 intro pins s σ H v u Q I r h;exact wpAny_assign_Name (Zcl I hN hi hx r (fun s' I'=>⟨_,H,I',h⟩) hf)
def Zob:TGs:=fun vs σ H Q=>vs=[]/\Q σ H
def ZnB (t:TG) (u:TGs):TGs:=fun vs σ H Q=>∃ v r,vs=v::r/\t v σ H fun σ' H'=>u r σ' H' Q
theorem JD:PGs X [] Zob:=by
 intro pins s σ H vs us Q I r h;obtain ⟨e,h⟩:=h;subst e
 cases r;exact assignInOrder_nil ⟨σ,H,I,h⟩
theorem ZX {e:Expr} {es:List Expr} {t:TG} {u:TGs} (h1:PG X e t) (h2:PGs X es u)
  (hs:(assignEach (e::es) X.env).map (·.2)=assign e X.env::(assignEach es X.env).map (·.2):=by rfl):PGs X (e::es) (ZnB t u):=by
 intro pins s σ H vs us Q I r h;obtain ⟨v,vr,e1,h⟩:=h;subst e1
 cases r with
 | cons r rr =>
  rw [hs];refine assignInOrder_cons (thn (h1 pins s σ H _ _ _ I r h) fun _ s1 zz0=>?_);obtain ⟨σ1,H1,I1,q1⟩:=zz0;exact h2 pins s1 σ1 H1 _ _ Q I1 rr q1
def ZnA (K:QZa) (n:Nat) (t:TGs):TG:=fun v σ H Q=>∃ a xs,v = .ref a/\SqT K H a xs/\xs.length=n/\t xs σ H Q
theorem ZgC {es:List Expr} {k:Nat} {t:TGs} {n:Nat} (hc:X.calm=true) (h:PGs X es t)
  (hn:(assignEach es X.env).length=n:=by rfl) (hst:(assignEach es X.env).findIdx? (·.1)=none:=by rfl):PG X (.Tuple es k pos) (ZnA X.K n t):=by
 intro pins s σ H v u Q I r hw;obtain ⟨a,xs,e1,hq,hl,hw⟩:=hw;subst e1
 cases r;obtain ⟨its,rv,ht,hz⟩:=I.tuple hq;refine assign_Tuple_tuple (I.ok.hd hc) ht (by simp [hn,<- hl,rv.length]) hst fun h' hx=>?_;have I1:Inv X pins σ H { s with heap:=h' }:=I.kept (t':=s.toks) fun b o e=>hx b o (QAy (QAh e)) e
 exact h pins _ σ H xs _ Q I1 (by simpa using rv) hw
def Zoa (to ti:TE) (t:ZmW):TG:=fun v σ H Q=>to σ H fun o H1=>ti σ H1 fun i H2=>t o i v H2 fun H3=>Q σ H3
theorem Zey {o i:Expr} {to ti:TE} {t:ZmW} (ho:PE X o to) (hi:PE X i ti) (hs:ZnK X t)
  (ha:∀ v,assign (.Subscript o i pos) X.env v=(do
   let ov <- holding [v] (eval o X.env)
   let iv <- holding [v,ov] (eval i X.env)
   standAt pos
   holding [v,ov,iv] (setItem ov iv v)
   release [v,ov,iv] []):=by intro _; rfl):PG X (.Subscript o i pos) (Zoa to ti t):=by
 intro pins s σ H v u Q I r h;rw [ha];refine QZq (wpAny_holding (thn (ho pins s σ H _ I h) fun ov s1 zz0=>?_));obtain ⟨x,H1,I1,r1,q1⟩:=zz0;refine QZq (wpAny_holding (thn (hi pins s1 σ H1 _ I1 q1) fun iv s2 zz0=>?_));obtain ⟨y,H2,I2,r2,q2⟩:=zz0;refine QZq (wpAny_standAt (QZq (wpAny_holding (thn (hs pins s2 σ H2 x y v ov iv u _ I2 r1 r2 r q2) fun _ s3 zz0=>?_))));obtain ⟨H3,I3,q3⟩:=zz0;exact wpAny_release ⟨σ,H3,I3,q3⟩
def Zl2 (te:TE) (g:TG):TS:=fun D σ H=>te σ H fun x H1=>g x σ H1 D.nx
theorem Zcy {tg e:Expr} {te:TE} {g:TG} (he:PE X e te) (hg:PG X tg g) (hs:swapsWithSole [tg] e pos.line X.env=pure false:=by rfl) (hw:swappedStores [tg] e X.env=pure none:=by rfl)
  (h1:(assignEach [tg] X.env).map (·.2)=[assign tg X.env]:=by rfl):PS X (.Assign [tg] e pos) (Zl2 te g):=by
 intro pins s σ H D I h;refine wpAny_Assign_stores (thn (he pins s σ H _ I h) fun v s1 zz0=>?_) hs hw;obtain ⟨x,H1,I1,r1,q1⟩:=zz0;rw [h1];exact thn (hg pins s1 σ H1 x v _ I1 r1 q1) fun _ s2 q=>q
theorem Zj {i:Nat} {x:Str} {e:Expr} {te:TE} {pos':Pos} (hN:X.N.Nodup) (hi:X.N[i]? = some x) (hx:Loc X.env.scope x) (he:PE X e te) (hs:swapsWith e (some (.Name x pos')) pos.line X.env=pure false:=by rfl) (hf:X.fn x=true\/X.env.scope.names.lookup x=some .local:=by first | exact .inl rfl | exact .inr rfl | assumption) :
  PS X (.Assign [.Name x pos'] e pos) (Zl2 te (ZaF i)):=by
 intro pins s σ H D I h;refine wpAny_Assign_Name (thn (he pins s σ H _ I h) fun v s1 zz0=>?_) hs;obtain ⟨y,H1,I1,r1,q1⟩:=zz0;exact Zcl I1 hN hi hx r1 (fun s2 I2=>⟨_,H1,I2,q1⟩) hf
def Zn2 (i:Nat) (te:TE) (ti:TIp):TS:=fun D σ H=>∃ x,σ[i]? = some (some x)/\te σ H fun y H1=>ti x y H1 fun z H2=>D.nx (σ.set i (some z)) H2
theorem Zmh {i:Nat} {x:Str} {e:Expr} {te:TE} {op:Operator} {ti:TIp} {pos':Pos} (hN:X.N.Nodup) (hi:X.N[i]? = some x) (hx:Loc X.env.scope x) (he:PE X e te) (ho:PIp X op ti) (hf:X.fn x=true\/X.env.scope.names.lookup x=some .local:=by first | exact .inl rfl | exact .inr rfl | assumption) :
  PS X (.AugAssign (.Name x pos') op e pos) (Zn2 i te ti):=by
 intro pins s σ H D I h;obtain ⟨v,e1,h⟩:=h;obtain ⟨m,hn,hl⟩:=I.loc;have vis:Vis X.env.scope x:=by rcases hx with k | k; exact .inl k; exact .inr (.inl k)
 obtain ⟨u,r,l⟩:=hl i x v hi e1 vis;refine wpAny_AugAssign_Name ?_;have go:wpAny (model X.prog X.w) X.A (eval e X.env) (fun w s₂=>wpAny (model X.prog X.w) X.A (inplaceOp op u w) (fun r s₃=>wpAny (model X.prog X.w) X.A (storeName X.env x r) (fun _=>SP X pins D .next) X.xe s₃) X.xe s₂) X.xe s:=by
  refine thn (he pins s σ H _ I h) fun w s1 zz0=>?_;obtain ⟨y,H1,I1,r1,q1⟩:=zz0;refine thn (ho pins s1 σ H1 v y u w _ I1 r r1 q1) fun z s2 zz0=>?_;obtain ⟨zv,H2,I2,r2,q2⟩:=zz0;exact Zcl I2 hN hi hx r2 (fun s3 I3=>⟨_,H2,I3,q2⟩) hf
 rcases l with ⟨hk,hm⟩ | ⟨hk,c,hc,hcell⟩
 ·exact wpAny_loadName_local I.ok.kind hk hn hm go
 ·rcases hk with hk | hk
  ·exact wpAny_loadName_cell I.ok.kind hk hc hcell go
  ·rcases hx with k | k
   ·have:X.env.scope.names.lookup x=some .free:=hk;rw [k] at this; cases this
   ·have:X.env.scope.names.lookup x=some .free:=hk;rw [k] at this; cases this
def ZlZ (c:TT) (tb:TS):TS:=fun D σ H=>∃ W:Nat->St->Hp->Prop,(∃ m,W m σ H)/\∀ m σ H,W m σ H ->
 c σ H fun b H1=>if b=true then ∃ N:St->Hp->Prop,(∀ σ' H',N σ' H'->∃ m',m'<m/\W m' σ' H')/\tb { D with nx:=N,ct:=N,bk:=D.nx } σ H1 else D.nx σ H1
theorem Za5 {c:Expr} {body:List Stmt} {tc:TT} {tb:TS} (hp:PassesOwn (model X.prog X.w) X.A X.env X.xe) (hc:PT X c tc) (hb:PSs X body tb):PS X (.While c body [] pos) (ZlZ tc tb):=by
 intro pins s σ H D I h;obtain ⟨W,⟨m0,w0⟩,turn⟩:=h;refine wpAny_While (codeAny_whileLoop (fun n s'=>∃ σ' H',Inv X pins σ' H' s'/\W n σ' H') ?_ m0 ⟨σ,H,I,w0⟩);rintro n s1 ⟨σ1,H1,I1,w1⟩;refine wpAny_passesOwn hp (thn (hc pins s1 σ1 H1 _ I1 (turn n σ1 H1 w1)) fun b s2 zz0=>?_);obtain ⟨H2,I2,q2⟩:=zz0
 cases b with
 | true =>
  obtain ⟨N,hN,q2⟩:=q2;rw [if_pos rfl];refine wpAny_passesOwn hp (thn (hb pins s2 σ1 H2 _ I2 q2) fun f s3 q3=>?_)
  cases f with
  | next =>
   obtain ⟨σ3,H3,I3,n3⟩:=q3;obtain ⟨m',hm,w3⟩:=hN σ3 H3 n3;exact ⟨m',hm,σ3,H3,I3,w3⟩
  | cont =>
   obtain ⟨σ3,H3,I3,n3⟩:=q3;obtain ⟨m',hm,w3⟩:=hN σ3 H3 n3;exact ⟨m',hm,σ3,H3,I3,w3⟩
  | brk=>exact q3
  | ret v=>exact q3
 | false =>
  rw [if_neg QAn];exact wpAny_execs_nil ⟨σ1,H2,I2,q2⟩
end
structure It where
 go:Nat->Hp->Prop
 yld:Nat->Hp->V->Hp->Prop
 stop:Nat->Hp->Prop
def Zal (X:Cx) (pins:List (Addr × Obj)) (H:Hp) (b:Addr):Prop :=
 H b=none/\b≠X.env.locals/\b∉X.fs/\(b∈X.ex\/X.s₀.heap.objs.size<=b)/\(∀ x c,X.env.cells.lookup x=some c->c≠b)/\∀ p∈X.pn++pins,p.1≠b
theorem Inv.fpOk {X:Cx} {pins:List (Addr × Obj)} {σ:St} {H H':Hp} {s:Shared} {b:Addr} (I:Inv X pins σ H s) (hb:s.heap.objs.size<=b) (hn:H' b=none):Zal X pins H' b:=by
 refine ⟨hn,Nat.ne_of_gt (QBb I.lt hb),I.nofs hb,.inr (QAr I.sz hb),fun x c e z=>?_,fun p hp z=>?_⟩
 ·obtain ⟨v,q⟩:=I.cell x c e;exact absurd (QBb q.lt (by rw [z]; exact hb)) (QBx _)
 ·exact absurd (QBb (QAh (I.pin p hp).1) (by rw [z]; exact hb)) (QBx _)
structure Turn (P:Program) (w:World) (K:QZa) (tg:Expr) (J:It) (fp:List Addr) (it:Addr) (tn:Nat->Heap->Prop):Prop where
 mem:it∈fp
 obj:∀ i h,tn i h->∀ b∈fp,∃ o,h.get? b=some o/\∀ v,o.data ≠ .cell v
 keep:∀ i h h',tn i h->(∀ b∈fp,∀ o,h.get? b=some o->h'.get? b=some o)->tn i h'
 item:∀ (X:Cx),X.prog=P->X.w=w->X.K=K->X.calm=true->∀ (i:Nat) (pins:List (Addr × Obj)) (s:Shared) (σ:St) (H:Hp) (E:Value->Shared->Prop),Inv X pins σ H s->(∀ b∈fp,Zal X pins H b)->tn i s.heap->J.go i H ->
  wpAny (model P w) X.A (pyNext (.ref it)) (fun r s1=>∃ u,r=some u /\
   wpAny (model P w) X.A (letOwnedTupleGo tg (.ref it) u) (fun _ s2=>∃ x H',Inv X pins σ H' s2/\RelV x u/\J.yld i H x H'/\tn (i+1) s2.heap/\∀ b∈fp,H' b=none) E s1) E s
 done:∀ (X:Cx),X.prog=P->X.w=w->X.K=K->X.calm=true->∀ (i:Nat) (pins:List (Addr × Obj)) (s:Shared) (σ:St) (H:Hp) (E:Value->Shared->Prop),Inv X pins σ H s->(∀ b∈fp,Zal X pins H b)->tn i s.heap->J.stop i H ->
  wpAny (model P w) X.A (pyNext (.ref it)) (fun r s1=>r=none/\Inv X pins σ H s1) E s
 self:∀ (A:Around) (i:Nat) (s:Shared) (Q:Value->Shared->Prop) (E:Value->Shared->Prop),tn i s.heap->Q (.ref it) s->wpAny (model P w) A (pyIter (.ref it)) Q E s
noncomputable abbrev TI:=St->Hp->(It->Hp->Prop)->Prop
def PIE (X:Cx) (pins:List (Addr × Obj)) (σ:St) (tg:Expr) (R:It->Hp->Prop) (itv:Value) (s2:Shared):Prop :=
 ∃ (it:Addr) (fp:List Addr) (tn:Nat->Heap->Prop) (J:It) (H':Hp),itv = .ref it/\Inv X pins σ H' s2/\Turn X.prog X.w X.K tg J fp it tn/\tn 0 s2.heap/\(∀ b∈fp,Zal X pins H' b)/\R J H'
def PI (X:Cx) (tg iter:Expr) (wi:TI):Prop :=
 ∀ (pins:List (Addr × Obj)) (s:Shared) (σ:St) (H:Hp) (R:It->Hp->Prop),Inv X pins σ H s->wi σ H R ->
  wpAny (model X.prog X.w) X.A (eval iter X.env) (fun v s1=>wpAny (model X.prog X.w) X.A (pyIter v) (PIE X pins σ tg R) X.xe s1) X.xe s
theorem ZjM {M:Model} {A:Around} {E:Value->Shared->Prop} {s:Shared} {tg:Expr} {it:Addr} {u:Value} {o:Obj} {n:String} {vs:Array Value} {Q:Unit->Shared->Prop} (ho:s.heap.get? it=some o) (hc:o.cls = .type n) (hd:o.data = .fields vs)
    (hn:["enumerate", "zip", "dict_itemiterator", "dict_reverseitemiterator", "odict_iterator", "itertools.zip_longest", "itertools.pairwise"].contains n=false) (hQ:Q () s):wpAny M A (letOwnedTupleGo tg (.ref it) u) Q E s := by
  unfold letOwnedTupleGo
  cases tg <;> first
    | exact QZr hQ
    | (cases u <;> first
        | exact QZr hQ
        | (refine QZq (wpAny_load ho ?_)
           rw [hc, hd];show wpAny M A (if (["enumerate", "zip", "dict_itemiterator", "dict_reverseitemiterator", "odict_iterator", "itertools.zip_longest", "itertools.pairwise"].contains n&&vs[0]? == some (rawInt _))=true then _ else _) Q E s;rw [if_neg (by intro h; rw [hn, QCf] at h; cases h)];exact QZr hQ))
noncomputable def Itl (K:QZa) (a:Addr):It :=
 ⟨fun i H=>∃ xs x,SqL K H a xs/\xs[i]? = some x,fun i H x H'=>H'=H/\∀ xs,SqL K H a xs->xs[i]? = some x,fun i H=>∃ xs,SqL K H a xs/\xs.length<=i⟩
noncomputable def Itt (K:QZa) (a:Addr):It :=
 ⟨fun i H=>∃ xs x,SqT K H a xs/\xs[i]? = some x,fun i H x H'=>H'=H/\∀ xs,SqT K H a xs->xs[i]? = some x,fun i H=>∃ xs,SqT K H a xs/\xs.length<=i⟩
noncomputable def Itr (lo:Int) (n:Nat):It:=⟨fun i _=>i<n,fun i H x H'=>H'=H/\x = .int (lo+i),fun i _=>n<=i⟩
theorem Zia {P:Program} {w:World} {K:QZa} {tg:Expr} (a it:Addr):Turn P w K tg (Itl K a) [it] it (fun i h=>h.IsListIter it a i) where
 mem:=by simp
 obj:=fun i h st b hb=>by
  have e:b=it:=by simpa using hb
  subst e;obtain ⟨o,e,c,d⟩:=st;exact ⟨o,e,fun v z=>by rw [d] at z; cases z⟩
 keep:=fun i h h' st k=>st.at fun o e=>k it (by simp) o e
 item:=by
  intro X hP hw hK hc i pins s σ H E I hf st hg;subst hP hw hK;obtain ⟨xs,x,hq,hx⟩:=hg;obtain ⟨its,rv,p,hz⟩:=I.list hq;obtain ⟨u,hu,ru⟩:=rv.get hx;obtain ⟨f0,f1,f2,f3,f4,f5⟩:=hf it (by simp);refine wpAny_pyNext_list_item st p.isList (x:=u) (by simpa using hu) fun h' st' sb=>?_;have I1:Inv X pins σ H { s with heap:=h' }:=I.turned (t':=s.toks) (fun b o hb e=>(sb.2 b hb).trans e) f0 f1 f3 f4 f5;obtain ⟨o,e,c,d⟩:=id st';exact ⟨u,rfl,ZjM (s:={ s with heap:=h' }) e c d (by decide) ⟨x,H,I1,ru,⟨rfl,fun ys hy=>by rw [I.list_inj hy hq]; exact hx⟩,st',fun b hb=>(hf b hb).1⟩⟩
 done:=by
  intro X hP hw hK hc i pins s σ H E I hf st hg;subst hP hw hK;obtain ⟨xs,hq,hx⟩:=hg;obtain ⟨its,rv,p,hz⟩:=I.list hq;obtain ⟨f0,f1,f2,f3,f4,f5⟩:=hf it (by simp);have hl:=rv.length;exact wpAny_pyNext_list_end (I.ok.hd hc) st p.isList (by simp; exact O462 hx hl) fun h' eb=>⟨rfl,I.turned (t':=s.toks) (fun b o hb e=>eb b o hb e) f0 f1 f3 f4 f5⟩
 self:=fun _ _ _ _ _ st h=>wpAny_pyIter_listiter st h
theorem Zgq {P:Program} {w:World} {K:QZa} {tg:Expr} (a it:Addr):Turn P w K tg (Itt K a) [it] it (fun i h=>h.IsTupleIter it a i) where
 mem:=by simp
 obj:=fun i h st b hb=>by
  have e:b=it:=by simpa using hb
  subst e;obtain ⟨o,e,c,d⟩:=st;exact ⟨o,e,fun v z=>by rw [d] at z; cases z⟩
 keep:=fun i h h' st k=>st.at fun o e=>k it (by simp) o e
 item:=by
  intro X hP hw hK hc i pins s σ H E I hf st hg;subst hP hw hK;obtain ⟨xs,x,hq,hx⟩:=hg;obtain ⟨its,rv,p,hz⟩:=I.tuple hq;obtain ⟨u,hu,ru⟩:=rv.get hx;obtain ⟨f0,f1,f2,f3,f4,f5⟩:=hf it (by simp);refine wpAny_pyNext_tuple_item st (show s.heap.IsTuple a its.toArray from p) (x:=u) (by simpa using hu) fun h' st' sb=>?_;have I1:Inv X pins σ H { s with heap:=h' }:=I.turned (t':=s.toks) (fun b o hb e=>(sb.2 b hb).trans e) f0 f1 f3 f4 f5;obtain ⟨o,e,c,d⟩:=id st';exact ⟨u,rfl,ZjM (s:={ s with heap:=h' }) e c d (by decide) ⟨x,H,I1,ru,⟨rfl,fun ys hy=>by rw [I.tuple_inj hy hq]; exact hx⟩,st',fun b hb=>(hf b hb).1⟩⟩
 done:=by
  intro X hP hw hK hc i pins s σ H E I hf st hg;subst hP hw hK;obtain ⟨xs,hq,hx⟩:=hg;obtain ⟨its,rv,p,hz⟩:=I.tuple hq;obtain ⟨f0,f1,f2,f3,f4,f5⟩:=hf it (by simp);have hl:=rv.length;exact wpAny_pyNext_tuple_end (I.ok.hd hc) st (show s.heap.IsTuple a its.toArray from p) (by simp; exact O462 hx hl) fun h' eb=>⟨rfl,I.turned (t':=s.toks) (fun b o hb e=>eb b o hb e) f0 f1 f3 f4 f5⟩
 self:=fun _ _ _ _ _ st h=>wpAny_pyIter_tupleiter st h
theorem Zgr {P:Program} {w:World} {K:QZa} {tg:Expr} (it:Addr) (lo:Int) (n:Nat):Turn P w K tg (Itr lo n) [it] it (fun i h=>IsRangeIter h it (lo+(i:Nat)*1) ((n:Int) - (i:Nat)) 1) where
 mem:=by simp
 obj:=fun i h st b hb=>by
  have e:b=it:=by simpa using hb
  subst e;exact ⟨_,st,fun v z=>by
   have z':Data.fields _=Data.cell v:=z
   cases z'⟩
 keep:=fun i h h' st k=>k it (by simp) _ st
 item:=by
  intro X hP hw hK hc i pins s σ H E I hf st hg;subst hP hw hK;obtain ⟨f0,f1,f2,f3,f4,f5⟩:=hf it (by simp);have W:=Walks.range (prog:=X.prog) (w:=X.w) (I.ok.hd hc) it lo 1 n;refine W.item i s _ _ hg st fun v h' tk hv st' kk=>?_;obtain ⟨t,rfl⟩:=hv;have I1:Inv X pins σ H { s with heap:=h',toks:=tk }:=I.turned (fun b o hb e=>kk b o (by simpa using hb) e) f0 f1 f3 f4 f5;refine ⟨_,rfl,ZjM (s:={ s with heap:=h',toks:=tk }) (n:="range_iterator") st' rfl rfl (by decide) ⟨.int (lo+i),H,I1,⟨t,?_⟩,⟨rfl,rfl⟩,st',fun b hb=>(hf b hb).1⟩⟩;rw [Int.mul_one]
 done:=by
  intro X hP hw hK hc i pins s σ H E I hf st hg;subst hP hw hK;obtain ⟨f0,f1,f2,f3,f4,f5⟩:=hf it (by simp);exact wpAny_pyNext_range_end (I.ok.hd hc) st (by have:n<=i:=hg; omega) fun h' eb=>⟨rfl,I.turned (t':=s.toks) (fun b o hb e=>eb b o hb e) f0 f1 f3 f4 f5⟩
 self:=fun _ _ _ _ _ st h=>wpAny_pyIter_rangeiter st h
section
variable {X:Cx} {tg:Expr}
def ZlB (K:QZa) (tl:TE):TI:=fun σ H R=>tl σ H fun x H1=>∃ a,x = .ref a/\(∃ xs,SqL K H1 a xs)/\R (Itl K a) H1
def Znw (K:QZa) (tl:TE):TI:=fun σ H R=>tl σ H fun x H1=>∃ a,x = .ref a/\(∃ xs,SqT K H1 a xs)/\R (Itt K a) H1
theorem Zb8 {l:Expr} {tl:TE} (hl:PE X l tl):PI X tg l (ZlB X.K tl):=by
 intro pins s σ H R I h;refine thn (hl pins s σ H _ I h) fun v s1 zz0=>?_;obtain ⟨x,H1,I1,r1,q1⟩:=zz0;obtain ⟨a,e,⟨xs,hq⟩,q⟩:=q1;subst e
 cases r1;obtain ⟨its,rv,p,hz⟩:=I1.list hq;refine wpAny_pyIter_list p.isList ?_;refine ⟨s1.heap.objs.size,[s1.heap.objs.size],_,_,H1,rfl,I1.kept (t':=s1.toks) fun b o e=>QAk _ e,Zia a _,⟨_,QBa _ rfl,rfl,rfl⟩,fun b hb=>?_,q⟩;have e:b=s1.heap.objs.size:=by simpa using hb
 subst e;exact I1.fpOk (QAc _) (I1.hok.fresh (QAc _))
theorem Zjb {l:Expr} {tl:TE} (hl:PE X l tl):PI X tg l (Znw X.K tl):=by
 intro pins s σ H R I h;refine thn (hl pins s σ H _ I h) fun v s1 zz0=>?_;obtain ⟨x,H1,I1,r1,q1⟩:=zz0;obtain ⟨a,e,⟨xs,hq⟩,q⟩:=q1;subst e
 cases r1;obtain ⟨its,rv,p,hz⟩:=I1.tuple hq;refine wpAny_pyIter_tuple (show s1.heap.IsTuple a its.toArray from p) ?_;refine ⟨s1.heap.objs.size,[s1.heap.objs.size],_,_,H1,rfl,I1.kept (t':=s1.toks) fun b o e=>QAk _ e,Zgq a _,⟨_,QBa _ rfl,rfl,rfl⟩,fun b hb=>?_,q⟩;have e:b=s1.heap.objs.size:=by simpa using hb
 subst e;exact I1.fpOk (QAc _) (I1.hok.fresh (QAc _))
theorem Ze8 {pins:List (Addr × Obj)} {σ:St} {H:Hp} {s:Shared} {R:It->Hp->Prop} {E:Value->Shared->Prop} {lo hi:Int} {t u v:Tok} {tk:Nat} (I:Inv X pins σ H s) (h1 : -(2 ^ 62)<=lo) (h2:lo<2 ^ 62) (h3 : -(2 ^ 62)<=hi) (h4:hi<2 ^ 62)
  (q:R (Itr lo (hi - lo).toNat) H):wpAny (model X.prog X.w) X.A (pyIter (.ref s.heap.objs.size)) (PIE X pins σ tg R) E { s with heap:=s.heap.push { cls:=.type "range",data:=.fields #[.int lo t,.int hi u,.int 1 v] },toks:=tk }:=by
 refine wpAny_pyIter_range (IsRange.new ..) (small_one h1 h2 h3 h4) ?_;have I1:Inv X pins σ H { s with heap:=s.heap.push { cls:=.type "range",data:=.fields #[.int lo t,.int hi u,.int 1 v] },toks:=tk }:=I.kept fun b o e=>QAk _ e
 refine ⟨(s.heap.push { cls:=.type "range",data:=.fields #[.int lo t,.int hi u,.int 1 v] }).objs.size,[(s.heap.push { cls:=.type "range",data:=.fields #[.int lo t,.int hi u,.int 1 v] }).objs.size],_,_,H,rfl,
  I1.kept (t':=tk) fun b o e=>QAk _ e,Zgr _ lo (hi - lo).toNat,?_,fun b hb=>?_,q⟩
 ·have e1:lo+((0:Nat):Int)*1=lo:=by simp
  have e2:(((hi - lo).toNat:Nat):Int) - ((0:Nat):Int)=Builtin.Range.rangeSize lo hi 1:=by rw [rangeSize_one]; split <;> omega
  show IsRangeIter _ _ (lo+((0:Nat):Int)*1) ((((hi - lo).toNat:Nat):Int) - ((0:Nat):Int)) 1;rw [e1,e2];exact QBa _ rfl
 ·have e:b=(s.heap.push { cls:=.type "range",data:=.fields #[.int lo t,.int hi u,.int 1 v] }).objs.size:=by simpa using hb
  subst e;exact I1.fpOk (QAc _) (I1.hok.fresh (QAc _))
def Zny (ta:TA):TI:=fun σ H R=>ta σ H fun vs H1=>∃ j:Int,vs=[.int j] /\ -(2 ^ 62)<=j/\j<2 ^ 62/\R (Itr 0 j.toNat) H1
def Znx (ta:TA):TI:=fun σ H R=>ta σ H fun vs H1=>∃ i j:Int,vs=[.int i,.int j]/\(-(2 ^ 62)<=i/\i<2 ^ 62 /\ -(2 ^ 62)<=j/\j<2 ^ 62)/\R (Itr i (j - i).toNat) H1
theorem Zn {a:Expr} {ta:TA} {p pos:Pos} (hg:Gl X "range") (hm:X.mg "range" = none) (ha:PA X [a] ta) (hs:starEach [a] X.env=[(false,eval a X.env)]:=by rfl):PI X tg (.Call (.Name "range" p) [a] [] pos) (Zny ta):=by
 intro pins s σ H R I h;refine Call_ (ZbH I hg hm boot_range (PyProof.Rows.callWith_type1 (thn (ha pos pins s σ H _ I h) fun us s1 zz0=>?_) hs rfl));obtain ⟨vs,H1,I1,r1,q1⟩:=zz0;obtain ⟨j,e,q1,q2,q⟩:=q1;subst e
 cases r1 with
 | cons r rr =>
  cases rr;obtain ⟨t,rfl⟩:=r;exact call_range_1 (Ze8 I1 (by exact O509 ) (by exact O508 ) q1 q2 (by simpa using q))
theorem Zig {a b:Expr} {ta:TA} {p pos:Pos} (hg:Gl X "range") (hm:X.mg "range" = none) (ha:PA X [a,b] ta) (hs:starEach [a,b] X.env=[(false,eval a X.env),(false,eval b X.env)]:=by rfl) (hs2:starEach [b] X.env=[(false,eval b X.env)]:=by rfl) :
  PI X tg (.Call (.Name "range" p) [a,b] [] pos) (Znx ta):=by
 intro pins s σ H R I h;refine Call_ (ZbH I hg hm boot_range (PyProof.Rows.callWith_type1 (thn (ha pos pins s σ H _ I h) fun us s1 zz0=>?_) (by rw [hs,hs2]) (by rw [hs2]; rfl)));obtain ⟨vs,H1,I1,r1,q1⟩:=zz0;obtain ⟨i,j,e,⟨q1,q2,q3,q4⟩,q⟩:=q1;subst e
 cases r1 with
 | cons r rr =>
  cases rr with
  | cons r' rr =>
   cases rr;obtain ⟨t,rfl⟩:=r;obtain ⟨t',rfl⟩:=r';exact call_range_2 (Ze8 I1 q1 q2 q3 q4 q)
def Zn1 (wi:TI) (g:TG) (tb:TS):TS:=fun D σ H=>wi σ H fun J H1=>∃ W:Nat->Nat->St->Hp->Prop,(∃ m,W 0 m σ H1)/\∀ i m σ H,W i m σ H ->
 (J.stop i H/\D.nx σ H)\/(J.go i H/\∃ N:St->Hp->Prop,(∀ σ' H',N σ' H'->∃ m',m'<m/\W (i+1) m' σ' H')/\∀ x H',J.yld i H x H'->g x σ H' fun σ2 H2=>tb { D with nx:=N,ct:=N,bk:=D.nx } σ2 H2)
noncomputable def Zbw (fp:List Addr) (h:Heap):List (Addr × Obj):=fp.filterMap fun b=>(h.get? b).map fun o=>(b,o)
theorem Y5 {fp:List Addr} {h:Heap} {b:Addr} {o:Obj} (hb:b∈fp) (e:h.get? b=some o):(b,o)∈Zbw fp h:=List.mem_filterMap.mpr ⟨b,hb,by rw [e]; rfl⟩
theorem Zip {fp:List Addr} {h:Heap} {p:Addr × Obj} (hp:p∈Zbw fp h):p.1∈fp/\h.get? p.1=some p.2:=by
 obtain ⟨b,hb,e⟩:=List.mem_filterMap.mp hp
 cases q:h.get? b with
 | none=>rw [q] at e; cases e
 | some o =>
  rw [q] at e;have e':(b,o)=p:=QZl e;subst e';exact ⟨hb,q⟩
theorem Inv.pinned {pins:List (Addr × Obj)} {σ:St} {H:Hp} {s:Shared} {fp:List Addr} (I:Inv X pins σ H s) (hf:∀ b∈fp,Zal X pins H b) (ho:∀ b∈fp,∃ o,s.heap.get? b=some o/\∀ v,o.data ≠ .cell v):Inv X (pins++Zbw fp s.heap) σ H s :=
 I.pins_of fun p hp=>(QZf.mp hp).elim (fun z=>I.pin p (QBf _ z)) fun z=>by
  obtain ⟨hb,e⟩:=Zip z;obtain ⟨f0,f1,f2,_⟩:=hf p.1 hb;obtain ⟨o,e',d⟩:=ho p.1 hb;rw [e] at e'; cases e';exact ⟨e,f0,f1,f2,d⟩
theorem Inv.unpinned {pins pl:List (Addr × Obj)} {σ:St} {H:Hp} {s:Shared} (I:Inv X (pins++pl) σ H s):Inv X pins σ H s:=I.pins_of fun p hp=>I.pin p (QBf _ (QBe _ hp))
theorem Ye {iter:Expr} {body:List Stmt} {wi:TI} {g:TG} {tb:TS} {pos:Pos} (hp:PassesOwn (model X.prog X.w) X.A X.env X.xe) (hc:X.calm=true) (hi:PI X tg iter wi) (hg:PG X tg g) (hb:PSs X body tb)
  (hs:∀ x,foldedSetIterable iter X.env x=pure x:=by intro _; rfl):PS X (.For tg iter body [] pos) (Zn1 wi g tb):=by
 intro pins s σ H D I h;refine wpAny_For (thn (hi pins s σ H _ I h) fun v s1 h1=>thn h1 fun itv s2 h2=>?_) hs;obtain ⟨it,fp,tn,J,H2,e,I2,T,st2,f2,W,⟨m0,w0⟩,turn⟩:=h2;subst e;have stat:∀ {H':Hp},(∀ b∈fp,H' b=none)->∀ b∈fp,Zal X pins H' b:=fun hn b hb=>⟨hn b hb,(f2 b hb).2⟩
 refine codeAny_forLoop_any (fun n s'=>∃ i σ' H',Inv X pins σ' H' s'/\tn i s'.heap/\(∀ b∈fp,H' b=none)/\W i n σ' H') ?_ m0 ⟨0,σ,H2,I2,st2,fun b hb=>(f2 b hb).1,w0⟩;rintro n s3 ⟨i,σ3,H3,I3,st3,fr3,w3⟩
 rcases turn i n σ3 H3 w3 with ⟨stop,qn⟩ | ⟨go,N,hN,step⟩
 ·refine wpAny_passesOwn hp (thn (T.done X rfl rfl rfl hc i pins s3 σ3 H3 X.xe I3 (stat fr3) st3 stop) fun r s4 zz0=>?_);obtain ⟨hr,I4⟩:=zz0;subst hr;exact wpAny_execs_nil ⟨σ3,H3,I4,qn⟩
 ·refine wpAny_passesOwn hp (thn (T.item X rfl rfl rfl hc i pins s3 σ3 H3 X.xe I3 (stat fr3) st3 go) fun r s4 zz0=>?_);obtain ⟨u,hr,h4⟩:=zz0;subst hr;refine wpAny_passesOwn hp (thn h4 fun _ s5 zz0=>?_);obtain ⟨x,H5,I5,r5,y5,st5,fr5⟩:=zz0;have I5':=I5.pinned (stat fr5) (T.obj _ _ st5);refine wpAny_passesOwn hp (thn (hg _ s5 σ3 H5 x u _ I5' r5 (step x H5 y5)) fun _ s6 zz0=>?_);obtain ⟨σ6,H6,I6,q6⟩:=zz0;refine wpAny_passesOwn hp (thn (hb _ s6 σ6 H6 _ I6 q6) fun f s7 q7=>?_);have again:∀ {σ7:St} {H7:Hp},Inv X (pins++Zbw fp s5.heap) σ7 H7 s7->N σ7 H7->∃ m,m<n/\∃ i σ' H',Inv X pins σ' H' s7/\tn i s7.heap/\(∀ b∈fp,H' b=none)/\W i m σ' H':=fun {σ7 H7} I7 n7=>by
   obtain ⟨m',hm,w7⟩:=hN σ7 H7 n7;refine ⟨m',hm,i+1,σ7,H7,I7.unpinned,T.keep _ _ _ st5 fun b hb o e=>(I7.pin (b,o) (QBf _ (QBf _ (Y5 hb e)))).1,fun b hb=>?_,w7⟩;obtain ⟨o,e,d⟩:=T.obj _ _ st5 b hb;exact (I7.pin (b,o) (QBf _ (QBf _ (Y5 hb e)))).2.1
  cases f with
  | next=>obtain ⟨σ7,H7,I7,n7⟩:=q7; exact again I7 n7
  | cont=>obtain ⟨σ7,H7,I7,n7⟩:=q7; exact again I7 n7
  | brk=>obtain ⟨σ7,H7,I7,q7⟩:=q7; exact ⟨σ7,H7,I7.unpinned,q7⟩
  | ret v=>obtain ⟨x7,σ7,H7,I7,r7,q7⟩:=q7; exact ⟨x7,σ7,H7,I7.unpinned,r7,q7⟩
end
theorem ZcY {K:QZa} {a:Addr} {xs:List V} {g:TG} {tb:TS} {D:ZeS} {σ:St} {H:Hp} (Pv:Nat->St->Hp->Prop) (h0:Pv 0 σ H) (hl:∀ i σ H,i<=xs.length->Pv i σ H->SqL K H a xs)
  (hs:∀ i x σ H,xs[i]? = some x->Pv i σ H->g x σ H fun σ2 H2=>tb { D with nx:=Pv (i+1),ct:=Pv (i+1),bk:=D.nx } σ2 H2) (hd:∀ σ H,Pv xs.length σ H->D.nx σ H) :
  ∃ W:Nat->Nat->St->Hp->Prop,(∃ m,W 0 m σ H)/\∀ i m σ H,W i m σ H ->
   ((Itl K a).stop i H/\D.nx σ H)\/((Itl K a).go i H/\∃ N:St->Hp->Prop,(∀ σ' H',N σ' H'->∃ m',m'<m/\W (i+1) m' σ' H')/\∀ x H',(Itl K a).yld i H x H'->g x σ H' fun σ2 H2=>tb { D with nx:=N,ct:=N,bk:=D.nx } σ2 H2):=by
 refine ⟨fun i m σ H=>m=xs.length - i/\i<=xs.length/\Pv i σ H,⟨xs.length,by simp,QAg _,h0⟩,?_⟩;rintro i m σ H ⟨rfl,hi,p⟩;have q:=hl i σ H hi p
 by_cases hlt:i<xs.length
 ·refine .inr ⟨⟨xs,xs[i],q,by simp [hlt]⟩,Pv (i+1),fun σ' H' p'=>⟨xs.length - (i+1),by exact O419 hlt,rfl,hlt,p'⟩,fun x H' y=>?_⟩;obtain ⟨e,y⟩:=y;subst e;exact hs i x σ _ (y xs q) p
 ·have e:i=xs.length:=by exact O510 hi hlt
  subst e;exact .inl ⟨⟨xs,q,QAc _⟩,hd σ H p⟩
theorem ZhN {K:QZa} {a:Addr} {xs:List V} {g:TG} {tb:TS} {D:ZeS} {σ:St} {H:Hp} (Pv:Nat->St->Hp->Prop) (h0:Pv 0 σ H) (hl:∀ i σ H,i<=xs.length->Pv i σ H->SqT K H a xs)
  (hs:∀ i x σ H,xs[i]? = some x->Pv i σ H->g x σ H fun σ2 H2=>tb { D with nx:=Pv (i+1),ct:=Pv (i+1),bk:=D.nx } σ2 H2) (hd:∀ σ H,Pv xs.length σ H->D.nx σ H) :
  ∃ W:Nat->Nat->St->Hp->Prop,(∃ m,W 0 m σ H)/\∀ i m σ H,W i m σ H ->
   ((Itt K a).stop i H/\D.nx σ H)\/((Itt K a).go i H/\∃ N:St->Hp->Prop,(∀ σ' H',N σ' H'->∃ m',m'<m/\W (i+1) m' σ' H')/\∀ x H',(Itt K a).yld i H x H'->g x σ H' fun σ2 H2=>tb { D with nx:=N,ct:=N,bk:=D.nx } σ2 H2):=by
 refine ⟨fun i m σ H=>m=xs.length - i/\i<=xs.length/\Pv i σ H,⟨xs.length,by simp,QAg _,h0⟩,?_⟩;rintro i m σ H ⟨rfl,hi,p⟩;have q:=hl i σ H hi p
 by_cases hlt:i<xs.length
 ·refine .inr ⟨⟨xs,xs[i],q,by simp [hlt]⟩,Pv (i+1),fun σ' H' p'=>⟨xs.length - (i+1),by exact O419 hlt,rfl,hlt,p'⟩,fun x H' y=>?_⟩;obtain ⟨e,y⟩:=y;subst e;exact hs i x σ _ (y xs q) p
 ·have e:i=xs.length:=by exact O510 hi hlt
  subst e;exact .inl ⟨⟨xs,q,QAc _⟩,hd σ H p⟩
theorem ZT {lo:Int} {n:Nat} {g:TG} {tb:TS} {D:ZeS} {σ:St} {H:Hp} (Pv:Nat->St->Hp->Prop) (h0:Pv 0 σ H)
  (hs:∀ i σ H,i<n->Pv i σ H->g (.int (lo+i)) σ H fun σ2 H2=>tb { D with nx:=Pv (i+1),ct:=Pv (i+1),bk:=D.nx } σ2 H2) (hd:∀ σ H,Pv n σ H->D.nx σ H) :
  ∃ W:Nat->Nat->St->Hp->Prop,(∃ m,W 0 m σ H)/\∀ i m σ H,W i m σ H ->
   ((Itr lo n).stop i H/\D.nx σ H)\/((Itr lo n).go i H/\∃ N:St->Hp->Prop,(∀ σ' H',N σ' H'->∃ m',m'<m/\W (i+1) m' σ' H')/\∀ x H',(Itr lo n).yld i H x H'->g x σ H' fun σ2 H2=>tb { D with nx:=N,ct:=N,bk:=D.nx } σ2 H2):=by
 refine ⟨fun i m σ H=>m=n - i/\i<=n/\Pv i σ H,⟨n,by simp,QAg _,h0⟩,?_⟩;rintro i m σ H ⟨rfl,hi,p⟩
 by_cases hlt:i<n
 ·refine .inr ⟨hlt,Pv (i+1),fun σ' H' p'=>⟨n - (i+1),by exact O419 hlt,rfl,hlt,p'⟩,fun x H' y=>?_⟩;obtain ⟨e,y⟩:=y;subst e y;exact hs i σ _ hlt p
 ·have e:i=n:=by exact O510 hi hlt
  subst e;exact .inl ⟨QAc _,hd σ H p⟩
noncomputable abbrev R2:=V->V->Hp->VK->Prop
def OpR (X:Cx) (f:Value->Value->Sem Value) (r:R2):Prop :=
 ∀ (pins:List (Addr × Obj)) (s:Shared) (σ:St) (H:Hp) (x y:V) (v u:Value) (Q:VK),Inv X pins σ H s->RelV x v->RelV y u->r x y H Q ->
  wpAny (model X.prog X.w) X.A (f v u) (EP X pins σ Q) X.xe s
def UnR (X:Cx) (f:Value->Sem Value) (r:V->Hp->VK->Prop):Prop :=
 ∀ (pins:List (Addr × Obj)) (s:Shared) (σ:St) (H:Hp) (x:V) (v:Value) (Q:VK),Inv X pins σ H s->RelV x v->r x H Q ->
  wpAny (model X.prog X.w) X.A (f v) (EP X pins σ Q) X.xe s
def Y0 (X:Cx) (f:Value) (r:List V->Hp->VK->Prop):Prop :=
 ∀ (pins:List (Addr × Obj)) (s:Shared) (σ:St) (H:Hp) (xs:List V) (us:List Value) (Q:VK),Inv X pins σ H s->Vals xs us->r xs H Q ->
  wpAny (model X.prog X.w) X.A (call f us) (EP X pins σ Q) X.xe s
def Zog (X:Cx) (r:V->Hp->(Bool->Hp->Prop)->Prop):Prop :=
 ∀ (pins:List (Addr × Obj)) (s:Shared) (σ:St) (H:Hp) (x:V) (v:Value) (Q:Bool->Hp->Prop),Inv X pins σ H s->RelV x v->r x H Q ->
  wpAny (model X.prog X.w) X.A (truthy v) (TP X pins σ Q) X.xe s
def tOp (r:R2) (ta tb:TE):TE:=fun σ H Q=>ta σ H fun x H1=>tb σ H1 fun y H2=>r x y H2 Q
def tUn (r:V->Hp->VK->Prop) (ta:TE):TE:=fun σ H Q=>ta σ H fun x H1=>r x H1 Q
inductive RII (C:Int->Int->Prop) (g:Int->Int->V) (x:V) (y:V) (H:Hp) (Q:VK):Prop where
 | mk (i:Int) (j:Int) (_:x = .int i) (_:y = .int j) (_:C i j) (_:Q (g i j) H):RII C g x y H Q
def rI (C:Int->Int->Prop) (g:Int->Int->V):R2:=fun x y H Q=>RII C g x y H Q
inductive ZnJ (g:Int->Int->V) (x:V) (y:V) (H:Hp) (Q:VK):Prop where
 | mk (i:Int) (j:Int) (_:x = .int i) (_:y = .int j) (_:Q (g i j) H):ZnJ g x y H Q
def rI0 (g:Int->Int->V):R2:=fun x y H Q=>ZnJ g x y H Q
def rU (g:Int->V):V->Hp->VK->Prop:=fun x H Q=>∃ i,x = .int i/\Q (g i) H
section
variable {X:Cx} {a b c:Expr} {ta tb tc:TE} {pos:Pos}
theorem ZmT (ha:PE X a ta) (hb:PE X b tb) {pins:List (Addr × Obj)} {s:Shared} {σ:St} {H:Hp} {R:V->V->Hp->Prop} (I:Inv X pins σ H s)
  (h:ta σ H fun x H1=>tb σ H1 fun y H2=>R x y H2) {Q:Value->Shared->Prop} {f:Value->Value->Sem Value}
  (hf:∀ v u s2 x y H2,Inv X pins σ H2 s2->RelV x v->RelV y u->R x y H2->wpAny (model X.prog X.w) X.A (f v u) Q X.xe s2) :
  wpAny (model X.prog X.w) X.A (eval a X.env) (fun v s₁=>wpAny (model X.prog X.w) X.A (eval b X.env) (fun u s₂=>wpAny (model X.prog X.w) X.A (f v u) Q X.xe s₂) X.xe s₁) X.xe s:=by
 refine thn (ha pins s σ H _ I h) fun v s1 zz0=>?_;obtain ⟨x,H1,I1,r1,q1⟩:=zz0;refine thn (hb pins s1 σ H1 _ I1 q1) fun u s2 zz0=>?_;obtain ⟨y,H2,I2,r2,q2⟩:=zz0;exact hf v u s2 x y H2 I2 r1 r2 q2
theorem Zk {op:Operator} {r:R2} (ho:OpR X (binaryOp op) r) (ha:PE X a ta) (hb:PE X b tb):PE X (.BinOp a op b pos) (tOp r ta tb):=by
 intro pins s σ H Q I h;exact wpAny_BinOp (ZmT ha hb I h fun v u s2 x y H2 I2 rx ry q=>ho pins s2 σ H2 x y v u Q I2 rx ry q)
theorem Znq {op:UnaryOp} {r:V->Hp->VK->Prop} (ho:UnR X (unaryOp op) r) (ha:PE X a ta):PE X (.UnaryOp op a pos) (tUn r ta):=by
 intro pins s σ H Q I h;exact UnaryOp_ (thn (ha pins s σ H _ I h) fun v s1 zz0=> by obtain ⟨x,H1,I1,r1,q1⟩ := zz0; exact ho pins s1 σ H1 x v Q I1 r1 q1)
theorem opI {f:Value->Value->Sem Value} {C:Int->Int->Prop} {g:Int->Int->Int}
  (rule:∀ (i j:Int) (t u:Tok) (s:Shared) (Q:Value->Shared->Prop) (E:Value->Shared->Prop),C i j->Q (.int (g i j) s.toks) { s with toks:=s.toks+1 }->wpAny (model X.prog X.w) X.A (f (.int i t) (.int j u)) Q E s) :
  OpR X f (rI C fun i j=>.int (g i j)):=by
 intro pins s σ H x y v u Q I rx ry h;obtain ⟨i,j,rfl,rfl,hc,q⟩:=h;obtain ⟨t,rfl⟩:=rx;obtain ⟨t',rfl⟩:=ry;exact rule i j t t' s _ _ hc ⟨.int (g i j),H,I.tok _,⟨_,rfl⟩,q⟩
theorem Zmq {f:Value->Value->Sem Value} {g:Int->Int->Int}
  (rule:∀ (i j:Int) (t u:Tok) (s:Shared) (Q:Value->Shared->Prop) (E:Value->Shared->Prop),Q (.int (g i j) s.toks) { s with toks:=s.toks+1 }->wpAny (model X.prog X.w) X.A (f (.int i t) (.int j u)) Q E s) :
  OpR X f (rI0 fun i j=>.int (g i j)):=by
 intro pins s σ H x y v u Q I rx ry h;obtain ⟨i,j,rfl,rfl,q⟩:=h;obtain ⟨t,rfl⟩:=rx;obtain ⟨t',rfl⟩:=ry;exact rule i j t t' s _ _ ⟨.int (g i j),H,I.tok _,⟨_,rfl⟩,q⟩
theorem Zn8 {f:Value->Value->Sem Value} {g:Int->Int->Bool}
  (rule:∀ (i j:Int) (t u:Tok) (s:Shared) (Q:Value->Shared->Prop) (E:Value->Shared->Prop),Q (.bool (g i j)) s->wpAny (model X.prog X.w) X.A (f (.int i t) (.int j u)) Q E s) :
  OpR X f (rI0 fun i j=>.bl (g i j)):=by
 intro pins s σ H x y v u Q I rx ry h;obtain ⟨i,j,rfl,rfl,q⟩:=h;obtain ⟨t,rfl⟩:=rx;obtain ⟨t',rfl⟩:=ry;exact rule i j t t' s _ _ ⟨.bl (g i j),H,I,rfl,q⟩
def Zoj (i j:Int):Prop:=0<j/\j<1073741824
def Zoi (i j:Int):Prop:=0<=j/\j<=1000000/\i.natAbs<2 ^ 64
def CMul (i j:Int):Prop:=(-(2 ^ 64)<i/\i<2 ^ 64)\/(-(2 ^ 64)<j/\j<2 ^ 64)
theorem CMul.ok {i j:Int} (h:CMul i j):IntMulOk i j:=by
 rcases h with ⟨h1,h2⟩ | ⟨h1,h2⟩
 ·exact .of_left (intBits_le_64 h1 h2)
 ·exact .of_right (intBits_le_64 h1 h2)
theorem Yj:OpR X (binaryOp .Add) (rI0 fun i j=>.int (i+j)):=Zmq fun _ _ _ _ _ _ _ q=>add_int q
theorem Zjh:OpR X (binaryOp .Sub) (rI0 fun i j=>.int (i - j)):=Zmq fun _ _ _ _ _ _ _ q=>sub_int q
theorem Ju:OpR X (binaryOp .Mult) (rI CMul fun i j=>.int (i*j)):=opI fun _ _ _ _ _ _ _ hc q=>mul_int q hc.ok
theorem Yy:OpR X (binaryOp .FloorDiv) (rI Zoj fun i j=>.int (i / j)):=opI fun i j _ _ _ _ _ hc q=>by
 have h1:(0:Int)<j:=hc.1;have h2:j<1073741824:=hc.2;exact floordiv_int (by exact O542 h1 h2) (by rw [Int.fdiv_eq_ediv_of_nonneg i (by exact O541 h1 h2)]; exact q) (.inl (PyProof.noPylong_small (by omega)))
theorem Yf:OpR X (binaryOp .Mod) (rI (fun _ j=>0<j) fun i j=>.int (i % j)):=opI fun i j _ _ _ _ _ hc q=>by
 have h1:(0:Int)<j:=hc;exact mod_int' (by exact O417 hc) (by rw [Int.fmod_eq_emod_of_nonneg i (by exact O540 hc)]; exact q)
theorem ZaM:OpR X (binaryOp .Pow) (rI Zoi fun i j=>.int (i ^ j.toNat)):=opI fun _ _ _ _ _ _ _ hc q=>pow_int_small hc.1 hc.2.1 hc.2.2 q
theorem Zmm:OpR X (binaryOp .BitXor) (rI0 fun i j=>.int (Builtin.bitXor i j)):=Zmq fun _ _ _ _ _ _ _ q=>xor_int q
theorem Zk4:OpR X (inplaceOp .Mult) (rI CMul fun i j=>.int (i*j)):=opI fun _ _ _ _ _ _ _ hc q=>imul_int q hc.ok
theorem unI {f:Value->Sem Value} {g:Int->Int}
  (rule:∀ (i:Int) (t:Tok) (s:Shared) (Q:Value->Shared->Prop) (E:Value->Shared->Prop),Q (.int (g i) s.toks) { s with toks:=s.toks+1 }->wpAny (model X.prog X.w) X.A (f (.int i t)) Q E s) :
  UnR X f (rU fun i=>.int (g i)):=by
 intro pins s σ H x v Q I rx h;obtain ⟨i,rfl,q⟩:=h;obtain ⟨t,rfl⟩:=rx;exact rule i t s _ _ ⟨.int (g i),H,I.tok _,⟨_,rfl⟩,q⟩
theorem ZlU:UnR X (unaryOp .USub) (rU fun i=>.int (-i)):=unI fun _ _ _ _ _ q=>neg_int q
end
noncomputable def Znh:V->V->Bool
 | .non,.non=>true | .non,.int _=>true | .int _,.non=>true | .non,.bl _=>true | .bl _,.non=>true | .non,.str _=>true | .str _,.non=>true
 | .int _,.int _=>true | .bl _,.bl _=>true | .str _,.str _=>true | .byt _,.byt _=>true
 | .int _,.str _=>true | .str _,.int _=>true | .bl _,.str _=>true | .str _,.bl _=>true
 | _,_=>false
def rEq:R2:=fun x y H Q=>Znh x y=true/\Q (.bl (decide (x=y))) H
def rNe:R2:=fun x y H Q=>Znh x y=true/\Q (.bl (!decide (x=y))) H
theorem ZhR {i j:Int}:decide (V.int i=V.int j)=(i==j):=by
 rw [QBj]
 simp
theorem Zj0 {i j:Bool}:decide (V.bl i=V.bl j)=(i==j):=by
 rw [QBj]
 simp
theorem ZhQ {i j:Str}:decide (V.str i=V.str j)=(i==j):=by
 rw [QBj]
 simp
theorem ZhS {i j:Array UInt8}:decide (V.byt i=V.byt j)=(i.toList==j.toList):=by
 rw [QBj]
 cases i
 cases j
 simp
section
variable {X:Cx} {a b c:Expr} {ta tb tc:TE} {pos:Pos}
theorem ZN {pins:List (Addr × Obj)} {σ:St} {H:Hp} {s:Shared} {Q:VK} {k k':Bool} (I:Inv X pins σ H s) (q:Q (.bl k) H) (e:k=k'):EP X pins σ Q (.bool k') s:=by
 subst e;exact ⟨.bl k,H,I,rfl,q⟩
theorem JO:OpR X (compareOp .Eq) rEq:=by
 intro pins s σ H x y v u Q I rx ry h;obtain ⟨hs,q⟩:=h
 cases x with
 | non =>
  cases rx
  cases y with
  | non=>cases ry; exact PySem.EqNone.eq_none_none (ZN I q (by simp))
  | bl j=>cases ry; exact PySem.EqNone.eq_none_bool (ZN I q (by simp))
  | int j=>obtain ⟨t',rfl⟩:=ry; exact PySem.EqNone.eq_none_int (ZN I q (by simp))
  | str j=>obtain ⟨t',rfl⟩:=ry; exact PySem.EqNone.eq_none_str (ZN I q (by simp))
  | _=>exact absurd (show false=true from hs) QAn
 | bl i =>
  cases rx
  cases y with
  | non=>cases ry; exact PySem.EqNone.eq_bool_none (ZN I q (by simp))
  | bl j=>cases ry; exact eq_bool (ZN I q Zj0)
  | str j=>obtain ⟨t',rfl⟩:=ry; exact PySem.EqMixed.eq_bool_str (ZN I q (by simp))
  | _=>exact absurd (show false=true from hs) QAn
 | int i =>
  obtain ⟨t,rfl⟩:=rx
  cases y with
  | non=>cases ry; exact PySem.EqNone.eq_int_none (ZN I q (by simp))
  | int j=>obtain ⟨t',rfl⟩:=ry; exact eq_int (ZN I q ZhR)
  | str j=>obtain ⟨t',rfl⟩:=ry; exact PySem.EqMixed.eq_int_str (ZN I q (by simp))
  | _=>exact absurd (show false=true from hs) QAn
 | str i =>
  obtain ⟨t,rfl⟩:=rx
  cases y with
  | non=>cases ry; exact PySem.EqNone.eq_str_none (ZN I q (by simp))
  | bl j=>cases ry; exact PySem.EqMixed.eq_str_bool (ZN I q (by simp))
  | int j=>obtain ⟨t',rfl⟩:=ry; exact PySem.EqMixed.eq_str_int (ZN I q (by simp))
  | str j=>obtain ⟨t',rfl⟩:=ry; exact eq_str (ZN I q ZhQ)
  | _=>exact absurd (show false=true from hs) QAn
 | byt i =>
  obtain ⟨t,rfl⟩:=rx
  cases y with
  | byt j=>obtain ⟨t',rfl⟩:=ry; exact PySem.W.eq_bytes (ZN I q ZhS)
  | _=>exact absurd (show false=true from hs) QAn
 | _=>cases y <;> exact absurd (show false=true from hs) QAn
theorem Zjj:OpR X (compareOp .NotEq) rNe:=by
 intro pins s σ H x y v u Q I rx ry h;obtain ⟨hs,q⟩:=h
 cases x with
 | non =>
  cases rx
  cases y with
  | non=>cases ry; exact PySem.EqNone.ne_none_none (ZN I q (by simp))
  | bl j=>cases ry; exact PySem.EqNone.ne_none_bool (ZN I q (by simp))
  | int j=>obtain ⟨t',rfl⟩:=ry; exact PySem.EqNone.ne_none_int (ZN I q (by simp))
  | str j=>obtain ⟨t',rfl⟩:=ry; exact PySem.EqNone.ne_none_str (ZN I q (by simp))
  | _=>exact absurd (show false=true from hs) QAn
 | bl i =>
  cases rx
  cases y with
  | non=>cases ry; exact PySem.EqNone.ne_bool_none (ZN I q (by simp))
  | bl j=>cases ry; exact ne_bool (ZN I q (congrArg not Zj0))
  | str j=>obtain ⟨t',rfl⟩:=ry; exact PySem.EqMixed.ne_bool_str (ZN I q (by simp))
  | _=>exact absurd (show false=true from hs) QAn
 | int i =>
  obtain ⟨t,rfl⟩:=rx
  cases y with
  | non=>cases ry; exact PySem.EqNone.ne_int_none (ZN I q (by simp))
  | int j=>obtain ⟨t',rfl⟩:=ry; exact ne_int (ZN I q (congrArg not ZhR))
  | str j=>obtain ⟨t',rfl⟩:=ry; exact PySem.EqMixed.ne_int_str (ZN I q (by simp))
  | _=>exact absurd (show false=true from hs) QAn
 | str i =>
  obtain ⟨t,rfl⟩:=rx
  cases y with
  | non=>cases ry; exact PySem.EqNone.ne_str_none (ZN I q (by simp))
  | bl j=>cases ry; exact PySem.EqMixed.ne_str_bool (ZN I q (by simp))
  | int j=>obtain ⟨t',rfl⟩:=ry; exact PySem.EqMixed.ne_str_int (ZN I q (by simp))
  | str j=>obtain ⟨t',rfl⟩:=ry; exact ne_str (ZN I q (congrArg not ZhQ))
  | _=>exact absurd (show false=true from hs) QAn
 | byt i =>
  obtain ⟨t,rfl⟩:=rx
  cases y with
  | byt j=>obtain ⟨t',rfl⟩:=ry; exact PySem.W.ne_bytes (ZN I q (congrArg not ZhS))
  | _=>exact absurd (show false=true from hs) QAn
 | _=>cases y <;> exact absurd (show false=true from hs) QAn
theorem Zlz:OpR X (compareOp .Lt) (rI0 fun i j=>.bl (decide (i<j))):=Zn8 fun _ _ _ _ _ _ _ q=>lt_int q
theorem Z7 (b:Expr) {op:CmpOp} (h:op ≠ .In:=by decide) (h2:op ≠ .NotIn:=by decide):behindInMarks op b=false:=by
 have e1:(op==CmpOp.In)=false:=by cases op <;> first | rfl | exact absurd rfl h
 have e2:(op==CmpOp.NotIn)=false:=by cases op <;> first | rfl | exact absurd rfl h2
 cases b <;> simp [behindInMarks,e1,e2]
theorem ZeA {op:CmpOp} {r:R2} (ho:OpR X (compareOp op) r) (ha:PE X a ta) (hb:PE X b tb) (hm:behindInMarks op b=false):PE X (.Compare a [op] [b] pos) (tOp r ta tb):=by
 intro pins s σ H Q I h;exact wpAny_Compare1 (ZmT ha hb I h fun v u s2 x y H2 I2 rx ry q=>ho pins s2 σ H2 x y v u Q I2 rx ry q) hm
def Zm4 (t:TE):TT:=fun σ H Q=>t σ H fun x H'=>ZmZ x Q H'
theorem ZJ {op:CmpOp} {r:R2} (ho:OpR X (compareOp op) r) (ha:PE X a ta) (hb:PE X b tb) (hm:behindInMarks op b=false):PT X (.Compare a [op] [b] pos) (Zm4 (tOp r ta tb)):=by
 intro pins s σ H Q I h;refine wpAny_isTrue_Compare1 (thn (ha pins s σ H _ I h) fun v s1 ⟨x,H1,I1,r1,q1⟩=>thn (hb pins s1 σ H1 _ I1 q1) fun u s2 ⟨y,H2,I2,r2,q2⟩ =>
  thn (ho pins s2 σ H2 x y v u _ I2 r1 r2 q2) fun c s3 ⟨z,H3,I3,r3,k,e,q3⟩=>?_) hm
 subst e
 cases r3;exact wpAny_truthy_bool ⟨H3,I3,q3⟩
def ZnF (K:QZa) (x:V) (H:Hp) (k:Bool):Prop :=
 match x with
 | .non=>k=false
 | .bl b=>k=b
 | .int i=>k=(i != 0)
 | .str y=>y.length<=sizeLine/\k=((y.length:Int) != 0)
 | .byt y=>y.size<=sizeLine/\k=((y.size:Int) != 0)
 | .ref p=>(∃ xs,SqL K H p xs/\k = !xs.isEmpty)\/(∃ xs,SqT K H p xs/\k = !xs.isEmpty)\/∃ kvs,H p=some (.dK kvs)/\k = !kvs.isEmpty
 | _=>False
theorem ZgR {κ:Type} {kvs:List (κ × V)} {vs:List (κ × Value)} (r:KV kvs vs):(!vs.isEmpty) = !kvs.isEmpty:=by
 cases r <;> rfl
theorem ZcT {xs:List V} {its:List Value} (r:Vals xs its):(!its.toArray.isEmpty) = !xs.isEmpty:=by
 cases r <;> simp
theorem ZbG:(sizeLine:Nat)<2 ^ 63:=by rw [sizeLine_eq]; decide
theorem ZlX:Zog X (fun x H Q=>∃ k,ZnF X.K x H k/\Q k H):=by
 intro pins s σ H x v Q I rx h;obtain ⟨k,e,q⟩:=h;have hl:=ZbG;have hs:sizeLine=16777216:=sizeLine_eq
 cases x with
 | non =>
  cases rx;have e':k=false:=e;subst e';exact truthy_none ⟨H,I,q⟩
 | bl b =>
  cases rx;have e':k=b:=e;subst e';exact wpAny_truthy_bool ⟨H,I,q⟩
 | int i =>
  obtain ⟨t,rfl⟩:=rx;have e':k=(i != 0):=e;subst e';exact PySem.P.truthy_int ⟨H,I,q⟩
 | str y =>
  obtain ⟨t,rfl⟩:=rx;obtain ⟨hy,e'⟩:y.length<=sizeLine/\k=((y.length:Int) != 0):=e;subst e';exact PySem.P.truthy_str (by exact O539 hs hy) ⟨H,I.tok _,q⟩
 | byt y =>
  obtain ⟨t,rfl⟩:=rx;obtain ⟨hy,e'⟩:y.size<=sizeLine/\k=((y.size:Int) != 0):=e;subst e';exact PySem.W.truthy_bytes (by exact Om.b1 ‹_› rfl) ⟨H,I.tok _,q⟩
 | ref p =>
  cases rx;have e':(∃ xs,SqL X.K H p xs/\k = !xs.isEmpty)\/(∃ xs,SqT X.K H p xs/\k = !xs.isEmpty)\/∃ kvs,H p=some (.dK kvs)/\k = !kvs.isEmpty:=e
  rcases e' with ⟨xs,hx,e'⟩ | ⟨xs,hx,e'⟩ | ⟨kvs,hx,e'⟩
  ·subst e';obtain ⟨its,r,pl,hz⟩:=I.list hx;have hlen:=r.length;exact wpAny_truthy_list pl.isList (by simp only [QAi]; exact O538 hs hz hlen) ⟨H,I.tok _,by rw [ZcT r]; exact q⟩
  ·subst e';obtain ⟨its,r,pl,hz⟩:=I.tuple hx;have hlen:=r.length;exact truthy_tuple pl (by simp only [QAi]; exact O538 hs hz hlen) ⟨H,I.tok _,by rw [ZcT r]; exact q⟩
  ·subst e';obtain ⟨hz,hS,vs,r,m⟩:kvs.length<=sizeLine/\(p==sysModules)=false/\∃ vs,KV kvs vs/\s.heap.DictOf (ZZ X.prog X.w) p vs:=I.hok p _ hx;have hlen:kvs.length=vs.length:=Paired.length r;exact wpAny_truthy_dict hS m (by exact O538 hs hz hlen) ⟨H,I.tok _,by rw [ZgR r]; exact q⟩
 | _=>exact (show False from e).elim
theorem Zi8 (ha:PE X a ta) (he:∀ whole,isTrue a X.env whole=(do let v <- whole; standAt a.pos; holding [v] (truthy v))) :
  PT X a (fun σ H Q=>ta σ H fun x H'=>∃ k,ZnF X.K x H' k/\Q k H'):=by
 intro pins s σ H Q I h;exact isTrue_plain (thn (ha pins s σ H _ I h) fun v s1 zz0=> by obtain ⟨x,H1,I1,r1,q1⟩ := zz0; exact ZlX pins s1 σ H1 x v Q I1 r1 q1) (he _)
theorem JB {x:V} {us:List Value} (r:Vals [x] us):∃ u,us=[u]/\RelV x u:=by
 cases r with
 | cons r1 r2=>cases r2; exact ⟨_,rfl,r1⟩
theorem Zm2 {x y:V} {us:List Value} (r:Vals [x,y] us):∃ u w',us=[u,w']/\RelV x u/\RelV y w':=by
 cases r with
 | cons r1 r2 =>
  cases r2 with
  | cons r3 r4=>cases r4; exact ⟨_,_,rfl,r1,r3⟩
theorem ZbO (hc:X.calm=true):Y0 X (.builtin "max") (fun xs H Q=>∃ i j,xs=[.int i,.int j]/\Q (.int (if j>i then j else i)) H):=by
 intro pins s σ H xs us Q I r h;obtain ⟨i,j,rfl,q⟩:=h;obtain ⟨u,w',rfl,⟨t,rfl⟩,⟨t',rfl⟩⟩:=Zm2 r;refine max_two_ints (I.ok.hd hc) fun h' tk k=>⟨_,H,I.kept k,?_,q⟩
 by_cases hj:j>i
 ·rw [if_pos hj,if_pos hj]; exact ⟨_,rfl⟩
 ·rw [if_neg hj,if_neg hj]; exact ⟨_,rfl⟩
theorem ZiD:Y0 X (.type "int") (fun xs H Q=>(∃ i,xs=[.int i]/\Q (.int i) H)\/∃ k,xs=[.bl k]/\Q (.int (if k then 1 else 0)) H):=by
 intro pins s σ H xs us Q I r h
 rcases h with ⟨i,rfl,q⟩ | ⟨k,rfl,q⟩
 ·obtain ⟨u,rfl,t,rfl⟩:=JB r;exact call_int_int ⟨.int i,H,I,⟨_,rfl⟩,q⟩
 ·obtain ⟨u,rfl,r1⟩:=JB r
  cases r1;exact call_int_bool ⟨.int (if k then 1 else 0),H,I.tok _,⟨_,rfl⟩,q⟩
end
theorem RelO.some_of {v:V} {o:Option Value} (r:RelO (some v) o):∃ u,o=some u/\RelV v u:=by
 cases o with
 | none=>exact (show False from r).elim
 | some u=>exact ⟨u,rfl,r⟩
structure Room (k:Nat) (A:Around):Prop where
 hd:A.handled=none
 dp:A.depth+3*k+5<recursionLimit
 un:A.units+16*k+200<cLine
theorem Room.mono {j k:Nat} {A:Around} (r:Room k A) (h:j<=k):Room j A:=⟨r.hd,by have:=r.dp; omega,by have:=r.un; omega⟩
theorem Room.deeper {k:Nat} {A:Around} (r:Room (k+1) A) (env:Env):Room k (A.deeper env) :=
 ⟨r.hd,by have:=r.dp; show A.depth+1+3*k+5<_; exact O537 this,by have:=r.un; show A.units+3+16*k+200<_; exact O536 this⟩
theorem Room.depth {k:Nat} {A:Around} (r:Room k A):A.depth<recursionLimit:=by have:=r.dp; omega
def ZnW:TA:=fun _ H Q=>Q [] H
def Znc (ta:TE) (tr:TA):TA:=fun σ H Q=>ta σ H fun x H1=>tr σ H1 fun xs H2=>Q (x::xs) H2
section
variable {X:Cx} {e:Expr} {es:List Expr} {te:TE} {t:TA} {pos:Pos}
theorem Zc:PA X [] ZnW:=fun _ _ _ _ H Q I h=>Calls.spliced_nil ⟨[],H,I,.nil,h⟩
theorem Za (ha:PE X e te) (hr:PA X es t) (hs:starEach (e::es) X.env=(false,eval e X.env)::starEach es X.env:=by rfl):PA X (e::es) (Znc te t):=by
 intro pos pins s σ H Q I h;rw [hs];show wpAny _ _ (spliced ((false,eval e X.env)::backTo pos (starEach es X.env))) _ _ s;refine Calls.spliced_cons (thn (ha pins s σ H _ I h) fun u s1 zz0=>?_);obtain ⟨x,H1,I1,r1,q1⟩:=zz0;exact thn (hr pos pins s1 σ H1 _ I1 q1) fun us s2 ⟨xs,H2,I2,r2,q2⟩=>⟨x::xs,H2,I2,.cons r1 r2,q2⟩
def ZnS (t:TA):TE:=fun σ H Q=>t σ H fun xs H1=>xs.length<=sizeLine/\∀ p,H1 p=none->Q (.ref p) (upd H1 p (.tup xs))
def ZnX (t:TA):TE:=fun σ H Q=>t σ H fun xs H1=>xs.length<=sizeLine/\∀ p,H1 p=none->Q (.ref p) (upd H1 p (.lst xs))
theorem ZaK {x1} (h:PA X es t):PE X (.Tuple es x1 pos) (ZnS t):=by
 intro pins s σ H Q I hq;refine wpAny_Tuple_spliced (thn (h pos pins s σ H _ I hq) fun us s1 ⟨xs,H1,I1,r,z,q⟩=>⟨by rw [<- r.length]; exact z,?_⟩);have hf:H1 s1.heap.objs.size=none:=I1.hok.fresh (QAc _);refine ⟨.ref s1.heap.objs.size,upd H1 s1.heap.objs.size (.tup xs),I1.laid (t':=s1.toks) (fun b u e=>QAk _ e) (QAc _) ?_,rfl,q _ hf⟩;exact ⟨z,us,r,⟨_,QBa _ rfl,rfl,_,rfl⟩⟩
theorem Z0 (h:PA X es t):PE X (.List es pos) (ZnX t):=by
 intro pins s σ H Q I hq;refine wpAny_List_spliced (thn (h pos pins s σ H _ I hq) fun us s1 ⟨xs,H1,I1,r,z,q⟩=>⟨by rw [<- r.length]; exact z,?_⟩);have hf:H1 s1.heap.objs.size=none:=I1.hok.fresh (QAc _);refine ⟨.ref s1.heap.objs.size,upd H1 s1.heap.objs.size (.lst xs),I1.laid (t':=s1.toks) (fun b u e=>QAk _ e) (QAc _) ?_,rfl,q _ hf⟩;exact ⟨z,us,0,r,QBa _ rfl⟩
end
noncomputable abbrev Sp:=List V->Hp->VK->XK->Prop
noncomputable abbrev CXT:=List Env->Hp->Shared->XK->Value->Shared->Prop
structure Zls (P:Program) (w:World) (K:QZa) (mg:Str->Option Value) (base:Heap) (A:Around) (outer:List Env) (s:Shared) (H:Hp):Prop where
 frames:A.frames=some outer
 mod:Mod K mg base
 bs:∀ b o,base.get? b=some o->s.heap.get? b=some o/\H b=none
 bsz:base.objs.size<=s.heap.objs.size
 funs:s.heap.FunFrames base outer
 frf:∀ b∈frs outer,H b=none
 hok:HOk P w H s.heap
 bare:AllBare s.gens
def CE (outer:List Env) (P:Program) (w:World) (H:Hp) (s:Shared) (Q:VK) (u:Value) (s':Shared):Prop :=
 ∃ v H',s'.os=s.os/\AllBare s'.gens/\Un (frs outer) [] H H' s.heap s'.heap/\HOk P w H' s'.heap/\RelV v u/\Q v H'
def CR (CX:CXT) (outer:List Env) (P:Program) (w:World) (H:Hp) (s:Shared) (Q:VK) (E:XK) (r:Result) (s':Shared):Prop :=
 match r with
 | .ok (.ret u)=>CE outer P w H s Q u s'
 | .ok _=>False
 | .error e=>CX outer H s E e s'
structure FnOk (P:Program) (w:World) (K:QZa) (mg:Str->Option Value) (base:Heap) (CX:CXT) (k:Nat) (f:Addr) (fd:FuncData) (ps:List Str) (sp:Sp):Prop where
 len:∀ vs H Q E,sp vs H Q E->vs.length=ps.length
 run:∀ (A:Around) (outer:List Env) (s:Shared) (H:Hp) (args:Args) (us:List Value) (vs:List V) (Q:VK) (E:XK),Room k A->Zls P w K mg base A outer s H->BindsTo s fd args (ps.zip us)->Vals vs us->sp vs H Q E ->
  codeAny (model P w) A (.call (.ref f) args) (CR CX outer P w H s Q E) s
theorem FnOk.mono {P:Program} {w:World} {K:QZa} {mg:Str->Option Value} {base:Heap} {CX:CXT} {j k:Nat} {f:Addr} {fd:FuncData} {ps:List Str} {sp:Sp} (F:FnOk P w K mg base CX j f fd ps sp) (h:j<=k) :
  FnOk P w K mg base CX k f fd ps sp:=⟨F.len,fun A outer s H args us vs Q E hr=>F.run A outer s H args us vs Q E (hr.mono h)⟩
section
variable {X:Cx} {pins:List (Addr × Obj)} {σ:St} {H:Hp} {s s':Shared}
theorem Inv.env0 (I:Inv X pins σ H s):Zls X.prog X.w X.K X.mg X.base X.A X.stack s H :=
 ⟨I.ok.frames,I.ok.mod,I.bs,QAr I.ok.bsz I.sz,I.stack,I.stkFree,I.hok,I.bare⟩
theorem Inv.after {Q:VK} {u:Value} (I:Inv X pins σ H s) (h:CE X.stack X.prog X.w H s Q u s'):EP X pins σ Q u s':=by
 obtain ⟨v,H',os,bare,un,hok,r,q⟩:=h;obtain ⟨hh,g,d,t,os'⟩:=s';obtain rfl:os'=s.os:=os;exact ⟨v,H',I.call (h':=hh) (g':=g) (d':=d) (t':=t) (ch:=[]) un hok bare (fun b z=>absurd z (by simp)),r,q⟩
end
def Znd (sp:Sp) (dvs:List V) (E:XK) (t:TA):TE:=fun σ H Q=>t σ H fun vs H1=>sp (vs++dvs) H1 Q E
def Binds (K:QZa) (fd:FuncData) (ps:List Str) (ds:List Value):Prop :=
 ∀ (s:Shared) (us:List Value),K.In s.heap->(us++ds).length=ps.length->BindsTo s fd ⟨us,[]⟩ (ps.zip (us++ds))
theorem Binds.all {K:QZa} {fd:FuncData} {ps:List Str} (h:∀ us:List Value,us.length=ps.length->bindArgs fd ⟨us,[]⟩=pure (ps.zip us)):Binds K fd ps []:=fun s us _ hl=>by
 rw [QBq] at hl ⊢;exact .of_eq (h us hl)
def Zg9 (CX:CXT) (X:Cx) (E:XK):Prop:=∀ (pins:List (Addr × Obj)) (σ:St) (H:Hp) (s:Shared) (e:Value) (s':Shared),Inv X pins σ H s->CX X.stack H s E e s'->X.xe e s'
section
variable {X:Cx} {CX:CXT} {k:Nat} {f C:Addr} {fd:FuncData} {ps:List Str} {sp:Sp} {dvs:List V} {ds:List Value} {E:XK} {x m:Str} {p pos apos:Pos} {e o:Expr} {es:List Expr} {ta:TE} {t:TA}
theorem Zl8 {pins:List (Addr × Obj)} {σ:St} {H:Hp} {s:Shared} {Q:VK} {us:List Value} {vs:List V} (F:FnOk X.prog X.w X.K X.mg X.base CX k f fd ps sp) (hr:Room k X.A) (hb:Binds X.K fd ps ds) (hd:Vals dvs ds) (hx:Zg9 CX X E)
  (I:Inv X pins σ H s) (r:Vals vs us) (h:sp (vs++dvs) H Q E):wpAny (model X.prog X.w) X.A (call (.ref f) us) (EP X pins σ Q) X.xe s:=by
 have r2:Vals (vs++dvs) (us++ds):=r.append hd;have hl:(us++ds).length=ps.length:=by rw [<- r2.length]; exact F.len _ _ _ _ h
 refine wpAny_call (codeAny_mono (F.run X.A X.stack s H ⟨us,[]⟩ (us++ds) (vs++dvs) Q E hr I.env0 (hb s us I.kIn hl) r2 h) fun r s' hq=>?_)
 cases r with
 | error e=>exact hx pins σ H s e s' I hq
 | ok fl =>
  cases fl with
  | ret u=>exact I.after hq
  | next=>exact False.elim hq
  | brk=>exact False.elim hq
  | cont=>exact False.elim hq
theorem Zm (F:FnOk X.prog X.w X.K X.mg X.base CX k f fd ps sp) (hr:Room k X.A) (hg:Gl X x) (hm:X.mg x=some (.ref f)) (hk:PySem.W.keepIn X.K (.ref f)=true) (hb:Binds X.K fd ps ds) (hd:Vals dvs ds) (hx:Zg9 CX X E)
  (ha:PA X (e::es) t) (hdb:(x==("__debug__" : Str))=false:=by decide) (he:starEach (e::es) X.env=(false,eval e X.env)::starEach es X.env:=by rfl) (hpl:(backTo pos (starEach es X.env)).any (·.1)=false:=by rfl) :
  PE X (.Call (.Name x p) (e::es) [] pos) (Znd sp dvs E t):=by
 intro pins s σ H Q I h;refine wpAny_Call_Name_kw (Zk3 I hg hm ?_ hdb);refine PySem.W.callWith_K (h₀:=X.base) I.ok.mod.kin hk (thn (ha pos pins s σ H _ I h) fun us s1 ⟨vs,H1,I1,r,q⟩=>⟨I1.kIn,?_⟩) he hpl;exact Zl8 F hr hb hd hx I1 r q
end
structure Zt (N P:List Str) (sc:Scope):Prop where
 kind:sc.kind = .function
 co:sc.isCoroutine=false
 gen:sc.isGenerator=false
 nd:N.Nodup
 pre:N.take P.length=P
 par:∀ x∈P,sc.names.lookup x=some .local\/sc.names.lookup x=some .cell
 nofree:∀ y∈sc.names,y.2 ≠ .free
theorem Zd0 {kindOf:Str->Option NameKind} {x:Str}:∀ {binds:List (Str × Value)} {m:Str->Option Value},(∀ v,(x,v)∉binds)->bindL kindOf binds m x=m x
 | [],_,_=>rfl
 | (n,v)::r,m,h=>by
  unfold bindL;rw [Zd0 fun w hw=>h w (QAp _ hw)]
  split
  ·have:x≠n:=by rintro rfl; exact h v QAj
   simp [this]
  ·rfl
theorem Zd2 {kindOf:Str->Option NameKind} {x:Str}:∀ {binds:List (Str × Value)} {m:Str->Option Value},(∀ v,(x,v)∉binds)->bindC kindOf binds m x=m x
 | [],_,_=>rfl
 | (n,v)::r,m,h=>by
  unfold bindC;rw [Zd2 fun w hw=>h w (QAp _ hw)]
  split
  ·rfl
  ·have:x≠n:=by rintro rfl; exact h v QAj
   simp [this]
theorem Zd1 {kindOf:Str->Option NameKind} {x:Str} {v:Value}:∀ {P:List Str} {vs:List Value} {i:Nat} {m:Str->Option Value},P.Nodup->P[i]? = some x->vs[i]? = some v->kindOf x=some .local ->
  bindL kindOf (P.zip vs) m x=some v
 | [],_,_,_,_,h,_,_=>by simp at h
 | _::_,[],_,_,_,_,h,_=>by simp at h
 | p::P,w::vs,0,m,nd,h1,h2,hk=>by
  simp at h1 h2; subst h1; subst h2
  show bindL kindOf ((p,w)::P.zip vs) m p=_;unfold bindL;rw [Zd0 fun v hv=>(List.nodup_cons.mp nd).1 (List.of_mem_zip hv).1,if_pos hk]
  simp
 | p::P,w::vs,i+1,m,nd,h1,h2,hk=>by
  show bindL kindOf ((p,w)::P.zip vs) m x=_;unfold bindL;exact Zd1 (i:=i) (List.nodup_cons.mp nd).2 (by simpa using h1) (by simpa using h2) hk
theorem Zd3 {kindOf:Str->Option NameKind} {x:Str} {v:Value}:∀ {P:List Str} {vs:List Value} {i:Nat} {m:Str->Option Value},P.Nodup->P[i]? = some x->vs[i]? = some v->kindOf x≠some .local ->
  bindC kindOf (P.zip vs) m x=some v
 | [],_,_,_,_,h,_,_=>by simp at h
 | _::_,[],_,_,_,_,h,_=>by simp at h
 | p::P,w::vs,0,m,nd,h1,h2,hk=>by
  simp at h1 h2; subst h1; subst h2
  show bindC kindOf ((p,w)::P.zip vs) m p=_;unfold bindC;rw [Zd2 fun v hv=>(List.nodup_cons.mp nd).1 (List.of_mem_zip hv).1,if_neg hk]
  simp
 | p::P,w::vs,i+1,m,nd,h1,h2,hk=>by
  show bindC kindOf ((p,w)::P.zip vs) m x=_;unfold bindC;exact Zd3 (i:=i) (List.nodup_cons.mp nd).2 (by simpa using h1) (by simpa using h2) hk
noncomputable def start (N:List Str) (vs:List V):St:=vs.map some++List.replicate (N.length - vs.length) none
noncomputable def Zix (CX:CXT) (P:Program) (w:World) (K:QZa) (mg:Str->Option Value) (base:Heap) (N:List Str) (qual:Str) (scope:Scope) (f:Addr) (cd:Value) (A:Around) (outer:List Env) (s:Shared) (H:Hp) (E:XK):Cx where
 prog:=P
 w:=w
 K:=K
 mg:=mg
 base:=base
 A:=A.deeper (envOfC qual scope s.heap.objs.size f cd)
 N:=N
 s₀:=s
 H₀:=H
 env:=envOfC qual scope s.heap.objs.size f cd
 outer:=outer
 stack:=envOfC qual scope s.heap.objs.size f cd::outer
 ex:=[]
 calm:=true
 fn:=fun _=>true
 pn:=[]
 xe:=fun e s'=>wpAny (model P w) (A.deeper (envOfC qual scope s.heap.objs.size f cd)) (leaving (envOfC qual scope s.heap.objs.size f cd) e) (fun _ s''=>CX outer H s E e s'') (fun e' s''=>CX outer H s E e' s'') s'
theorem ZfJ {sc:Scope} {n:Nat} {x:Str} (h:sc.names.lookup x=some .cell):∃ c,(cellsFrom n sc.names []).lookup x=some c:=by
 have q:=PySem.W.cellsFrom_some sc.names n [] (.inl h);exact Option.isSome_iff_exists.mp q
theorem Zis {CX:CXT} {P:Program} {w:World} {K:QZa} {mg:Str->Option Value} {base:Heap} {N ps:List Str} {qual:Str} {scope:Scope} {f:Addr} {cd:Value} {A:Around} {outer:List Env} {s s1:Shared} {H:Hp} {E:XK} {us:List Value} {vs:List V}
  (S:Zt N ps scope) (hd:A.handled=none) (e0:Zls P w K mg base A outer s H) (hl:vs.length=ps.length) (r:Vals vs us)
  (x:InCallC s s.heap.objs.size (bindL (envOfC qual scope s.heap.objs.size f cd).kindOf (ps.zip us) fun _=>none) (cellsFrom (s.heap.objs.size+1) scope.names []) (bindC (envOfC qual scope s.heap.objs.size f cd).kindOf (ps.zip us) fun _=>none) s1) :
  Inv (Zix CX P w K mg base N qual scope f cd A outer s H E) [] (start N vs) H s1:=by
 have hpl:ps.length<=N.length:=by have:=congrArg List.length S.pre; rw [QAt] at this; omega
 obtain ⟨h1,tk,rfl,hk⟩:=x.done;have noA:∀ b:Addr,b∉(Zix CX P w K mg base N qual scope f cd A outer s H E).ex:=fun b z=>absurd (show b∈([]:List Addr) from z) (by simp)
 refine ⟨⟨e0.mod,S.kind,rfl,rfl,QAc _,fun y z c h1 h2=>?_,fun y hy=>?_,fun y c _ h=>?_,fun _=>hd,Around.frames_deeper e0.frames,.inr ⟨rfl,rfl⟩,fun b z=>absurd z (noA b),e0.bs,e0.bsz,fun b _ _=>noA b,fun b z=>absurd z (noA b),e0.funs,e0.frf⟩,
  rfl,e0.bare,Un.kept hk,⟨_,x.toInCall.ns,fun i y v h1 h2 h3=>?_⟩,fun y c h=>⟨_,x.cell y c h⟩,e0.hok.fresh (QAc _),fun y c h=>?_,fun p hp=>absurd (show p∈([]:List (Addr × Obj)) from hp) (by simp),e0.hok.kept hk,?_⟩
 ·exact name_of_addr x.apart (PySem.mem_of_lookup h1) (PySem.mem_of_lookup h2)
 ·have hy:scope.names.lookup y=some .cell\/scope.names.lookup y=some .free:=hy
  rcases hy with hy | hy
  ·exact ZfJ hy
  ·exact absurd rfl (S.nofree _ (PySem.mem_of_lookup hy))
 ·exact QCa (x.above y c (PySem.mem_of_lookup h))
 ·have hi:i<vs.length:=by
   unfold start at h2
   by_cases hi:i<vs.length
   ·exact hi
   ·rw [QCw (by simpa using hi)] at h2;rw [List.getElem?_replicate] at h2
    split at h2 <;> cases h2
  have ha:vs[i]? = some v:=by
   unfold start at h2;rw [QCr (by simpa using hi),QAe] at h2
   cases e:vs[i]? with
   | none=>rw [e] at h2; cases h2
   | some a=>rw [e] at h2; cases h2; rfl
  obtain ⟨u,hu,rv⟩:=r.get ha;have hp:ps[i]? = some y:=by
   rw [<- S.pre,List.getElem?_take_of_lt (by exact Om.a2 ‹_› ‹_›)]; exact h1
  have ndP:ps.Nodup:=by rw [<- S.pre]; exact S.nd.sublist (List.take_sublist _ _)
  refine ⟨u,rv,?_⟩
  rcases S.par y (QAx hp) with k | k
  ·exact .inl ⟨k,Zd1 ndP hp hu k⟩
  ·obtain ⟨c,e⟩:=ZfJ (n:=s.heap.objs.size+1) k;refine .inr ⟨.inl k,c,e,?_⟩;have q:=x.cell y c e;rw [Zd3 ndP hp hu (by show scope.names.lookup y≠_; rw [k]; decide)] at q;exact q
 ·exact e0.hok.fresh (QCa (x.above y c (PySem.mem_of_lookup h)))
 ·unfold start;show _=N.length;rw [QAo,QAa,List.length_replicate];exact O535 hl hpl
theorem ZnC {CX:CXT} {P:Program} {w:World} {K:QZa} {mg:Str->Option Value} {base:Heap} {k:Nat} {f:Addr} {name qual:Str} {params:Arguments} {body:List Stmt} {scope:Scope} {dV kV doc pm cdv ct oc:Value} {an od:Option Addr}
  {osl:Array (Option Value)} {N ps:List Str} {sp:Sp} (lk:K.lookup f=some ⟨oc,od,.func (PySem.W.fnOf name qual params body scope dV kV doc pm an cdv ct),osl⟩) (hcd:PySem.W.codeIn K cdv qual=true) (S:Zt N ps scope)
  (len:∀ vs H Q E,sp vs H Q E->vs.length=ps.length)
  (hbody:∀ (A:Around) (outer:List Env) (s:Shared) (H:Hp) (vs:List V) (Q:VK) (E:XK),Room k (A.deeper (envOfC qual scope s.heap.objs.size f cdv))->sp vs H Q E ->
   ∃ t,PSs (Zix CX P w K mg base N qual scope f cdv A outer s H E) body t/\t { nx:=fun _ H'=>Q .non H',rt:=Q } (start N vs) H) :
  FnOk P w K mg base CX (k+1) f (PySem.W.fnOf name qual params body scope dV kV doc pm an cdv ct) ps sp:=by
 refine ⟨len,fun A outer s H args us vs Q E hr e0 hb r hsp=>?_⟩;have hl:=len _ _ _ _ hsp;have KX:K.In s.heap:=e0.mod.kin.keeps fun b o e=>(e0.bs b o e).1
 have lim:s.heap.NoLimit:=e0.mod.nolimit.keeps fun b o e=>(e0.bs b o e).1
 have hkind:∀ y∈ps.zip us,scope.names.lookup y.1=some .local\/(scope.names.lookup y.1=some .cell/\((cellsFrom (s.heap.objs.size+1) scope.names []).lookup y.1).isSome=true):=fun ⟨n,v⟩ hy=>by
  rcases S.par n (List.of_mem_zip hy).1 with q | q
  ·exact .inl q
  ·exact .inr ⟨q,PySem.W.cellsFrom_some _ _ _ (.inl q)⟩
 refine codeAny_call_function hr.depth (KX _ _ lk) rfl S.co S.gen rfl (PySem.W.codeRec_of KX hcd) (hb _ _ _ _ ?_);refine wpAny_newFunctionEnv_cells S.kind hkind fun env he s1 x=>?_;subst he;refine ⟨lim.keeps x.toInCall.keep,codeAny_func ?_⟩;obtain ⟨t,ht,hq⟩:=hbody A outer s H vs Q E (hr.deeper _) hsp;have I:Inv (Zix CX P w K mg base N qual scope f cdv A outer s H E) [] (start N vs) H s1:=Zis S hr.hd e0 hl r x;refine wpAny_mono (ht [] s1 (start N vs) H _ I hq) (fun fl s' hs=>?_) fun e s' hs=>hs
 have fin:∀ {σ':St} {H':Hp} {v:V} {u:Value},Inv (Zix CX P w K mg base N qual scope f cdv A outer s H E) [] σ' H' s'->RelV v u->Q v H'->CE outer P w H s Q u s' :=
  fun {σ' H' v u} J rv q=>⟨v,H',J.os,J.bare,J.base,J.hok,rv,q⟩
 cases fl with
 | ret u =>
  obtain ⟨v,σ',H',J,rv,q⟩:=hs;exact fin J rv q
 | next =>
  obtain ⟨σ',H',J,q⟩:=hs;exact fin (v:=V.non) (u:=Value.none) J rfl q
 | brk =>
  obtain ⟨_,_,_,q⟩:=hs;exact False.elim q
 | cont =>
  obtain ⟨_,_,_,q⟩:=hs;exact False.elim q
section
variable {X:Cx} {x:Str} {p pos:Pos} {e:Expr} {es:List Expr} {t:TA} {id T:String} {r:List V->Hp->VK->Prop}
def tCB (r:List V->Hp->VK->Prop) (t:TA):TE:=fun σ H Q=>t σ H fun vs H1=>r vs H1 Q
theorem Zl (hc:Y0 X (.builtin id) r) (hg:Gl X x) (hm:X.mg x=none) (hv:bootBuiltins x=some (.builtin id)) (ha:PA X (e::es) t) (hn:x ≠ "__name__":=by decide) (hdb:(x==("__debug__" : Str))=false:=by decide)
  (he:starEach (e::es) X.env=(false,eval e X.env)::starEach es X.env:=by rfl) (hpl:(backTo pos (starEach es X.env)).any (·.1)=false:=by rfl):PE X (.Call (.Name x p) (e::es) [] pos) (tCB r t):=by
 intro pins s σ H Q I h;refine wpAny_Call_Name_kw (ZbH I hg hm hv ?_ hn hdb);exact PyProof.Rows.callWith_builtin1 (thn (ha pos pins s σ H _ I h) fun us s1 zz0=> by obtain ⟨vs,H1,I1,r1,q1⟩ := zz0; exact hc pins s1 σ H1 vs us Q I1 r1 q1) he hpl
theorem Zp (hc:Y0 X (.type T) r) (hg:Gl X x) (hm:X.mg x=none) (hv:bootBuiltins x=some (.type T)) (ha:PA X (e::es) t) (hn:x ≠ "__name__":=by decide) (hdb:(x==("__debug__" : Str))=false:=by decide)
  (he:starEach (e::es) X.env=(false,eval e X.env)::starEach es X.env:=by rfl) (hpl:(backTo pos (starEach es X.env)).any (·.1)=false:=by rfl):PE X (.Call (.Name x p) (e::es) [] pos) (tCB r t):=by
 intro pins s σ H Q I h;refine wpAny_Call_Name_kw (ZbH I hg hm hv ?_ hn hdb);exact PyProof.Rows.callWith_type1 (thn (ha pos pins s σ H _ I h) fun us s1 zz0=> by obtain ⟨vs,H1,I1,r1,q1⟩ := zz0; exact hc pins s1 σ H1 vs us Q I1 r1 q1) he hpl
end
end _L
namespace _H
open PySem PyProof.Rows
noncomputable def lexLt:List Int->List Int->Bool
 | [],[]=>false
 | [],_::_=>true
 | _::_,[]=>false
 | x::xs,y::ys=>if x=y then lexLt xs ys else decide (x<y)
section
open PySem.SeqAt
open PySem.AutoSeq1 (wpAny_loadPart')
open PySem.MeetsSeq PySem.MeetsSeq2 PySem.MeetsSeq3
end
section
variable {prog:Program} {w:World} {A:Around} {E:Value->Shared->Prop} {s:Shared}
noncomputable def sIx (n d:Nat):Option Int->Nat
 | none=>d
 | some v=>if v<0 then (v+(n:Int)).toNat else min v.toNat n
theorem sIx_none (n d:Nat):sIx n d none=d:=rfl
theorem sIx_nat (n d k:Nat):sIx n d (some (k:Int))=min k n:=by
 show (if (k:Int)<0 then ((k:Int)+(n:Int)).toNat else min (k:Int).toNat n)=min k n;rw [if_neg (by exact O534 ),QAf]
end
end _H
namespace _L
open PySem PySem.Spec PyProof.Rows
noncomputable abbrev TO:=St->Hp->(Option Int->Hp->Prop)->Prop
def PO (X:Cx) (e:Option Expr) (t:TO):Prop :=
 ∀ (pins:List (Addr × Obj)) (s:Shared) (σ:St) (H:Hp) (Q:Option Int->Hp->Prop),Inv X pins σ H s->t σ H Q ->
  wpAny (model X.prog X.w) X.A (evalPart e X.env) (fun u s'=>∃ o H',Inv X pins σ H' s'/\IsPart u o/\Q o H') X.xe s
def Zkn:TO:=fun _ H Q=>Q none H
def Zm6 (t:TE):TO:=fun σ H Q=>t σ H fun x H1=>∃ i,x = .int i/\Q (some i) H1
theorem Y8 {ns:List Int}:∀ {us:List Value},Vals (ns.map V.int) us->IntsAre us ns:=by
 induction ns with
 | nil=>intro us r; rw [List.map_nil] at r; cases r; exact .nil
 | cons n ns ih =>
  intro us r;rw [QAl] at r
  cases r with
  | cons r1 r2 =>
   obtain ⟨t,e⟩:=r1;subst e;exact .cons n t (ih r2)
section
variable {X:Cx} {e:Expr} {te:TE} {lo hi:Option Expr} {tl th:TO} {pos p2:Pos}
theorem Zav:PO X none Zkn:=by
 intro pins s σ H Q I h;rw [evalPart_none];exact QZr ⟨none,H,I,.none,h⟩
theorem Zau (h:PE X e te):PO X (some e) (Zm6 te):=by
 intro pins s σ H Q I hw;rw [evalPart_some];refine thn (h pins s σ H _ I hw) fun u s1 zz0=>?_;obtain ⟨x,H1,I1,r1,q1⟩:=zz0;obtain ⟨i,rfl,q⟩:=q1;obtain ⟨t,rfl⟩:=r1;exact ⟨some i,H1,I1,.int i t,q⟩
def SlR (X:Cx) (r:V->Option Int->Option Int->Hp->VK->Prop):Prop :=
 ∀ (pins:List (Addr × Obj)) (s:Shared) (σ:St) (H:Hp) (x:V) (v vl vu:Value) (lo hi:Option Int) (sl:Addr) (Q:VK),Inv X pins σ H s->RelV x v->s.heap.IsSliceOf sl vl vu .none->IsPart vl lo->IsPart vu hi->r x lo hi H Q ->
  ∃ T id,typeLookup (.type T) "__getitem__" = pure (some (.builtin id))/\s.TypeIs v T/\wpAny (model X.prog X.w) X.A (getItem v (.ref sl)) (EP X pins σ Q) X.xe s
def tSl (r:V->Option Int->Option Int->Hp->VK->Prop) (te:TE) (tl th:TO):TE:=fun σ H Q=>te σ H fun x H1=>tl σ H1 fun l H2=>th σ H2 fun u H3=>r x l u H3 Q
theorem JN {r:V->Option Int->Option Int->Hp->VK->Prop} (hr:SlR X r) (he:PE X e te) (hl:PO X lo tl) (hu:PO X hi th):PE X (.Subscript e (.Slice lo hi none p2) pos) (tSl r te tl th):=by
 intro pins s σ H Q I h;refine Subscript_ (thn (he pins s σ H _ I h) fun v s1 zz0=>?_);obtain ⟨x,H1,I1,r1,q1⟩:=zz0;refine wpAny_Slice (thn (hl pins s1 σ H1 _ I1 q1) fun vl s2 ⟨l,H2,I2,pl,q2⟩=>thn (hu pins s2 σ H2 _ I2 q2) fun vu s3 zz0=>?_);obtain ⟨u,H3,I3,pu,q3⟩:=zz0;rw [evalPart_none];refine QZr ?_;have I4:Inv X pins σ H3 { s3 with heap:=s3.heap.push { cls:=.type "slice",data:=.fields #[vl,vu,.none] } }:=I3.kept (t':=s3.toks) fun b ob q=>QAk _ q
 obtain ⟨T,id,hT,ht,hg⟩:=hr pins { s3 with heap:=s3.heap.push { cls:=.type "slice",data:=.fields #[vl,vu,.none] } } σ H3 x v vl vu l u s3.heap.objs.size Q I4 r1 (Heap.IsSliceOf.new ..) pl pu q3;show wpAny (model X.prog X.w) X.A (subscriptTail e (.Slice lo hi none p2) v (.ref s3.heap.objs.size)) (EP X pins σ Q) X.xe { s3 with heap:=s3.heap.push { cls:=.type "slice",data:=.fields #[vl,vu,.none] } };exact tail_any (ops:=[.ref s3.heap.objs.size,v]) ht hT hg (by with_unfolding_all rfl)
noncomputable def ZfG (xs:List V) (lo hi:Option Int):List V:=(xs.drop (_H.sIx xs.length 0 lo)).take (_H.sIx xs.length xs.length hi - _H.sIx xs.length 0 lo)
theorem ZfF (xs:List V) (lo hi:Option Int):(ZfG xs lo hi).length<=xs.length:=by
 unfold ZfG;rw [QAt,QBn];exact O533
end
noncomputable def ixN (n:Nat) (i:Int):Option Nat:=if 0<=i then (if i<n then some i.toNat else none) else if -(n:Int)<=i then some (i+n).toNat else none
noncomputable def atI {α:Type} (xs:List α) (i:Int):Option α:=(ixN xs.length i).bind fun j=>xs[j]?
theorem ZhJ {n:Nat} {i:Int} {j:Nat} (h:ixN n i=some j):seqIndex? i n=some j/\j<n /\ -(n:Int)<=i/\i<n:=by
 unfold ixN at h
 by_cases h0:0<=i
 ·rw [if_pos h0] at h
  by_cases h1:i<n
  ·rw [if_pos h1] at h;have e:i.toNat=j:=QZl h;exact ⟨by rw [seqIndex_of h0 h1,e],by exact O532 h0 h1 e,by exact O531 h0,h1⟩
  ·rw [if_neg h1] at h; cases h
 ·rw [if_neg h0] at h
  by_cases h1 : -(n:Int)<=i
  ·rw [if_pos h1] at h;have e:(i+n).toNat=j:=QZl h;exact ⟨by rw [seqIndex_neg (by exact O524 h0) h1,e],by exact O530 h0 h1 e,h1,by exact O529 h0 h1⟩
  ·rw [if_neg h1] at h; cases h
theorem ZhX {α:Type} {xs:List α} {i:Int} {v:α} (h:atI xs i=some v):∃ j,seqIndex? i xs.length=some j/\xs[j]? = some v/\j<xs.length /\ -(xs.length:Int)<=i/\i<xs.length:=by
 unfold atI at h
 cases e:ixN xs.length i with
 | none=>rw [e] at h; cases h
 | some j =>
  rw [e] at h;obtain ⟨h1,h2,h3,h4⟩:=ZhJ e;exact ⟨j,h1,h,h2,h3,h4⟩
theorem Zlm {α:Type} {xs:List α} {j:Nat} {v:α} (h:xs[j]? = some v):atI xs (j:Int)=some v:=by
 have hj:j<xs.length:=(QZb.mp h).1;have e:ixN xs.length (j:Int)=some j:=by
  unfold ixN;rw [if_pos (by exact Om.c6),if_pos (by exact Om.c5 ‹_›)]; simp
 unfold atI; rw [e]; exact h
def Zlq (b:Expr):Prop:=∀ o i,subscripted b false o i=operate [o,i] (getItem o i)
def IxR (X:Cx) (r:R2):Prop :=
 ∀ (value slice:Expr) (pins:List (Addr × Obj)) (s:Shared) (σ:St) (H:Hp) (x y:V) (v u:Value) (Q:VK),Inv X pins σ H s->RelV x v->RelV y u->r x y H Q ->
  subscripted slice false v u=operate [v,u] (getItem v u)->wpAny (model X.prog X.w) X.A (subscriptTail value slice v u) (EP X pins σ Q) X.xe s
def MtR (X:Cx) (id:String) (r:V->List V->Hp->VK->Prop):Prop :=
 ∀ (pins:List (Addr × Obj)) (s:Shared) (σ:St) (H:Hp) (x:V) (xs:List V) (v:Value) (us:List Value) (Q:VK),Inv X pins σ H s->RelV x v->Vals xs us->r x xs H Q ->
  wpAny (model X.prog X.w) X.A (call (.builtin id) (v::us)) (EP X pins σ Q) X.xe s
section
variable {X:Cx} {a b:Expr} {ta tb:TE} {pos:Pos}
theorem ZD {r:R2} (hr:IxR X r) (ha:PE X a ta) (hb:PE X b tb) (hs:Zlq b):PE X (.Subscript a b pos) (tOp r ta tb):=by
 intro pins s σ H Q I h;exact Subscript_ (ZmT ha hb I h fun v u s2 x y H2 I2 rx ry q=>hr a b pins s2 σ H2 x y v u Q I2 rx ry q (hs _ _))
inductive ZlM (K:QZa) (x:V) (y:V) (H:Hp) (Q:VK):Prop where
 | mk (p:Addr) (xs:List V) (i:Int) (v:V) (_:x = .ref p) (_:y = .int i) (_:SqL K H p xs) (_:atI xs i=some v) (_:Q v H):ZlM K x y H Q
def Zno (K:QZa):R2:=fun x y H Q=>ZlM K x y H Q
inductive ZlL (K:QZa) (x:V) (y:V) (H:Hp) (Q:VK):Prop where
 | mk (p:Addr) (xs:List V) (i:Int) (v:V) (_:x = .ref p) (_:y = .int i) (_:SqT K H p xs) (_:atI xs i=some v) (_:Q v H):ZlL K x y H Q
def Znn (K:QZa):R2:=fun x y H Q=>ZlL K x y H Q
theorem Jc:IxR X (Zno X.K):=by
 intro value slice pins s σ H x y v u Q I rx ry h hs;obtain ⟨p,xs,i,z,rfl,rfl,hq,he,q⟩:=h
 cases rx;obtain ⟨t,rfl⟩:=ry;obtain ⟨its,r,pl,hz⟩:=I.list hq;obtain ⟨j,h1,h2,h3,h4,h5⟩:=ZhX he;obtain ⟨w,ew,rw'⟩:=r.get h2;have hl:=r.length;have hn:=ZbG;have fin:EP X pins σ Q w s:=⟨z,H,I,rw',q⟩
 by_cases h0:0<=i
 ·have hj:i.toNat=j:=by
   rw [seqIndex_of h0 h5] at h1;exact QZl h1
  exact item_listR pl.isList h0 (by exact O525 hz h5 hl hn) (by rw [hj]; simpa using ew) fin hs
 ·have hj:(i+(its.toArray.size:Int)).toNat=j:=by
   rw [seqIndex_neg (by exact O524 h0) h4] at h1;rw [QAi,<- hl];exact QZl h1
  exact subscriptTail_builtinR (x:=w) pl.isList.typeIs slot_list_getitem.lookup
   (wpAny_getItem_list_neg (Q:=fun r s'=>r=w/\EP X pins σ Q r s') pl.isList (by exact O524 h0) (by rw [QAi] <;> exact O528 h4 hl) (by exact O523 hz h4 hl hn) (by rw [hj]; simpa using ew) ⟨rfl,fin⟩) hs
theorem Zah:IxR X (Znn X.K):=by
 intro value slice pins s σ H x y v u Q I rx ry h hs;obtain ⟨p,xs,i,z,rfl,rfl,hq,he,q⟩:=h
 cases rx;obtain ⟨t,rfl⟩:=ry;obtain ⟨its,r,pl,hz⟩:=I.tuple hq;obtain ⟨j,h1,h2,h3,h4,h5⟩:=ZhX he;obtain ⟨w,ew,rw'⟩:=r.get h2;have hl:=r.length;have hn:=ZbG;have fin:EP X pins σ Q w s:=⟨z,H,I,rw',q⟩;exact subscriptTail_builtinR (x:=w) pl.typeIs slot_tuple_getitem.lookup
  (getItem_tuple (j:=j) (Q:=fun r s'=>r=w/\EP X pins σ Q r s') pl (by exact O527 hz h3 h4 hl hn) (by exact O526 hz h3 h5 hl hn) (by rw [QAi,<- hl]; exact h1) (by simpa using ew) ⟨rfl,fin⟩) hs
theorem ZgO (its:List Value) (n j:Nat) (u:Value):Obj.mapSeq (·.setIfInBounds j u) { cls:=.type "list",data:=.seq its.toArray n }={ cls:=.type "list",data:=.seq (its.set j u).toArray n }:=by
 simp [Obj.mapSeq]
theorem Inv.lst {pins:List (Addr × Obj)} {σ:St} {H:Hp} {s:Shared} {p:Addr} {xs:List V} (I:Inv X pins σ H s) (h:H p=some (.lst xs)) :
  ∃ (its:List Value) (n:Nat),Vals xs its/\s.heap.get? p=some { cls:=.type "list",data:=.seq its.toArray n }/\xs.length<=sizeLine:=by
 obtain ⟨z,its,n,r,e⟩:=I.hok p _ h;exact ⟨its,n,r,e,z⟩
theorem Inv.lstUpd {pins:List (Addr × Obj)} {σ:St} {H:Hp} {s:Shared} {p:Addr} {xs ys:List V} {its its':List Value} {n n':Nat} {f:Obj->Obj} (I:Inv X pins σ H s) (h:H p=some (.lst xs))
  (ho:s.heap.get? p=some { cls:=.type "list",data:=.seq its.toArray n }) (hf:f { cls:=.type "list",data:=.seq its.toArray n }={ cls:=.type "list",data:=.seq its'.toArray n' }) (r:Vals ys its') (hz:ys.length<=sizeLine) (t:Nat) :
  Inv X pins σ (upd H p (.lst ys)) { s with heap:=s.heap.update p f,toks:=t }:=by
 have e:(s.heap.update p f).get? p=some { cls:=.type "list",data:=.seq its'.toArray n' }:=by
  rw [Heap.get?_update_self f ho (by rw [hf] <;> rfl),hf]
 refine I.write (x:=p) (e:=p) (by rw [h]; trivial) (.inl rfl) (fun b u hb q=>(QEa _ _ (Ne.symm hb)).trans q) ⟨_,e⟩ ?_;exact ⟨hz,its',n',r,e⟩
noncomputable def Znl:V->V->V->Hp->(Hp->Prop)->Prop:=fun o i v H Q=>∃ p xs k j,o = .ref p/\i = .int k/\H p=some (.lst xs)/\ixN xs.length k=some j/\Q (upd H p (.lst (xs.set j v)))
theorem ZaU:ZnK X Znl:=by
 intro pins s σ H o i v ov iv u Q I ro ri rv h;obtain ⟨p,xs,k,j,rfl,rfl,hp,hj,q⟩:=h
 cases ro;obtain ⟨t,rfl⟩:=ri;obtain ⟨its,n,r,ho,hz⟩:=I.lst hp;obtain ⟨h1,h2,h3,h4⟩:=ZhJ hj;have hl:=r.length;have hn:=ZbG;have I':Inv X pins σ (upd H p (.lst (xs.set j v))) { s with heap:=s.heap.update p (Obj.mapSeq (·.setIfInBounds j u)) } :=
  I.lstUpd hp ho (ZgO its n j u) (r.set rv j) (by rw [QCx]; exact hz) s.toks
 by_cases h0:0<=k
 ·have hk:k.toNat=j:=by
   rw [seqIndex_of h0 h4] at h1;exact QZl h1
  exact PySem.W.ki_setAt ho h0 (by exact O525 hz h4 hl hn) (by rw [QAi,<- hl]; exact h4) (by rw [hk]; exact ⟨_,I',q⟩)
 ·have hk:(k+(its.toArray.size:Int)).toNat=j:=by
   rw [seqIndex_neg (by exact O524 h0) h3] at h1;rw [QAi,<- hl];exact QZl h1
  exact PySem.W.ki_setBack ho (by exact O524 h0) (by rw [QAi,<- hl]; exact h3) (by exact O523 hz h3 hl hn) (by rw [hk]; exact ⟨_,I',q⟩)
theorem Zem (lo hi:Option Int) (n:Nat):(sliceBounds lo hi none n).1=((_H.sIx n 0 lo:Nat):Int)/\(sliceBounds lo hi none n).2.1=((_H.sIx n n hi:Nat):Int)/\(sliceBounds lo hi none n).2.2=1:=by
 refine ⟨?_,?_,rfl⟩
 ·cases lo with
  | none=>simp [sliceBounds,_H.sIx]
  | some i =>
   simp only [sliceBounds,_H.sIx,Option.getD_none,show (1:Int)>0 by decide,if_true]
   by_cases h:i<0
   ·simp only [h,if_true] <;> exact O522 h
   ·simp only [h,if_false] <;> exact O521 h
 ·cases hi with
  | none=>simp [sliceBounds,_H.sIx]
  | some i =>
   simp only [sliceBounds,_H.sIx,Option.getD_none,show (1:Int)>0 by decide,if_true]
   by_cases h:i<0
   ·simp only [h,if_true] <;> exact O522 h
   ·simp only [h,if_false] <;> exact O521 h
theorem Zdh (its:List Value) (lo hi:Option Int):slicePick its.toArray lo hi none=((its.drop (_H.sIx its.length 0 lo)).take (_H.sIx its.length its.length hi - _H.sIx its.length 0 lo)).toArray:=by
 obtain ⟨h1,h2,h3⟩:=Zem lo hi its.toArray.size;unfold slicePick;rw [h1,h2,h3]
 simp only [sliceRange_one,pick_run,QAi] <;> rfl
def Znk (K:QZa):V->Option Int->Option Int->Hp->VK->Prop:=fun x lo hi H Q=>∃ a xs,x = .ref a/\SqL K H a xs/\∀ p,H p=none->Q (.ref p) (upd H p (.lst (ZfG xs lo hi)))
theorem ZaT:SlR X (Znk X.K):=by
 intro pins s σ H x v vl vu lo hi sl Q I rx hs pl pu h;obtain ⟨a,xs,rfl,hx,q⟩:=h
 cases rx;obtain ⟨its,r,ht,hz⟩:=I.list hx;have hlen:=r.length;refine ⟨"list",_,slot_list_getitem.lookup,ht.isList.typeIs,?_⟩;refine wpAny_getItem_list_slice ht.isList hs pl pu .none (by simp) ?_ (by rw [QAi] <;> exact Om.y2 ‹_› ‹_› rfl);rw [Zdh,<- hlen];refine ⟨.ref s.heap.objs.size,_,I.laid (t':=s.toks) (o:=.lst (ZfG xs lo hi)) (fun b ob q=>QAk _ q) (QAc _) ?_,rfl,q _ (I.hok.fresh (QAc _))⟩;exact ⟨QAr (ZfF xs lo hi) hz,_,0,(r.drop (_H.sIx xs.length 0 lo)).take (_H.sIx xs.length xs.length hi - _H.sIx xs.length 0 lo),QBa _ rfl⟩
noncomputable def Yd:V->Bool
 | .non=>true
 | .bl _=>true
 | .int _=>true
 | .str _=>true
 | _=>false
noncomputable def eqV:V->V->Bool
 | .non,.non=>true
 | .bl a,.bl b=>a==b
 | .bl a,.int b=>(if a then 1 else 0)==b
 | .int a,.bl b=>a==(if b then 1 else 0)
 | .int a,.int b=>a==b
 | .str a,.str b=>a==b
 | _,_=>false
theorem ZgY {A:Around} {s:Shared} {y x:V} {u v:Value} (ry:RelV y u) (rx:RelV x v) (fy:Yd y=true) (fx:Yd x=true):SeqAt.EqAt A s u v (eqV y x):=by
 cases y with
 | non =>
  cases ry
  cases x with
  | non=>cases rx; exact SeqAt.EqAt.same _
  | bl b=>cases rx; exact SeqAt.EqAt.none_bool b
  | int b=>obtain ⟨t,rfl⟩:=rx; exact SeqAt.EqAt.none_int b t
  | str b=>obtain ⟨t,rfl⟩:=rx; exact SeqAt.EqAt.none_str b t
  | _=>exact absurd (show false=true from fx) QAn
 | bl a =>
  cases ry
  cases x with
  | non=>cases rx; exact SeqAt.EqAt.bool_none a
  | bl b=>cases rx; exact SeqAt.EqAt.bool_bool a b
  | int b=>obtain ⟨t,rfl⟩:=rx; exact SeqAt.EqAt.bool_int a b t
  | str b=>obtain ⟨t,rfl⟩:=rx; exact SeqAt.EqAt.bool_str a b t
  | _=>exact absurd (show false=true from fx) QAn
 | int a =>
  obtain ⟨t',rfl⟩:=ry
  cases x with
  | non=>cases rx; exact SeqAt.EqAt.int_none a t'
  | bl b=>cases rx; exact SeqAt.EqAt.int_bool a t' b
  | int b=>obtain ⟨t,rfl⟩:=rx; exact SeqAt.EqAt.int_int a t' b t
  | str b=>obtain ⟨t,rfl⟩:=rx; exact SeqAt.EqAt.int_str a t' b t
  | _=>exact absurd (show false=true from fx) QAn
 | str a =>
  obtain ⟨t',rfl⟩:=ry
  cases x with
  | non=>cases rx; exact SeqAt.EqAt.str_none a t'
  | bl b=>cases rx; exact SeqAt.EqAt.str_bool a t' b
  | int b=>obtain ⟨t,rfl⟩:=rx; exact SeqAt.EqAt.str_int a t' b t
  | str b=>obtain ⟨t,rfl⟩:=rx; exact SeqAt.EqAt.str_str a t' b t
  | _=>exact absurd (show false=true from fx) QAn
 | _=>exact absurd (show false=true from fy) QAn
noncomputable def eqU (x:V) (u:Value):Bool:=match u with
 | .none=>eqV .non x
 | .bool b=>eqV (.bl b) x
 | .int i _=>eqV (.int i) x
 | .str z _=>eqV (.str z) x
 | _=>false
theorem ZjW {x y:V} {u:Value} (r:RelV y u) (f:Yd y=true):eqU x u=eqV y x:=by
 cases y with
 | non=>cases r; rfl
 | bl b=>cases r; rfl
 | int i=>obtain ⟨t,rfl⟩:=r; rfl
 | str z=>obtain ⟨t,rfl⟩:=r; rfl
 | _=>exact absurd (show false=true from f) QAn
theorem ZeQ {x:V}:∀ {xs:List V} {us:List Value},Vals xs us->xs.all Yd=true->us.any (eqU x)=xs.any fun y=>eqV y x
 | _,_,.nil,_=>rfl
 | y::xs,u::us,.cons r t,f=>by
  rw [List.all_cons,QAv] at f;rw [QDd,QDd,ZjW r f.1,ZeQ t f.2]
theorem ZcK {A:Around} {s:Shared} {x:V} {v:Value} (rx:RelV x v) (fx:Yd x=true):∀ {xs:List V} {us:List Value},Vals xs us->xs.all Yd=true->∀ u∈us,SeqAt.EqAt A s u v (eqU x u)
 | _,_,.nil,_=>fun u hu=>by cases hu
 | y::xs,u::us,.cons r t,f=>fun u' hu=>by
  rw [List.all_cons,QAv] at f
  rcases QZn.mp hu with rfl | hu
  ·rw [ZjW r f.1]; exact ZgY r rx f.1 fx
  ·exact ZcK rx fx t f.2 u' hu
noncomputable def inV (x:V) (xs:List V):Bool:=xs.any fun y=>eqV y x
inductive ZnI (K:QZa) (neg:Bool) (x:V) (y:V) (H:Hp) (Q:VK):Prop where
 | mk (p:Addr) (xs:List V) (_:y = .ref p) (_:(SqL K H p xs\/SqT K H p xs)) (_:Yd x=true) (_:xs.all Yd=true) (_:Q (.bl (if neg then !inV x xs else inV x xs)) H):ZnI K neg x y H Q
def rIn (K:QZa) (neg:Bool):R2:=fun x y H Q=>ZnI K neg x y H Q
theorem ZeC:OpR X (compareOp .NotIn) (rIn X.K true):=by
 intro pins s σ H x y v u Q I rx ry h;obtain ⟨p,xs,rfl,hq,fx,fs,q⟩:=h
 cases ry
 rcases hq with hq | hq
 ·obtain ⟨its,r,pl,hz⟩:=I.list hq;refine SeqAt.notIn_listAt (eqU x) pl.isList (fun w hw=>ZcK rx fx r fs w (by simpa using hw)) ⟨.bl _,H,I,rfl,?_⟩;rw [show its.toArray.any (eqU x)=its.any (eqU x) by simp,ZeQ r fs];exact q
 ·obtain ⟨its,r,pl,hz⟩:=I.tuple hq;refine SeqAt.notIn_tupleAt (eqU x) pl (fun w hw=>ZcK rx fx r fs w (by simpa using hw)) ⟨.bl _,H,I,rfl,?_⟩;rw [show its.toArray.any (eqU x)=its.any (eqU x) by simp,ZeQ r fs];exact q
theorem ZeO:Y0 X (.builtin "len") (fun xs H Q=>∃ p ys,xs=[.ref p]/\(SqL X.K H p ys\/SqT X.K H p ys)/\Q (.int ys.length) H):=by
 intro pins s σ H xs us Q I r h;obtain ⟨p,ys,rfl,hq,q⟩:=h;obtain ⟨u,rfl,rx⟩:=JB r
 cases rx;have hn:=ZbG
 rcases hq with hq | hq
 ·obtain ⟨its,r',pl,hz⟩:=I.list hq;have hlen:=r'.length;exact Calls.call_len_list pl.isList (by simp only [QAi] <;> exact O520 hn hz hlen) ⟨.int ys.length,H,I.tok _,⟨s.toks+1,by rw [QAi,hlen]⟩,q⟩
 ·obtain ⟨its,r',pl,hz⟩:=I.tuple hq;have hlen:=r'.length;exact len_tuple pl (by simp only [QAi] <;> exact O520 hn hz hlen) ⟨.int ys.length,H,I.tok _,⟨s.toks+1,by rw [QAi,hlen]⟩,q⟩
theorem ZeN:Y0 X (.type "list") (fun xs H Q=>∃ p ys,xs=[.ref p]/\(SqL X.K H p ys\/SqT X.K H p ys)/\∀ l,H l=none->Q (.ref l) (upd H l (.lst ys))):=by
 intro pins s σ H xs us Q I r h;obtain ⟨p,ys,rfl,hq,q⟩:=h;obtain ⟨u,rfl,rx⟩:=JB r
 cases rx;have fin:∀ (its:List Value),Vals ys its->ys.length<=sizeLine->∀ (h':Heap) (c':Nat),(∀ b o',s.heap.get? b=some o'->h'.get? b=some o') ->
   h'.get? s.heap.objs.size=some { cls:=.type "list",dict:=none,data:=.seq its.toArray c',slots:=#[] }->EP X pins σ Q (.ref s.heap.objs.size) { s with heap:=h' }:=fun its r' hz h' c' kp e =>
  ⟨.ref s.heap.objs.size,_,I.laid (t':=s.toks) kp (QAc _) (show ObjOk X.prog X.w _ h' _ (.lst ys) from ⟨hz,its,c',r',e⟩),rfl,q _ (I.hok.fresh (QAc _))⟩
 rcases hq with hq | hq
 ·obtain ⟨its,r',pl,hz⟩:=I.list hq;have hlen:=r'.length;obtain ⟨o,ho,hc,n,hd⟩:=pl.isList;exact call_list_seq p (.inl rfl) ho hc hd (fun h' c' kp e=>fin its r' hz h' c' kp e) (by simp only [QAi] <;> exact Om.y2 ‹_› ‹_› rfl)
 ·obtain ⟨its,r',pl,hz⟩:=I.tuple hq;have hlen:=r'.length;obtain ⟨o,ho,hc,n,hd⟩:=pl;exact call_list_seq p (.inr rfl) ho hc hd (fun h' c' kp e=>fin its r' hz h' c' kp e) (by simp only [QAi] <;> exact Om.y2 ‹_› ‹_› rfl)
theorem Zdo:Y0 X (.type "tuple") (fun xs H Q=>∃ p ys,xs=[.ref p]/\((SqL X.K H p ys/\∀ l,H l=none->Q (.ref l) (upd H l (.tup ys)))\/(SqT X.K H p ys/\Q (.ref p) H))):=by
 intro pins s σ H xs us Q I r h;obtain ⟨p,ys,rfl,h⟩:=h;obtain ⟨u,rfl,rx⟩:=JB r
 cases rx
 rcases h with ⟨hq,q⟩ | ⟨hq,q⟩
 ·obtain ⟨its,r',pl,hz⟩:=I.list hq;have hlen:=r'.length;refine call_tuple_list pl.isList (fun h' kp=>?_) (by simp only [QAi] <;> exact Om.y2 ‹_› ‹_› rfl);have I1:Inv X pins σ H { s with heap:=h' }:=I.kept (t':=s.toks) kp;have I2:Inv X pins σ (upd H h'.objs.size (.tup ys)) { s with heap:=h'.push { cls:=.type "tuple",data:=.seq its.toArray } } :=
   I1.laid (t':=s.toks) (fun b o e=>QAk _ e) (QAc _) (show ObjOk X.prog X.w _ _ _ (.tup ys) from ⟨hz,its,r',IsTupN.new _ _⟩)
  exact ⟨.ref h'.objs.size,_,I2,rfl,q _ (I1.hok.fresh (QAc _))⟩
 ·obtain ⟨its,r',pl,hz⟩:=I.tuple hq;exact call_tuple_same pl ⟨.ref p,H,I,rfl,q⟩
def tyV (K:QZa) (T:String) (x:V) (H:Hp):Prop:=match x with
 | .str _=>T = "str"
 | .int _=>T = "int"
 | .ref p=>(T = "list" /\ ∃ xs,SqL K H p xs)\/(T = "tuple" /\ ∃ o,K.lookup p=some o/\o.cls = .type "tuple" /\ o.dict=none) \/
   (T = "dict" /\ ((∃ kvs,H p=some (.dK kvs))\/∃ kvs,H p=some (.dT kvs)))\/(T = "set" /\ ∃ S n,H p=some (.set S n))
 | _=>False
theorem ZlV {pins:List (Addr × Obj)} {σ:St} {H:Hp} {s:Shared} {T:String} {x:V} {v:Value} (I:Inv X pins σ H s) (r:RelV x v) (ty:tyV X.K T x H) :
  s.TypeIs v T/\∀ a,v = .ref a->∃ ob,s.heap.get? a=some ob/\ob.dict=none:=by
 cases x with
 | str z =>
  obtain ⟨t,rfl⟩:=r
  cases (show T = "str" from ty);exact ⟨typeIs_str s z t,fun _ e=>nomatch e⟩
 | int i =>
  obtain ⟨t,rfl⟩:=r
  cases (show T = "int" from ty);exact ⟨typeIs_int s i t,fun _ e=>nomatch e⟩
 | ref p =>
  cases r
  rcases ty with ⟨rfl,xs,hq⟩ | ⟨rfl,o,hk,hc,hd⟩ | ⟨rfl,hk⟩ | ⟨rfl,S,n,hk⟩
  ·obtain ⟨its,_,pl,_⟩:=I.list hq;refine ⟨pl.isList.typeIs,fun a e=>?_⟩
   cases e;obtain ⟨o,n,e,c,hd,_⟩:=pl;exact ⟨o,e,hd⟩
  ·refine ⟨⟨o,I.kIn p o hk,hc⟩,fun a e=>?_⟩
   cases e;exact ⟨o,I.kIn _ o hk,hd⟩
  ·have z:∃ o,s.heap.get? p=some o/\o.ExactDict:=by
    rcases hk with ⟨kvs,hk⟩ | ⟨kvs,hk⟩
    ·obtain ⟨_,_,_,_,o,_,_,e,ex,_⟩:=I.hok p _ hk;exact ⟨o,e,ex⟩
    ·obtain ⟨_,_,_,_,o,_,_,e,ex,_⟩:=I.hok p _ hk;exact ⟨o,e,ex⟩
   obtain ⟨o,e,ex⟩:=z;refine ⟨⟨o,e,ex.1⟩,fun a e2=>?_⟩
   cases e2;exact ⟨o,e,ex.2.1⟩
  ·obtain ⟨o,_,_,_,e,ex,_⟩:=I.hok p _ hk;refine ⟨⟨o,e,ex.1⟩,fun a e2=>?_⟩
   cases e2;exact ⟨o,e,ex.2.1⟩
 | _=>exact False.elim ty
def tBM (K:QZa) (T:String) (r:V->List V->Hp->VK->Prop) (to:TE) (t:TA):TE:=fun σ H Q=>to σ H fun x H1=>tyV K T x H1/\t σ H1 fun xs H2=>r x xs H2 Q
variable {o e:Expr} {es:List Expr} {to:TE} {t:TA} {name:Str} {apos cpos:Pos} {T id:String} {r:V->List V->Hp->VK->Prop}
theorem Jg (pa:PlainAttrs T) (slot:Slot T name id) (hty:typeOf (.builtin id)=pure (.type "method_descriptor")) (hm:MtR X id r) (ho:PE X o to) (ha:PA X (e::es) t)
  (hbase:attributeBase o name X.env (eval o X.env)=eval o X.env:=by rfl)
  (hfew:((backTo cpos (starEach (e::es) X.env)).all (fun x=>!x.1)&&(backToKw cpos (keywordEach [] X.env)).all (fun x=>x.1.isSome)
   && decide ((e::es).length+([]:List Keyword).length+(if ([]:List Keyword).isEmpty then 0 else 1)<30))=true:=by rfl)
  (hline:(apos.endLine==cpos.line)=true:=by rfl) (hs:starEach (e::es) X.env=(false,eval e X.env)::starEach es X.env:=by rfl) (hplain:(backTo cpos (starEach es X.env)).any (·.1)=false:=by rfl) :
  PE X (.Call (.Attribute o name apos) (e::es) [] cpos) (tBM X.K T r to t):=by
 intro pins s σ H Q I h;refine wpAny_Call_method_late hbase hfew hline rfl (thn (ho pins s σ H _ I h) fun v s1 zz0=>?_);obtain ⟨x,H1,I1,r1,ty,q1⟩:=zz0;obtain ⟨h1,h2⟩:=ZlV I1 r1 ty;refine ⟨T,id,pa,slot,hty,h1,h2,?_⟩;have hA:=ha cpos pins s1 σ H1 _ I1 q1;rw [hs] at hA ⊢;refine Calls.callWith_builtin (by show (false||(backTo cpos (starEach es X.env)).any (·.1))=false; rw [hplain] <;> rfl) (Calls.evalArgs_plain ?_);exact thn hA fun us s2 ⟨vs,H2,I2,r2,q2⟩=>hm pins s2 σ H2 x vs v us Q I2 r1 r2 q2
end
def MtM (X:Cx) (id:String) (r:V->List V->Hp->VK->Prop):Prop :=
 ∀ (pins:List (Addr × Obj)) (s:Shared) (σ:St) (H:Hp) (x:V) (xs:List V) (v:Value) (us:List Value) (Q:VK),Inv X pins σ H s->RelV x v->Vals xs us->r x xs H Q ->
  wpAny (model X.prog X.w) X.A (call (.builtin id) (v::us)) (EP X pins σ Q) X.xe s
theorem Vals.one:∀ {x:V} {us:List Value},Vals [x] us->∃ u,us=[u]/\RelV x u
 | _,_,.cons r .nil=>⟨_,rfl,r⟩
theorem Vals.eraseIdx:∀ {xs:List V} {us:List Value} (i:Nat),Vals xs us->Vals (xs.eraseIdx i) (us.eraseIdx i)
 | _,_,_,.nil=>.nil
 | _,_,0,.cons _ t=>t
 | _,_,i+1,.cons r t=>.cons r (Vals.eraseIdx i t)
theorem Vals.rep {xs:List V} {us:List Value} (h:Vals xs us):∀ k:Nat,Vals (List.replicate k xs).flatten (List.replicate k us).flatten
 | 0=>.nil
 | k+1=>by
  rw [QDe,QDe,List.flatten_cons,List.flatten_cons];exact Vals.append h (Vals.rep h k)
theorem ZdO {α:Type}:∀ (l:List α) (i:Nat),(l.eraseIdx i).length<=l.length
 | [],_=>QAc _
 | _::_,0=>QCj _
 | _::r,i+1=>Nat.succ_le_succ (ZdO r i)
theorem ZdU (its:List Value):∀ (k:Nat) (acc:List Value),
  List.foldl (fun x1 x2=>x1++x2) acc.toArray (List.replicate k its.toArray)=(acc++(List.replicate k its).flatten).toArray
 | 0,acc=>by simp
 | k+1,acc=>by
  have e:acc.toArray++its.toArray=(acc++its).toArray:=by simp
  have e2:(acc++its)++(List.replicate k its).flatten=acc++(List.replicate (k+1) its).flatten:=by
   rw [QDe,List.flatten_cons,QBo]
  rw [<- e2,<- ZdU its k (acc++its),<- e,QDe,List.foldl_cons]
section
variable {X:Cx} {pins:List (Addr × Obj)} {σ:St} {H:Hp} {s:Shared} {l b:Addr} {xs ys zs:List V}
theorem Inv.lset {its its':List Value} {n:Nat} {f:Array Value->Array Value} {t':Nat} (I:Inv X pins σ H s) (hH:H l=some (.lst xs))
  (e:s.heap.get? l=some { cls:=.type "list",data:=.seq its.toArray n }) (hf:f its.toArray=its'.toArray) (hv:Vals ys its') (hz:ys.length<=sizeLine) :
  Inv X pins σ (upd H l (.lst ys)) { s with heap:=s.heap.update l (Obj.mapSeq f),toks:=t' }:=by
 have q:=PySem.IsL.update e f;rw [hf] at q;refine I.write (x:=l) (e:=l) (by rw [hH]; exact trivial) (.inl rfl) (fun b' u hb hu=>(QEa s.heap (Obj.mapSeq f) (Ne.symm hb)).trans hu) ⟨_,q⟩ ?_;exact ⟨hz,its',_,hv,q⟩
theorem Inv.lnew {its:List Value} {t':Nat} (I:Inv X pins σ H s) (hv:Vals ys its) (hz:ys.length<=sizeLine) :
  Inv X pins σ (upd H s.heap.objs.size (.lst ys)) { s with heap:=s.heap.push { cls:=.type "list",data:=.seq its.toArray },toks:=t' } :=
 I.laid (fun _ _ q=>QAk _ q) (QAc _) ⟨hz,its,0,hv,QBa _ rfl⟩
theorem Inv.fresh (I:Inv X pins σ H s):H s.heap.objs.size=none:=I.hok.fresh (QAc _)
theorem Inv.lstM (I:Inv X pins σ H s) (hH:H l=some (.lst xs)):xs.length<=sizeLine/\∃ (its:List Value) (n:Nat),Vals xs its/\xs.length=its.length/\s.heap.get? l=some { cls:=.type "list",data:=.seq its.toArray n }:=by
 obtain ⟨z,its,n,r,e⟩:=I.hok l _ hH;exact ⟨z,its,n,r,r.length,e⟩
theorem Zfg {n:Nat} (h:n<=sizeLine):Builtin.List.listTooLong n=false:=by
 unfold Builtin.List.listTooLong;exact QZi (by exact O519 h)
end
section
variable {X:Cx}
inductive ZfZ (x:V) (vs:List V) (H:Hp) (Q:VK):Prop where
 | mk (l:Addr) (xs:List V) (y:V) (_:x = .ref l) (_:vs=[y]) (_:H l=some (.lst xs)) (_:xs.length<sizeLine) (_:Q .non (upd H l (.lst (xs++[y])))):ZfZ x vs H Q
def ZkA:V->List V->Hp->VK->Prop:=fun x vs H Q=>ZfZ x vs H Q
theorem Yk:MtM X "list.append" ZkA:=by
 intro pins s σ H x vs v us Q I rx rv h;obtain ⟨l,xs,y,rfl,rfl,hH,hz,q⟩:=h
 cases rx;obtain ⟨u,rfl,ru⟩:=rv.one;obtain ⟨z,its,n,r,hl,e⟩:=I.lstM hH;refine call_meets F.slot_list_append ⟨_,e,rfl⟩ F.entry_list_append (F.args_list_append_2 _ _) (PySem.list_append l its.toArray n u (by rw [QAi]; exact Om.y2 ‹_› ‹_› rfl)) ⟨e,?_⟩;refine ⟨.non,_,I.lset (its':=its++[u]) hH e (by simp) (r.append (.cons ru .nil)) ?_,rfl,q⟩;rw [QAo,QDf];exact Om.f1 ‹_›
inductive ZfY (x:V) (vs:List V) (H:Hp) (Q:VK):Prop where
 | mk (l:Addr) (b:Addr) (xs:List V) (zs:List V) (_:x = .ref l) (_:vs=[.ref b]) (_:H l=some (.lst xs)) (_:H b=some (.lst zs)) (_:xs.length+zs.length<=sizeLine) (_:Q .non (upd H l (.lst (xs++zs)))):ZfY x vs H Q
def Zkz:V->List V->Hp->VK->Prop:=fun x vs H Q=>ZfY x vs H Q
theorem JP:MtM X "list.extend" Zkz:=by
 intro pins s σ H x vs v us Q I rx rv h;obtain ⟨l,b,xs,zs,rfl,rfl,hH,hB,hz,q⟩:=h
 cases rx;obtain ⟨u,rfl,ru⟩:=rv.one
 cases ru;obtain ⟨z,its,n,r,hl,e⟩:=I.lstM hH;obtain ⟨z2,its2,n2,r2,hl2,e2⟩:=I.lstM hB;have hsz:its.toArray.size+its2.toArray.size<=sizeLine:=by rw [QAi,QAi]; exact O518 hz hl hl2
 have hlong:¬ (!its.toArray.isEmpty&&Builtin.List.listTooLong (its.toArray.size+its2.toArray.size))=true:=by
  rw [Zfg hsz,Bool.and_false];exact QAn
 refine call_meets F.slot_list_extend ⟨_,e,rfl⟩ F.entry_list_extend (F.args_list_extend_2 _ _)
  (AutoSeq1.list_extend_list_list_0 l its.toArray n b its2.toArray n2 hlong (by rw [QAi]; exact Om.y2 ‹_› ‹_› rfl) (by exact Om.b1 ‹_› rfl)) ⟨e,e2,?_⟩
 refine ⟨.non,_,I.lset (its':=its++its2) hH e (by simp) (r.append r2) ?_,rfl,q⟩;rw [QAo]
 assumption
def Zmc:V->List V->Hp->VK->Prop:=fun x vs H Q=>∃ l xs i k y,x = .ref l/\vs=[.int i]/\H l=some (.lst xs) /\ -(2 ^ 63)<=i/\i<2 ^ 63/\seqIndex? i xs.length=some k/\xs[k]? = some y/\Q y (upd H l (.lst (xs.eraseIdx k)))
theorem Zjx:MtM X "list.pop" Zmc:=by
 intro pins s σ H x vs v us Q I rx rv h;obtain ⟨l,xs,i,k,y,rfl,rfl,hH,h1,h2,hk,hy,q⟩:=h
 cases rx;obtain ⟨u,rfl,ru⟩:=rv.one;obtain ⟨t,rfl⟩:=ru;obtain ⟨z,its,n,r,hl,e⟩:=I.lstM hH;obtain ⟨w,hw,rw'⟩:=r.get hy;refine call_meets F.slot_list_pop ⟨_,e,rfl⟩ F.entry_list_pop (F.args_list_pop_2 _ _)
  (MeetsSeq.list_pop_at l its.toArray n i t k w (fitsIndex_both h1 h2) (by rw [QAi,<- hl]; exact hk) (by rw [<- QDg]; exact hw) (by rw [QAi]; exact Om.y2 ‹_› ‹_› rfl)) ⟨e,?_⟩
 refine ⟨y,_,I.lset (its':=its.eraseIdx k) hH e ?_ (r.eraseIdx k) ?_,rw',q⟩
 ·show its.toArray.eraseIdxIfInBounds k=(its.eraseIdx k).toArray;rw [List.eraseIdxIfInBounds_toArray]
 ·have:=ZdO xs k;exact Om.b3 ‹_› ‹_› rfl
inductive ZlN (x:V) (y:V) (H:Hp) (Q:VK):Prop where
 | mk (l:Addr) (b:Addr) (xs:List V) (zs:List V) (_:x = .ref l) (_:y = .ref b) (_:H l=some (.lst xs)) (_:H b=some (.lst zs)) (_:xs.length+zs.length<=sizeLine) (_:∀ p,H p=none->Q (.ref p) (upd H p (.lst (xs++zs)))):ZlN x y H Q
def Zn7:R2:=fun x y H Q=>ZlN x y H Q
theorem ZcF:OpR X (binaryOp .Add) Zn7:=by
 intro pins s σ H x y v u Q I rx ry h;obtain ⟨l,b,xs,zs,rfl,rfl,hH,hB,hz,q⟩:=h
 cases rx
 cases ry;obtain ⟨z,its,n,r,hl,e⟩:=I.lstM hH;obtain ⟨z2,its2,n2,r2,hl2,e2⟩:=I.lstM hB;refine PySem.P.add_list e e2 ?_ (by rw [QAi,QAi]; exact O518 hz hl hl2);have ea:its.toArray++its2.toArray=(its++its2).toArray:=by simp
 rw [ea];exact ⟨.ref _,_,I.lnew (t':=s.toks) (r.append r2) (by rw [QAo]; assumption),rfl,q _ I.fresh⟩
def Zn4:R2:=fun x y H Q=>∃ l k xs,x = .ref l/\y = .int k/\H l=some (.lst xs) /\ -(2 ^ 63)<=k/\k<2 ^ 63/\xs.length*k.toNat<=sizeLine /\
 ∀ p,H p=none->Q (.ref p) (upd H p (.lst (List.replicate k.toNat xs).flatten))
theorem Zk2 {α:Type} (xs:List α) (k:Nat):(List.replicate k xs).flatten.length=k*xs.length:=by
 induction k with
 | zero=>simp
 | succ k ih=>rw [QDe,List.flatten_cons,QAo,ih,QCs,Nat.add_comm]
theorem Zji:OpR X (binaryOp .Mult) Zn4:=by
 intro pins s σ H x y v u Q I rx ry h;obtain ⟨l,k,xs,rfl,rfl,hH,h1,h2,hz,q⟩:=h
 cases rx;obtain ⟨t,rfl⟩:=ry;obtain ⟨z,its,n,r,hl,e⟩:=I.lstM hH;have hlen:its.toArray.size*k.toNat<=sizeLine:=by rw [QAi,<- hl]; exact hz
 have hcap:¬ its.toArray.size*k.toNat>(2 ^ 63 - 1) / 8:=by
  have:(sizeLine:Nat)<=(2 ^ 63 - 1) / 8:=by decide
  omega
 have hfit:¬ (!Builtin.List.listFitsIndex k)=true:=by
  rw [fitsIndex_both h1 h2];exact QAn
 have hlong:¬ Builtin.List.listTooLong (its.toArray.size*k.toNat)=true:=by
  rw [Zfg hlen];exact QAn
 have hnew:List.foldl (fun x1 x2=>x1++x2) #[] (List.replicate (if its.toArray.isEmpty=true then 0 else k.toNat) its.toArray)=(List.replicate k.toNat its).flatten.toArray:=by
  have f0:∀ m:Nat,List.foldl (fun x1 x2=>x1++x2) #[] (List.replicate m its.toArray)=(List.replicate m its).flatten.toArray:=fun m=>by
   have:=ZdU its m [];rw [List.nil_append] at this;exact this
  rw [f0]
  cases its with
  | nil=>simp
  | cons a r'=>rw [if_neg (by simp)]
 refine wpAny_binaryOp_repeat_ref (T:="list") (U:="int") (by decide) ⟨_,e,rfl⟩ (fun s'=>typeIs_int s' k t) noFill_list_mul F.fills_int_mul F.slot_int_rmul repeat_list F.slot_int_index.lookup
  (call_meets F.slot_int_rmul (typeIs_int s k t) F.entry_int_rmul (F.args_int_rmul_2 _ _) (int___rmul___int_list k t l its.toArray n)
   ⟨e,rfl,⟨_,e,rfl⟩,call_meets F.slot_list_mul ⟨_,e,rfl⟩ F.entry_list_mul (F.args_list_mul_2 _ _) (AutoListH.list___mul___list_int_3 l its.toArray n k t hfit hcap hlong) ⟨e,?_⟩⟩)
 rw [hnew];exact ⟨.ref _,_,I.lnew (t':=s.toks) (r.rep k.toNat) (by rw [Zk2,Nat.mul_comm]; exact hz),rfl,q _ I.fresh⟩
end
end _L
namespace _A
open PySem PySem.W PySem.Calls PyProof.Rows
theorem ZbZ {P:Params} {h:Heap}:∀ (ns:List Int) (vs:List Value),WellAll P h vs (ns.map WData.int)->IntsAre vs ns:=by
 intro ns
 induction ns with
 | nil =>
  intro vs w;rw [List.map_nil] at w
  cases w;exact .nil
 | cons n ns ih =>
  intro vs w;rw [QAl] at w
  cases w with
  | cons a b =>
   cases a;exact .cons _ _ (ih _ b)
theorem Zic {l:OpenLaw} {n:Nat} (hn:l.most=some n) {P:Params} {h:Heap} {args:List WData} {vals:List Value}
  (hpre:l.row.toRowW.claim.pre args=true) (hwl:WellAll P h vals args) :
  ∃ a vs ns,vals=[Value.ref a]/\args=[WData.list (ns.map WData.int)]/\h.get? a=some { cls:=.type "list",data:=.seq vs.toArray }/\IntsAre vs ns/\ns.length<=n:=by
 have hsh:WShape.hasAll [] args [.list .int]=true:=(pre_splitW hpre).1;have hc:l.pre.holds [] { args:=args }=true:=(pre_splitW hpre).2;obtain ⟨d,r,rfl,h1,h2⟩:=hasAllW_cons hsh;obtain rfl:=hasAllW_nil h2;obtain ⟨xs,rfl,h3⟩:=hasW_list h1;obtain ⟨ns,rfl⟩:=items_int h3;have hlen:ns.length<=n:=by
  unfold OpenLaw.pre at hc;have h4:(WTm.not (.lt (.lit (.int (n:Int))) (.len (.arg 0)))).holds [] { args:=[.list (ns.map .int)] }=true:=by
   have h4:=(holds_andW hc).1;rw [hn] at h4;exact h4
  have h5:=condW_of h4 (w_not (w_lt w_lit (w_len_list (w_arg rfl))));rw [QAa] at h5;refine Nat.le_of_not_lt fun q=>?_;have q':(n:Int)<((ns.length:Nat):Int):=by exact Om.c5 ‹_›
  first
   | (rw [QZh q'] at h5; exact absurd h5 (by decide))
   | (simp at h5; omega)
 cases hwl with
 | cons w1 w2 =>
  cases w2
  cases w1 with
  | list ho hall=>exact ⟨_,_,ns,rfl,rfl,ho,ZbZ ns _ hall,hlen⟩
theorem Zif (l:OpenLaw) (args:List WData):l.row.toRowW.claim.post args (.bool true) args=true :=
 postW_of (r:=l.row.toRowW) (X:=(true==true))
  (show WShape.has [] (.bool true) .bool=true by first | rfl | decide | simp [WShape.has,WShape.arms,WShape.armsAll])
  (show (WTm.eq .res (.lit (.bool true))).value [] { args:=args,res:=some (.bool true),after:=args }=some (.bool (true==true)) from w_eq_bool (w_res rfl) w_lit) rfl
theorem attach_call {l:OpenLaw} {n:Nat} {q:Program} {loose:List Str} {XP:(Str->Option Value)->Heap->Prop} {YP:World->Heap->Prop} {d:DefRec}
  (hn:l.most=some n) (hdf:d.params.defaults=[])
  (call:∀ (w:World) (s₀ s₁:Shared) (mg mb:Str->Option Value) (fa:Addr) (o:Obj) (pm cd doc:Value) (a:Addr) (vs:List Value) (ns:List Int),
   Ground q loose [] XP w s₀ mg mb s₁.heap->YP w s₁.heap ->
   s₁.heap.get? fa=some o->o.data = .func (docDef d.name d.params d.body d.scope pm cd doc)->s₁.heap.CodeRec cd d.name->mg d.name=some (.ref fa) ->
   s₁.heap.get? a=some { cls:=.type "list",data:=.seq vs.toArray }->IntsAre vs ns->ns.length<=n->s₁.gens = #[] ->
   codeAny (model l.prog w) callerA (.call (.ref fa) ⟨[.ref a],[]⟩) (fun r s'=>r = .ok (.ret (.bool true))/\OldK s₁.heap s'.heap/\s'.os=s₁.os/\AllBare s'.gens) s₁) :
  WalkO q loose XP YP l.row.toRowW d [] (fun f vs=>PySem.call f vs):=by
 intro w s₀ s₁ mg mb G Y fa o pm cd doc dV kV ho hd hcd hD hmg hg args vals as hpre hlay hrd hwl hlo;obtain rfl:dV = .none:=Dflts.none hD hdf;obtain rfl:kV = .none:=Dflts.noKw hD;obtain ⟨a,vs,ns,rfl,rfl,hobj,hints,hlen⟩:=Zic hn hpre hwl;refine enter_call (codeAny_mono (call w s₀ s₁ mg mb fa o pm cd doc a vs ns G Y ho (fd_plain hd) hcd hmg hobj hints hlen hg) fun r s' hq=>?_);obtain ⟨rfl,h2,h3,h4⟩:=hq;exact ⟨.inl ⟨.bool true,.bool true,[],rfl,fun _=>rfl,.bool true,Zif l _,fun _=>⟨List.Pairwise.nil,fun _ hm=>(nomatch hm)⟩⟩,h2,h3,h4⟩
end _A
namespace _L
open PySem PySem.Spec PyProof.Rows
theorem Zbp:∀ {vs:List Value} {ns:List Int},IntsAre vs ns->Vals (ns.map V.int) vs
 | _,_,.nil=>.nil
 | _,_,.cons n t h=>.cons ⟨t,rfl⟩ (Zbp h)
def ZmX (H:Hp):Prop:=∀ b,H b=none\/∃ o xs,H b=some (.frz o (.lst xs))
theorem ZjG {P:Program} {w:World} {K:QZa} {mg mb:Str->Option Value} {CX:CXT} {k:Nat} {fa a:Addr} {fd:FuncData} {x:Str} {sp:Sp} {s₁:Shared} {vs:List Value} {ns:List Int}
  (KX:K.In s₁.heap) (hns:s₁.heap.Ns mainGlobals mg) (hb:s₁.heap.Ns builtinsNs mb) (hbb:∀ x:Str,x ≠ "__name__" -> mb x=bootBuiltins x) (hlim:s₁.heap.NoLimit) (hg:s₁.gens = #[])
  (ha:s₁.heap.get? a=some { cls:=.type "list",data:=.seq vs.toArray }) (hi:IntsAre vs ns) (hl:ns.length<=sizeLine) (hr:Room k callerA)
  (F:∀ base:Heap,K.In base->base.Ns mainGlobals mg->FnOk P w K mg base CX k fa fd [x] sp) (hbind:∀ (s:Shared) (u:Value),BindsTo s fd ⟨[u],[]⟩ [(x,u)])
  (hsp:∀ H:Hp,ZmX H->SqL K H a (ns.map V.int)->sp [.ref a] H (fun v _=>v = .bl true) fun _ _ _=>False)
  (hCX:∀ H e s',CX [] H s₁ (fun _ _ _=>False) e s'->False) :
  codeAny (model P w) callerA (.call (.ref fa) ⟨[.ref a],[]⟩) (fun r s'=>r = .ok (.ret (.bool true))/\OldK s₁.heap s'.heap/\s'.os=s₁.os/\AllBare s'.gens) s₁:=by
 have rv:=Zbp hi;have lenV:=hi.length;have core:∀ H:Hp,ZmX H->SqL K H a (ns.map V.int)->HOk P w H s₁.heap->(∀ b,H b≠none->b=a)->(H a≠none->K.lookup a=none) ->
   codeAny (model P w) callerA (.call (.ref fa) ⟨[.ref a],[]⟩) (fun r s'=>r = .ok (.ret (.bool true))/\OldK s₁.heap s'.heap/\s'.os=s₁.os/\AllBare s'.gens) s₁:=by
  intro H hO hS hok hA hK;have base_of:∀ {b:Addr} {o:Obj},s₁.heap.get? b=some o->H b=none->(ZeJ s₁.heap H).get? b=some o:=fun e n=>ZjK e n
  have noA:∀ {b:Addr} {o:Obj} {es:Array DictEntry} {ep:Nat},s₁.heap.get? b=some o->o.data = .dict es ep->H b=none:=fun {b o es ep} e d=>by
   cases q:H b with
   | none=>rfl
   | some u =>
    have e':b=a:=hA b (by rw [q]; simp);subst e';rw [ha] at e; cases e;have d':Data.seq vs.toArray _=Data.dict es ep:=d
    cases d'
  have nsK:∀ {b:Addr} {m:Str->Option Value},s₁.heap.Ns b m->(ZeJ s₁.heap H).Ns b m:=fun {b m} ⟨o,es,ep,e,d,r⟩=>⟨o,es,ep,base_of e (noA e d),d,r⟩
  have hKb:K.In (ZeJ s₁.heap H):=fun b o e=>base_of (KX b o e) (by
   cases q:H b with
   | none=>rfl
   | some u =>
    have e':b=a:=hA b (by rw [q]; simp);subst e';rw [hK (by rw [q]; simp)] at e; cases e)
  have hM:Mod K mg (ZeJ s₁.heap H):=⟨hKb,nsK hns,⟨mb,nsK hb,hbb⟩,let ⟨mc,h1,h2⟩:=hlim; ⟨mc,nsK h1,h2⟩⟩;have e0:Zls P w K mg (ZeJ s₁.heap H) callerA [] s₁ H:=⟨rfl,hM,fun b o e=>ZkQ e,Nat.le_of_eq (Ziu _ _),trivial,fun b hb=>absurd (show b∈([]:List Addr) from hb) (by simp),hok,.of_eq hg⟩;refine codeAny_mono ((F _ hKb (nsK hns)).run callerA [] s₁ H ⟨[.ref a],[]⟩ [.ref a] [.ref a] _ _ hr e0 (hbind s₁ (.ref a)) (.cons rfl .nil) (hsp H hO hS)) fun r s' h=>?_
  cases r with
  | error e=>exact (hCX H e s' h).elim
  | ok fl =>
   cases fl with
   | next=>exact False.elim h
   | brk=>exact False.elim h
   | cont=>exact False.elim h
   | ret u =>
    obtain ⟨v,H',os,bare,un,hok',r',q⟩:=h;have q':v = .bl true:=q;subst q';obtain rfl:u=Value.bool true:=r';refine ⟨rfl,OldK.of_keep fun b o e=>?_,os,bare⟩
    cases q:H b with
    | none=>exact un.keep b o e q (by intro z; exact absurd (show b∈([]:List Addr) from z) (by simp)) (by simp)
    | some u =>
     rcases hO b with z | ⟨ob,xs,z⟩
     ·rw [q] at z; cases z
     ·have z2:=un.frzs b ob _ z;obtain ⟨e1,_⟩:=hok b _ z;obtain ⟨e2,_⟩:=hok' b _ z2;rw [e] at e1; cases e1;exact e2
 cases hk:K.lookup a with
 | some o =>
  have e:=KX a o hk;rw [ha] at e
  cases e;refine core (fun _=>none) (fun _=>.inl rfl) (.inr ⟨_,vs.toArray,_,hk,rfl,rfl,rfl,by rw [QAi,lenV]; exact hl,by simpa using rv⟩) (fun b u z=>by have z':(none:Option HO)=some u:=z; cases z') (fun b z=>absurd rfl z) fun z=>absurd rfl z
 | none =>
  refine core (fun b=>if b=a then some (.frz { cls:=.type "list",data:=.seq vs.toArray } (.lst (ns.map V.int))) else none) (fun b=>?_) (.inl (.inr ⟨{ cls:=.type "list",data:=.seq vs.toArray },if_pos rfl⟩)) (fun b u z=>?_) (fun b z=>?_) fun _=>hk
  ·by_cases hb:b=a
   ·exact .inr ⟨_,_,if_pos hb⟩
   ·exact .inl (if_neg hb)
  ·by_cases hb:b=a
   ·have z':=(if_pos hb).symm.trans z
    cases z';subst hb;exact ⟨ha,by rw [QAa]; exact hl,vs,_,rv,ha⟩
   ·have z':=(if_neg hb).symm.trans z
    cases z'
  ·by_cases hb:b=a
   ·exact hb
   ·exact absurd (if_neg hb) z
theorem walk_of {l:PySem.W.OpenLaw} {n k:Nat} {q:Program} {loose:List Str} {XP:(Str->Option Value)->Heap->Prop} {YP:World->Heap->Prop} {d:DefRec} {K:Params->QZa} {CX:World->CXT} {sp:World->Sp} {x:Str}
  (hn:l.most=some n) (hn2:n<=sizeLine) (hdf:d.params.defaults=[]) (hr:Room k callerA)
  (hY:∀ (w:World) (h:Heap),YP w h->(K w.params).In h)
  (F:∀ (w:World) (mg:Str->Option Value) (fa:Addr) (h:Heap),(K w.params).In h->h.Ns mainGlobals mg->mg d.name=some (.ref fa) ->
   ∃ fd:FuncData,(∀ (s:Shared) (u:Value),BindsTo s fd ⟨[u],[]⟩ [(x,u)]) /\
    ∀ base:Heap,(K w.params).In base->base.Ns mainGlobals mg->FnOk l.prog w (K w.params) mg base (CX w) k fa fd [x] (sp w))
  (hsp:∀ (w:World) (H:Hp) (a:Addr) (ns:List Int),ns.length<=n->ZmX H->SqL (K w.params) H a (ns.map V.int)->sp w [.ref a] H (fun v _=>v = .bl true) fun _ _ _=>False)
  (hCX:∀ (w:World) (H:Hp) (s:Shared) (e:Value) (s':Shared),CX w [] H s (fun _ _ _=>False) e s'->False) :
  PySem.W.WalkO q loose XP YP l.row.toRowW d [] (fun f vs=>PySem.call f vs):=by
 refine _A.attach_call hn hdf fun w s₀ s₁ mg mb fa o pm cd doc a vs ns G Y ho hd hcd hmg hobj hints hlen hg=>?_;have KX:=hY w _ Y;obtain ⟨fd,hb,hF⟩:=F w mg fa _ KX G.T.g hmg;exact ZjG KX G.T.g G.T.b G.T.builtins G.T.nolimit hg hobj hints (QAr hlen hn2) hr hF hb (fun H hO hS=>hsp w H a ns hlen hO hS) fun H e s'=>hCX w H s₁ e s'
noncomputable def Jo (s:Stmt):Arguments:=match s with
 | .FunctionDef _ a _ _ _ _ _ _ _ _=>a
 | _=>{ posonlyargs:=[],args:=[],vararg:=none,kwonlyargs:=[],kw_defaults:=[],kwarg:=none,defaults:=[] }
noncomputable def Jd (s:Stmt):List Stmt:=match s with
 | .FunctionDef _ _ b _ _ _ _ _ _ _=>b
 | _=>[]
noncomputable def Zi (s:Stmt):Scope:=match s with
 | .FunctionDef _ _ _ _ _ _ sc _ _ _=>sc
 | _=>{ kind:=.function,names:=[],isGenerator:=false,isCoroutine:=false }
noncomputable abbrev CX0:CXT:=fun _ _ _ _ _ _=>False
noncomputable abbrev E0:XK:=fun _ _ _=>False
theorem ZK {X:Cx}:Zg9 CX0 X E0:=fun _ _ _ _ _ _ _ h=>h.elim
structure Fun (K:QZa) (x qual:Str) (st:Stmt) (f:Addr) (fd:FuncData):Prop where
 ex:∃ (oc:Value) (od:Option Addr) (kV doc pm:Value) (an:Option Addr) (cdv ct:Value) (osl:Array (Option Value)),
  fd=PySem.W.fnOf x qual (Jo st) (Jd st) (Zi st) .none kV doc pm an cdv ct/\K.lookup f=some ⟨oc,od,.func fd,osl⟩/\PySem.W.codeIn K cdv qual=true
 kp:PySem.W.keepIn K (.ref f)=true
section
variable {P:Program} {w:World} {K:QZa} {mg:Str->Option Value} {base:Heap}
theorem Fun.ok {x qual:Str} {st:Stmt} {f:Addr} {fd:FuncData} {N ps:List Str} {k:Nat} {sp:Sp} (F:Fun K x qual st f fd) (S:Zt N ps (Zi st)) (len:∀ vs H Q E,sp vs H Q E->vs.length=ps.length)
  (hbody:∀ (cdv:Value) (A:Around) (outer:List Env) (s:Shared) (H:Hp) (vs:List V) (Q:VK) (E:XK),Room k (A.deeper (envOfC qual (Zi st) s.heap.objs.size f cdv))->sp vs H Q E ->
   ∃ t,PSs (Zix CX0 P w K mg base N qual (Zi st) f cdv A outer s H E).nox (Jd st) t/\t { nx:=fun _ H'=>Q .non H',rt:=Q } (start N vs) H):FnOk P w K mg base CX0 (k+1) f fd ps sp:=by
 obtain ⟨oc,od,kV,doc,pm,an,cdv,ct,osl,rfl,lk,hcd⟩:=F.ex;refine ZnC lk hcd S len fun A outer s H vs Q E hr hsp=>?_;obtain ⟨t,h,q⟩:=hbody cdv A outer s H vs Q E hr hsp;exact ⟨t,h.nox,q⟩
theorem Fun.binds {x qual:Str} {st:Stmt} {f:Addr} {fd:FuncData} {ps:List Str} (F:Fun K x qual st f fd)
  (h:∀ (kV doc pm:Value) (an:Option Addr) (cdv ct:Value) (us:List Value),us.length=ps.length->bindArgs (PySem.W.fnOf x qual (Jo st) (Jd st) (Zi st) .none kV doc pm an cdv ct) ⟨us,[]⟩=pure (ps.zip us)):Binds K fd ps []:=by
 obtain ⟨oc,od,kV,doc,pm,an,cdv,ct,osl,rfl,lk,hcd⟩:=F.ex;exact .all (h kV doc pm an cdv ct)
theorem ZgU {x qual:Str} {st:Stmt} {f:Addr} {oc:Value} {od an:Option Addr} {osl:Array (Option Value)} {kV doc pm cdv ct:Value} (l:K.lookup f=some ⟨oc,od,.func (PySem.W.fnOf x qual (Jo st) (Jd st) (Zi st) .none kV doc pm an cdv ct),osl⟩)
  (c:PySem.W.codeIn K cdv qual=true) (k:PySem.W.keepIn K (.ref f)=true):Fun K x qual st f (PySem.W.fnOf x qual (Jo st) (Jd st) (Zi st) .none kV doc pm an cdv ct):=⟨⟨oc,od,kV,doc,pm,an,cdv,ct,osl,rfl,l,c⟩,k⟩
end
theorem Zy {n:Nat} (h:n<=1000):n<sizeLine:=QEc h (by decide)
section
variable {X:Cx}
theorem pv (i:Nat) {x:Str} {pos:Pos} (hN:X.N[i]? = some x:=by rfl) (hv:Vis X.env.scope x:=by first | exact Or.inl rfl | exact Or.inr (Or.inl rfl) | exact Or.inr (Or.inr rfl)) (hd:(x==("__debug__" : Str))=false:=by decide)
  (hcd:(x==("__classdict__" : Str))=false:=by decide):PE X (.Name x pos) (Zm3 i):=Zmi hN hv hd hcd
end
theorem Zai {A B:Prop} (h:B):if false=true then A else B:=by
 rw [if_neg QAn];exact h
theorem Zbd {A B:Prop} (h:A):if true=true then A else B:=by
 rw [if_pos rfl];exact h
theorem JG {c A B:Prop} [Decidable c] (h1:c->A) (h2:¬ c->B):if c then A else B:=by
 by_cases h:c
 ·rw [if_pos h];exact h1 h
 ·rw [if_neg h];exact h2 h
def Same (H H':Hp):Prop:=∀ b o,H b=some o->H' b=some o
theorem Same.refl (H:Hp):Same H H:=fun _ _ h=>h
theorem Same.trans {H H1 H2:Hp} (a:Same H H1) (b:Same H1 H2):Same H H2:=fun c o h=>b c o (a c o h)
theorem Same.free {H H':Hp} (e:Same H H') {l:Addr} (h:H' l=Option.none):H l=Option.none:=by
 cases q:H l with
 | none=>rfl
 | some o =>
  rw [e l o q] at h
  cases h
theorem Same.seq {K:QZa} {H H':Hp} {a:Addr} {xs:List V} (e:Same H H') (h:SqL K H a xs):SqL K H' a xs:=by
 rcases h with (h | ⟨o,h⟩) | h
 ·exact .inl (.inl (e _ _ h))
 ·exact .inl (.inr ⟨o,e _ _ h⟩)
 ·exact .inr h
theorem Zbi {α β:Type} {f:α->β->Sem (ForInStep β)} {g:α->β->β}:∀ (l:List α) (b:β),(∀ x∈l,∀ c,f x c=pure (.yield (g x c)))->forIn l b f=pure (l.foldl (fun c x=>g x c) b)
 | [],b,_=>rfl
 | x::l,b,h=>by
  rw [List.forIn_cons,h x QAj,pure_bind];exact Zbi l _ fun y hy=>h y (QAp _ hy)
noncomputable def YW (cells:List (Str × Addr)) (x:Str × NameKind) (cs:List (Str × Addr)):List (Str × Addr) :=
 if (x.2==NameKind.free)=true then (x.1,(cells.lookup x.1).getD 0)::cs else cs
noncomputable def ZI (cells:List (Str × Addr)) (names:List (Str × NameKind)) (cs:List (Str × Addr)):List (Str × Addr):=names.foldl (fun cs x=>YW cells x cs) cs
theorem JI {scope:Scope} {env:Env} (h:∀ y∈scope.names,y.2 = .free->∃ c,env.cells.lookup y.1=some c):closureFor scope env=pure (ZI env.cells scope.names []):=by
 simp only [closureFor];rw [Zbi (g:=fun x cs=>YW env.cells x cs) scope.names [] (fun x hx c=>by
  obtain ⟨n,kind⟩:=x
  cases hk:(kind==NameKind.free) with
  | false=>simp only [hk,YW,QDh,if_false]
  | true =>
   obtain ⟨a,ha⟩:=h (n,kind) hx (by simpa using hk);have hc:cellOf env n=pure a:=by
    unfold cellOf;have ha':env.cells.lookup n=some a:=ha;rw [ha']
   have ha':env.cells.lookup n=some a:=ha
   simp only [hk,YW,if_true,hc,pure_bind,ha',Option.getD_some])]
 rfl
theorem ZaP {cells:List (Str × Addr)}:∀ (names:List (Str × NameKind)) (cs:List (Str × Addr)),(∀ y∈names,y.2 = .free->∃ c,cells.lookup y.1=some c) ->
  (∀ x c,cs.lookup x=some c->cells.lookup x=some c)->∀ x c,(ZI cells names cs).lookup x=some c->cells.lookup x=some c
 | [],cs,_,h=>h
 | (n,k)::r,cs,hf,h=>by
  refine ZaP r (YW cells (n,k) cs) (fun y hy=>hf y (QAp _ hy)) fun x c e=>?_;unfold YW at e
  split at e
  ·rename_i hk
   obtain ⟨a,ha⟩:=hf (n,k) QAj (by simpa using hk);have ha':cells.lookup n=some a:=ha;rw [QBl] at e
   cases hx:(x==n) with
   | true =>
    simp only [hx,ha',Option.getD_some] at e;have:x=n:=by simpa using hx
    rw [this,ha',e]
   | false =>
    simp only [hx] at e;exact h x c e
  ·exact h x c e
theorem JA {cells:List (Str × Addr)}:∀ (names:List (Str × NameKind)) (cs:List (Str × Addr)) (x:Str),((∃ c,cs.lookup x=some c)\/(x,NameKind.free)∈names)->∃ c,(ZI cells names cs).lookup x=some c
 | [],cs,x,h=>by
  rcases h with h | h
  ·exact h
  ·cases h
 | (n,k)::r,cs,x,h=>by
  refine JA r (YW cells (n,k) cs) x ?_
  rcases h with ⟨c,h⟩ | h
  ·left
   unfold YW
   split
   ·rw [QBl]
    cases hx:(x==n) with
    | true=>exact ⟨_,rfl⟩
    | false=>exact ⟨c,h⟩
   ·exact ⟨c,h⟩
  ·rcases QZn.mp h with e | h
   ·left
    cases e;unfold YW;rw [if_pos (show ((n,NameKind.free).2==NameKind.free)=true from rfl),QBl]
    simp
   ·exact .inr h
def PTs (X:Cx) (ifs:List Expr) (t:TT):Prop :=
 ∀ (pins:List (Addr × Obj)) (s:Shared) (σ:St) (H:Hp) (Q:Bool->Hp->Prop),Inv X pins σ H s->t σ H Q ->
  wpAny (model X.prog X.w) X.A (forIn ifs true fun c r=>if r=true then do let ok <- isTrue c X.env (eval c X.env); pure (ForInStep.yield ok) else pure (ForInStep.yield r)) (TP X pins σ Q) X.xe s
def ZnR:TT:=fun _ H Q=>Q true H
theorem ZA {X:Cx}:PTs X [] ZnR:=fun pins s σ H Q I h=>wpAny_tests_nil ⟨H,I,h⟩
theorem Zat {X:Cx} {c:Expr} {t:TT} (h:PT X c t):PTs X [c] t:=fun pins s σ H Q I q=>wpAny_tests_one (h pins s σ H Q I q)
noncomputable def Yn (X:Cx) (Nc:List Str) (scope:Scope) (cl:List (Str × Addr)) (C:Addr) (s₁:Shared) (H₁:Hp) (fp:List Addr):Cx where
 prog:=X.prog
 w:=X.w
 K:=X.K
 mg:=X.mg
 base:=X.base
 A:=X.A
 N:=Nc
 s₀:=s₁
 H₀:=H₁
 env:=compEnvC scope cl C X.env
 outer:=X.stack
 stack:=X.stack
 ex:=fp
 fn:=fun _=>false
 calm:=X.calm
 pn:=[]
 xe:=fun _ _=>False
noncomputable def capt (fm:List (Option Nat)) (σ:St):St:=fm.map fun o=>match o with
 | none=>none
 | some j=>(σ[j]?).join
structure Zm1 (X:Cx) (Nc:List Str) (scope:Scope) (fm:List (Option Nat)):Prop where
 kind:scope.kind = .function
 nocell:∀ y∈scope.names,y.2 ≠ .cell
 names:∀ y∈scope.names,y.2 = .local->scope.names.lookup y.1=some .local
 free:∀ y∈scope.names,y.2 = .free->X.env.kindOf y.1=some .cell\/X.env.kindOf y.1=some .free
 len:fm.length=Nc.length
 at_:∀ (p:Option Nat × Str),p∈fm.zip Nc->∀ j,p.1=some j->X.N[j]? = some p.2/\(p.2,NameKind.free)∈scope.names/\scope.names.lookup p.2=some .free
noncomputable def captOk (N:List Str) (sc:Scope) (Nc:List Str) (scope:Scope) (fm:List (Option Nat)):Bool :=
 decide (scope.kind = .function)&&scope.names.all (fun y=>decide (y.2 ≠ .cell)&&(decide (y.2 ≠ .local)||decide (scope.names.lookup y.1=some .local)) &&
  (decide (y.2 ≠ .free)||(decide (sc.names.lookup y.1=some .cell)||decide (sc.names.lookup y.1=some .free))))&&decide (fm.length=Nc.length) &&
  (fm.zip Nc).all (fun p=>match p.1 with
   | none=>true
   | some j=>decide (N[j]? = some p.2)&&decide ((p.2,NameKind.free)∈scope.names)&&decide (scope.names.lookup p.2=some .free))
theorem captOk.capt {X:Cx} {Nc:List Str} {scope:Scope} {fm:List (Option Nat)} (h:captOk X.N X.env.scope Nc scope fm=true):Zm1 X Nc scope fm:=by
 unfold captOk at h;rw [QAv,QAv,QAv] at h;obtain ⟨⟨⟨h1,h2⟩,h3⟩,h4⟩:=h;rw [QBh] at h2 h4;have g:∀ y∈scope.names,(y.2 ≠ .cell/\(y.2 ≠ .local\/scope.names.lookup y.1=some .local))/\(y.2 ≠ .free\/(X.env.scope.names.lookup y.1=some .cell\/X.env.scope.names.lookup y.1=some .free)):=fun y hy=>by
  have:=h2 y hy
  simpa only [QAv,QDp,QZg] using this
 refine ⟨QZj h1,fun y hy=>(g y hy).1.1,fun y hy e=>?_,fun y hy e=>?_,QZj h3,fun p hp j e=>?_⟩
 ·rcases (g y hy).1.2 with z | z
  ·exact absurd e z
  ·exact z
 ·rcases (g y hy).2 with z | z
  ·exact absurd e z
  ·exact z
 ·have:=h4 p hp;obtain ⟨a,b⟩:=p
  cases e
  simp only [QAv,QZg] at this;exact ⟨this.1.1,this.1.2,this.2⟩
theorem YG {env:Env}:∀ {names:List (Str × NameKind)} {x:Str}, names.lookup x=some .free ->
    ((names.map fun (n, k) => if (k==NameKind.free&&env.scope.kind == .function&&env.kindOf n==some .cell) then (n, NameKind.cell) else (n, k)).lookup x=some .cell \/
     (names.map fun (n, k) => if (k==NameKind.free&&env.scope.kind == .function&&env.kindOf n==some .cell) then (n, NameKind.cell) else (n, k)).lookup x=some .free)
  | [], _, h => by simp at h
  | (n, k)::r, x, h => by
    have ih := @YG env r x;rw [QAl]
    cases hx:x==n with
    | true =>
      simp only [QBl, hx] at h
      cases h
      dsimp only
      split
      · left
        simp only [QBl, hx]
      · right
        simp only [QBl, hx]
    | false =>
      simp only [QBl, hx] at h
      dsimp only
      split
      · simp only [QBl, hx]
        exact ih h
      · simp only [QBl, hx]
        exact ih h
theorem J5 {env:Env}:∀ {names:List (Str × NameKind)} {x:Str}, (∀ y∈names, y.2 ≠ .cell) ->
    ((names.map fun (n, k) => if (k==NameKind.free&&env.scope.kind == .function&&env.kindOf n==some .cell) then (n, NameKind.cell) else (n, k)).lookup x=some .cell \/
     (names.map fun (n, k) => if (k==NameKind.free&&env.scope.kind == .function&&env.kindOf n==some .cell) then (n, NameKind.cell) else (n, k)).lookup x=some .free)->(x, NameKind.free)∈names
  | [], _, _, h => by simp at h
  | (n, k)::r, x, hc, h => by
    have ih := @J5 env r x (fun y hy => hc y (QAp _ hy));rw [QAl] at h
    cases hx:x==n with
    | true =>
      have hxn:x=n := by simpa using hx
      dsimp only at h
      split at h
      · rename_i hk
        rw [QAv, QAv] at hk;have:k = .free := by simpa using hk.1.1
        rw [hxn, this];exact QAj
      · simp only [QBl, hx] at h
        rcases h with h | h
        · cases h
          exact absurd rfl (hc (n, .cell) QAj)
        · cases h
          rw [hxn];exact QAj
    | false =>
      dsimp only at h
      split at h
      · simp only [QBl, hx] at h
        exact QAp _ (ih h)
      · simp only [QBl, hx] at h
        exact QAp _ (ih h)
def ZiN (fm:List (Option Nat)) (wi:TI) (g:TG) (tt:TT) (te:TE):TE := fun σ H Q => wi σ H fun J H1 => ∀ l, H1 l=none ->
  ∃ W:Nat->Nat->List V->St->Hp->Prop, (∃ m, W 0 m [] (capt fm σ) (upd H1 l (.lst []))) /\
    ∀ i m ys σ' H', W i m ys σ' H'->H' l=some (.lst ys) /\
      ((J.stop i H'/\Q (.ref l) H') \/
       (J.go i H'/\∃ N:List V->St->Hp->Prop, (∀ zs σ2 H2, N zs σ2 H2->∃ m', m'<m/\W (i+1) m' zs σ2 H2)/\∀ x H2, J.yld i H' x H2->g x σ' H2 fun σ3 H3 => tt σ3 H3 fun b H4 =>
          if b=true then te σ3 H4 fun y H5 => H5 l=some (.lst ys)/\ys.length<sizeLine/\N (ys++[y]) σ3 (upd H5 l (.lst (ys++[y])))
          else N ys σ3 H4))
section
variable {prog:Program} {w:World} {A:Around} {R:Result->Shared->Prop} {s:Shared}
noncomputable abbrev NoX:Value->Shared->Prop:=fun _ _=>False
theorem Zc4 {elt target iter:Expr} {ifs:List Expr} {scope:Scope} {pos:Pos} {it acc:Value} {env:Env} (I:Nat->Shared->Prop)
  (turn:∀ n s,I n s->wpAny (model prog w) A (pyNext it) (fun r s₁=>match r with
   | none=>R (.ok .next) s₁
   | some v=>wpAny (model prog w) A (letOwnedTupleGo target it v) (fun _ s₁'=>wpAny (model prog w) A (assign target env v) (fun _ s₂ =>
     wpAny (model prog w) A (forIn ifs true fun c r=>if r=true then do let ok <- isTrue c env (eval c env); pure (ForInStep.yield ok) else pure (ForInStep.yield r)) (fun ok s₃ =>
      if ok=true then wpAny (model prog w) A (eval elt env) (fun x s₄ =>
       wpAny (model prog w) A (call (.builtin "list.append") [acc,x]) (fun _ s₅=>∃ m,m<n/\I m s₅) NoX s₄) NoX s₃
      else ∃ m,m<n/\I m s₃) NoX s₂) NoX s₁') NoX s₁) NoX s)
  (n:Nat) (h:I n s) :
  codeAny (model prog w) A (.compLoop (.ListComp elt [⟨target,iter,ifs,0⟩] scope pos) 0 it acc env) R s:=by
 refine codeAny_loop rfl I (fun n s hI=>?_) n h;show wpAny _ A ((compTurn (.ListComp elt [⟨target,iter,ifs,0⟩] scope pos) 0 it acc env).onRaise (fun x=>do noteFrame x env; theTreesLotGoes x)) _ _ s;refine wpAny_noted ?_;rw [compTurn_list];refine QZq (wpAny_standAt (QZq (wpAny_mono (turn n s hI) (fun r s₁ h₁=>?_) fun _ _ f=>f.elim)))
 cases r with
 | none=>exact QZr h₁
 | some v =>
  refine QZq (wpAny_mono h₁ (fun _ s₁' h₁'=>?_) fun _ _ f=>f.elim);refine QZq (wpAny_mono h₁' (fun _ s₂ h₂=>QZq (wpAny_mono h₂ (fun ok s₃ h₃=>?_) fun _ _ f=>f.elim)) fun _ _ f=>f.elim)
  cases ok with
  | false=>exact QZr ⟨rfl,h₃⟩
  | true =>
   exact QZq (QZq (wpAny_mono h₃ (fun x s₄ h₄=>QZq (wpAny_mono h₄ (fun _ s₅ h₅=>QZr (QZr ⟨rfl,h₅⟩)) fun _ _ f=>f.elim)) fun _ _ f=>f.elim))
end
section
variable {X:Cx} {pins:List (Addr × Obj)} {σ:St} {H₁:Hp} {s₁:Shared}
theorem Zj5 {Nc:List Str} {scope:Scope} {fm:List (Option Nat)} {fp:List Addr} {h₁:Heap} {tk:Nat} {m:Str->Option Value} (c:Zm1 X Nc scope fm) (I:Inv X pins σ H₁ s₁) (hf:∀ b∈fp,Zal X pins H₁ b) (hfp:∀ b∈fp,b<s₁.heap.objs.size)
  (old:∀ b o,s₁.heap.get? b=some o->h₁.get? b=some o) (hD:h₁.get? s₁.heap.objs.size=some { cls:=.type "list",data:=.seq ([]:List Value).toArray }) (hns:h₁.Ns (s₁.heap.objs.size+1) m) :
  Inv (Yn X Nc scope (ZI X.env.cells scope.names []) (s₁.heap.objs.size+1) s₁ H₁ fp) [] (capt fm σ) (upd H₁ s₁.heap.objs.size (.lst [])) { s₁ with heap:=h₁,toks:=tk }:=by
 have hfree:∀ y∈scope.names,y.2 = .free->∃ a,X.env.cells.lookup y.1=some a:=fun y hy e=>I.ok.has y.1 (c.free y hy e)
 have sub:∀ x a,(ZI X.env.cells scope.names []).lookup x=some a->X.env.cells.lookup x=some a:=ZaP _ _ hfree (fun x a e=>by simp at e);have lt:∀ x a,X.env.cells.lookup x=some a->a<s₁.heap.objs.size:=fun x a e=>(I.cell x a e).elim fun v q=>q.lt
 have hDn:H₁ s₁.heap.objs.size=none:=I.hok.fresh (QAc _);have hCn:H₁ (s₁.heap.objs.size+1)=none:=I.hok.fresh (QCj _);refine ⟨⟨I.ok.mod,c.kind,I.ok.glob,I.ok.blt,QCj _,fun x y a e1 e2=>I.ok.inj x y a (sub x a e1) (sub y a e2),fun x hx=>?_,fun x a z=>absurd z (by intro q; cases q),I.ok.hd,I.ok.frames,.inl rfl,fun b hb=>?_,I.bs,QAr I.ok.bsz I.sz,fun b o e hb=>?_,fun b hb hfs=>?_,I.stack,I.stkFree⟩,
  rfl,I.bare,Un.laid old (QAc _) hDn,⟨m,hns,fun i x v e1 e2 e3=>?_⟩,fun x a e=>?_,?_,fun x a e=>?_,fun p hp=>absurd (show p∈([]:List (Addr × Obj)) from hp) (by simp),?_,?_⟩
 ·exact JA _ _ x (.inr (J5 (env:=X.env) c.nocell hx))
 ·exact ⟨QAy (QDb (hfp b hb)),fun x a e=>(hf b hb).2.2.2.2.1 x a (sub x a e)⟩
 ·rcases (hf b hb).2.2.2.1 with z | z
  ·exact I.ok.noex b o e z
  ·exact absurd (QBb (QAh e) (QAr I.ok.bsz z)) (QBx _)
 ·rcases QZn.mp (I.stkSub b hfs) with z | z
  ·exact (hf b hb).2.1 z
  ·exact (hf b hb).2.2.1 z
 ·-- the names taken over
  have hz:∃ j,fm[i]? = some (some j)/\σ[j]? = some (some v):=by
   unfold capt at e2;rw [QAe] at e2
   cases q:fm[i]? with
   | none=>rw [q] at e2; cases e2
   | some o =>
    rw [q] at e2
    cases o with
    | none=>cases e2
    | some j =>
     refine ⟨j,rfl,?_⟩;have e2':(σ[j]?).join=some v:=QZl e2
     cases q2:σ[j]? with
     | none=>rw [q2] at e2'; cases e2'
     | some u=>rw [q2] at e2'; cases u with
      | none=>cases e2'
      | some u=>cases e2'; rfl
  obtain ⟨j,hfm,hσ⟩:=hz;have hp:((some j:Option Nat),x)∈fm.zip Nc:=by
   have:(fm.zip Nc)[i]? = some (some j,x):=by rw [List.getElem?_zip_eq_some]; exact ⟨hfm,e1⟩
   exact QAx this
  obtain ⟨hN,hmem,hlk⟩:=c.at_ _ hp j rfl;have hk:=c.free _ hmem rfl;obtain ⟨m0,hn0,hl0⟩:=I.loc;have hvis:Vis X.env.scope x:=hk.elim (fun z=>.inr (.inl z)) (fun z=>.inr (.inr z));obtain ⟨u,ru,lk⟩:=hl0 j x v hN hσ hvis;refine ⟨u,ru,.inr ⟨YG (env:=X.env) hlk,?_⟩⟩
  rcases lk with ⟨z,_⟩ | ⟨_,a,ea,o,ho,hd⟩
  ·rcases hk with q | q
   ·rw [show X.env.kindOf x=_ from q] at z; cases z
   ·rw [show X.env.kindOf x=_ from q] at z; cases z
  ·obtain ⟨a',ea'⟩:=JA (cells:=X.env.cells) scope.names [] x (.inr hmem);have:=sub x a' ea';rw [ea] at this
   cases this;exact ⟨a,ea',o,old a o ho,hd⟩
 ·obtain ⟨v,o,ho,hd⟩:=I.cell x a (sub x a e);exact ⟨v,o,old a o ho,hd⟩
 ·show upd H₁ s₁.heap.objs.size (.lst []) (s₁.heap.objs.size+1)=none;rw [Ze (Nat.succ_ne_self _)];exact hCn
 ·show upd H₁ s₁.heap.objs.size (.lst []) a=none;rw [Ze (QAy (lt x a (sub x a e)))];exact I.freeC x a (sub x a e)
 ·exact I.hok.laid old (QAc _) ⟨QAg _,[],0,.nil,hD⟩
 ·show (capt fm σ).length=Nc.length;unfold capt;rw [QAa];exact c.len
theorem ZdY {Nc:List Str} {scope:Scope} {cl:List (Str × Addr)} {C:Addr} {fp:List Addr} {σ':St} {H':Hp} {s':Shared} (I:Inv X pins σ H₁ s₁) (hf:∀ b∈fp,Zal X pins H₁ b) (J:Inv (Yn X Nc scope cl C s₁ H₁ fp) [] σ' H' s') :
  Inv X pins σ H' s':=I.call' (ch:=fp) J.os J.base J.hok J.bare fun b hb=>⟨(hf b hb).2.2.2.1,(hf b hb).2.1,(hf b hb).2.2.2.2.1,(hf b hb).2.2.2.2.2⟩
theorem ZhU {Nc:List Str} {scope:Scope} {cl:List (Str × Addr)} {fp:List Addr} {σ':St} {H':Hp} {s':Shared} {σ2:St} {s2:Shared} {h'':Heap} (I:Inv X pins σ H₁ s₁) (J:Inv (Yn X Nc scope cl (s₁.heap.objs.size+1) s₁ H₁ fp) [] σ' H' s')
  (I2:Inv X pins σ2 H' s2) (sb:Heap.SameBut (s₁.heap.objs.size+1) s2.heap h''):Inv X pins σ2 H' { s2 with heap:=h'' }:=by
 have hle:s₁.heap.objs.size<=s₁.heap.objs.size+1:=QCj _;refine I2.turned (t':=s2.toks) (it:=s₁.heap.objs.size+1) (fun b o hb e=>(sb.2 b hb).trans e) J.free (Nat.ne_of_gt (QBb I.lt hle)) (.inr (QAr I.sz hle)) (fun x c e z=>?_) (fun p hp z=>?_)
 ·obtain ⟨v,q⟩:=I.cell x c e;exact absurd (QBb q.lt (by rw [z]; exact hle)) (QBx _)
 ·exact absurd (QBb (QAh (I.pin p hp).1) (by rw [z]; exact hle)) (QBx _)
theorem Zc3 {elt tg iter:Expr} {ifs:List Expr} {scope:Scope} {pos:Pos} {Nc:List Str} {fm:List (Option Nat)} {g:TG} {tt:TT} {te:TE} {it:Addr} {fp:List Addr} {tn:Nat->Heap->Prop} {J:It} {Q:VK} {E:Value->Shared->Prop} {RR:Value->Addr->Result->Shared->Prop}
    (hc:X.calm=true) (c:Zm1 X Nc scope fm) (I:Inv X pins σ H₁ s₁) (T:Turn X.prog X.w X.K tg J fp it tn) (st:tn 0 s₁.heap) (hf:∀ b∈fp, Zal X pins H₁ b)
    (hg:∀ cl C s₁ H₁ fp, PG (Yn X Nc scope cl C s₁ H₁ fp) tg g) (ht:∀ cl C s₁ H₁ fp, PTs (Yn X Nc scope cl C s₁ H₁ fp) ifs tt) (he:∀ cl C s₁ H₁ fp, PE (Yn X Nc scope cl C s₁ H₁ fp) elt te)
    (h:∀ l, H₁ l=none->∃ W:Nat->Nat->List V->St->Hp->Prop, (∃ m, W 0 m [] (capt fm σ) (upd H₁ l (.lst []))) /\
      ∀ i m ys σ' H', W i m ys σ' H'->H' l=some (.lst ys) /\
        ((J.stop i H'/\Q (.ref l) H') \/
         (J.go i H'/\∃ N:List V->St->Hp->Prop, (∀ zs σ2 H2, N zs σ2 H2->∃ m', m'<m/\W (i+1) m' zs σ2 H2)/\∀ x H2, J.yld i H' x H2->g x σ' H2 fun σ3 H3 => tt σ3 H3 fun b H4 =>
            if b=true then te σ3 H4 fun y H5 => H5 l=some (.lst ys)/\ys.length<sizeLine/\N (ys++[y]) σ3 (upd H5 l (.lst (ys++[y])))
            else N ys σ3 H4)))
    (fin:∀ σ' H' s', Inv (Yn X Nc scope (ZI X.env.cells scope.names []) (s₁.heap.objs.size+1) s₁ H₁ fp) [] σ' H' s'->Q (.ref s₁.heap.objs.size) H'->RR (.ref s₁.heap.objs.size) (s₁.heap.objs.size+1) (.ok .next) s') :
    wpAny (model X.prog X.w) X.A (newList []) (fun acc s₃ => wpAny (model X.prog X.w) X.A (newFunctionEnv scope X.env.globals (ZI X.env.cells scope.names []) [] X.env.qual none .none (some X.env)) (fun cenv s₄ =>
      codeAny (model X.prog X.w) X.A (.compStart (.ListComp elt [⟨tg, iter, ifs, 0⟩] scope pos) 0 (.ref it) acc { cenv with scope := relabel scope X.env }) (RR acc cenv.locals) s₄) E s₃) E s₁ := by
  have hfp:∀ b∈fp, b<s₁.heap.objs.size := fun b hb => by
    obtain ⟨o, ho, _⟩ := T.obj 0 _ st b hb;exact QAh ho
  refine wpAny_newObj_type (wpAny_newFunctionEnv c.nocell (by intro y hy; simp at hy) (fun h₁ hns₁ hsb₁ => ?_) c.kind)
  dsimp only at hns₁ hsb₁ ⊢;generalize hH2:s₁.heap.push { cls := .type "list", dict := none, data := .seq ([]:List Value).toArray }=H2 at hns₁ hsb₁ ⊢;have hC:H2.objs.size=s₁.heap.objs.size+1 := by rw [<- hH2, QCk]
  rw [hC] at hns₁ hsb₁;show codeAny _ _ (.compStart _ 0 _ _ (compEnvC scope (ZI X.env.cells scope.names []) H2.objs.size X.env)) (RR _ H2.objs.size) _;rw [hC];have old:∀ b o, s₁.heap.get? b=some o->h₁.get? b=some o := fun b o e => hsb₁.extBut b o (QAy (QDb (QAh e))) (QAk _ (hH2 ▸ QAk _ e))
  have hD:h₁.get? s₁.heap.objs.size=some { cls := .type "list", data := .seq ([]:List Value).toArray } := hsb₁.extBut _ _ (QAy (Nat.lt_succ_self _)) (QAk _ (hH2 ▸ QBa _ rfl));have st1:tn 0 h₁ := T.keep _ _ _ st fun b _ o e => old b o e
  have hDn:H₁ s₁.heap.objs.size=none := I.hok.fresh (QAc _);obtain ⟨W, ⟨m0, w0⟩, turn⟩ := h _ hDn;have loop:∀ tk:Nat, codeAny (model X.prog X.w) X.A (.compLoop (.ListComp elt [⟨tg, iter, ifs, 0⟩] scope pos) 0 (.ref it) (.ref s₁.heap.objs.size) (compEnvC scope (ZI X.env.cells scope.names []) (s₁.heap.objs.size+1) X.env))
      (RR (.ref s₁.heap.objs.size) (s₁.heap.objs.size+1)) { s₁ with heap := h₁, toks := tk } := by
    intro tk;have I0 := Zj5 (tk := tk) c I hf hfp old hD hns₁;have stat:∀ {H':Hp}, (∀ b∈fp, H' b=none)->∀ b∈fp, Zal (Yn X Nc scope (ZI X.env.cells scope.names []) (s₁.heap.objs.size+1) s₁ H₁ fp) [] H' b := fun hn b hb =>
      ⟨hn b hb, (I0.ok.exf b hb).1, I0.ok.exfs b hb, .inl hb, (I0.ok.exf b hb).2, fun p hp => absurd (show p∈([]:List (Addr × Obj)) from hp) (by simp)⟩
    refine Zc4 (fun n s' => ∃ i ys σ' H', Inv (Yn X Nc scope (ZI X.env.cells scope.names []) (s₁.heap.objs.size+1) s₁ H₁ fp) [] σ' H' s'/\tn i s'.heap/\(∀ b∈fp, H' b=none)/\W i n ys σ' H') ?_ m0
      ⟨0, [], _, _, I0, st1, fun b hb => by rw [Ze (QAy (hfp b hb))]; exact (hf b hb).1, w0⟩
    rintro n s3 ⟨i, ys, σ3, H3, I3, st3, fr3, w3⟩;obtain ⟨hl, alt⟩ := turn i n ys σ3 H3 w3
    rcases alt with ⟨stop, qn⟩ | ⟨go, N, hN, step⟩
    · refine thn (T.done (Yn X Nc scope (ZI X.env.cells scope.names []) (s₁.heap.objs.size+1) s₁ H₁ fp) rfl rfl rfl hc i [] s3 σ3 H3 NoX I3 (stat fr3) st3 stop) fun r s4 zz0 => ?_
      obtain ⟨hr, I4⟩ := zz0;subst hr;exact fin σ3 H3 s4 I4 qn
    · refine thn (T.item (Yn X Nc scope (ZI X.env.cells scope.names []) (s₁.heap.objs.size+1) s₁ H₁ fp) rfl rfl rfl hc i [] s3 σ3 H3 NoX I3 (stat fr3) st3 go) fun r s4 zz0 => ?_
      obtain ⟨u, hr, h4⟩ := zz0;subst hr;refine thn h4 fun _ s5 zz0 => ?_
      obtain ⟨x, H5, I5, r5, y5, st5, fr5⟩ := zz0;have I5' := I5.pinned (stat fr5) (T.obj _ _ st5);have again:∀ {σ7:St} {H7:Hp} {s7:Shared} {zs:List V} {m':Nat}, Inv (Yn X Nc scope (ZI X.env.cells scope.names []) (s₁.heap.objs.size+1) s₁ H₁ fp) ([]++Zbw fp s5.heap) σ7 H7 s7->m'<n->W (i+1) m' zs σ7 H7 ->
          ∃ m, m<n/\∃ i ys σ' H', Inv (Yn X Nc scope (ZI X.env.cells scope.names []) (s₁.heap.objs.size+1) s₁ H₁ fp) [] σ' H' s7/\tn i s7.heap/\(∀ b∈fp, H' b=none)/\W i m ys σ' H' := fun {σ7 H7 s7 zs m'} I7 hm w7 => by
        refine ⟨m', hm, i+1, zs, σ7, H7, I7.unpinned, T.keep _ _ _ st5 fun b hb o e => (I7.pin (b, o) (QBf _ (QBf _ (Y5 hb e)))).1, fun b hb => ?_, w7⟩;obtain ⟨o, e, d⟩ := T.obj _ _ st5 b hb;exact (I7.pin (b, o) (QBf _ (QBf _ (Y5 hb e)))).2.1
      refine thn (hg _ _ _ _ _ _ s5 σ3 H5 x u _ I5' r5 (step x H5 y5)) fun _ s6 zz0 => ?_
      obtain ⟨σ6, H6, I6, q6⟩ := zz0;refine thn (ht _ _ _ _ _ _ s6 σ6 H6 _ I6 q6) fun ok s7 zz0 => ?_
      obtain ⟨H7, I7, q7⟩ := zz0
      cases ok with
      | false =>
        rw [if_neg QAn] at q7 ⊢;obtain ⟨m', hm, w7⟩ := hN _ _ _ q7;exact again I7 hm w7
      | true =>
        rw [if_pos rfl] at q7 ⊢;refine thn (he _ _ _ _ _ _ s7 σ6 H7 _ I7 q7) fun y s8 zz0 => ?_
        obtain ⟨v8, H8, I8, r8, hl8, hz8, n8⟩ := zz0;obtain ⟨m', hm, w8⟩ := hN _ _ _ n8;refine thn (Yk _ s8 σ6 H8 (.ref s₁.heap.objs.size) [v8] (.ref s₁.heap.objs.size) [y] (fun v H' => H'=upd H8 s₁.heap.objs.size (.lst (ys++[v8]))) I8 rfl (.cons r8 .nil) ⟨_, ys, v8, rfl, rfl, hl8, hz8, rfl⟩) fun _ s9 zz0 => ?_
        obtain ⟨_, H9, I9, _, e9⟩ := zz0;subst e9;exact again I9 hm w8
  exact codeAny_compStart_list (loop _) (T.self _ 0 _ _ _ st1 (loop _))
end
section
variable {X:Cx} {elt tg iter:Expr} {ifs:List Expr} {scope:Scope} {pos spos:Pos} {wi:TI} {g:TG} {tt:TT} {te:TE}
theorem Yq (Nc:List Str) (fm:List (Option Nat)) (hc:X.calm=true) (hk:captOk X.N X.env.scope Nc scope fm=true) (hi:PI X tg iter wi)
  (hg:∀ cl C s₁ H₁ fp,PG (Yn X Nc scope cl C s₁ H₁ fp) tg g) (ht:∀ cl C s₁ H₁ fp,PTs (Yn X Nc scope cl C s₁ H₁ fp) ifs tt) (he:∀ cl C s₁ H₁ fp,PE (Yn X Nc scope cl C s₁ H₁ fp) elt te)
  (hs:∀ x,foldedSetIterable iter X.env x=pure x:=by intro _; rfl):PE X (.ListComp elt [⟨tg,iter,ifs,0⟩] scope pos) (ZiN fm wi g tt te):=by
 intro pins s σ H Q I h;have c:=captOk.capt hk;rw [eval_ListComp];refine wpAny_comprehension_free (use:=none) rfl hs (JI fun y hy e=>I.ok.has y.1 (c.free y hy e)) c.kind c.names (thn (hi pins s σ H _ I h) fun v s1 h1=>thn h1 fun itv s2 h2=>?_);obtain ⟨it,fp,tn,J,H2,e,I2,T,st2,f2,h⟩:=h2;subst e;refine Zc3 (RR:=fun acc C=>compPost (model X.prog X.w) X.A X.xe none (EP X pins σ Q) acc C) hc c I2 T st2 f2 hg ht he h fun σ' H' s' J' q=>?_;obtain ⟨m,hn,_⟩:=J'.loc;exact ⟨m,hn,fun h'' sb=>⟨.ref s2.heap.objs.size,H',ZhU I2 J' (ZdY I2 f2 J') sb,rfl,q⟩⟩
theorem ZdD {i:Nat} {x:Str} {px:Pos} (Nc:List Str) (fm:List (Option Nat)) (hN:X.N.Nodup) (hi':X.N[i]? = some x) (hx:Loc X.env.scope x) (hc:X.calm=true) (hk:captOk X.N X.env.scope Nc scope fm=true) (hi:PI X tg iter wi)
  (hg:∀ cl C s₁ H₁ fp,PG (Yn X Nc scope cl C s₁ H₁ fp) tg g) (ht:∀ cl C s₁ H₁ fp,PTs (Yn X Nc scope cl C s₁ H₁ fp) ifs tt) (he:∀ cl C s₁ H₁ fp,PE (Yn X Nc scope cl C s₁ H₁ fp) elt te)
  (hsw:swapsWith (.ListComp elt [⟨tg,iter,ifs,0⟩] scope pos) (some (.Name x px)) spos.line X.env=pure true:=by rfl)
  (hs:∀ x,foldedSetIterable iter X.env x=pure x:=by intro _; rfl) (hf:X.fn x=true\/X.env.scope.names.lookup x=some .local:=by first | exact .inl rfl | exact .inr rfl | assumption) :
  PS X (.Assign [.Name x px] (.ListComp elt [⟨tg,iter,ifs,0⟩] scope pos) spos) (Zl2 (ZiN fm wi g tt te) (ZaF i)):=by
 intro pins s σ H D I h;have c:=captOk.capt hk;rw [exec_Assign_Name_used _ _ _ _ hsw];refine QZq (wpAny_standAt (QZq ?_));show wpAny _ X.A (do let _ <- comprehension (.ListComp elt [⟨tg,iter,ifs,0⟩] scope pos) scope X.env _ (newList []) false (eval iter X.env) (some (assign (.Name x px) X.env))) _ _ s;refine QZq (wpAny_mono (wpAny_comprehension_free (use:=some (assign (.Name x px) X.env)) (Q:=fun _ s'=>SP X pins D .next s') rfl hs (JI fun y hy e=>I.ok.has y.1 (c.free y hy e)) c.kind c.names
  (thn (hi pins s σ H _ I h) fun v s1 h1=>thn h1 fun itv s2 h2=>?_)) (fun _ s' hq=>QZr (QZr hq)) fun _ _ e=>e)
 obtain ⟨it,fp,tn,J,H2,e,I2,T,st2,f2,h⟩:=h2;subst e;refine Zc3 (Q:=fun v H'=>ZaF i v σ H' D.nx) (RR:=fun acc C=>compPost (model X.prog X.w) X.A X.xe (some (assign (.Name x px) X.env)) (fun _ s'=>SP X pins D .next s') acc C) hc c I2 T st2 f2 hg ht he h fun σ' H' s' J' q=>?_;obtain ⟨m,hn,_⟩:=J'.loc;have IB:=ZdY I2 f2 J';show wpAny _ X.A (assign (.Name x px) X.env _) _ _ _;refine wpAny_assign_Name (Zdw (v:=.ref s2.heap.objs.size) IB hN hi' hx rfl (fun s'' I'' zz0=>?_) hf);obtain ⟨a,sa,ha⟩:=zz0;have hle:s2.heap.objs.size<=s2.heap.objs.size+1:=QCj _;have hne:s2.heap.objs.size+1≠a:=by
  rcases ha with rfl | ha
  ·exact Nat.ne_of_gt (QBb I2.lt hle)
  ·obtain ⟨v,q⟩:=I2.cell x a ha;exact Nat.ne_of_gt (QBb q.lt hle)
 exact ⟨m,hn.sameBut sa hne,fun h'' sb=>⟨_,H',ZhU I2 J' I'' sb,q⟩⟩
end
section
variable {X:Cx}
theorem ZM (K:QZa) (h:X.K=K:=by rfl):IxR X (Znn K):=by subst h; exact Zah
theorem JR (K:QZa) (h:X.K=K:=by rfl):IxR X (Zno K):=by subst h; exact Jc
theorem Zax (K:QZa) (h:X.K=K:=by rfl):OpR X (compareOp .NotIn) (rIn K true):=by subst h; exact ZeC
def Zn6 (K:QZa):List V->Hp->VK->Prop:=fun xs H Q=>∃ p ys,xs=[.ref p]/\(SqL K H p ys\/SqT K H p ys)/\Q (.int ys.length) H
theorem Zr (K:QZa) (h:X.K=K:=by rfl):Y0 X (.builtin "len") (Zn6 K):=by subst h; exact ZeO
theorem Za6 {tg l:Expr} {tl:TE} (K:QZa) (hl:PE X l tl) (h:X.K=K:=by rfl):PI X tg l (Znw K tl):=by subst h; exact Zjb hl
theorem Z2 {tg l:Expr} {tl:TE} (K:QZa) (hl:PE X l tl) (h:X.K=K:=by rfl):PI X tg l (ZlB K tl):=by subst h; exact Zb8 hl
noncomputable def Jn (xs ys:List V):Bool:=decide (xs.length=ys.length)&&(xs.zip ys).all fun p=>eqV p.1 p.2
theorem ZjV {x:V} (h:Yd x=true):eqV x x=true:=by
 cases x <;> simp_all [eqV,Yd]
theorem ZaI {xs ys:List V} (hl:xs.length=ys.length):(List.range xs.length).all (fun j=>match xs[j]?,ys[j]? with | some a,some b=>eqV a b | _,_=>false)=Jn xs ys:=by
 unfold Jn;rw [QZh hl,QCl,QBj,QBh,QBh]
 constructor
 ·intro h p hp;obtain ⟨i,hi,rfl⟩:=List.mem_iff_getElem.mp hp;rw [List.length_zip] at hi;have:=h i (QZe.mpr (by exact O517 hl hi));have h1:i<xs.length:=by exact O517 hl hi
  have h2:i<ys.length:=by exact Om.a2 ‹_› ‹_›
  simpa [h1,h2] using this
 ·intro h i hi;have h1:=QZe.mp hi;have h2:i<ys.length:=by exact Om.a2 ‹_› ‹_›
  have hi':i<(xs.zip ys).length:=by rw [List.length_zip]; exact O516 hl h1
  have:=h ((xs.zip ys)[i]) (QAs hi')
  simpa [h1,h2] using this
theorem Zfn {A:Around} {s:Shared} {xs ys:List V} {its its2:List Value} (r1:Vals xs its) (r2:Vals ys its2) (f1:xs.all Yd=true) (f2:ys.all Yd=true):∀ j (h1:j<its.toArray.size) (h2:j<its2.toArray.size),
  SeqAt.EqAt A s its.toArray[j] its2.toArray[j] (match xs[j]?,ys[j]? with | some a,some b=>eqV a b | _,_=>false):=fun j h1 h2=>by
 have l1:=r1.length;have l2:=r2.length;rw [QAi] at h1 h2;have hx:xs[j]? = some (xs[j]'(by exact Om.a1 ‹_› ‹_›)):=by simp
 have hy:ys[j]? = some (ys[j]'(by exact Om.a1 ‹_› ‹_›)):=by simp
 obtain ⟨u,hu,ru⟩:=r1.get hx;obtain ⟨v,hv,rv⟩:=r2.get hy;have e1:its.toArray[j]=u:=by
  have:its[j]? = some its[j]:=by simp [h1]
  rw [this] at hu
  simpa using QZl hu
 have e2:its2.toArray[j]=v:=by
  have:its2[j]? = some its2[j]:=by simp [h2]
  rw [this] at hv
  simpa using QZl hv
 rw [e1,e2,hx,hy];exact ZgY ru rv (List.all_eq_true.mp f1 _ (QAs _)) (List.all_eq_true.mp f2 _ (QAs _))
inductive ZnH (K:QZa) (neg:Bool) (x:V) (y:V) (H:Hp) (Q:VK):Prop where
 | mk (a:Addr) (b:Addr) (xs:List V) (ys:List V) (_:x = .ref a) (_:y = .ref b) (_:SqL K H a xs) (_:SqL K H b ys) (_:((xs.all Yd=true/\ys.all Yd=true)\/xs.length≠ys.length)) (_:Q (.bl (if neg then !Jn xs ys else Jn xs ys)) H):ZnH K neg x y H Q
def rLL (K:QZa) (neg:Bool):R2:=fun x y H Q=>ZnH K neg x y H Q
theorem Zjk (hu:X.A.units<cLine) (K:QZa) (hK:X.K=K:=by rfl):OpR X (compareOp .Eq) (rLL K false):=by
 subst hK;intro pins s σ H x y v u Q I rx ry h;obtain ⟨a,b,xs,ys,rfl,rfl,h1,h2,hf,q⟩:=h
 cases rx
 cases ry;obtain ⟨its,r1,p1,z1⟩:=I.list h1;obtain ⟨its2,r2,p2,z2⟩:=I.list h2;have l1:=r1.length;have l2:=r2.length
 by_cases hl:xs.length=ys.length
 ·have hf':=hf.resolve_right (fun z=>z hl);refine SeqAt.eq_listAt p1.isList p2.isList (by rw [QAi,QAi]; exact O515 l1 l2 hl) hu (Zfn r1 r2 hf'.1 hf'.2) ⟨.bl _,H,I,rfl,?_⟩;rw [QAi,<- l1,ZaI hl];exact q
 ·have e:Jn xs ys=false:=by unfold Jn; rw [QZi hl,QCf]
  refine SeqAt.eq_list_lengthsAt p1.isList p2.isList (by simp only [QAi,bne_iff_ne]; exact O514 l1 l2 hl) hu ⟨.bl _,H,I,rfl,?_⟩;rw [<- e];exact q
theorem Zmn (hu:X.A.units<cLine) (K:QZa) (hK:X.K=K:=by rfl):OpR X (compareOp .NotEq) (rLL K true):=by
 subst hK;intro pins s σ H x y v u Q I rx ry h;obtain ⟨a,b,xs,ys,rfl,rfl,h1,h2,hf,q⟩:=h
 cases rx
 cases ry;obtain ⟨its,r1,p1,z1⟩:=I.list h1;obtain ⟨its2,r2,p2,z2⟩:=I.list h2;have l1:=r1.length;have l2:=r2.length
 by_cases hl:xs.length=ys.length
 ·have hf':=hf.resolve_right (fun z=>z hl);refine SeqAt.RcNeAt.lists p1.isList p2.isList (by rw [QAi,QAi]; exact O515 l1 l2 hl) hu (Zfn r1 r2 hf'.1 hf'.2) _ _ _ _ ⟨.bl _,H,I,rfl,?_⟩;rw [QAi,<- l1,ZaI hl];exact q
 ·have e:Jn xs ys=false:=by unfold Jn; rw [QZi hl,QCf]
  refine SeqAt.RcNeAt.lists_lengths p1.isList p2.isList (by simp only [QAi,bne_iff_ne]; exact O514 l1 l2 hl) hu _ _ _ _ ⟨.bl _,H,I,rfl,?_⟩;have q':Q (.bl (!Jn xs ys)) H:=q;rw [e] at q';exact q'
end
structure Wlk (J:It) (xs:List V) (P:Hp->Prop):Prop where
 go:∀ i H,P H->i<xs.length->J.go i H
 yld:∀ i H x H',P H->J.yld i H x H'->i<xs.length->H'=H/\xs[i]? = some x
 stop:∀ i H,P H->xs.length<=i->J.stop i H
theorem Zb0 {K:QZa} {a:Addr} {xs:List V}:Wlk (Itt K a) xs (fun H=>SqT K H a xs) :=
 ⟨fun i H h hi=>⟨xs,xs[i],h,by simp [hi]⟩,fun i H x H' h y _=>⟨y.1,y.2 xs h⟩,fun i H h hi=>⟨xs,h,hi⟩⟩
theorem Z1 {K:QZa} {a:Addr} {xs:List V}:Wlk (Itl K a) xs (fun H=>SqL K H a xs) :=
 ⟨fun i H h hi=>⟨xs,xs[i],h,by simp [hi]⟩,fun i H x H' h y _=>⟨y.1,y.2 xs h⟩,fun i H h hi=>⟨xs,h,hi⟩⟩
noncomputable def rng (n:Nat):List V:=(List.range n).map fun i:Nat=>V.int (i:Int)
theorem Zs (n:Nat):(rng n).length=n:=by unfold rng; rw [QAa,QAq]
theorem Zi5 {n i:Nat} (h:i<n):(rng n)[i]? = some (.int (i:Int)):=by
 unfold rng;rw [QAe,QBi h]
 rfl
theorem Z3 {n i:Nat} {x:V} (h:(rng n)[i]? = some x):i<n/\x = .int (i:Int):=by
 have hi:i<n:=by
  have:=(QZb.mp h).1
  rwa [Zs] at this
 rw [Zi5 hi] at h;exact ⟨hi,(QZl h).symm⟩
theorem ZG {n:Nat}:Wlk (Itr 0 n) (rng n) (fun _=>True) :=
 ⟨fun i H _ hi=>by rw [Zs] at hi; exact hi,fun i H x H' _ y hi=>by
  rw [Zs] at hi;obtain ⟨e,rfl⟩:=y;refine ⟨e,?_⟩;rw [Zi5 hi,QBp],fun i H _ hi=>by rw [Zs] at hi; exact hi⟩
def Zbm (g:TG) (tt:TT) (te:TE) (x:V) (σ:St) (H:Hp) (R:Option V->St->Hp->Prop):Prop :=
 g x σ H fun σ3 H3=>tt σ3 H3 fun b H4=>if b=true then te σ3 H4 fun y H5=>R (some y) σ3 H5 else R none σ3 H4
theorem Z5 {J:It} {xs:List V} {P:Hp->Prop} {g:TG} {tt:TT} {te:TE} {l:Addr} {QL:Hp->Prop} {σ0:St} {H0:Hp} (Wk:Wlk J xs P) (Pv:Nat->List V->St->Hp->Prop) (h0:Pv 0 [] σ0 H0)
    (hP:∀ i ys σ H, Pv i ys σ H->P H/\H l=some (.lst ys))
    (hs:∀ i x ys σ H, xs[i]? = some x->Pv i ys σ H->Zbm g tt te x σ H fun o σ3 H5 => match o with
      | some y => H5 l=some (.lst ys)/\ys.length<sizeLine/\Pv (i+1) (ys++[y]) σ3 (upd H5 l (.lst (ys++[y])))
      | none => Pv (i+1) ys σ3 H5)
    (hd:∀ ys σ H, Pv xs.length ys σ H->QL H) :
    ∃ W:Nat->Nat->List V->St->Hp->Prop, (∃ m, W 0 m [] σ0 H0) /\
    ∀ i m ys σ' H', W i m ys σ' H'->H' l=some (.lst ys) /\
      ((J.stop i H'/\QL H') \/
       (J.go i H'/\∃ N:List V->St->Hp->Prop, (∀ zs σ2 H2, N zs σ2 H2->∃ m', m'<m/\W (i+1) m' zs σ2 H2)/\∀ x H2, J.yld i H' x H2->g x σ' H2 fun σ3 H3 => tt σ3 H3 fun b H4 =>
          if b=true then te σ3 H4 fun y H5 => H5 l=some (.lst ys)/\ys.length<sizeLine/\N (ys++[y]) σ3 (upd H5 l (.lst (ys++[y])))
          else N ys σ3 H4)) := by
  refine ⟨fun i m ys σ H => m=xs.length - i/\i<=xs.length/\Pv i ys σ H, ⟨xs.length, by simp, QAg _, h0⟩, ?_⟩;rintro i m ys σ H ⟨rfl, hi, p⟩;obtain ⟨hp, hl⟩ := hP i ys σ H p;refine ⟨hl, ?_⟩
  by_cases hlt:i<xs.length
  · refine .inr ⟨Wk.go i H hp hlt, fun zs σ2 H2 => Pv (i+1) zs σ2 H2, fun zs σ2 H2 n => ⟨xs.length - (i+1), by exact O419 hlt, rfl, hlt, n⟩, fun x H2 y => ?_⟩
    obtain ⟨e, hx⟩ := Wk.yld i H x H2 hp y hlt;subst e;exact hs i x ys σ _ hx p
  · have e:i=xs.length := by exact O510 hi hlt
    subst e;exact .inl ⟨Wk.stop _ H hp (QAc _), hd ys σ H p⟩
theorem Same.upd_new {H H':Hp} {l:Addr} {o:HO} (e:Same H H') (h:H l=none):Same H (upd H' l o):=fun b u q=>by
 rw [Ze (Zg q h)];exact e b u q
theorem Same.new {H:Hp} {l:Addr} {o:HO} (h:H l=none):Same H (upd H l o):=(Same.refl H).upd_new h
theorem J4 {β:Type} {F:Nat->Option β} {i:Nat}:(List.range (i+1)).filterMap F=(List.range i).filterMap F++(F i).toList:=by
 rw [QDi,List.filterMap_append]
 cases e:F i <;> simp [e]
theorem Zdm {β:Type} {F:Nat->Option β} {i:Nat}:((List.range i).filterMap F).length<=i:=by
 have h:=List.length_filterMap_le F (List.range i);rw [QAq] at h;exact h
theorem filterMap_some {α β:Type} (h:α->β) (l:List α):(l.filterMap fun i=>some (h i))=l.map h:=by
 induction l with
 | nil=>rfl
 | cons a l ih=>rw [QCi,QAl,ih]
theorem ZB {J:It} {xs:List V} {P:Hp->Prop} {g:TG} {tt:TT} {te:TE} {l:Addr} {QL:Hp->Prop} {σ0:St} {H1:Hp} (F:Nat->Option V) (S:St->Prop) (Wk:Wlk J xs P) (hz:xs.length<=sizeLine) (hl:H1 l=none)
    (hPm:∀ H, Same H1 H->P H) (hS:S σ0)
    (hs:∀ i x σ H (R:Option V->St->Hp->Prop), xs[i]? = some x->S σ->Same H1 H->(∀ σ' H', S σ'->Same H H'->R (F i) σ' H')->Zbm g tt te x σ H R)
    (hd:∀ H, Same H1 H->H l=some (.lst ((List.range xs.length).filterMap F))->QL H) :
    ∃ W:Nat->Nat->List V->St->Hp->Prop, (∃ m, W 0 m [] σ0 (upd H1 l (.lst []))) /\
    ∀ i m ys σ' H', W i m ys σ' H'->H' l=some (.lst ys) /\
      ((J.stop i H'/\QL H') \/
       (J.go i H'/\∃ N:List V->St->Hp->Prop, (∀ zs σ2 H2, N zs σ2 H2->∃ m', m'<m/\W (i+1) m' zs σ2 H2)/\∀ x H2, J.yld i H' x H2->g x σ' H2 fun σ3 H3 => tt σ3 H3 fun b H4 =>
          if b=true then te σ3 H4 fun y H5 => H5 l=some (.lst ys)/\ys.length<sizeLine/\N (ys++[y]) σ3 (upd H5 l (.lst (ys++[y])))
          else N ys σ3 H4)) := by
  refine Z5 Wk (fun i ys σ H => Same H1 H/\H l=some (.lst ys)/\S σ/\ys=(List.range i).filterMap F) ⟨Same.new hl, Zb, hS, rfl⟩ (fun i ys σ H p => ⟨hPm H p.1, p.2.1⟩) ?_ ?_
  · rintro i x ys σ H hx ⟨sm, hl', hσ, rfl⟩
    refine hs i x σ H _ hx hσ sm fun σ' H' hσ' sm' => ?_
    have hi:i<xs.length := (QZb.mp hx).1
    cases e:F i with
    | none =>
      refine ⟨sm.trans sm', sm' _ _ hl', hσ', ?_⟩;rw [J4, e]
      simp
    | some y =>
      refine ⟨sm' _ _ hl', ?_, (sm.trans sm').upd_new hl, Zb, hσ', ?_⟩
      · have h1 := Zdm (F := F) (i := i)
        omega
      · rw [J4, e]
        rfl
  · rintro ys σ H ⟨sm, hl', hσ, rfl⟩
    exact hd H sm hl'
theorem Paired.getL {α β:Type} {F:α->β->Prop}:∀ {l₁:List α} {l₂:List β} {i:Nat} {a:α},Paired F l₁ l₂->l₁[i]? = some a->∃ b,l₂[i]? = some b/\F a b
 | _,_,_,_,.nil,e=>by simp at e
 | _,_,0,_,.cons r _,e=>by simp at e; subst e; exact ⟨_,rfl,r⟩
 | _,_,i+1,a,.cons _ t,e=>by
  obtain ⟨u,h1,h2⟩:=Paired.getL (i:=i) (a:=a) t (by simpa using e);exact ⟨u,by simpa using h1,h2⟩
theorem Paired.getR {α β:Type} {F:α->β->Prop}:∀ {l₁:List α} {l₂:List β} {i:Nat} {b:β},Paired F l₁ l₂->l₂[i]? = some b->∃ a,l₁[i]? = some a/\F a b
 | _,_,_,_,.nil,e=>by simp at e
 | _,_,0,_,.cons r _,e=>by simp at e; subst e; exact ⟨_,rfl,r⟩
 | _,_,i+1,b,.cons _ t,e=>by
  obtain ⟨u,h1,h2⟩:=Paired.getR (i:=i) (b:=b) t (by simpa using e);exact ⟨u,by simpa using h1,h2⟩
theorem ZR {xs:List V} {i:Nat} {v:V} (h:xs[i]? = some v):atI xs (i:Int)=some v:=Zlm h
theorem Zq {n:Nat} (h:n<=1000):n<=sizeLine:=QCa (Zy h)
theorem Zev {z:Int}:∀ k:Nat,(List.replicate k [V.int z]).flatten=(List.replicate k z).map V.int
 | 0=>rfl
 | k+1=>by rw [QDe,QDe,List.flatten_cons,QAl,Zev k]; rfl
theorem ZO (ns:List Int):(ns.map V.int).all Yd=true:=by
 rw [List.all_map];exact List.all_eq_true.mpr fun _ _=>rfl
theorem ZjU (xs:List V):Jn xs []=xs.isEmpty:=by
 cases xs <;> simp [Jn]
theorem Paired.append {α β:Type} {F:α->β->Prop}:∀ {l₁ m₁:List α} {l₂ m₂:List β},Paired F l₁ l₂->Paired F m₁ m₂->Paired F (l₁++m₁) (l₂++m₂)
 | _,_,_,_,.nil,s=>s
 | _,_,_,_,.cons r t,s=>.cons r (Paired.append t s)
theorem ZeP:bootBuiltins "list" = some (Value.type "list"):=by decide +kernel
theorem ZL:bootBuiltins "tuple" = some (Value.type "tuple"):=by decide +kernel
theorem ZmR:bootBuiltins "int" = some (Value.type "int"):=by decide +kernel
theorem Yu {X:Cx} {Nc:List Str} {scope:Scope} {cl:List (Str × Addr)} {C:Addr} {s₁:Shared} {H₁:Hp} {fp:List Addr} (i:Nat) {x:Str} {pos:Pos} (hN:Nc.Nodup:=by decide +kernel) (hi:Nc[i]? = some x:=by rfl)
  (hx:(relabel scope X.env).names.lookup x=some .local:=by rfl):PG (Yn X Nc scope cl C s₁ H₁ fp) (.Name x pos) (ZaF i):=ZC hN hi (.inl hx) (.inr hx)
end _L
namespace _L
open PySem
def GridT (H:Hp) (a:Addr) (B:List (List V)):Prop:=∃ ps:List Addr,H a=some (.tup (ps.map V.ref))/\Paired (fun p row=>H p=some (.tup row)) ps B
theorem GridT.same {H H':Hp} {a:Addr} {B:List (List V)} (g:GridT H a B) (e:Same H H'):GridT H' a B :=
 let ⟨ps,h,r⟩:=g
 ⟨ps,e _ _ h,Paired.mapP r fun _ _ q=>e _ _ q⟩
theorem Zg0 (xs:List V) {c:Nat} (h:c<=xs.length):ZfG xs none (some (c:Int))=xs.take c:=by
 unfold ZfG;rw [_H.sIx_none,_H.sIx_nat,List.drop_zero,Nat.sub_zero]
 congr 1
 exact Om.m2 ‹_›
theorem Zc1 (xs:List V) {c:Nat} (h:c<=xs.length):ZfG xs (some (c:Int)) none=xs.drop c:=by
 unfold ZfG;rw [_H.sIx_none,_H.sIx_nat];have e:min c xs.length=c:=by exact Om.m2 ‹_›
 rw [e,QBc];rw [QBn];exact QAc _
end _L
namespace _L
open PySem PySem.Spec PyProof.Rows
inductive EqD (K:QZa) (H:Hp):Nat->V->V->Bool->Prop where
 | flat {d:Nat} {x y:V} (fx:Yd x=true) (fy:Yd y=true):EqD K H d x y (eqV x y)
 | tups {d:Nat} {a c:Addr} {xs ys:List V} {e:Nat->Bool} (h1:SqT K H a xs) (h2:SqT K H c ys) (he:∀ j x y,xs[j]? = some x->ys[j]? = some y->EqD K H d x y (e j)):EqD K H (d+1) (.ref a) (.ref c) (decide (xs.length=ys.length)&&(List.range xs.length).all fun j=>decide (j<ys.length)&&e j)
 | lsts {d:Nat} {a c:Addr} {xs ys:List V} {e:Nat->Bool} (h1:SqL K H a xs) (h2:SqL K H c ys) (he:xs.length=ys.length->∀ j x y,xs[j]? = some x->ys[j]? = some y->EqD K H d x y (e j)):EqD K H (d+1) (.ref a) (.ref c) (decide (xs.length=ys.length)&&(List.range xs.length).all fun j=>decide (j<ys.length)&&e j)
 | tupF {d:Nat} {a:Addr} {xs:List V} {y:V} (h1:SqT K H a xs) (fy:Yd y=true):EqD K H d (.ref a) y false
 | Ftup {d:Nat} {a:Addr} {xs:List V} {y:V} (h1:SqT K H a xs) (fy:Yd y=true):EqD K H d y (.ref a) false
 | lstF {d:Nat} {a:Addr} {xs:List V} {y:V} (h1:SqL K H a xs) (fy:Yd y=true):EqD K H d (.ref a) y false
 | Flst {d:Nat} {a:Addr} {xs:List V} {y:V} (h1:SqL K H a xs) (fy:Yd y=true):EqD K H d y (.ref a) false
 | tupL {d:Nat} {a c:Addr} {xs ys:List V} (h1:SqT K H a xs) (h2:SqL K H c ys):EqD K H d (.ref a) (.ref c) false
 | lstT {d:Nat} {a c:Addr} {xs ys:List V} (h1:SqL K H a xs) (h2:SqT K H c ys):EqD K H d (.ref a) (.ref c) false
theorem Zmb {A:Around} {s:Shared} {y x:V} {u v:Value} (ry:RelV y u) (rx:RelV x v) (fy:Yd y=true) (fx:Yd x=true):SeqAt.RcAt A s u v (eqV y x)/\SeqAt.RcNeAt A s u v (!eqV y x):=by
 cases y with
 | non =>
  cases ry
  cases x with
  | non=>cases rx; exact ⟨SeqAt.RcAt.none_none,SeqAt.RcNeAt.none_none⟩
  | bl b=>cases rx; exact ⟨SeqAt.RcAt.none_bool b,SeqAt.RcNeAt.none_bool b⟩
  | int b=>obtain ⟨t,rfl⟩:=rx; exact ⟨SeqAt.RcAt.none_int b t,SeqAt.RcNeAt.none_int b t⟩
  | str b=>obtain ⟨t,rfl⟩:=rx; exact ⟨SeqAt.RcAt.none_str b t,SeqAt.RcNeAt.none_str b t⟩
  | _=>exact absurd (show false=true from fx) QAn
 | bl a =>
  cases ry
  cases x with
  | non=>cases rx; exact ⟨SeqAt.RcAt.bool_none a,SeqAt.RcNeAt.bool_none a⟩
  | bl b=>cases rx; exact ⟨SeqAt.RcAt.bool_bool a b,SeqAt.RcNeAt.bool_bool a b⟩
  | int b=>obtain ⟨t,rfl⟩:=rx; exact ⟨SeqAt.RcAt.bool_int a b t,SeqAt.RcNeAt.bool_int a b t⟩
  | str b=>obtain ⟨t,rfl⟩:=rx; exact ⟨SeqAt.RcAt.bool_str a b t,SeqAt.RcNeAt.bool_str a b t⟩
  | _=>exact absurd (show false=true from fx) QAn
 | int a =>
  obtain ⟨t',rfl⟩:=ry
  cases x with
  | non=>cases rx; exact ⟨SeqAt.RcAt.int_none a t',SeqAt.RcNeAt.int_none a t'⟩
  | bl b=>cases rx; exact ⟨SeqAt.RcAt.int_bool a t' b,SeqAt.RcNeAt.int_bool a t' b⟩
  | int b=>obtain ⟨t,rfl⟩:=rx; exact ⟨SeqAt.RcAt.int_int a t' b t,SeqAt.RcNeAt.int_int a t' b t⟩
  | str b=>obtain ⟨t,rfl⟩:=rx; exact ⟨SeqAt.RcAt.int_str a t' b t,SeqAt.RcNeAt.int_str a t' b t⟩
  | _=>exact absurd (show false=true from fx) QAn
 | str a =>
  obtain ⟨t',rfl⟩:=ry
  cases x with
  | non=>cases rx; exact ⟨SeqAt.RcAt.str_none a t',SeqAt.RcNeAt.str_none a t'⟩
  | bl b=>cases rx; exact ⟨SeqAt.RcAt.str_bool a t' b,SeqAt.RcNeAt.str_bool a t' b⟩
  | int b=>obtain ⟨t,rfl⟩:=rx; exact ⟨SeqAt.RcAt.str_int a t' b t,SeqAt.RcNeAt.str_int a t' b t⟩
  | str b=>obtain ⟨t,rfl⟩:=rx; exact ⟨SeqAt.RcAt.str_str a t' b t,SeqAt.RcNeAt.str_str a t' b t⟩
  | _=>exact absurd (show false=true from fx) QAn
 | _=>exact absurd (show false=true from fy) QAn
section
variable {A:Around} {s:Shared} {l:Addr} {its:Array Value}
theorem Zhc (hl:s.heap.IsTuple l its) {y:V} {v:Value} (r:RelV y v) (fy:Yd y=true) (hu:A.units<cLine) :
  (SeqAt.EqAt A s (.ref l) v false/\SeqAt.RcAt A s (.ref l) v false/\SeqAt.RcNeAt A s (.ref l) v true)/\(SeqAt.EqAt A s v (.ref l) false/\SeqAt.RcAt A s v (.ref l) false/\SeqAt.RcNeAt A s v (.ref l) true):=by
 cases y with
 | non=>cases r; exact ⟨⟨.tuple_none hl hu,.tuple_none hl hu,.tuple_none hl hu⟩,.none_tuple hl hu,.none_tuple hl hu,.none_tuple hl hu⟩
 | bl b=>cases r; exact ⟨⟨.tuple_bool b hl hu,.tuple_bool b hl hu,.tuple_bool b hl hu⟩,.bool_tuple b hl hu,.bool_tuple b hl hu,.bool_tuple b hl hu⟩
 | int b=>obtain ⟨t,rfl⟩:=r; exact ⟨⟨.tuple_int b t hl hu,.tuple_int b t hl hu,.tuple_int b t hl hu⟩,.int_tuple b t hl hu,.int_tuple b t hl hu,.int_tuple b t hl hu⟩
 | str b=>obtain ⟨t,rfl⟩:=r; exact ⟨⟨.tuple_str b t hl hu,.tuple_str b t hl hu,.tuple_str b t hl hu⟩,.str_tuple b t hl hu,.str_tuple b t hl hu,.str_tuple b t hl hu⟩
 | _=>exact absurd (show false=true from fy) QAn
theorem ZhF (hl:s.heap.IsList l its) {y:V} {v:Value} (r:RelV y v) (fy:Yd y=true) (hu:A.units<cLine) :
  (SeqAt.EqAt A s (.ref l) v false/\SeqAt.RcAt A s (.ref l) v false/\SeqAt.RcNeAt A s (.ref l) v true)/\(SeqAt.EqAt A s v (.ref l) false/\SeqAt.RcAt A s v (.ref l) false/\SeqAt.RcNeAt A s v (.ref l) true):=by
 cases y with
 | non=>cases r; exact ⟨⟨.list_none hl hu,.list_none hl hu,.list_none hl hu⟩,.none_list hl hu,.none_list hl hu,.none_list hl hu⟩
 | bl b=>cases r; exact ⟨⟨.list_bool b hl hu,.list_bool b hl hu,.list_bool b hl hu⟩,.bool_list b hl hu,.bool_list b hl hu,.bool_list b hl hu⟩
 | int b=>obtain ⟨t,rfl⟩:=r; exact ⟨⟨.list_int b t hl hu,.list_int b t hl hu,.list_int b t hl hu⟩,.int_list b t hl hu,.int_list b t hl hu,.int_list b t hl hu⟩
 | str b=>obtain ⟨t,rfl⟩:=r; exact ⟨⟨.list_str b t hl hu,.list_str b t hl hu,.list_str b t hl hu⟩,.str_list b t hl hu,.str_list b t hl hu,.str_list b t hl hu⟩
 | _=>exact absurd (show false=true from fy) QAn
end
theorem ZkU {n m:Nat} {e:Nat->Bool}:((List.range (min n m)).all e&&(n==m))=(decide (n=m)&&(List.range n).all fun j=>decide (j<m)&&e j):=by
 by_cases h:n=m
 ·subst h;rw [Nat.min_self,beq_self_eq_true,Bool.and_true,QZh rfl,QCl,QBj,QBh,QBh]
  constructor
  ·intro h j hj;rw [QZh (QZe.mp hj),QCl];exact h j hj
  ·intro h j hj;have:=h j hj;rw [QAv] at this;exact this.2
 ·rw [QZi h,QCf,show (n==m)=false by simpa using h,Bool.and_false]
theorem ZeR {n:Nat} {e:Nat->Bool}:((List.range n).all fun j=>decide (j<n)&&e j)=(List.range n).all e:=by
 rw [QBj,QBh,QBh]
 constructor
 ·intro h j hj;have:=h j hj;rw [QAv] at this;exact this.2
 ·intro h j hj;rw [QZh (QZe.mp hj),QCl];exact h j hj
section
variable {X:Cx} {pins:List (Addr × Obj)} {σ:St} {H:Hp} {s:Shared}
theorem EqD.refl' (I:Inv X pins σ H s) {d:Nat} {x y:V} {b:Bool} (h:EqD X.K H d x y b):x=y->b=true:=by
 induction h with
 | flat fx fy=>rintro rfl; exact ZjV fx
 | tups h1 h2 he ih =>
  intro e
  cases e;have:=I.tuple_inj h1 h2;subst this;rw [QZh rfl,QCl,ZeR,QBh];intro j hj;have hj':=QZe.mp hj;exact ih j _ _ (QAb hj') (QAb hj') rfl
 | lsts h1 h2 he ih =>
  intro e
  cases e;have:=I.list_inj h1 h2;subst this;rw [QZh rfl,QCl,ZeR,QBh];intro j hj;have hj':=QZe.mp hj;exact ih rfl j _ _ (QAb hj') (QAb hj') rfl
 | tupF h1 fy=>rintro rfl; cases fy
 | Ftup h1 fy=>rintro rfl; cases fy
 | lstF h1 fy=>rintro rfl; cases fy
 | Flst h1 fy=>rintro rfl; cases fy
 | tupL h1 h2 =>
  intro e
  cases e;obtain ⟨_,_,p,_⟩:=I.tuple h1;obtain ⟨_,_,q,_⟩:=I.list h2;obtain ⟨o,ho,hc,_⟩:=p;obtain ⟨o',_,ho',hc',_⟩:=q;rw [ho] at ho'
  cases ho';rw [hc] at hc';exact absurd hc' (by decide)
 | lstT h1 h2 =>
  intro e
  cases e;obtain ⟨_,_,p,_⟩:=I.tuple h2;obtain ⟨_,_,q,_⟩:=I.list h1;obtain ⟨o,ho,hc,_⟩:=p;obtain ⟨o',_,ho',hc',_⟩:=q;rw [ho] at ho'
  cases ho';rw [hc] at hc';exact absurd hc' (by decide)
theorem Vals.at {xs:List V} {its:List Value} (r:Vals xs its) {j:Nat} (h:j<its.toArray.size):∃ x,xs[j]? = some x/\RelV x its.toArray[j]:=by
 rw [QAi] at h;have hx:j<xs.length:=by rw [r.length]; exact h
 have e1:xs[j]? = some xs[j]:=QAb hx;obtain ⟨u,hu,ru⟩:=r.get e1;refine ⟨_,e1,?_⟩;rw [QAb h] at hu
 cases hu
 simpa using ru
theorem EqD.all (I:Inv X pins σ H s) {d:Nat} {x y:V} {b:Bool} (h:EqD X.K H d x y b):∀ {A:Around} {u v:Value},RelV x u->RelV y v->A.units+d<cLine ->
  SeqAt.EqAt A s u v b/\SeqAt.RcAt A s u v b/\SeqAt.RcNeAt A s u v (!b):=by
 induction h with
 | flat fx fy=>exact fun {A u v} rx ry hu=>⟨ZgY rx ry fx fy,Zmb rx ry fx fy⟩
 | @tups d a c xs ys e h1 h2 he ih =>
  intro A u v rx ry hu
  cases rx
  cases ry;obtain ⟨its,r1,p1,_⟩:=I.tuple h1;obtain ⟨its2,r2,p2,_⟩:=I.tuple h2;have el:∀ j (q1:j<its.toArray.size) (q2:j<its2.toArray.size),SeqAt.EqAt A.in1 s its.toArray[j] its2.toArray[j] (e j):=fun j q1 q2=>by
   obtain ⟨x,e1,rx⟩:=r1.at q1;obtain ⟨y,e2,ry⟩:=r2.at q2;exact (ih j x y e1 e2 rx ry (by show A.units+1+d<cLine; exact O443 hu)).1
  have sz:its.toArray.size=xs.length/\its2.toArray.size=ys.length:=by
   rw [QAi,QAi,r1.length,r2.length];exact ⟨rfl,rfl⟩
  have g1:=SeqAt.RcAt.tuples (A:=A) p1 p2 (by exact O444 hu) el;have g2:=SeqAt.RcNeAt.tuples (A:=A) p1 p2 (by exact O444 hu) el;rw [sz.1,sz.2,ZkU] at g1 g2;refine ⟨?_,g1,g2⟩
  by_cases hac:a=c
  ·subst hac;rw [EqD.refl' I (.tups h1 h2 he) rfl];exact SeqAt.EqAt.same _
  ·exact SeqAt.EqAt.of_refs hac g1
 | @lsts d a c xs ys e h1 h2 he ih =>
  intro A u v rx ry hu
  cases rx
  cases ry;obtain ⟨its,r1,p1,_⟩:=I.list h1;obtain ⟨its2,r2,p2,_⟩:=I.list h2;have sz:its.toArray.size=xs.length/\its2.toArray.size=ys.length:=by
   rw [QAi,QAi,r1.length,r2.length];exact ⟨rfl,rfl⟩
  have g:SeqAt.RcAt A s (.ref a) (.ref c) (decide (xs.length=ys.length)&&(List.range xs.length).all fun j=>decide (j<ys.length)&&e j)/\SeqAt.RcNeAt A s (.ref a) (.ref c) (!(decide (xs.length=ys.length)&&(List.range xs.length).all fun j=>decide (j<ys.length)&&e j)):=by
   by_cases hl:xs.length=ys.length
   ·have el:∀ j (q1:j<its.toArray.size) (q2:j<its2.toArray.size),SeqAt.EqAt A.in1 s its.toArray[j] its2.toArray[j] (e j):=fun j q1 q2=>by
     obtain ⟨x,e1,rx⟩:=r1.at q1;obtain ⟨y,e2,ry⟩:=r2.at q2;exact (ih hl j x y e1 e2 rx ry (by show A.units+1+d<cLine; exact O443 hu)).1
    have g1:=SeqAt.RcAt.lists (A:=A) p1.isList p2.isList (by rw [sz.1,sz.2,hl]) (by exact O444 hu) el;have g2:=SeqAt.RcNeAt.lists (A:=A) p1.isList p2.isList (by rw [sz.1,sz.2,hl]) (by exact O444 hu) el;rw [sz.1] at g1 g2;rw [QZh hl,QCl,<- hl,ZeR];exact ⟨g1,g2⟩
   ·rw [QZi hl,QCf];have hz:(its.toArray.size != its2.toArray.size)=true:=by rw [sz.1,sz.2]; simpa using hl
    exact ⟨.lists_lengths p1.isList p2.isList hz (by exact O444 hu),.lists_lengths p1.isList p2.isList hz (by exact O444 hu)⟩
  refine ⟨?_,g⟩
  by_cases hac:a=c
  ·subst hac;rw [EqD.refl' I (.lsts h1 h2 he) rfl];exact SeqAt.EqAt.same _
  ·exact SeqAt.EqAt.of_refs hac g.1
 | tupF h1 fy =>
  intro A u v rx ry hu
  cases rx;obtain ⟨its,r1,p1,_⟩:=I.tuple h1;exact (Zhc p1 ry fy (by exact O446 hu)).1
 | Ftup h1 fy =>
  intro A u v rx ry hu
  cases ry;obtain ⟨its,r1,p1,_⟩:=I.tuple h1;exact (Zhc p1 rx fy (by exact O446 hu)).2
 | lstF h1 fy =>
  intro A u v rx ry hu
  cases rx;obtain ⟨its,r1,p1,_⟩:=I.list h1;exact (ZhF p1.isList ry fy (by exact O446 hu)).1
 | Flst h1 fy =>
  intro A u v rx ry hu
  cases ry;obtain ⟨its,r1,p1,_⟩:=I.list h1;exact (ZhF p1.isList rx fy (by exact O446 hu)).2
 | tupL h1 h2 =>
  intro A u v rx ry hu
  cases rx
  cases ry;obtain ⟨its,r1,p1,_⟩:=I.tuple h1;obtain ⟨its2,r2,p2,_⟩:=I.list h2;exact ⟨.tuple_list p1 p2.isList (by exact O446 hu),.tuple_list p1 p2.isList (by exact O446 hu),.tuple_list p1 p2.isList (by exact O446 hu)⟩
 | lstT h1 h2 =>
  intro A u v rx ry hu
  cases rx
  cases ry;obtain ⟨its,r1,p1,_⟩:=I.list h1;obtain ⟨its2,r2,p2,_⟩:=I.tuple h2;exact ⟨.list_tuple p1.isList p2 (by exact O446 hu),.list_tuple p1.isList p2 (by exact O446 hu),.list_tuple p1.isList p2 (by exact O446 hu)⟩
end
def Znp (K:QZa) (d:Nat) (neg:Bool):R2:=fun x y H Q=>∃ b,EqD K H d x y b/\Q (.bl (if neg then !b else b)) H
section
variable {X:Cx}
theorem Zmp {d:Nat} (hu:X.A.units+d<cLine) (K:QZa) (hK:X.K=K:=by rfl):OpR X (compareOp .Eq) (Znp K d false):=by
 subst hK;intro pins s σ H x y v u Q I rx ry h;obtain ⟨b,e,q⟩:=h;exact (e.all I rx ry hu).2.1 _ _ _ _ ⟨.bl b,H,I,rfl,q⟩
theorem Zmo {d:Nat} (hu:X.A.units+d<cLine) (K:QZa) (hK:X.K=K:=by rfl):OpR X (compareOp .NotEq) (Znp K d true):=by
 subst hK;intro pins s σ H x y v u Q I rx ry h;obtain ⟨b,e,q⟩:=h;exact (e.all I rx ry hu).2.2 _ _ _ _ ⟨.bl (!b),H,I,rfl,q⟩
end
theorem EqD.cast {K:QZa} {H:Hp} {d:Nat} {x y:V} {b b':Bool} (h:EqD K H d x y b) (e:b=b'):EqD K H d x y b':=e ▸ h
theorem ZgX {xs ys:List V}:(decide (xs.length=ys.length)&&(List.range xs.length).all fun j=>decide (j<ys.length)&&eqV (xs.getD j .non) (ys.getD j .non))=Jn xs ys:=by
 by_cases hl:xs.length=ys.length
 ·rw [QZh hl,QCl,<- hl,ZeR,<- ZaI hl];refine Bool.eq_iff_iff.mpr ?_;rw [QBh,QBh];refine forall_congr' fun j=>forall_congr' fun hj=>?_;have h1:=QZe.mp hj;have h2:j<ys.length:=by exact Om.a2 ‹_› ‹_›
  rw [QAb h1,QAb h2,QAd,QAd,QAb h1,QAb h2]
  rfl
 ·unfold Jn;rw [QZi hl,QCf,QCf]
theorem ZhO {xs:List V} (f:xs.all Yd=true) {j:Nat} {x:V} (h:xs[j]? = some x):Yd x=true:=List.all_eq_true.mp f _ (QAx h)
section
variable {K:QZa} {H:Hp} {d:Nat} {a c:Addr} {xs ys:List V}
theorem Zlb (h1:SqT K H a xs) (h2:SqT K H c ys) (f1:xs.all Yd=true) (f2:ys.all Yd=true):EqD K H (d+1) (.ref a) (.ref c) (Jn xs ys):=by
 rw [<- ZgX];refine .tups h1 h2 fun j x y e1 e2=>?_;have g1:xs.getD j .non=x:=by rw [QAd,e1]; rfl
 have g2:ys.getD j .non=y:=by rw [QAd,e2]; rfl
 rw [g1,g2];exact .flat (ZhO f1 e1) (ZhO f2 e2)
theorem Zj9 {n:Nat}:(decide (n=n)&&(List.range n).all fun j=>decide (j<n)&&true)=true:=by
 rw [QZh rfl,QCl,QBh];intro j hj;rw [QZh (QZe.mp hj)]
 rfl
theorem ZjS (h1:SqL K H a xs) (h2:SqL K H c ys) (hl:xs.length=ys.length) (he:∀ (j:Nat) x y,xs[j]? = some x->ys[j]? = some y->EqD K H d x y true):EqD K H (d+1) (.ref a) (.ref c) true:=by
 have:=EqD.lsts (e:=fun _=>true) h1 h2 fun _=>he
 rw [<- hl,Zj9] at this;exact this
end
structure Dfn (K:QZa) (mg:Str->Option Value) (x:Str) (st:Stmt) (ps:List Str) (f:Addr) (fd:FuncData):Prop where
 F:Fun K x x st f fd
 b:Binds K fd ps []
 m:mg x=some (.ref f)
section
variable {X:Cx}
theorem Zv (K:QZa) (h:X.K=K:=by rfl):Y0 X (.type "tuple") (fun xs H Q=>∃ p ys,xs=[.ref p]/\((SqL K H p ys/\∀ l,H l=none->Q (.ref l) (upd H l (.tup ys)))\/(SqT K H p ys/\Q (.ref p) H))):=by subst h; exact Zdo
theorem Zc7 (K:QZa) (h:X.K=K:=by rfl):Y0 X (.type "list") (fun xs H Q=>∃ p ys,xs=[.ref p]/\(SqL K H p ys\/SqT K H p ys)/\∀ l,H l=none->Q (.ref l) (upd H l (.lst ys))):=by subst h; exact ZeN
theorem ZbT:Y0 X (.type "range") (fun xs H Q=>∃ n:Nat,xs=[.int (n:Int)]/\∀ p,H p=none->Q (.ref p) (upd H p (.rng 0 n))):=by
 intro pins s σ H xs us Q I r h;obtain ⟨n,rfl,q⟩:=h;obtain ⟨u,rfl,rx⟩:=JB r;obtain ⟨t,rfl⟩:=rx;refine call_range_1 ⟨.ref s.heap.objs.size,_,I.laid (t':=s.toks+1+1) (o:=.rng 0 n) (fun b o e=>QAk _ e) (QAc _) ⟨_,_,_,QBa _ rfl⟩,rfl,q _ (I.hok.fresh (QAc _))⟩
theorem Ze3:∀ (n:Nat) (its:List Value),its.length=n->(∀ (j:Nat) v,its[j]? = some v->∃ t,v = .int (j:Int) t)->Vals (rng n) its:=by
 have go:∀ (xs:List V) (its:List Value),xs.length=its.length->(∀ (j:Nat) x v,xs[j]? = some x->its[j]? = some v->RelV x v)->Vals xs its:=by
  intro xs
  induction xs with
  | nil =>
   intro its hl _
   cases its with
   | nil=>exact .nil
   | cons _ _=>cases hl
  | cons x xs ih =>
   intro its hl h
   cases its with
   | nil=>cases hl
   | cons v its=>exact .cons (h 0 x v rfl rfl) (ih its (Nat.succ.inj hl) fun j y u e1 e2=>h (j+1) y u (by simpa using e1) (by simpa using e2))
 intro n its hl h;refine go _ _ (by rw [Zs,hl]) fun j x v e1 e2=>?_;obtain ⟨_,rfl⟩:=Z3 e1;exact h j v e2
theorem Zg4 (hc:X.calm=true):Y0 X (.type "list") (fun xs H Q=>∃ (p:Addr) (n:Nat),xs=[.ref p]/\H p=some (.rng 0 n)/\n<=1000/\∀ l,H l=none->Q (.ref l) (upd H l (.lst (rng n)))):=by
 intro pins s σ H xs us Q I r h;obtain ⟨p,n,rfl,hp,hn,q⟩:=h;obtain ⟨u,rfl,rx⟩:=JB r
 cases rx;obtain ⟨t,u,v,e⟩:=I.hok p _ hp;have e2:Builtin.Range.rangeSize 0 (n:Int) 1=n:=by rw [rangeSize_one]; split <;> omega
 refine call_list_range (n:=n) (I.ok.hd hc) e (small_one (by exact O509 ) (by exact O508 ) (by exact Om.c2) (by exact Om.c1 ‹_› rfl)) e2 (by exact Om.b1 ‹_› rfl) fun h' tk acc c' kp e' hi=>?_;refine ⟨.ref s.heap.objs.size,_,I.laid (t':=tk) kp (QAc _) (show ObjOk X.prog X.w _ h' _ (.lst (rng n)) from ⟨by rw [Zs]; exact Zq hn,acc.toList,c',Ze3 n _ (by rw [QAz]; exact hi.1) fun j w ew=>?_,by rw [e']⟩),rfl,q _ (I.hok.fresh (QAc _))⟩;obtain ⟨t',ht⟩:=hi.2 j w (by simpa using ew);refine ⟨t',?_⟩;rw [ht,QBp,Int.mul_one]
end
section
variable {κ:Type} [DecidableEq κ]
noncomputable def ZaD (kvs:List (κ × V)) (k:κ):Option V:=(kvs.find? fun kv=>decide (kv.1=k)).map (·.2)
noncomputable def Za4 (kvs:List (κ × V)) (k:κ) (v:V):List (κ × V) :=
 if (kvs.any fun kv=>decide (kv.1=k))=true then kvs.map (fun kv=>if kv.1=k then (kv.1,v) else kv) else kvs++[(k,v)]
theorem ZaQ {p:κ × V} {r:List (κ × V)} {k:κ} (e:p.1=k):ZaD (p::r) k=some p.2:=by simp [ZaD,QCt,e]
theorem ZaR {p:κ × V} {r:List (κ × V)} {k:κ} (e:¬ p.1=k):ZaD (p::r) k=ZaD r k:=by simp [ZaD,QCt,e]
theorem Zcg (k:κ):∀ kvs:List (κ × V),(kvs.any fun kv=>decide (kv.1=k))=(ZaD kvs k).isSome
 | []=>rfl
 | p::r=>by
  rw [QDd]
  by_cases e:p.1=k
  ·simp only [ZaQ e,QZh e,Bool.true_or,Option.isSome_some]
  ·rw [ZaR e,QZi e,Bool.false_or]; exact Zcg k r
theorem ZbS (kvs:List (κ × V)) (k:κ) (v:V):(Za4 kvs k v).length<=kvs.length+1:=by
 unfold Za4
 split
 ·rw [QAa]; exact O513 
 ·rw [QAo,QAu,List.length_nil]; exact O512 
theorem Zi7 {kvs:List (κ × V)} {k:κ} (v:V) (h:ZaD kvs k=none):Za4 kvs k v=kvs++[(k,v)]:=by
 unfold Za4;rw [Zcg,h];exact if_neg (by decide)
theorem RelO.isSome_eq {o:Option V} {u:Option Value} (r:RelO o u):o.isSome=u.isSome:=by
 cases o with
 | none=>cases u with
  | none=>rfl
  | some _=>exact (show False from r).elim
 | some _=>cases u with
  | none=>exact (show False from r).elim
  | some _=>rfl
theorem RelO.getD {o:Option V} {u:Option Value} {d:V} {d':Value} (r:RelO o u) (rd:RelV d d'):RelV (o.getD d) (u.getD d'):=by
 cases o with
 | none=>cases u with
  | none=>exact rd
  | some _=>exact (show False from r).elim
 | some _=>cases u with
  | none=>exact (show False from r).elim
  | some _=>exact r
theorem KV.val {kvs:List (κ × V)} {vs:List (κ × Value)} (r:KV kvs vs) (k:κ):RelO (ZaD kvs k) (valueAt vs k):=by
 unfold KV at r
 induction r with
 | nil=>exact True.intro
 | @cons p q ps qs h t ih =>
  obtain ⟨h1,h2⟩:=h
  by_cases e:p.1=k
  ·have e':q.1=k:=h1.symm.trans e;have b:valueAt (q::qs) k=some q.2:=by simp [valueAt,QCt,e']
   rw [ZaQ e,b]; exact h2
  ·have e':¬ q.1=k:=fun z=>e (h1.trans z)
   have b:valueAt (q::qs) k=valueAt qs k:=by simp [valueAt,QCt,e']
   rw [ZaR e,b]; exact ih
theorem KV.any {kvs:List (κ × V)} {vs:List (κ × Value)} (r:KV kvs vs) (k:κ):(kvs.any fun kv=>decide (kv.1=k))=vs.any fun kv=>decide (kv.1=k):=by
 unfold KV at r
 induction r with
 | nil=>rfl
 | cons h t ih=>rw [QDd,QDd,ih,h.1]
theorem KV.repl {kvs:List (κ × V)} {vs:List (κ × Value)} (r:KV kvs vs) (k:κ) {y:V} {u:Value} (ry:RelV y u) :
  KV (kvs.map fun kv=>if kv.1=k then (kv.1,y) else kv) (vs.map fun kv=>if kv.1=k then (kv.1,u) else kv):=by
 unfold KV at r ⊢
 induction r with
 | nil=>exact .nil
 | @cons p q ps qs h t ih =>
  rw [QAl,QAl];refine .cons ?_ ih;obtain ⟨h1,h2⟩:=h
  by_cases e:p.1=k
  ·rw [if_pos e,if_pos (h1.symm.trans e)]; exact ⟨h1,ry⟩
  ·rw [if_neg e,if_neg (fun z=>e (h1.trans z))]; exact ⟨h1,h2⟩
theorem KV.put {kvs:List (κ × V)} {vs:List (κ × Value)} (r:KV kvs vs) (k:κ) {y:V} {u:Value} (ry:RelV y u):KV (Za4 kvs k y) (stored vs k u):=by
 unfold Za4 stored;rw [r.any k]
 by_cases e:(vs.any fun kv=>decide (kv.1=k))=true
 ·rw [if_pos e,if_pos e]; exact r.repl k ry
 ·rw [if_neg e,if_neg e]; exact Paired.snoc r ⟨rfl,ry⟩
theorem KV.length {kvs:List (κ × V)} {vs:List (κ × Value)} (r:KV kvs vs):kvs.length=vs.length:=Paired.length r
end
theorem Zfw {P:Program} {w:World} {k:Key} {u:Value} (r:RelV (kV k) u):(ZZ P w).is k u=true:=by
 cases k with
 | inl i=>obtain ⟨t,e⟩:=(show ∃ t,u=Value.int i t from r); subst e; exact Zfl P w i t
 | inr x=>obtain ⟨t,e⟩:=(show ∃ t,u=Value.str x t from r); subst e; exact Zfk P w x t
theorem ZdT {P:Program} {w:World}:∀ {ks:List Key} {us:List Value},Vals (ks.map kV) us->ItemsAre (ZZ P w) ks us
 | [],_,r=>by rw [List.map_nil] at r; cases r; exact .nil
 | k::ks,_,r=>by
  rw [QAl] at r
  cases r with
  | cons h t=>exact .cons (Zfw h) (ZdT t)
noncomputable abbrev KT (H:Hp):List (List Key × V)->List (List Key × Addr × Value)->Prop:=Paired fun p q=>p.1=q.1/\H q.2.1=some (.tup (p.1.map kV))/\RelV p.2 q.2.2
theorem KT.val {H:Hp} {kvs:List (List Key × V)} {xs:List (List Key × Addr × Value)} (r:KT H kvs xs) (k:List Key):RelO (ZaD kvs k) ((atKey xs k).map (·.2)):=by
 induction r with
 | nil=>exact True.intro
 | @cons p q ps qs h t ih =>
  obtain ⟨h1,_,h2⟩:=h
  by_cases e:p.1=k
  ·have e':q.1=k:=h1.symm.trans e;have b:atKey (q::qs) k=some q.2:=by simp [atKey,QCt,e']
   rw [ZaQ e,b]; exact h2
  ·have e':¬ q.1=k:=fun z=>e (h1.trans z)
   have b:atKey (q::qs) k=atKey qs k:=by simp [atKey,QCt,e']
   rw [ZaR e,b]; exact ih
theorem KT.repl {H:Hp} {kvs:List (List Key × V)} {xs:List (List Key × Addr × Value)} (r:KT H kvs xs) (k:List Key) {y:V} {u:Value} (ry:RelV y u) :
  KT H (kvs.map fun kv=>if kv.1=k then (kv.1,y) else kv) (xs.map (putAt k u)):=by
 induction r with
 | nil=>exact .nil
 | @cons p q ps qs h t ih =>
  rw [QAl,QAl];refine .cons ?_ ih;obtain ⟨h1,h2,h3⟩:=h;unfold putAt
  by_cases e:p.1=k
  ·rw [if_pos e,if_pos (h1.symm.trans e)]; exact ⟨h1,h2,ry⟩
  ·rw [if_neg e,if_neg (fun z=>e (h1.trans z))]; exact ⟨h1,h2,h3⟩
theorem KT.put {H:Hp} {kvs:List (List Key × V)} {xs:List (List Key × Addr × Value)} (r:KT H kvs xs) (k:List Key) {b:Addr} {y:V} {u:Value} (hb:H b=some (.tup (k.map kV))) (ry:RelV y u) :
  KT H (Za4 kvs k y) (storedH xs k b u):=by
 have e:(kvs.any fun kv=>decide (kv.1=k))=(atKey xs k).isSome:=by
  rw [Zcg,(r.val k).isSome_eq,Option.isSome_map]
 unfold Za4 storedH;rw [e]
 by_cases q:(atKey xs k).isSome=true
 ·rw [if_pos q,if_pos q]; exact r.repl k ry
 ·rw [if_neg q,if_neg q]; exact Paired.snoc r ⟨rfl,hb,ry⟩
theorem KT.keeps {H H':Hp} {kvs:List (List Key × V)} {xs:List (List Key × Addr × Value)} (r:KT H kvs xs) (ht:∀ b ys,H b=some (.tup ys)->H' b=some (.tup ys)):KT H' kvs xs :=
 Paired.mapP r fun _ _ z=>⟨z.1,ht _ _ z.2.1,z.2.2⟩
section
variable {P:Program} {w:World} {H:Hp} {h:Heap} {a:Addr}
theorem Zlx {u:HO} (ok:HOk P w H h) (e:Rd H a u):ObjOk P w H h a u:=e.ok ok
theorem Zc0 {kvs:List (Key × V)} (ok:HOk P w H h) (e:Rd H a (.dK kvs)):kvs.length<=sizeLine/\(a==sysModules)=false/\∃ vs,KV kvs vs/\h.DictOf (ZZ P w) a vs :=
 show ObjOk P w H h a (.dK kvs) from Zlx ok e
theorem ZlF {kvs:List (Key × V)} (ok:HOk P w H h) (e:H a=some (.dK kvs)):kvs.length<=sizeLine/\(a==sysModules)=false/\∃ vs,KV kvs vs/\h.DictOf (ZZ P w) a vs:=Zc0 ok (.inl e)
theorem ZcR {ks:List Key} (ok:HOk P w H h) (e:H a=some (.tup (ks.map kV))):(tupleKind (ZZ P w)).is h ks a:=by
 obtain ⟨_,its,r,o,h1,h2,n,h3⟩:=(show ObjOk P w H h a (.tup (ks.map kV)) from ok a _ e);exact ⟨o,its.toArray,n,h1,h2,congrArg Prod.fst h3,by simpa using ZdT r⟩
theorem ZdX {kvs:List (List Key × V)} (ok:HOk P w H h) (e:Rd H a (.dT kvs)):kvs.length<=sizeLine/\(a==sysModules)=false /\
  ∃ xs,KT H kvs xs/\h.DictOfH (tupleKind (ZZ P w)) a xs:=by
 obtain ⟨z,y,xs,r,o,es,ep,h1,h2,h3,h4,h5⟩:=(show ObjOk P w H h a (.dT kvs) from Zlx ok e);refine ⟨z,y,xs,r,o,es,ep,h1,h2,h3,h4,fun x hx=>?_,h5⟩;have all:∀ {l:List (List Key × V)} {m:List (List Key × Addr × Value)},KT H l m->∀ x∈m,(tupleKind (ZZ P w)).is h x.1 x.2.1:=by
  intro l m q
  induction q with
  | nil=>intro x hx; exact nomatch hx
  | @cons p q ps qs hq t ih =>
   intro x hx
   rcases QZn.mp hx with e | hx
   ·subst e;exact ZcR ok (by rw [<- hq.1]; exact hq.2.1)
   ·exact ih x hx
 exact all r x hx
theorem ZnE {kvs:List (List Key × V)} (ok:HOk P w H h) (e:H a=some (.dT kvs)):kvs.length<=sizeLine/\(a==sysModules)=false /\
  ∃ xs,KT H kvs xs/\h.DictOfH (tupleKind (ZZ P w)) a xs:=ZdX ok (.inl e)
end
def DGet (H:Hp) (a:Addr) (y:V) (r:Option V):Prop :=
 (∃ kvs k,Rd H a (.dK kvs)/\y=kV k/\r=ZaD kvs k)\/∃ kvs k b,Rd H a (.dT kvs)/\y = .ref b/\H b=some (.tup (k.map kV))/\r=ZaD kvs k
def DPut (H:Hp) (a:Addr) (y v:V) (H':Hp):Prop :=
 (∃ kvs k,H a=some (.dK kvs)/\y=kV k/\kvs.length<sizeLine/\H'=upd H a (.dK (Za4 kvs k v))) \/
 ∃ kvs k b,H a=some (.dT kvs)/\y = .ref b/\H b=some (.tup (k.map kV))/\kvs.length<sizeLine/\H'=upd H a (.dT (Za4 kvs k v))
theorem DGet.k {H:Hp} {a:Addr} {kvs:List (Key × V)} {k:Key} (e:H a=some (.dK kvs)):DGet H a (kV k) (ZaD kvs k):=.inl ⟨kvs,k,.inl e,rfl,rfl⟩
theorem DPut.k {H:Hp} {a:Addr} {kvs:List (Key × V)} {k:Key} {v:V} (e:H a=some (.dK kvs)) (hl:kvs.length<sizeLine):DPut H a (kV k) v (upd H a (.dK (Za4 kvs k v))):=.inl ⟨kvs,k,e,rfl,hl,rfl⟩
section
variable {X:Cx} {pins:List (Addr × Obj)} {σ:St} {H:Hp} {s:Shared} {a:Addr} {y v:V} {u r:Value} {o:Option V} {A:Around} {E:Value->Shared->Prop}
theorem Inv.big (I:Inv X pins σ H s):sysModules<s.heap.objs.size:=by
 have h:mainGlobals<s.heap.objs.size:=(I.mod.glob.keeps I.bk).lt;exact Nat.lt_trans (by decide) h
theorem Ziw {Q:Value->Shared->Prop} (hu:A.units+1<cLine) (I:Inv X pins σ H s) (g:DGet H a y (some v)) (ry:RelV y u) (h:∀ w' s',Inv X pins σ H s'->RelV v w'->Q w' s') :
  wpAny (model X.prog X.w) A (getItem (.ref a) u) Q E s:=by
 rcases g with ⟨kvs,k,e,ey,l⟩ | ⟨kvs,k,b,e,ey,eb,l⟩
 ·subst ey;obtain ⟨z,hd,vs,rel,dd⟩:=Zc0 I.hok e;obtain ⟨w',hw,rw'⟩:=RelO.some_of (v:=v) (o:=valueAt vs k) (by rw [l]; exact rel.val k);exact wpAny_getItem_of (Zfw ry) dd.mapOf hw (h w' _ (I.tok _) rw')
 ·subst ey
  cases (show u=Value.ref b from ry);obtain ⟨z,hd,xs,rel,dd⟩:=ZdX I.hok e;obtain ⟨w',hw,rw'⟩:=RelO.some_of (v:=v) (o:=(atKey xs k).map (·.2)) (by rw [l]; exact rel.val k);obtain ⟨p,hp,hp2⟩:=Option.map_eq_some_iff.mp hw;refine wpAny_getItem_heap (tupleKind_room_in1 hu) (ZcR I.hok eb) dd hp ?_;rw [hp2];exact h w' _ (I.tok _) rw'
theorem Zlh {Q:Value->Shared->Prop} (hu:A.units+1<cLine) (I:Inv X pins σ H s) (g:DGet H a y o) (ry:RelV y u) (h:∀ s',Inv X pins σ H s'->Q (.bool (!o.isSome)) s') :
  wpAny (model X.prog X.w) A (compareOp .NotIn u (.ref a)) Q E s:=by
 rcases g with ⟨kvs,k,e,ey,l⟩ | ⟨kvs,k,b,e,ey,eb,l⟩
 ·subst ey;obtain ⟨z,hd,vs,rel,dd⟩:=Zc0 I.hok e;refine wpAny_notIn_of (Zfw ry) hd dd.mapOf ?_;rw [<- (rel.val k).isSome_eq,<- l];exact h _ (I.tok _)
 ·subst ey
  cases (show u=Value.ref b from ry);obtain ⟨z,hd,xs,rel,dd⟩:=ZdX I.hok e;refine wpAny_notIn_heap (tupleKind_room_in1 hu) (ZcR I.hok eb) hd dd ?_;have q:=(rel.val k).isSome_eq;rw [Option.isSome_map] at q;rw [<- q,<- l];exact h _ (I.tok _)
theorem ZhT {h':Heap} {t':Nat} {ob:HO} (I:Inv X pins σ H s) (mu:Mut (H a)) (hs:Heap.SameBut a s.heap h') (he:∃ q,h'.get? a=some q) (new:ObjOk X.prog X.w (upd H a ob) h' a ob) :
  Inv X pins σ (upd H a ob) { s with heap:=h',toks:=t' } :=
 I.write (x:=a) (e:=a) mu (.inl rfl) (fun b q hb z=>(hs.2 b hb).trans z) he new
theorem ZjY {P:Program} {w:World} {H':Hp} {h':Heap} {kvs:List (Key × V)} {vs:List (Key × Value)} (z:kvs.length<=sizeLine) (hd:(a==sysModules)=false) (rel:KV kvs vs) (dd:h'.DictOf (ZZ P w) a vs) :
  ObjOk P w H' h' a (.dK kvs):=⟨z,hd,vs,rel,dd⟩
theorem Ziv {H':Hp} {Q:Unit->Shared->Prop} (hu:A.units+1<cLine) (I:Inv X pins σ H s) (g:DPut H a y v H') (ry:RelV y u) (rv:RelV v r) (h:∀ s',Inv X pins σ H' s'->Q () s') :
  wpAny (model X.prog X.w) A (setItem (.ref a) u r) Q E s:=by
 rcases g with ⟨kvs,k,e,ey,l,eH⟩ | ⟨kvs,k,b,e,ey,eb,l,eH⟩
 ·subst ey eH;obtain ⟨z,hd,vs,rel,dd⟩:=ZlF I.hok e;have hz:vs.length<=sizeLine:=by rw [<- rel.length]; exact z
  have hl:(Za4 kvs k v).length<=sizeLine:=by have:=ZbS kvs k v; omega
  refine wpAny_setItem_pairs (hsz:=hz) (Zfw ry) dd fun h' dd' hs=>h _ ?_
  have he:∃ q,h'.get? a=some q:=let ⟨q,_,_,hq,_⟩:=dd'; ⟨q,hq⟩
  exact ZhT I (by rw [e]; exact True.intro) hs he (ZjY hl hd (rel.put k rv) dd')
 ·subst ey eH
  cases (show u=Value.ref b from ry);obtain ⟨z,hd,xs,rel,dd⟩:=ZnE I.hok e;have hz:xs.length<=sizeLine:=by rw [<- Paired.length rel]; exact z
  have hl:(Za4 kvs k v).length<=sizeLine:=by have:=ZbS kvs k v; omega
  refine wpAny_setItem_heap (hsz:=hz) (tupleKind_room_in1 hu) (ZcR I.hok eb) dd fun h' dd' hs=>h _ ?_
  obtain ⟨q,es,ep,hq,h2,h3,h4,_,h5⟩:=dd';refine ZhT I (by rw [e]; exact True.intro) hs ⟨q,hq⟩ ⟨hl,hd,_,(rel.put k eb rv).keeps fun c ys ec=>?_,q,es,ep,hq,h2,h3,h4,h5⟩;rw [Ze (YE ec e (fun z=>nomatch z))];exact ec
end
def ZnL (i:Expr):Prop:=∀ ov iv,subscripted i false ov iv=operate [ov,iv] (getItem ov iv)
theorem Zkp {prog:Program} {w:World} {A:Around} {E:Value->Shared->Prop} {s:Shared} {env:Env} {value slice:Expr} {pos:Pos} {T id:String} {Q:Value->Shared->Prop}
  (hl:typeLookup (.type T) "__getitem__" = pure (some (.builtin id))) (hs:ZnL slice)
  (h:wpAny (model prog w) A (eval value env) (fun o s₁=>wpAny (model prog w) A (eval slice env) (fun i s₂=>s₂.TypeIs o T/\wpAny (model prog w) A (getItem o i) Q E s₂) E s₁) E s) :
  wpAny (model prog w) A (eval (.Subscript value slice pos) env) Q E s:=by
 refine Subscript_ (wpAny_mono h (fun o s₁ h₁=>wpAny_mono h₁ (fun i s₂ h₂=>?_) fun _ _ x=>x) fun _ _ x=>x);obtain ⟨hT,h₂⟩:=h₂;unfold subscriptTail;refine QZq ?_;rw [getitemInPython_of_ne hT.not_modules];refine QZq (wpAny_specialOf hT hl ?_);have fin:wpAny (model prog w) A (subscripted slice false o i) (fun r s₃=>wpAny (model prog w) A (letTemporaryGo value o r >>= fun _=>pure r) Q E s₃) E s₂:=by
  rw [hs o i];exact wpAny_operating (wpAny_mono h₂ (fun r s₃ h₃=>QZq (wpAny_letTemporaryGo (QZr h₃))) fun _ _ x=>x)
 first
  | exact QZr (QZq fin)
  | exact QZq (QZr (QZq fin))
  | exact QZq fin
theorem ZfD {X:Cx} {pins:List (Addr × Obj)} {σ:St} {H:Hp} {s:Shared} {a:Addr} {y:V} {o:Option V} (I:Inv X pins σ H s) (g:DGet H a y o):s.TypeIs (.ref a) "dict":=by
 rcases g with ⟨kvs,k,e,_,_⟩ | ⟨kvs,k,b,e,_,_,_⟩
 ·obtain ⟨_,_,vs,_,dd⟩:=Zc0 I.hok e;exact dd.typeIs
 ·obtain ⟨_,_,xs,_,dd⟩:=ZdX I.hok e;exact dd.typeIs
def Znb (td ty:TE):TE:=fun σ H Q=>td σ H fun x H1=>ty σ H1 fun y H2=>∃ a v,x = .ref a/\DGet H2 a y (some v)/\Q v H2
def Zko (ty td:TE):TE:=fun σ H Q=>ty σ H fun y H1=>td σ H1 fun x H2=>∃ a o,x = .ref a/\DGet H2 a y o/\Q (.bl (!o.isSome)) H2
def Znj (td ty tv:TE):TS:=fun D σ H=>tv σ H fun v H1=>td σ H1 fun x H2=>ty σ H2 fun y H3=>∃ a H4,x = .ref a/\DPut H3 a y v H4/\D.nx σ H4
section
variable {X:Cx} {o i e value:Expr} {pos pos' tpos:Pos} {td ty tv:TE}
theorem ZkG (hu:X.A.units+1<cLine) (ho:PE X o td) (hi:PE X i ty) (hs:ZnL i):PE X (.Subscript o i pos) (Znb td ty):=by
 intro pins s σ H Q I h;refine Zkp PySem.F.slot_dict_getitem.lookup hs (thn (ho pins s σ H _ I h) fun u s1 ⟨x,H1,I1,rx,q1⟩=>thn (hi pins s1 σ H1 _ I1 q1) fun iv s2 zz0=>?_);obtain ⟨y,H2,I2,ry,a,v,ex,g,q2⟩:=zz0;subst ex;obtain rfl:u=Value.ref a:=rx;exact ⟨ZfD I2 g,Ziw hu I2 g ry fun w' s3 I3 rw'=>⟨v,H2,I3,rw',q2⟩⟩
theorem ZdE (hu:X.A.units+1<cLine) (hi:PE X i ty) (ho:PE X o td):PC X .NotIn i o (Zko ty td):=by
 intro pins s σ H Q I h;refine thn (hi pins s σ H _ I h) fun iv s1 ⟨y,H1,I1,ry,q1⟩=>thn (ho pins s1 σ H1 _ I1 q1) fun u s2 zz0=>?_;obtain ⟨x,H2,I2,rx,a,ov,ex,g,q2⟩:=zz0;subst ex;obtain rfl:u=Value.ref a:=rx;exact Zlh hu I2 g ry fun s3 I3=>⟨.bl (!ov.isSome),H2,I3,rfl,q2⟩
theorem ZkD (hu:X.A.units+1<cLine) (ho:PE X o td) (hi:PE X i ty) (hv:PE X value tv) (hs:swapsWith value (some (.Subscript o i pos')) pos.line X.env=pure false) :
  PS X (.Assign [.Subscript o i pos'] value pos) (Znj td ty tv):=by
 intro pins s σ H D I h;refine wpAny_Assign_Subscript (thn (hv pins s σ H _ I h) fun r s1 ⟨v,H1,I1,rv,q1⟩=>thn (ho pins s1 σ H1 _ I1 q1) fun u s2 ⟨x,H2,I2,rx,q2⟩=>thn (hi pins s2 σ H2 _ I2 q2) fun iv s3 zz0=>?_) hs;obtain ⟨y,H3,I3,ry,a,H4,ex,g,q3⟩:=zz0;subst ex;obtain rfl:u=Value.ref a:=rx;exact Ziv hu I3 g ry rv fun s4 I4=>⟨σ,H4,I4,q3⟩
end
theorem ZjZ {P:Program} {w:World} {H:Hp} (h:Heap) (hb:sysModules<h.objs.size):ObjOk P w H (h.push { cls:=.type "dict",data:=.dict #[] }) h.objs.size (.dK []) :=
 ⟨QAg _,beq_eq_false_iff_ne.mpr (Ne.symm (QAy hb)),[],.nil,Heap.DictOf.new h⟩
def Zl0:TE:=fun _ H Q=>∀ p,H p=none->Q (.ref p) (upd H p (.dK []))
section
variable {X:Cx} {pos:Pos}
theorem Zjd:PE X (.Dict [] [] pos) Zl0:=fun pins s σ H Q I h =>
 wpAny_Dict_empty ⟨.ref s.heap.objs.size,_,I.laid (a:=s.heap.objs.size) (o:=.dK []) (t':=s.toks) (fun _ _ q=>QAk _ q) (QAc _) (ZjZ s.heap I.big),rfl,h _ (I.hok.fresh (QAc _))⟩
end
structure M2 (X:Cx) (o:Expr) (m:Str) (apos:Pos) (e f:Expr) (cpos:Pos):Prop where
 base:attributeBase o m X.env (eval o X.env)=eval o X.env
 few:((backTo cpos (starEach [e,f] X.env)).all (fun x=>!x.1)&&(backToKw cpos (keywordEach [] X.env)).all (fun x=>x.1.isSome)
  && decide (([e,f]:List Expr).length+([]:List Keyword).length+(if ([]:List Keyword).isEmpty then 0 else 1)<30))=true
 line:(apos.endLine==cpos.line)=true
 trees:backTo cpos (starEach [e,f] X.env)=[(false,eval e X.env),(false,eval f X.env)]
def IsD (H:Hp) (a:Addr):Prop:=(∃ kvs,Rd H a (.dK kvs))\/∃ kvs,Rd H a (.dT kvs)
theorem ZmG {X:Cx} {pins:List (Addr × Obj)} {σ:St} {H:Hp} {s:Shared} {a:Addr} (I:Inv X pins σ H s) (d:IsD H a) :
  s.TypeIs (.ref a) "dict" /\ (∀ b,Value.ref a = .ref b->∃ ob,s.heap.get? b=some ob/\ob.dict=none)/\(a==sysModules)=false:=by
 rcases d with ⟨kvs,e⟩ | ⟨kvs,e⟩
 ·obtain ⟨_,hd,vs,_,dd⟩:=Zc0 I.hok e;refine ⟨dd.typeIs,fun b q=>?_,hd⟩
  cases q;obtain ⟨ob,_,_,h1,h2,_⟩:=dd;exact ⟨ob,h1,h2.2.1⟩
 ·obtain ⟨_,hd,xs,_,dd⟩:=ZdX I.hok e;refine ⟨dd.typeIs,fun b q=>?_,hd⟩
  cases q;obtain ⟨ob,_,_,h1,h2,_⟩:=dd;exact ⟨ob,h1,h2.2.1⟩
section
variable {X:Cx} {pins:List (Addr × Obj)} {σ:St} {H:Hp} {s:Shared} {a:Addr} {y d:V} {u r:Value} {o:Option V} {A:Around} {E:Value->Shared->Prop}
theorem ZmN {Q:Value->Shared->Prop} (hu:A.units+1<cLine) (I:Inv X pins σ H s) (g:DGet H a y o) (ry:RelV y u) (rd:RelV d r) (h:∀ w' s',Inv X pins σ H s'->RelV (o.getD d) w'->Q w' s') :
  wpAny (model X.prog X.w) A (call (.builtin "dict.get") [.ref a,u,r]) Q E s:=by
 rcases g with ⟨kvs,k,e,ey,l⟩ | ⟨kvs,k,b,e,ey,eb,l⟩
 ·subst ey;obtain ⟨z,hd,vs,rel,dd⟩:=Zc0 I.hok e;refine call_meetsIn PySem.F.slot_dict_get dd.typeIs PySem.F.entry_dict_get (PySem.F.args_dict_get_3 _ _ _) (meets_dict_get_default (ZZ X.prog X.w) a (Zfw ry) hd r) ⟨_,dd.mapOf,h _ _ (I.tok _) ?_⟩;rw [l];exact (rel.val k).getD rd
 ·subst ey
  cases (show u=Value.ref b from ry);obtain ⟨z,hd,xs,rel,dd⟩:=ZdX I.hok e;refine call_meetsIn PySem.F.slot_dict_get dd.typeIs PySem.F.entry_dict_get (PySem.F.args_dict_get_3 _ _ _) (meetsH_dict_get_default (tupleKind (ZZ X.prog X.w)) a b hd r) ⟨tupleKind_room_in1 hu,k,xs,ZcR I.hok eb,dd,h _ _ (I.tok _) ?_⟩;rw [l];exact (rel.val k).getD rd
end
def Zl1 (td ty tx:TE):TE:=fun σ H Q=>td σ H fun x H1=>∃ a,x = .ref a/\IsD H1 a/\ty σ H1 fun y H2=>tx σ H2 fun z H3=>∃ o,DGet H3 a y o/\Q (o.getD z) H3
section
variable {X:Cx} {o e f:Expr} {apos cpos:Pos} {td ty tx:TE}
theorem Zje (hu:X.A.units+1<cLine) (ho:PE X o td) (he:PE X e ty) (hf:PE X f tx) (m:M2 X o "get" apos e f cpos):PE X (.Call (.Attribute o "get" apos) [e,f] [] cpos) (Zl1 td ty tx):=by
 intro pins s σ H Q I h;refine wpAny_Call_method m.base m.few m.line PySem.F.plainAttrs_dict PySem.F.slot_dict_get PySem.F.type_dict_get (thn (ho pins s σ H _ I h) fun u s1 zz0=>?_);obtain ⟨x,H1,I1,rx,a,ex,d,q1⟩:=zz0;subst ex;obtain rfl:u=Value.ref a:=rx;obtain ⟨t1,t2,_⟩:=ZmG I1 d;refine ⟨t1,t2,?_⟩;rw [m.trees];refine Calls.callWith_builtin rfl (Calls.evalArgs_plain (Calls.spliced_cons (thn (he pins s1 σ H1 _ I1 q1) fun iv s2 ⟨y,H2,I2,ry,q2⟩ =>
  Calls.spliced_cons (thn (hf pins s2 σ H2 _ I2 q2) fun fv s3 ⟨z,H3,I3,rz,ov,g,q3⟩=>Calls.spliced_nil ?_))))
 exact ZmN hu I3 g ry rz fun w' s4 I4 rw'=>⟨_,H3,I4,rw',q3⟩
end
section
variable {X:Cx} {pins:List (Addr × Obj)} {σ:St} {H:Hp} {s:Shared} {a:Addr} {kvs:List (Key × V)} {A:Around} {E:Value->Shared->Prop}
theorem Zj1 {Q:Value->Shared->Prop} (I:Inv X pins σ H s) (e:Rd H a (.dK kvs)) (h:∀ p s',H p=none->Inv X pins σ (upd H p (.dK kvs)) s'->Q (.ref p) s'):wpAny (model X.prog X.w) A (call (.type "dict") [.ref a]) Q E s:=by
 obtain ⟨z,hd,vs,rel,dd⟩:=Zc0 I.hok e;refine kt_call_dict hd dd (by rw [<- rel.length]; exact z) fun h' dd' hs=>?_;refine h _ _ (I.hok.fresh (QAc _)) (I.laid (a:=s.heap.objs.size) (o:=.dK kvs) (t':=s.toks) (fun b q hq=>?_) (QAc _) (ZjY z (beq_eq_false_iff_ne.mpr (Ne.symm (QAy I.big))) rel dd'));exact (hs.2 b (QAy (QAh hq))).trans (QAk _ hq)
end
theorem Zmz {kvs:List (Key × V)} {vs:List (Key × Value)} (r:KV kvs vs) {i:Nat} (hi:i<kvs.length):∃ p u,kvs[i]? = some p/\vs[i]? = some (p.1,u)/\RelV p.2 u:=by
 obtain ⟨b,hb,e,rr⟩:=Paired.getL r (QAb hi);refine ⟨_,b.2,QAb hi,?_,rr⟩;rw [hb]
 congr 1
 exact Prod.ext e.symm rfl
def Zkw (K:QZa):List V->Hp->VK->Prop:=fun xs H Q=>∃ (p:Addr) (ns:List Int),xs=[.ref p]/\SqL K H p (ns.map V.int)/\ns.length<64/\∀ (l:Addr) (ns':List Int),H l=none->ns'.Perm ns->ns'.Pairwise (· <= ·)->Q (.ref l) (upd H l (.lst (ns'.map V.int)))
theorem ZfL {X:Cx} (K:QZa) (hK:X.K=K:=by rfl):Y0 X (.builtin "sorted") (Zkw K):=by
 subst hK;intro pins s σ H xs us Q I r h;obtain ⟨p,ns,rfl,hq,hl,q⟩:=h;obtain ⟨u,rfl,rx⟩:=JB r
 cases rx;obtain ⟨its,rv,ht,hz⟩:=I.list hq;have hlen:its.length=ns.length:=by rw [<- rv.length,QAa]
 refine sorted_ints (vs:=its) (ns:=ns) ht.isList (Y8 rv) (by rw [hlen]; exact hl) fun out ns' a1 a2 a3=>?_;obtain ⟨e,he⟩:=sortedAll_at s.heap its out;have hn:H (s.heap.objs.size+1)=none:=I.hok.fresh (QCj _);have vv:=Zbp a1;refine ⟨.ref (s.heap.objs.size+1),_,I.laid (t':=s.toks) (fun b o e=>sortedAll_old e) (QCj _) ?_,rfl,q _ ns' hn a2 a3⟩;exact ⟨QAr (m:=64) (by rw [QAa,a2.length_eq]; exact Om.d1 ‹_›) (by decide),out.toList,e,vv,by simpa using he⟩
theorem Zj4 {J:It} {n:Nat} {Y:Nat->Hp->V->Hp->Prop} {P:Hp->Prop} {g:TG} {tt:TT} {te:TE} {l:Addr} {QL:Hp->Prop} {σ0:St} {H0:Hp} (hgo:∀ i H, P H->i<n->J.go i H) (hy:∀ i H x H', P H->J.yld i H x H'->i<n->Y i H x H') (hst:∀ i H, P H->n<=i->J.stop i H)
    (Pv:Nat->List V->St->Hp->Prop) (h0:Pv 0 [] σ0 H0) (hP:∀ i ys σ H, Pv i ys σ H->P H/\H l=some (.lst ys))
    (hs:∀ i x ys σ H H2, i<n->Pv i ys σ H->Y i H x H2->Zbm g tt te x σ H2 fun o σ3 H5 => match o with
      | some y => H5 l=some (.lst ys)/\ys.length<sizeLine/\Pv (i+1) (ys++[y]) σ3 (upd H5 l (.lst (ys++[y])))
      | none => Pv (i+1) ys σ3 H5)
    (hd:∀ ys σ H, Pv n ys σ H->QL H) :
    ∃ W:Nat->Nat->List V->St->Hp->Prop, (∃ m, W 0 m [] σ0 H0) /\
    ∀ i m ys σ' H', W i m ys σ' H'->H' l=some (.lst ys) /\
      ((J.stop i H'/\QL H') \/
       (J.go i H'/\∃ N:List V->St->Hp->Prop, (∀ zs σ2 H2, N zs σ2 H2->∃ m', m'<m/\W (i+1) m' zs σ2 H2)/\∀ x H2, J.yld i H' x H2->g x σ' H2 fun σ3 H3 => tt σ3 H3 fun b H4 =>
          if b=true then te σ3 H4 fun y H5 => H5 l=some (.lst ys)/\ys.length<sizeLine/\N (ys++[y]) σ3 (upd H5 l (.lst (ys++[y])))
          else N ys σ3 H4)) := by
  refine ⟨fun i m ys σ H => m=n - i/\i<=n/\Pv i ys σ H, ⟨n, by simp, QAg _, h0⟩, ?_⟩;rintro i m ys σ H ⟨rfl, hi, p⟩;obtain ⟨hp, hl⟩ := hP i ys σ H p;refine ⟨hl, ?_⟩
  by_cases hlt:i<n
  · exact .inr ⟨hgo i H hp hlt, fun zs σ2 H2 => Pv (i+1) zs σ2 H2, fun zs σ2 H2 q => ⟨n - (i+1), by exact O419 hlt, rfl, hlt, q⟩, fun x H2 y => hs i x ys σ H H2 hlt p (hy i H x H2 hp y hlt)⟩
  · have e:i=n := by exact O510 hi hlt
    subst e;exact .inl ⟨hst _ H hp (QAc _), hd ys σ H p⟩
theorem Inv.turnedL {X:Cx} {pins:List (Addr × Obj)} {σ:St} {H:Hp} {s:Shared} {h':Heap} {t':Nat} {fp:List Addr} (I:Inv X pins σ H s) (k:∀ b o,b∉fp->s.heap.get? b=some o->h'.get? b=some o) (hf:∀ b∈fp,Zal X pins H b):Inv X pins σ H { s with heap:=h',toks:=t' }:=by
 have nit:∀ b u,H b=some u->b∉fp:=fun b u e z=>by rw [(hf b z).1] at e; cases e
 refine I.step (g':=s.gens) (d':=s.drawn) (ch:=fp) (fun b hb=>?_) (fun b o _ _ hc e _=>k b o hc e) (fun b o _ _ hc e _=>⟨o.slots,k b o hc e⟩) (fun _ _ _ _ n=>n)
  (fun b o hc e=>⟨o,k b o hc e⟩) (fun _ _ e=>e) (fun _ _ _ e=>e) (fun b ps e=>⟨#[],by rw [e]; simp⟩) (fun m hm=>?_) (fun b u e=>?_) I.bare
 ·obtain ⟨f0,f1,f2,f3,f4,f5⟩:=hf b hb;exact ⟨f3,f1,f4,f5⟩
 ·obtain ⟨o,es,ep,ho,r⟩:=hm;exact ⟨o,es,ep,k _ o (fun z=>(hf _ z).2.1 rfl) ho,r⟩
 ·refine (I.hok b u e).stay (fun c v hc q=>k c v ?_ q) (fun _ q=>q) fun _ _ q=>q
  rcases hc with z | z
  ·rw [z]; exact nit b u e
  ·exact nit c _ z
theorem ZmQ:bootBuiltins "zip" = some (Value.type "zip"):=by decide +kernel
section
variable {prog:Program} {w:World} {A:Around} {E:Value->Shared->Prop} {s:Shared}
theorem ZaN {it t:Addr} {i:Nat} {vs:Array Value} {x:Value} {Q:Value->Shared->Prop} (gi:s.heap.IsTupleIter it t i) (gt:s.heap.IsTuple t vs) (hx:vs[i]? = some x)
  (q:∀ h',h'.IsTupleIter it t (i+1)->Heap.SameBut it s.heap h'->Q x { s with heap:=h' }):wpAny (model prog w) A (Builtin.SmallTypes.nextOf (.ref it)) Q E s:=by
 obtain ⟨o,eo,co,d⟩:=id gi;obtain ⟨ot,et,_,nt,dt⟩:=gt;unfold Builtin.SmallTypes.nextOf;refine QZq (wpAny_callSpecial?_slot (name:=Str.ofString "__next__") gi.typeIs PySem.F.slot_tuple_iterator_next (wpAny_call_entry PySem.F.slot_tuple_iterator_next gi.typeIs PySem.F.entry_tuple_iterator_next ?_ (PySem.F.args_tuple_iterator_next_1 _)));refine QZq (m:=field (.ref it) 0) (wpAny_field eo d (x:=.ref t) rfl ?_);refine (if_neg (show ¬ ((Value.ref t==Value.none)=true) from QAn)).symm ▸ QZq (m:=field (.ref it) 1) (wpAny_field eo d (x:=.int i 0) rfl (QZq (m:=seqItems? (.ref t)) (wpAny_seqItems et dt ?_)))
 simp only [QAf,hx];refine QZq (wpAny_setField eo d (by simp) (QZr ⟨x,rfl,QZr (q _ ⟨_,Heap.get?_update_self _ eo (Obj.isFreed_of_fields (Obj.data_mapFields d _)),(Obj.cls_mapFields ..).trans co,?_⟩ (Heap.SameBut.update ..))⟩));rw [Obj.data_mapFields d]
 simp [rawInt]
theorem ZdJ {it t:Addr} {i:Nat} {vs:Array Value} {Q:Value->Shared->Prop} (hh:A.handled=none) (gi:s.heap.IsTupleIter it t i) (gt:s.heap.IsTuple t vs) (hx:vs[i]? = none)
  (q:∀ h' e,Heap.ExtBut it s.heap h'->(∃ o,h'.get? e=some o/\o.cls = .type "StopIteration")->E (.ref e) { s with heap:=h' }):wpAny (model prog w) A (Builtin.SmallTypes.nextOf (.ref it)) Q E s:=by
 obtain ⟨o,eo,co,d⟩:=id gi;obtain ⟨ot,et,_,nt,dt⟩:=gt;unfold Builtin.SmallTypes.nextOf;refine QZq (wpAny_callSpecial?_slot (name:=Str.ofString "__next__") gi.typeIs PySem.F.slot_tuple_iterator_next (wpAny_call_entry PySem.F.slot_tuple_iterator_next gi.typeIs PySem.F.entry_tuple_iterator_next ?_ (PySem.F.args_tuple_iterator_next_1 _)));refine QZq (m:=field (.ref it) 0) (wpAny_field eo d (x:=.ref t) rfl ?_);refine (if_neg (show ¬ ((Value.ref t==Value.none)=true) from QAn)).symm ▸ QZq (m:=field (.ref it) 1) (wpAny_field eo d (x:=.int i 0) rfl (QZq (m:=seqItems? (.ref t)) (wpAny_seqItems et dt ?_)))
 simp only [QAf,hx];refine QZq (wpAny_rule (QZq (wpAny_setField eo d (by simp) (QZq (m:=newExc (.type "StopIteration") []) ?_))))
 simp only [newExc,newTuple];refine QZq (wpAny_newObj_type (QZq (m:=firstArgMember _ _) (wpAny_of_eq (a:=Value.none) (by first | rfl | (simp only [firstArgMember]; rfl)) (wpAny_newObj_type ?_ (by size_fits)))) (by size_fits))
 simp only [raiseNew];refine QZq (wpAny_handled ?_);rw [show A.in1.handled=none from hh];exact QZq (QZr (wpAny_throw (q _ _ (((Heap.SameBut.update ..).extBut.push _).push _) ⟨_,QBa _ rfl,rfl⟩)))
theorem Zh7 {z ti to i1 i2 l1 l2:Addr} {k1 k2:Nat} {xs ys:Array Value} {x y a b:Value} {Q:Value->Shared->Prop} (D:ZipApart z ti to i1 i2 l1 l2) (gz:IsZip s.heap z ti to .none) (gi:IsPair s.heap ti (.ref i1) (.ref i2)) (go:IsPair s.heap to a b)
  (g1:s.heap.IsTupleIter i1 l1 k1) (g2:s.heap.IsTupleIter i2 l2 k2) (t1:s.heap.IsTuple l1 xs) (t2:s.heap.IsTuple l2 ys) (hx:xs[k1]? = some x) (hy:ys[k2]? = some y)
  (q:∀ h',IsZip h' z ti to (rawInt s.heap.objs.size)->IsPair h' to x y->h'.IsTupleIter i1 l1 (k1+1)->h'.IsTupleIter i2 l2 (k2+1)->IsPair h' s.heap.objs.size x y ->
   (∀ c o,c≠z->c≠to->c≠i1->c≠i2->s.heap.get? c=some o->h'.get? c=some o)->Q (.ref s.heap.objs.size) { s with heap:=h' }) :
  wpAny (model prog w) A (Builtin.«zip.__next__» ⟨[.ref z],[]⟩) (fun fin s'=>∃ v,fin = .done (.ret v)/\Q v s') E s:=by
 refine QZq (m:=field (.ref z) 2) (wpAny_field gz rfl (x:=.bool false) rfl ?_);refine QZq (m:=field (.ref z) 3) (wpAny_field gz rfl (x:=.ref ti) rfl (QZq (wpAny_seqItems gi rfl ?_)));refine QZq (m:=Builtin.SmallTypes.ownedTupleIsFree (.ref z)) ?_;unfold Builtin.SmallTypes.ownedTupleIsFree;refine QZq (wpAny_field gz rfl (x:=.none) rfl (QZr ?_))
 simp only [if_true];refine QZq (wpAny_rule (QZq (wpAny_field gz rfl (x:=.ref to) rfl (QZq (wpAny_setField_rec gz (by simp) fun ha za sa=>QZq ?_)))))
 replace za:IsZip ha z ti to .ellipsis:=za
 simp only [List.zipIdx_cons,List.zipIdx_nil,List.forIn_cons,List.forIn_nil];refine QZq (QZq (wpAny_onRaise (QZq (m:=Builtin.SmallTypes.nextOf (.ref i1)) ?_)));refine ZaN (g1.extBut sa.extBut D.i1z) (t1.extBut sa.extBut D.l1z) hx fun hb g1b sb=>QZr ?_
 have ob:IsPair hb to a b:=sb.extBut _ _ D.TOi1 (sa.extBut _ _ D.TOz go);refine QZq (wpAny_seqItems ob rfl (QZq (wpAny_updateSeq_pair ob fun hc oc sc=>QZq (wpAny_letGo (QZr ?_)))))
 replace oc:IsPair hc to x b:=oc
 refine QZq (QZq (wpAny_onRaise (QZq (m:=Builtin.SmallTypes.nextOf (.ref i2)) ?_)));refine ZaN (((g2.extBut sa.extBut D.i2z).extBut sb.extBut D.i12.symm).extBut sc.extBut D.TOi2.symm) (((t2.extBut sa.extBut D.l2z).extBut sb.extBut D.l2i1).extBut sc.extBut D.l2TO) hy fun hd g2d sd=>QZr ?_
 have od:IsPair hd to x b:=sd.extBut _ _ D.TOi2 oc;refine QZq (wpAny_seqItems od rfl (QZq (wpAny_updateSeq_pair od fun he oe se=>QZq (wpAny_letGo (QZr (QZr ?_))))))
 replace oe:IsPair he to x y:=oe
 refine QZq (wpAny_seqItems oe rfl (QZq (wpAny_newTuple ?_)));have ze:IsZip he z ti to .ellipsis:=se.extBut _ _ D.TOz.symm (sd.extBut _ _ D.i2z.symm (sc.extBut _ _ D.TOz.symm (sb.extBut _ _ D.i1z.symm za)));have hsz:he.objs.size=s.heap.objs.size:=by rw [se.1,sd.1,sc.1,sb.1,sa.1]
 have zlt:z<he.objs.size:=QAh ze;have g1e:he.IsTupleIter i1 l1 (k1+1):=((g1b.extBut sc.extBut D.TOi1.symm).extBut sd.extBut D.i12).extBut se.extBut D.TOi1.symm;have g2e:he.IsTupleIter i2 l2 (k2+1):=g2d.extBut se.extBut D.TOi2.symm;refine QZq (m:=Builtin.SmallTypes.ownedTupleHandOut (.ref z) (.ref he.objs.size)) ?_;unfold Builtin.SmallTypes.ownedTupleHandOut;have zf:IsZip (he.push { cls:=.type "tuple",data:=.seq #[x,y] }) z ti to .ellipsis:=QAk _ ze;refine QZq (wpAny_setField_rec zf (by simp) fun hg zg sg=>?_)
 replace zg:IsZip hg z ti to (rawInt he.objs.size):=zg
 refine wpAny_setField_rec zg (by simp) fun hk zk sk=>QZr ⟨_,rfl,?_⟩
 replace zk:IsZip hk z ti to (rawInt he.objs.size):=zk
 have up:∀ c o,c≠z->he.get? c=some o->hk.get? c=some o:=fun c o n e=>sk.extBut _ _ n (sg.extBut _ _ n (QAk _ e))
 have pk:IsPair hk he.objs.size x y:=sk.extBut _ _ (Nat.ne_of_gt zlt) (sg.extBut _ _ (Nat.ne_of_gt zlt) (QBa _ rfl));show Q (.ref he.objs.size) _;rw [hsz] at zk pk ⊢;refine q hk zk (up _ _ D.TOz oe) ?_ ?_ pk fun c o n1 n2 n3 n4 e=>up c o n1 (se.extBut _ _ n2 (sd.extBut _ _ n4 (sc.extBut _ _ n2 (sb.extBut _ _ n3 (sa.extBut _ _ n1 e)))))
 ·exact let ⟨o,e,r⟩:=g1e; ⟨o,up _ o D.i1z e,r⟩
 ·exact let ⟨o,e,r⟩:=g2e; ⟨o,up _ o D.i2z e,r⟩
theorem ZiG {z ti to i1 i2 l1 l2:Addr} {k1 k2:Nat} {xs ys:Array Value} {a b:Value} {Q:Fin->Shared->Prop} (hh:A.handled=none) (D:ZipApart z ti to i1 i2 l1 l2) (gz:IsZip s.heap z ti to .none) (gi:IsPair s.heap ti (.ref i1) (.ref i2)) (go:IsPair s.heap to a b)
  (g1:s.heap.IsTupleIter i1 l1 k1) (g2:s.heap.IsTupleIter i2 l2 k2) (t1:s.heap.IsTuple l1 xs) (t2:s.heap.IsTuple l2 ys) (hend:xs[k1]? = none\/ys[k2]? = none)
  (q:∀ h' e,(∀ c o,c≠z->c≠to->c≠i1->c≠i2->s.heap.get? c=some o->h'.get? c=some o)->(∃ o,h'.get? e=some o/\o.cls = .type "StopIteration")->E (.ref e) { s with heap:=h' }) :
  wpAny (model prog w) A (Builtin.«zip.__next__» ⟨[.ref z],[]⟩) Q E s:=by
 refine QZq (m:=field (.ref z) 2) (wpAny_field gz rfl (x:=.bool false) rfl ?_);refine QZq (m:=field (.ref z) 3) (wpAny_field gz rfl (x:=.ref ti) rfl (QZq (wpAny_seqItems gi rfl ?_)));refine QZq (m:=Builtin.SmallTypes.ownedTupleIsFree (.ref z)) ?_;unfold Builtin.SmallTypes.ownedTupleIsFree;refine QZq (wpAny_field gz rfl (x:=.none) rfl (QZr ?_))
 simp only [if_true];refine QZq (wpAny_rule (QZq (wpAny_field gz rfl (x:=.ref to) rfl (QZq (wpAny_setField_rec gz (by simp) fun ha za sa=>QZq ?_)))))
 replace za:IsZip ha z ti to .ellipsis:=za
 simp only [List.zipIdx_cons,List.zipIdx_nil,List.forIn_cons,List.forIn_nil];refine QZq (QZq (wpAny_onRaise (QZq (m:=Builtin.SmallTypes.nextOf (.ref i1)) ?_)))
 cases hx:xs[k1]? with
 | none =>
  refine ZdJ hh (g1.extBut sa.extBut D.i1z) (t1.extBut sa.extBut D.l1z) hx fun hb e sb zz0=>?_;obtain ⟨oe,ee,ce⟩:=zz0;have zb:IsZip hb z ti to .ellipsis:=sb _ _ D.i1z.symm za;have ne:e≠z:=fun u=>by subst u; rw [zb] at ee; cases ee; simp at ce
  exact wpAny_setField_rec zb (by simp) fun hc _ sc=>q hc e (fun c o n1 _ n3 _ u=>sc.extBut _ _ n1 (sb _ _ n3 (sa.extBut _ _ n1 u))) ⟨oe,sc.extBut _ _ ne ee,ce⟩
 | some x =>
  have hy:ys[k2]? = none:=by
   rcases hend with u | u
   ·rw [hx] at u; cases u
   ·exact u
  refine ZaN (g1.extBut sa.extBut D.i1z) (t1.extBut sa.extBut D.l1z) hx fun hb g1b sb=>QZr ?_
  have ob:IsPair hb to a b:=sb.extBut _ _ D.TOi1 (sa.extBut _ _ D.TOz go);refine QZq (wpAny_seqItems ob rfl (QZq (wpAny_updateSeq_pair ob fun hc oc sc=>QZq (wpAny_letGo (QZr ?_)))));refine QZq (QZq (wpAny_onRaise (QZq (m:=Builtin.SmallTypes.nextOf (.ref i2)) ?_)));refine ZdJ hh (((g2.extBut sa.extBut D.i2z).extBut sb.extBut D.i12.symm).extBut sc.extBut D.TOi2.symm) (((t2.extBut sa.extBut D.l2z).extBut sb.extBut D.l2i1).extBut sc.extBut D.l2TO) hy fun hd e sd zz0=>?_;obtain ⟨oe,ee,ce⟩:=zz0;have zd:IsZip hd z ti to .ellipsis:=sd _ _ D.i2z.symm (sc.extBut _ _ D.TOz.symm (sb.extBut _ _ D.i1z.symm za));have ne:e≠z:=fun u=>by subst u; rw [zd] at ee; cases ee; simp at ce
  exact wpAny_setField_rec zd (by simp) fun he _ se=>q he e (fun c o n1 n2 n3 n4 u=>se.extBut _ _ n1 (sd _ _ n4 (sc.extBut _ _ n2 (sb.extBut _ _ n3 (sa.extBut _ _ n1 u))))) ⟨oe,se.extBut _ _ ne ee,ce⟩
noncomputable abbrev zt1 (h:Heap) (l1:Addr):Heap:=h.push { cls:=.type "tuple_iterator",data:=.fields #[.ref l1,.int 0 0] }
noncomputable abbrev zt2 (h:Heap) (l1 l2:Addr):Heap:=(zt1 h l1).push { cls:=.type "tuple_iterator",data:=.fields #[.ref l2,.int 0 0] }
noncomputable abbrev zt3 (h:Heap) (l1 l2:Addr):Heap:=(zt2 h l1 l2).push { cls:=.type "tuple",data:=.seq #[.ref h.objs.size,.ref (zt1 h l1).objs.size] }
noncomputable abbrev zt4 (h:Heap) (l1 l2:Addr):Heap:=(zt3 h l1 l2).push { cls:=.type "tuple",data:=.seq #[.none,.none] }
noncomputable abbrev zt5 (h:Heap) (l1 l2:Addr):Heap:=(zt4 h l1 l2).push { cls:=.type "zip",data:=.fields #[.none,.bool false,.bool false,.ref (zt2 h l1 l2).objs.size,.ref (zt3 h l1 l2).objs.size] }
theorem ZgN (l1 l2:Addr) (xs ys:Array Value):Meets (Builtin.«zip.__new__» ⟨[.type "zip",.ref l1,.ref l2],[]⟩) (fun _ R s=>s.heap.IsTuple l1 xs/\s.heap.IsTuple l2 ys/\R (.ok (.ret (.ref (zt4 s.heap l1 l2).objs.size))) { s with heap:=zt5 s.heap l1 l2 }) :=
 .of_wp fun prog w A R s h=>by
  obtain ⟨hp,g,d,tk,os⟩:=s;obtain ⟨t1,t2,h⟩:=h;have hsub:=sub_zip;have u1:Heap.IsTuple (Shared.heap ⟨hp,g,d,tk,os⟩) l1 xs:=t1;have u2:Heap.IsTuple (Shared.heap ⟨hp.push { cls:=.type "tuple_iterator",data:=.fields #[.ref l1,.int 0 0] },g,d,tk,os⟩) l2 ys:=Heap.IsTuple.push t2 _
  wp_walk using wpAny_pyIter_tuple u1,wpAny_pyIter_tuple u2
  exact ⟨_,rfl,h⟩
theorem ZiB {l1 l2:Addr} {xs ys:Array Value} {Q:Value->Shared->Prop} (t1:s.heap.IsTuple l1 xs) (t2:s.heap.IsTuple l2 ys)
  (h:∀ h',IsZip h' (s.heap.objs.size+4) (s.heap.objs.size+2) (s.heap.objs.size+3) .none->IsPair h' (s.heap.objs.size+2) (.ref s.heap.objs.size) (.ref (s.heap.objs.size+1))->IsPair h' (s.heap.objs.size+3) .none .none ->
   h'.IsTupleIter s.heap.objs.size l1 0->h'.IsTupleIter (s.heap.objs.size+1) l2 0->(∀ c o,s.heap.get? c=some o->h'.get? c=some o)->Q (.ref (s.heap.objs.size+4)) { s with heap:=h' }) :
  wpAny (model prog w) A (call (.type "zip") [.ref l1,.ref l2]) Q E s:=by
 refine callType_new PySem.F.called_zip (by decide) (PySem.F.typeCall_zip_2 _ _) (PySem.F.newCall_zip_2 _ _) (fun obj=>PySem.F.args_object_init_3 obj _ _) PySem.F.entry_zip_new (ZgN l1 l2 xs ys) ⟨t1,t2,?_⟩;have z1:(zt1 s.heap l1).objs.size=s.heap.objs.size+1:=QCk ..;have z2:(zt2 s.heap l1 l2).objs.size=s.heap.objs.size+2:=by rw [QCk,z1]
 have z3:(zt3 s.heap l1 l2).objs.size=s.heap.objs.size+3:=by rw [QCk,z2]
 have z4:(zt4 s.heap l1 l2).objs.size=s.heap.objs.size+4:=by rw [QCk,z3]
 have p5:∀ c o,(zt4 s.heap l1 l2).get? c=some o->(zt5 s.heap l1 l2).get? c=some o:=fun c o e=>QAk _ e
 have p4:∀ c o,(zt3 s.heap l1 l2).get? c=some o->(zt5 s.heap l1 l2).get? c=some o:=fun c o e=>p5 c o (QAk _ e)
 have p3:∀ c o,(zt2 s.heap l1 l2).get? c=some o->(zt5 s.heap l1 l2).get? c=some o:=fun c o e=>p4 c o (QAk _ e)
 have p2:∀ c o,(zt1 s.heap l1).get? c=some o->(zt5 s.heap l1 l2).get? c=some o:=fun c o e=>p3 c o (QAk _ e)
 have g5:(zt5 s.heap l1 l2).get? (zt4 s.heap l1 l2).objs.size=some _:=QBa _ rfl;have g4:(zt5 s.heap l1 l2).get? (zt3 s.heap l1 l2).objs.size=some _:=p5 _ _ (QBa _ rfl);have g3:(zt5 s.heap l1 l2).get? (zt2 s.heap l1 l2).objs.size=some _:=p4 _ _ (QBa _ rfl);have g2:(zt5 s.heap l1 l2).get? (zt1 s.heap l1).objs.size=some _:=p3 _ _ (QBa _ rfl);have g1:(zt5 s.heap l1 l2).get? s.heap.objs.size=some _:=p2 _ _ (QBa _ rfl);show _/\_;rw [z2,z3,z4] at g5;rw [z1,z2] at g3;rw [z3] at g4;rw [z1] at g2;rw [z4];exact ⟨⟨_,g5,rfl⟩,h _ g5 g3 g4 ⟨_,g1,rfl,rfl⟩ ⟨_,g2,rfl,rfl⟩ fun c o e=>p2 c o (QAk _ e)⟩
theorem Zfi {z ti to i1 i2 l1 l2:Addr} {k1 k2:Nat} {xs ys:Array Value} {x y a b:Value} {Q:Option Value->Shared->Prop} (D:ZipApart z ti to i1 i2 l1 l2) (gz:IsZip s.heap z ti to .none) (gi:IsPair s.heap ti (.ref i1) (.ref i2)) (go:IsPair s.heap to a b)
  (g1:s.heap.IsTupleIter i1 l1 k1) (g2:s.heap.IsTupleIter i2 l2 k2) (t1:s.heap.IsTuple l1 xs) (t2:s.heap.IsTuple l2 ys) (hx:xs[k1]? = some x) (hy:ys[k2]? = some y)
  (q:∀ h',IsZip h' z ti to (rawInt s.heap.objs.size)->IsPair h' to x y->h'.IsTupleIter i1 l1 (k1+1)->h'.IsTupleIter i2 l2 (k2+1)->IsPair h' s.heap.objs.size x y ->
   (∀ c o,c≠z->c≠to->c≠i1->c≠i2->s.heap.get? c=some o->h'.get? c=some o)->Q (some (.ref s.heap.objs.size)) { s with heap:=h' }):wpAny (model prog w) A (pyNext (.ref z)) Q E s:=by
 have hT:s.TypeIs (.ref z) "zip":=⟨_,gz,rfl⟩;unfold pyNext;exact QZq (wpAny_attempt (wpAny_callSpecial?_slot (name:=Str.ofString "__next__") hT PySem.F.slot_zip_next (wpAny_call_entry PySem.F.slot_zip_next hT PySem.F.entry_zip_next (Zh7 D gz gi go g1 g2 t1 t2 hx hy fun h' a1 a2 a3 a4 a5 a6=>QZr (q h' a1 a2 a3 a4 a5 a6)) (PySem.F.args_zip_next_1 _))))
theorem ZgL {z ti to i1 i2 l1 l2:Addr} {k1 k2:Nat} {xs ys:Array Value} {a b:Value} {Q:Option Value->Shared->Prop} (hh:A.handled=none) (D:ZipApart z ti to i1 i2 l1 l2) (gz:IsZip s.heap z ti to .none) (gi:IsPair s.heap ti (.ref i1) (.ref i2)) (go:IsPair s.heap to a b)
  (g1:s.heap.IsTupleIter i1 l1 k1) (g2:s.heap.IsTupleIter i2 l2 k2) (t1:s.heap.IsTuple l1 xs) (t2:s.heap.IsTuple l2 ys) (hend:xs[k1]? = none\/ys[k2]? = none)
  (q:∀ h',(∀ c o,c≠z->c≠to->c≠i1->c≠i2->s.heap.get? c=some o->h'.get? c=some o)->Q none { s with heap:=h' }):wpAny (model prog w) A (pyNext (.ref z)) Q E s:=by
 have hT:s.TypeIs (.ref z) "zip":=⟨_,gz,rfl⟩;unfold pyNext;refine QZq (wpAny_attempt (wpAny_callSpecial?_slot (name:=Str.ofString "__next__") hT PySem.F.slot_zip_next (wpAny_call_entry PySem.F.slot_zip_next hT PySem.F.entry_zip_next (ZiG hh D gz gi go g1 g2 t1 t2 hend fun h' e k ⟨o,eo,co⟩=>?_) (PySem.F.args_zip_next_1 _))));exact QZq (wpAny_isInstance (T:="StopIteration") (b:=true) ⟨o,eo,co⟩ isSubtype_stop (QZr (q _ k)))
end
noncomputable def ZnQ (K:QZa) (l1 l2:Addr):It :=
  ⟨fun i H => ∃ xs ys x y, SqT K H l1 xs/\SqT K H l2 ys/\xs[i]? = some x/\ys[i]? = some y,
   fun i H v H' => ∃ p x y, v = .ref p/\H p=none/\(∀ xs, SqT K H l1 xs->xs[i]? = some x)/\(∀ ys, SqT K H l2 ys->ys[i]? = some y)/\H'=upd H p (.tup [x, y]),
   fun i H => ∃ xs ys, SqT K H l1 xs/\SqT K H l2 ys/\(xs.length<=i\/ys.length<=i)⟩
structure Zof (z TI TO i1 i2 l1 l2:Addr) (i:Nat) (h:Heap):Prop where
 z:IsZip h z TI TO .none
 ti:IsPair h TI (.ref i1) (.ref i2)
 to:∃ a b,IsPair h TO a b
 i1:h.IsTupleIter i1 l1 i
 i2:h.IsTupleIter i2 l2 i
theorem ZeF {h h':Heap} {a t:Addr} {i:Nat} (x:h.IsTupleIter a t i) (k:∀ o,h.get? a=some o->h'.get? a=some o):h'.IsTupleIter a t i:=let ⟨o,e,r⟩:=x; ⟨o,k o e,r⟩
theorem Zh9 {P:Program} {w:World} {K:QZa} {elts:List Expr} {x1} {tpos:Pos} {z TI TO i1 i2 l1 l2:Addr} (D:ZipApart z TI TO i1 i2 l1 l2):Turn P w K (.Tuple elts x1 tpos) (ZnQ K l1 l2) [z,TI,TO,i1,i2] z (fun i h=>Zof z TI TO i1 i2 l1 l2 i h) where
 mem:=by simp
 obj:=fun i h st b hb=>by
  simp only [QBr,QCb,or_false] at hb
  rcases hb with rfl | rfl | rfl | rfl | rfl
  ·exact ⟨_,st.z,fun v q=>by cases q⟩
  ·exact ⟨_,st.ti,fun v q=>by cases q⟩
  ·obtain ⟨a,b,e⟩:=st.to;exact ⟨_,e,fun v q=>by cases q⟩
  ·obtain ⟨o,e,c,d⟩:=st.i1;exact ⟨o,e,fun v q=>by rw [d] at q; cases q⟩
  ·obtain ⟨o,e,c,d⟩:=st.i2;exact ⟨o,e,fun v q=>by rw [d] at q; cases q⟩
 keep:=fun i h h' st k=>⟨k z (by simp) _ st.z,k TI (by simp) _ st.ti,let ⟨a,b,e⟩:=st.to; ⟨a,b,k TO (by simp) _ e⟩,ZeF st.i1 fun o e=>k i1 (by simp) o e,ZeF st.i2 fun o e=>k i2 (by simp) o e⟩
 item:=by
  intro X hP hw hK hc i pins s σ H E I hf st hg;subst hP hw hK;obtain ⟨xs,ys,x,y,hq1,hq2,hx,hy⟩:=hg;obtain ⟨its1,rv1,p1,hz1⟩:=I.tuple hq1;obtain ⟨its2,rv2,p2,hz2⟩:=I.tuple hq2;obtain ⟨u,hu,ru⟩:=rv1.get hx;obtain ⟨v,hv,rv⟩:=rv2.get hy;obtain ⟨a,b,hTO⟩:=st.to;refine Zfi D st.z st.ti hTO st.i1 st.i2 p1 p2 (x:=u) (y:=v) (by simpa using hu) (by simpa using hv) fun h' z1 to1 j1 j2 htup keep=>⟨_,rfl,?_⟩
  refine wpAny_letOwnedTupleGo_zip (s:={ s with heap:=h' }) z1 fun h2 z2 sb=>?_;have hnone:H s.heap.objs.size=none:=I.hok.fresh (QAc _);have hfp:∀ c∈[z,TI,TO,i1,i2],c<s.heap.objs.size:=fun c hc=>by
   simp only [QBr,QCb,or_false] at hc
   rcases hc with rfl | rfl | rfl | rfl | rfl
   ·exact QAh st.z
   ·exact QAh st.ti
   ·exact QAh hTO
   ·obtain ⟨o,e,_⟩:=st.i1; exact QAh e
   ·obtain ⟨o,e,_⟩:=st.i2; exact QAh e
  have I1:Inv X pins σ (upd H s.heap.objs.size (.tup [x,y])) { s with heap:=s.heap.push { cls:=.type "tuple",data:=.seq #[u,v] } } :=
   I.laid (t':=s.toks) (fun b u e=>QAk _ e) (QAc _) ⟨(show 2<=sizeLine by decide),[u,v],.cons ru (.cons rv .nil),⟨_,QBa _ rfl,rfl,_,rfl⟩⟩
  have hkk:∀ c o,c∉[z,TI,TO,i1,i2]->(s.heap.push { cls:=.type "tuple",data:=.seq #[u,v] }).get? c=some o->h2.get? c=some o:=fun c o hc e=>by
   simp only [QBr,QCb,or_false,not_or] at hc;rw [sb.2 c hc.1]
   by_cases q:c=s.heap.objs.size
   ·subst q;rw [QBa _ rfl] at e
    cases e;exact htup
   ·rw [Heap.get?_push_ne _ _ _ q] at e;exact keep c o hc.1 hc.2.2.1 hc.2.2.2.1 hc.2.2.2.2 e
  have hf':∀ c∈[z,TI,TO,i1,i2],Zal X pins (upd H s.heap.objs.size (.tup [x,y])) c:=fun c hc=>by
   obtain ⟨f0,r⟩:=hf c hc;exact ⟨by rw [Ze (QAy (hfp c hc))]; exact f0,r⟩
  have I2:Inv X pins σ (upd H s.heap.objs.size (.tup [x,y])) { s with heap:=h2 }:=I1.turnedL (t':=s.toks) hkk hf';refine ⟨.ref s.heap.objs.size,_,I2,rfl,⟨_,x,y,rfl,hnone,fun l h=>by rw [I.tuple_inj h hq1]; exact hx,fun l h=>by rw [I.tuple_inj h hq2]; exact hy,rfl⟩,?_,fun c hc=>(hf' c hc).1⟩;exact ⟨z2,(sb.2 TI D.TIz).trans (keep TI _ D.TIz D.TITO D.TIi1 D.TIi2 st.ti),⟨u,v,(sb.2 TO D.TOz).trans to1⟩,ZeF j1 fun o e=>(sb.2 i1 D.i1z).trans e,ZeF j2 fun o e=>(sb.2 i2 D.i2z).trans e⟩
 done:=by
  intro X hP hw hK hc i pins s σ H E I hf st hg;subst hP hw hK;obtain ⟨xs,ys,hq1,hq2,hend⟩:=hg;obtain ⟨its1,rv1,p1,hz1⟩:=I.tuple hq1;obtain ⟨its2,rv2,p2,hz2⟩:=I.tuple hq2;obtain ⟨a,b,hTO⟩:=st.to;have h1:=rv1.length;have h2:=rv2.length;refine ZgL (I.ok.hd hc) D st.z st.ti hTO st.i1 st.i2 p1 p2 (hend.imp (fun h=>by simp; exact O511 h1 h) fun h=>by simp; exact O511 h2 h) fun h' keep=>⟨rfl,I.turnedL (t':=s.toks) (fun c o hc e=>?_) hf⟩
  simp only [QBr,QCb,or_false,not_or] at hc;exact keep c o hc.1 hc.2.2.1 hc.2.2.2.1 hc.2.2.2.2 e
 self:=fun _ _ _ _ _ st h=>wpAny_pyIter_zip st.z h
def Znv (K:QZa) (ta:TA):TI:=fun σ H R=>ta σ H fun vs H1=>∃ l1 l2 xs ys,vs=[.ref l1,.ref l2]/\SqT K H1 l1 xs/\SqT K H1 l2 ys/\R (ZnQ K l1 l2) H1
theorem ZkF {X:Cx} {elts:List Expr} {x1} {tpos:Pos} {a b:Expr} {ta:TA} {p pos:Pos} (K:QZa) (hg:Gl X "zip") (hm:X.mg "zip" = none) (ha:PA X [a,b] ta) (hK:X.K=K:=by rfl) (hs:starEach [a,b] X.env=[(false,eval a X.env),(false,eval b X.env)]:=by rfl) (hs2:starEach [b] X.env=[(false,eval b X.env)]:=by rfl) :
  PI X (.Tuple elts x1 tpos) (.Call (.Name "zip" p) [a,b] [] pos) (Znv K ta):=by
 subst hK;intro pins s σ H R I h;refine Call_ (ZbH I hg hm ZmQ (PyProof.Rows.callWith_type1 (thn (ha pos pins s σ H _ I h) fun us s1 zz0=>?_) (by rw [hs,hs2]) (by rw [hs2]; rfl)));obtain ⟨vs,H1,I1,r1,q1⟩:=zz0;obtain ⟨l1,l2,xs,ys,e,hq1,hq2,q⟩:=q1;subst e
 cases r1 with
 | cons r rr =>
  cases rr with
  | cons r' rr =>
   cases rr
   cases r
   cases r';obtain ⟨its1,rv1,p1,hz1⟩:=I1.tuple hq1;obtain ⟨its2,rv2,p2,hz2⟩:=I1.tuple hq2;have a1:l1<s1.heap.objs.size:=by obtain ⟨_,e,_⟩:=p1; exact QAh e
   have a2:l2<s1.heap.objs.size:=by obtain ⟨_,e,_⟩:=p2; exact QAh e
   refine ZiB p1 p2 fun h' hz hTI hTO hi1 hi2 hk=>wpAny_pyIter_zip (s:={ s1 with heap:=h' }) hz ?_
   refine ⟨_,[s1.heap.objs.size+4,s1.heap.objs.size+2,s1.heap.objs.size+3,s1.heap.objs.size,s1.heap.objs.size+1],_,_,H1,rfl,I1.kept (t':=s1.toks) hk,Zh9 (zipApart_new a1 a2),⟨hz,hTI,⟨_,_,hTO⟩,hi1,hi2⟩,fun c hc=>?_,q⟩
   simp only [QBr,QCb,or_false] at hc;have hge:s1.heap.objs.size<=c:=by
    have:s1.heap.objs.size+0=s1.heap.objs.size:=rfl
    rcases hc with rfl | rfl | rfl | rfl | rfl
    ·exact Nat.le_add_right _ _
    ·exact Nat.le_add_right _ _
    ·exact Nat.le_add_right _ _
    ·exact QAc _
    ·exact Nat.le_add_right _ _
   exact I1.fpOk hge (I1.hok.fresh hge)
theorem Zk9 {J:It} {n:Nat} {Y:Nat->Hp->V->Hp->Prop} {P:Hp->Prop} {g:TG} {tb:TS} {D:ZeS} {σ:St} {H:Hp} (hgo:∀ i H,P H->i<n->J.go i H) (hy:∀ i H x H',P H->J.yld i H x H'->i<n->Y i H x H') (hst:∀ i H,P H->n<=i->J.stop i H)
  (Pv:Nat->St->Hp->Prop) (h0:Pv 0 σ H) (hP:∀ i σ H,Pv i σ H->P H)
  (hs:∀ i x σ H H2,i<n->Pv i σ H->Y i H x H2->g x σ H2 fun σ2 H3=>tb { D with nx:=Pv (i+1),ct:=Pv (i+1),bk:=D.nx } σ2 H3) (hd:∀ σ H,Pv n σ H->D.nx σ H) :
  ∃ W:Nat->Nat->St->Hp->Prop,(∃ m,W 0 m σ H)/\∀ i m σ H,W i m σ H ->
   (J.stop i H/\D.nx σ H)\/(J.go i H/\∃ N:St->Hp->Prop,(∀ σ' H',N σ' H'->∃ m',m'<m/\W (i+1) m' σ' H')/\∀ x H',J.yld i H x H'->g x σ H' fun σ2 H2=>tb { D with nx:=N,ct:=N,bk:=D.nx } σ2 H2):=by
 refine ⟨fun i m σ H=>m=n - i/\i<=n/\Pv i σ H,⟨n,by simp,QAg _,h0⟩,?_⟩;rintro i m σ H ⟨rfl,hi,p⟩;have hp:=hP i σ H p
 by_cases hlt:i<n
 ·exact .inr ⟨hgo i H hp hlt,fun σ2 H2=>Pv (i+1) σ2 H2,fun σ2 H2 q=>⟨n - (i+1),by exact O419 hlt,rfl,hlt,q⟩,fun x H2 y=>hs i x σ H H2 hlt p (hy i H x H2 hp y hlt)⟩
 ·have e:i=n:=by exact O510 hi hlt
  subst e;exact .inl ⟨hst _ H hp (QAc _),hd σ H p⟩
end _L
namespace _L
open PySem PySem.Spec PyProof.Rows
open AutoSeq1 (wpAny_loadPart')
section
variable {prog:Program} {w:World} {A:Around} {E:Value->Shared->Prop} {s:Shared}
theorem Zdn {R:List Value->Shared->Prop} {r:Addr} {n:Nat} {t u v:Tok} (hh:A.handled=none) (hr:IsRange s.heap r 0 (n:Int) 1 t u v) (hn:n<=1000)
  (h:∀ (h':Heap) (tk:Nat) (acc:Array Value),(∀ b o,s.heap.get? b=some o->h'.get? b=some o)->ItemsOf (fun i v=>∃ t,v = .int (i:Int) t) acc n->R acc.toList { s with heap:=h',toks:=tk }) :
  wpAny (model prog w) A (collect (.ref r)) R E s:=by
 have e2:Builtin.Range.rangeSize 0 (n:Int) 1=n:=by rw [rangeSize_one]; split <;> omega
 unfold collect;refine QZq (wpAny_runValue (codeAny_builtin entry_proto_collect' ?_));rw [Around.under_plainId PySem.F.plain_proto_collect _];refine QZq (m:=newList []) (wpAny_newObj_type (QZr ⟨plainId_quiet PySem.F.plain_list_iadd _,codeAny_builtin entry_list_iadd' ?_⟩));rw [Around.under_plainId PySem.F.plain_list_iadd _];have g1:(s.heap.push { cls:=.type "list",data:=.seq ([]:List Value).toArray }).get? s.heap.objs.size=some { cls:=.type "list",data:=.seq #[] }:=QBa _ rfl;have key:=wpAny_extend_range (prog:=prog) (w:=w) (A:=A) (s:={ s with heap:=s.heap.push { cls:=.type "list",data:=.seq ([]:List Value).toArray } }) (n:=n)
  (R:=fun (q:Result) (s':Shared)=>∃ (h':Heap) (tk:Nat) (acc':Array Value) (c':Nat),q = .ok (.ret (.ref s.heap.objs.size))/\s'={ s with heap:=h',toks:=tk }/\(∀ b o,s.heap.get? b=some o->h'.get? b=some o) /\
   h'.get? s.heap.objs.size=some { cls:=.type "list",dict:=none,data:=.seq acc' c',slots:=#[] }/\ItemsOf (fun i v=>∃ t,v = .int (i:Int) t) acc' n)
  hh (QAk _ hr) (small_one (by exact O509 ) (by exact O508 ) (by exact Om.c2) (by exact Om.c1 ‹_› rfl)) e2 (by exact Om.b1 ‹_› rfl) s.heap.objs.size (.ref s.heap.objs.size) 0 g1
  fun h' tk acc' c' hk hS' hacc=>⟨h',tk,acc',c',rfl,rfl,fun b o e=>hk b o (QAy (QAh e)) (QAk _ e),hS',hacc.1,fun i w hw=>by
   obtain ⟨t',e⟩:=hacc.2 i w hw;exact ⟨t',by rw [e,QBp,Int.mul_one]⟩⟩
 refine wpAny_mono key (fun fin s' x=>?_) fun e s' x=>by obtain ⟨_,_,_,_,e',_⟩:=x; cases e'
 cases fin with
 | done f =>
  obtain ⟨h',tk,acc',c',e,rfl,hk,hS',hacc⟩:=x
  cases e;exact QZq (m:=load s.heap.objs.size) (wpAny_load hS' (QZr (h h' tk acc' hk hacc)))
 | again c1 =>
  refine ⟨x.1,codeAny_mono x.2 fun q s2 y=>?_⟩;obtain ⟨h',tk,acc',c',rfl,rfl,hk,hS',hacc⟩:=y;exact QZq (m:=load s.heap.objs.size) (wpAny_load hS' (QZr (h h' tk acc' hk hacc)))
theorem ZbW {R:Value->Shared->Prop} {r:Addr} {n:Nat} {t u v:Tok} (hh:A.handled=none) (hr:IsRange s.heap r 0 (n:Int) 1 t u v) (hn:n<=1000)
  (h:∀ (h1:Heap) (tk:Nat) (acc:Array Value),(∀ b o,s.heap.get? b=some o->h1.get? b=some o)->ItemsOf (fun i v=>∃ t,v = .int (i:Int) t) acc n->R (.ref h1.objs.size) { s with heap:=h1.push { cls:=.type "tuple",data:=.seq acc },toks:=tk }) :
  wpAny (model prog w) A (Builtin.«tuple.__new__» ⟨[.type "tuple",.ref r],[]⟩) (fun fin s'=>∃ v,fin = .done (.ret v)/\R v s') E s:=by
 obtain ⟨hp,g,d,tk,os⟩:=s;have hsub:=sub_tuple_self;have hinit:=init_tuple_lookup;have hmh:=madeHere_tuple;have hT:Shared.TypeIs ⟨hp,g,d,tk,os⟩ (.ref r) "range":=⟨_,hr,rfl⟩
 wp_walk using wpAny_loadPart' hr,wpAny_typeOf hT,Zdn hh hr hn
 intro h1 tk1 acc hk hi;refine QZq (m:=Builtin.Tuple.tupleExact acc.toList.toArray) ?_;unfold Builtin.Tuple.tupleExact;refine wpAny_newObj_type ?_ (by show acc.toList.toArray.size<=sizeLine; rw [show acc.toList.toArray=acc by simp,hi.1,sizeLine_eq]; exact Om.b1 ‹_› rfl);rw [show acc.toList.toArray=acc by simp];exact QZr ⟨_,rfl,h h1 tk1 acc hk hi⟩
theorem ZbN {r:Addr} {n:Nat} {t u v:Tok} {Q:Value->Shared->Prop} (hh:A.handled=none) (hr:IsRange s.heap r 0 (n:Int) 1 t u v) (hn:n<=1000)
  (h:∀ (h1:Heap) (tk:Nat) (acc:Array Value),(∀ b o,s.heap.get? b=some o->h1.get? b=some o)->ItemsOf (fun i v=>∃ t,v = .int (i:Int) t) acc n->Q (.ref h1.objs.size) { s with heap:=h1.push { cls:=.type "tuple",data:=.seq acc },toks:=tk }) :
  wpAny (model prog w) A (call (.type "tuple") [.ref r]) Q E s:=by
 have g:Meets (Builtin.«tuple.__new__» ⟨[.type "tuple",.ref r],[]⟩) (fun A R s=>A.handled=none/\IsRange s.heap r 0 (n:Int) 1 t u v/\∀ (h1:Heap) (tk:Nat) (acc:Array Value),(∀ b o,s.heap.get? b=some o->h1.get? b=some o)->ItemsOf (fun i v=>∃ t,v = .int (i:Int) t) acc n->R (.ok (.ret (.ref h1.objs.size))) { s with heap:=h1.push { cls:=.type "tuple",data:=.seq acc },toks:=tk }) :=
  .of_wp fun prog w A R s h=>by
   obtain ⟨h1,h2,h3⟩:=h;exact ZbW (R:=fun v s'=>R (.ok (.ret v)) s') (by simpa using h1) h2 hn h3
 exact callType_new F.called_tuple (by decide) (F.typeCall_tuple_1 _) (F.newCall_tuple_1 _) (fun obj=>F.args_object_init_2 obj _) F.entry_tuple_new g
  ⟨by simpa using hh,hr,fun h1 tk acc hk hi=>⟨⟨_,QBa _ rfl,rfl⟩,h h1 tk acc hk hi⟩⟩
theorem ZfK {X:Cx} (hc:X.calm=true):Y0 X (.type "tuple") (fun xs H Q=>∃ (p:Addr) (n:Nat),xs=[.ref p]/\H p=some (.rng 0 n)/\n<=1000/\∀ l,H l=none->Q (.ref l) (upd H l (.tup (rng n)))):=by
 intro pins s σ H xs us Q I r h;obtain ⟨p,n,rfl,hp,hn,q⟩:=h;obtain ⟨u,rfl,rx⟩:=JB r
 cases rx;obtain ⟨t,u,v,e⟩:=I.hok p _ hp;refine ZbN (n:=n) (I.ok.hd hc) e hn fun h1 tk acc kp hi=>?_;have I1:Inv X pins σ H { s with heap:=h1,toks:=tk }:=I.kept kp;refine ⟨.ref h1.objs.size,_,I1.laid (t':=tk) (o:=.tup (rng n)) (fun b o e=>QAk _ e) (QAc _) (show ObjOk X.prog X.w _ _ _ (.tup (rng n)) from ⟨by rw [Zs]; exact Zq hn,acc.toList,Ze3 n _ (by rw [QAz]; exact hi.1) fun j w ew=>?_,by simpa using IsTupN.new _ _⟩),rfl,q _ (I1.hok.fresh (QAc _))⟩;exact hi.2 j w (by simpa using ew)
end
end _L
namespace _L
open PySem PySem.Spec PyProof.Rows
theorem no2 {n a:Nat} (h:a<n) (e:a=n+2):False:=by exact O507 h e
theorem ne2 {n a b:Nat} (h:b<n) (e:a=n+2):a≠b:=by exact O506 h e
theorem Zod (n:Nat):n+2≠n:=by exact O505 
theorem Zc6:∀ (names:List (Str × NameKind)) (n:Nat) (acc:List (Str × Addr)) (h:Heap),names.filter (fun y=>y.2 == .cell)=[]->cellsFrom n names acc=acc/\pushCells h names=h
 | [],_,_,_,_=>⟨rfl,rfl⟩
 | (x,k)::r,n,acc,h,e=>by
  unfold cellsFrom pushCells
  cases hk:(k==NameKind.cell) with
  | true=>rw [QDr (by simpa using hk)] at e; cases e
  | false =>
   rw [QDs (by simpa using hk)] at e
   simp only [QDh,if_false];exact Zc6 r n acc h e
theorem ZdZ {x0:Str}:∀ (names:List (Str × NameKind)) (n:Nat) (acc:List (Str × Addr)) (h:Heap),names.filter (fun y=>y.2 == .cell)=[(x0,.cell)]->cellsFrom n names acc=(x0,n)::acc/\pushCells h names=h.push { cls:=.type "cell",data:=.cell none }
 | [],_,_,_,e=>by cases e
 | (x,k)::r,n,acc,h,e=>by
  unfold cellsFrom pushCells
  cases hk:(k==NameKind.cell) with
  | true =>
   rw [QDr (by simpa using hk)] at e
   injection e with e1 e2
   cases e1
   simp only [if_true];exact Zc6 r (n+1) ((x0,n)::acc) _ e2
  | false =>
   rw [QDs (by simpa using hk)] at e
   simp only [QDh,if_false];exact ZdZ r n acc h e
section
variable {M:Model} {A:Around} {E:Value->Shared->Prop} {s:Shared}
theorem Zfj {scope:Scope} {globals:Addr} {closure:List (Str × Addr)} {qual:Str} {env:Env} {x0:Str} {Q:Env->Shared->Prop} (h1:scope.names.filter (fun y=>y.2 == .cell)=[(x0,.cell)])
  (h:Q { scope,locals:=s.heap.objs.size,globals,cells:=(x0,s.heap.objs.size+1)::closure,qual,func:=none,code:=env.code,frame:=env.frame,builtins:=env.builtins } { s with heap:=(s.heap.push { cls:=.type "dict",data:=.dict #[] }).push { cls:=.type "cell",data:=.cell none } }) :
  wpAny M A (newFunctionEnv scope globals closure [] qual none .none (some env)) Q E s:=by
 simp only [newFunctionEnv,Option.isSome_some,if_true];refine QZq (wpAny_alloc ?_);refine QZq (wpAny_layCells _ (fun name kind cells=>by cases hkc:kind==NameKind.cell <;> simp [hkc]) _ _ _ _ ?_);obtain ⟨e1,e2⟩:=ZdZ scope.names (s.heap.push { cls:=.type "dict",data:=.dict #[] }).objs.size closure (s.heap.push { cls:=.type "dict",data:=.dict #[] }) h1;rw [QCk] at e1;show wpAny M A _ Q E { s with heap:=pushCells (s.heap.push { cls:=.type "dict",data:=.dict #[] }) scope.names };rw [e2];rw [List.forIn_nil];refine QZq (QZr (QZr ?_));rw [show ({ s with heap:=s.heap.push { cls:=.type "dict",data:=.dict #[] } }:Shared).heap.objs.size=s.heap.objs.size+1 from QCk ..];rw [e1];exact h
end
noncomputable def Z9 (X:Cx) (x0:Str) (Nc:List Str) (scope:Scope) (cl:List (Str × Addr)) (C:Addr) (s₁:Shared) (H₁:Hp) (fp:List Addr):Cx where
 prog:=X.prog
 w:=X.w
 K:=X.K
 mg:=X.mg
 base:=X.base
 A:=X.A
 N:=Nc
 s₀:=s₁
 H₀:=H₁
 env:=compEnvC scope cl C X.env
 outer:=X.stack
 stack:=X.stack
 ex:=fp
 fn:=fun x=>x==x0
 calm:=X.calm
 pn:=[]
 xe:=fun _ _=>False
structure Zki (X:Cx) (x0:Str) (Nc:List Str) (scope:Scope) (fm:List (Option Nat)):Prop where
 kind:scope.kind = .function
 one:scope.names.filter (fun y=>y.2 == .cell)=[(x0,.cell)]
 nofr:(x0,NameKind.free)∉scope.names
 names:∀ y∈scope.names,y.2 = .local->scope.names.lookup y.1=some .local
 free:∀ y∈scope.names,y.2 = .free->X.env.kindOf y.1=some .cell\/X.env.kindOf y.1=some .free
 len:fm.length=Nc.length
 at_:∀ (p:Option Nat × Str),p∈fm.zip Nc->∀ j,p.1=some j->X.N[j]? = some p.2/\(p.2,NameKind.free)∈scope.names/\scope.names.lookup p.2=some .free
noncomputable def captOkC (N:List Str) (sc:Scope) (x0:Str) (Nc:List Str) (scope:Scope) (fm:List (Option Nat)):Bool :=
 decide (scope.kind = .function)&&(decide (scope.names.filter (fun y=>y.2 == .cell)=[(x0,.cell)])&&(decide ((x0,NameKind.free)∉scope.names)&&(scope.names.all (fun y=>(decide (y.2 ≠ .local)||decide (scope.names.lookup y.1=some .local)) &&
  (decide (y.2 ≠ .free)||(decide (sc.names.lookup y.1=some .cell)||decide (sc.names.lookup y.1=some .free))))&&(decide (fm.length=Nc.length) &&
  (fm.zip Nc).all (fun p=>match p.1 with
   | none=>true
   | some j=>decide (N[j]? = some p.2)&&decide ((p.2,NameKind.free)∈scope.names)&&decide (scope.names.lookup p.2=some .free))))))
theorem captOkC.capt {X:Cx} {x0:Str} {Nc:List Str} {scope:Scope} {fm:List (Option Nat)} (h:captOkC X.N X.env.scope x0 Nc scope fm=true):Zki X x0 Nc scope fm:=by
 unfold captOkC at h;rw [QAv,QAv,QAv,QAv,QAv] at h;obtain ⟨h1,h5,h6,h2,h3,h4⟩:=h;rw [QBh] at h2 h4;have g:∀ y∈scope.names,(y.2 ≠ .local\/scope.names.lookup y.1=some .local)/\(y.2 ≠ .free\/(X.env.scope.names.lookup y.1=some .cell\/X.env.scope.names.lookup y.1=some .free)):=fun y hy=>by
  have:=h2 y hy
  simpa only [QAv,QDp,QZg] using this
 refine ⟨QZj h1,QZj h5,QZj h6,fun y hy e=>?_,fun y hy e=>?_,QZj h3,fun p hp j e=>?_⟩
 ·rcases (g y hy).1 with z | z
  ·exact absurd e z
  ·exact z
 ·rcases (g y hy).2 with z | z
  ·exact absurd e z
  ·exact z
 ·have:=h4 p hp;obtain ⟨a,b⟩:=p
  cases e
  simp only [QAv,QZg] at this;exact ⟨this.1.1,this.1.2,this.2⟩
theorem JS {env:Env} {x0:Str}:∀ {names:List (Str × NameKind)} {x:Str}, (∀ y∈names, y.2 = .cell->y.1=x0) ->
    ((names.map fun (n, k) => if (k==NameKind.free&&env.scope.kind == .function&&env.kindOf n==some .cell) then (n, NameKind.cell) else (n, k)).lookup x=some .cell \/
     (names.map fun (n, k) => if (k==NameKind.free&&env.scope.kind == .function&&env.kindOf n==some .cell) then (n, NameKind.cell) else (n, k)).lookup x=some .free)->x=x0\/(x, NameKind.free)∈names
  | [], _, _, h => by simp at h
  | (n, k)::r, x, hc, h => by
    have ih := @JS env x0 r x (fun y hy => hc y (QAp _ hy));rw [QAl] at h
    cases hx:x==n with
    | true =>
      have hxn:x=n := by simpa using hx
      dsimp only at h
      split at h
      · rename_i hk
        rw [QAv, QAv] at hk;have:k = .free := by simpa using hk.1.1
        rw [hxn, this];exact .inr QAj
      · simp only [QBl, hx] at h
        rcases h with h | h
        · cases h
          exact .inl (hxn.trans (hc (n, .cell) QAj rfl))
        · cases h
          rw [hxn];exact .inr QAj
    | false =>
      dsimp only at h
      split at h
      · simp only [QBl, hx] at h
        exact (ih h).imp id (QAp _)
      · simp only [QBl, hx] at h
        exact (ih h).imp id (QAp _)
section
variable {X:Cx} {pins:List (Addr × Obj)} {σ:St} {H₁:Hp} {s₁:Shared}
theorem Ziz {x0:Str} {Nc:List Str} {scope:Scope} {fm:List (Option Nat)} {fp:List Addr} {h₁:Heap} {tk:Nat} {m:Str->Option Value} (c:Zki X x0 Nc scope fm) (I:Inv X pins σ H₁ s₁) (hf:∀ b∈fp,Zal X pins H₁ b) (hfp:∀ b∈fp,b<s₁.heap.objs.size)
  (old:∀ b o,s₁.heap.get? b=some o->h₁.get? b=some o) (hD:h₁.get? s₁.heap.objs.size=some { cls:=.type "list",data:=.seq ([]:List Value).toArray }) (hns:h₁.Ns (s₁.heap.objs.size+1) m) (hcl:h₁.IsCell (s₁.heap.objs.size+2) none) :
  Inv (Z9 X x0 Nc scope ((x0,s₁.heap.objs.size+2)::ZI X.env.cells scope.names []) (s₁.heap.objs.size+1) s₁ H₁ fp) [] (capt fm σ) (upd H₁ s₁.heap.objs.size (.lst [])) { s₁ with heap:=h₁,toks:=tk }:=by
 have hfree:∀ y∈scope.names,y.2 = .free->∃ a,X.env.cells.lookup y.1=some a:=fun y hy e=>I.ok.has y.1 (c.free y hy e)
 have sub0:∀ x a,(ZI X.env.cells scope.names []).lookup x=some a->X.env.cells.lookup x=some a:=ZaP _ _ hfree (fun x a e=>by simp at e);have lt:∀ x a,X.env.cells.lookup x=some a->a<s₁.heap.objs.size:=fun x a e=>(I.cell x a e).elim fun v q=>q.lt
 have look:∀ x a,((x0,s₁.heap.objs.size+2)::ZI X.env.cells scope.names []).lookup x=some a->(x=x0/\a=s₁.heap.objs.size+2)\/X.env.cells.lookup x=some a:=fun x a e=>by
  rw [QBl] at e
  cases hx:(x==x0) with
  | true =>
   rw [hx] at e
   cases e;exact .inl ⟨by simpa using hx,rfl⟩
  | false =>
   rw [hx] at e;exact .inr (sub0 x a e)
 have own:∀ y∈scope.names,y.2 = .cell->y.1=x0:=fun y hy e=>by
  have:y∈scope.names.filter (fun y=>y.2 == .cell):=QZo.mpr ⟨hy,by rw [e]; rfl⟩;rw [c.one] at this;rw [QZc.mp this]
 have hDn:H₁ s₁.heap.objs.size=none:=I.hok.fresh (QAc _);have hCn:H₁ (s₁.heap.objs.size+1)=none:=I.hok.fresh (QCj _);have hLn:H₁ (s₁.heap.objs.size+2)=none:=I.hok.fresh (by exact O504 );refine ⟨⟨I.ok.mod,c.kind,I.ok.glob,I.ok.blt,QCj _,fun x y a e1 e2=>?_,fun x hx=>?_,fun x a z e=>?_,I.ok.hd,I.ok.frames,.inl rfl,fun b hb=>?_,I.bs,QAr I.ok.bsz I.sz,fun b o e hb=>?_,fun b hb hfs=>?_,I.stack,I.stkFree⟩,
  rfl,I.bare,Un.laid old (QAc _) hDn,⟨m,hns,fun i x v e1 e2 e3=>?_⟩,fun x a e=>?_,?_,fun x a e=>?_,fun p hp=>absurd (show p∈([]:List (Addr × Obj)) from hp) (by simp),?_,?_⟩
 ·rcases look x a e1 with ⟨z1,z2⟩ | z1
  ·rcases look y a e2 with ⟨w1,w2⟩ | w1
   ·rw [z1,w1]
   ·exact (no2 (lt y a w1) z2).elim
  ·rcases look y a e2 with ⟨w1,w2⟩ | w1
   ·exact (no2 (lt x a z1) w2).elim
   ·exact I.ok.inj x y a z1 w1
 ·show ∃ c,((x0,s₁.heap.objs.size+2)::ZI X.env.cells scope.names []).lookup x=some c;rw [QBl]
  cases hx0:(x==x0) with
  | true=>exact ⟨_,rfl⟩
  | false =>
   rcases JS (env:=X.env) own hx with z | z
   ·rw [z] at hx0
    simp at hx0
   ·exact JA _ _ x (.inr z)
 ·have z':x=x0:=by simpa using (show (x==x0)=true from z)
  rcases look x a e with ⟨_,w2⟩ | w
  ·show s₁.heap.objs.size<=a;exact O503 w2
  ·rw [show ((Z9 X x0 Nc scope ((x0,s₁.heap.objs.size+2)::ZI X.env.cells scope.names []) (s₁.heap.objs.size+1) s₁ H₁ fp)).env.cells.lookup x=((x0,s₁.heap.objs.size+2)::ZI X.env.cells scope.names []).lookup x from rfl,QBl,z'] at e
   simp at e
   show s₁.heap.objs.size<=a;exact O502 e
 ·refine ⟨QAy (QDb (hfp b hb)),fun x a e=>?_⟩
  rcases look x a e with ⟨_,w2⟩ | w
  ·exact ne2 (hfp b hb) w2
  ·exact (hf b hb).2.2.2.2.1 x a w
 ·rcases (hf b hb).2.2.2.1 with z | z
  ·exact I.ok.noex b o e z
  ·exact absurd (QBb (QAh e) (QAr I.ok.bsz z)) (QBx _)
 ·rcases QZn.mp (I.stkSub b hfs) with z | z
  ·exact (hf b hb).2.1 z
  ·exact (hf b hb).2.2.1 z
 ·-- the names taken over
  have hz:∃ j,fm[i]? = some (some j)/\σ[j]? = some (some v):=by
   unfold capt at e2;rw [QAe] at e2
   cases q:fm[i]? with
   | none=>rw [q] at e2; cases e2
   | some o =>
    rw [q] at e2
    cases o with
    | none=>cases e2
    | some j =>
     refine ⟨j,rfl,?_⟩;have e2':(σ[j]?).join=some v:=QZl e2
     cases q2:σ[j]? with
     | none=>rw [q2] at e2'; cases e2'
     | some u=>rw [q2] at e2'; cases u with
      | none=>cases e2'
      | some u=>cases e2'; rfl
  obtain ⟨j,hfm,hσ⟩:=hz;have hp:((some j:Option Nat),x)∈fm.zip Nc:=by
   have:(fm.zip Nc)[i]? = some (some j,x):=by rw [List.getElem?_zip_eq_some]; exact ⟨hfm,e1⟩
   exact QAx this
  obtain ⟨hN,hmem,hlk⟩:=c.at_ _ hp j rfl;have hk:=c.free _ hmem rfl;obtain ⟨m0,hn0,hl0⟩:=I.loc;have hvis:Vis X.env.scope x:=hk.elim (fun z=>.inr (.inl z)) (fun z=>.inr (.inr z));obtain ⟨u,ru,lk⟩:=hl0 j x v hN hσ hvis;have hx0:(x==x0)=false:=by
   cases q:(x==x0) with
   | false=>rfl
   | true =>
    have q':x=x0:=by simpa using q
    exact absurd (q' ▸ hmem) c.nofr
  refine ⟨u,ru,.inr ⟨YG (env:=X.env) hlk,?_⟩⟩
  rcases lk with ⟨z,_⟩ | ⟨_,a,ea,o,ho,hd⟩
  ·rcases hk with q | q
   ·rw [show X.env.kindOf x=_ from q] at z; cases z
   ·rw [show X.env.kindOf x=_ from q] at z; cases z
  ·obtain ⟨a',ea'⟩:=JA (cells:=X.env.cells) scope.names [] x (.inr hmem);have:=sub0 x a' ea';rw [ea] at this
   cases this;refine ⟨a,?_,o,old a o ho,hd⟩;show ((x0,s₁.heap.objs.size+2)::ZI X.env.cells scope.names []).lookup x=some a;rw [QBl,hx0];exact ea'
 ·rcases look x a e with ⟨_,w2⟩ | w
  ·rw [w2];exact ⟨none,hcl⟩
  ·obtain ⟨v,o,ho,hd⟩:=I.cell x a w;exact ⟨v,o,old a o ho,hd⟩
 ·show upd H₁ s₁.heap.objs.size (.lst []) (s₁.heap.objs.size+1)=none;rw [Ze (Nat.succ_ne_self _)];exact hCn
 ·show upd H₁ s₁.heap.objs.size (.lst []) a=none
  rcases look x a e with ⟨_,w2⟩ | w
  ·rw [w2,Ze (Zod _)];exact hLn
  ·rw [Ze (QAy (lt x a w))];exact I.freeC x a w
 ·exact I.hok.laid old (QAc _) ⟨QAg _,[],0,.nil,hD⟩
 ·show (capt fm σ).length=Nc.length;unfold capt;rw [QAa];exact c.len
theorem Zg3 {x0:Str} {Nc:List Str} {scope:Scope} {cl:List (Str × Addr)} {C:Addr} {fp:List Addr} {σ':St} {H':Hp} {s':Shared} (I:Inv X pins σ H₁ s₁) (hf:∀ b∈fp,Zal X pins H₁ b) (J:Inv (Z9 X x0 Nc scope cl C s₁ H₁ fp) [] σ' H' s') :
  Inv X pins σ H' s':=I.call' (ch:=fp) J.os J.base J.hok J.bare fun b hb=>⟨(hf b hb).2.2.2.1,(hf b hb).2.1,(hf b hb).2.2.2.2.1,(hf b hb).2.2.2.2.2⟩
theorem Zj6 {x0:Str} {Nc:List Str} {scope:Scope} {cl:List (Str × Addr)} {fp:List Addr} {σ':St} {H':Hp} {s':Shared} {σ2:St} {s2:Shared} {h'':Heap} (I:Inv X pins σ H₁ s₁) (J:Inv (Z9 X x0 Nc scope cl (s₁.heap.objs.size+1) s₁ H₁ fp) [] σ' H' s')
  (I2:Inv X pins σ2 H' s2) (sb:Heap.SameBut (s₁.heap.objs.size+1) s2.heap h''):Inv X pins σ2 H' { s2 with heap:=h'' }:=by
 have hle:s₁.heap.objs.size<=s₁.heap.objs.size+1:=QCj _;refine I2.turned (t':=s2.toks) (it:=s₁.heap.objs.size+1) (fun b o hb e=>(sb.2 b hb).trans e) J.free (Nat.ne_of_gt (QBb I.lt hle)) (.inr (QAr I.sz hle)) (fun x c e z=>?_) (fun p hp z=>?_)
 ·obtain ⟨v,q⟩:=I.cell x c e;exact absurd (QBb q.lt (by rw [z]; exact hle)) (QBx _)
 ·exact absurd (QBb (QAh (I.pin p hp).1) (by rw [z]; exact hle)) (QBx _)
theorem ZfI {elt tg iter:Expr} {ifs:List Expr} {scope:Scope} {pos:Pos} {x0:Str} {Nc:List Str} {fm:List (Option Nat)} {g:TG} {tt:TT} {te:TE} {it:Addr} {fp:List Addr} {tn:Nat->Heap->Prop} {J:It} {Q:VK} {E:Value->Shared->Prop} {RR:Value->Addr->Result->Shared->Prop}
    (hc:X.calm=true) (c:Zki X x0 Nc scope fm) (I:Inv X pins σ H₁ s₁) (T:Turn X.prog X.w X.K tg J fp it tn) (st:tn 0 s₁.heap) (hf:∀ b∈fp, Zal X pins H₁ b)
    (hg:∀ cl C s₁ H₁ fp, PG (Z9 X x0 Nc scope cl C s₁ H₁ fp) tg g) (ht:∀ cl C s₁ H₁ fp, PTs (Z9 X x0 Nc scope cl C s₁ H₁ fp) ifs tt) (he:∀ cl C s₁ H₁ fp, PE (Z9 X x0 Nc scope cl C s₁ H₁ fp) elt te)
    (h:∀ l, H₁ l=none->∃ W:Nat->Nat->List V->St->Hp->Prop, (∃ m, W 0 m [] (capt fm σ) (upd H₁ l (.lst []))) /\
      ∀ i m ys σ' H', W i m ys σ' H'->H' l=some (.lst ys) /\
        ((J.stop i H'/\Q (.ref l) H') \/
         (J.go i H'/\∃ N:List V->St->Hp->Prop, (∀ zs σ2 H2, N zs σ2 H2->∃ m', m'<m/\W (i+1) m' zs σ2 H2)/\∀ x H2, J.yld i H' x H2->g x σ' H2 fun σ3 H3 => tt σ3 H3 fun b H4 =>
            if b=true then te σ3 H4 fun y H5 => H5 l=some (.lst ys)/\ys.length<sizeLine/\N (ys++[y]) σ3 (upd H5 l (.lst (ys++[y])))
            else N ys σ3 H4)))
    (fin:∀ σ' H' s', Inv (Z9 X x0 Nc scope ((x0, s₁.heap.objs.size+2)::ZI X.env.cells scope.names []) (s₁.heap.objs.size+1) s₁ H₁ fp) [] σ' H' s'->Q (.ref s₁.heap.objs.size) H'->RR (.ref s₁.heap.objs.size) (s₁.heap.objs.size+1) (.ok .next) s') :
    wpAny (model X.prog X.w) X.A (newList []) (fun acc s₃ => wpAny (model X.prog X.w) X.A (newFunctionEnv scope X.env.globals (ZI X.env.cells scope.names []) [] X.env.qual none .none (some X.env)) (fun cenv s₄ =>
      codeAny (model X.prog X.w) X.A (.compStart (.ListComp elt [⟨tg, iter, ifs, 0⟩] scope pos) 0 (.ref it) acc { cenv with scope := relabel scope X.env }) (RR acc cenv.locals) s₄) E s₃) E s₁ := by
  have hfp:∀ b∈fp, b<s₁.heap.objs.size := fun b hb => by
    obtain ⟨o, ho, _⟩ := T.obj 0 _ st b hb;exact QAh ho
  refine wpAny_newObj_type (Zfj c.one ?_)
  dsimp only;generalize hH2:s₁.heap.push { cls := .type "list", dict := none, data := .seq ([]:List Value).toArray }=H2;have hC:H2.objs.size=s₁.heap.objs.size+1 := by rw [<- hH2, QCk]
  show codeAny _ _ (.compStart _ 0 _ _ (compEnvC scope ((x0, H2.objs.size+1)::ZI X.env.cells scope.names []) H2.objs.size X.env)) (RR _ H2.objs.size) _;have hns₁:((H2.push { cls := .type "dict", data := .dict #[] }).push { cls := .type "cell", data := .cell none }).Ns (s₁.heap.objs.size+1) (fun _ => none) := by
    rw [<- hC];exact (Heap.Ns.new H2 (.type "dict")).keeps fun b o e => QAk _ e
  have old2:∀ b o, H2.get? b=some o->((H2.push { cls := .type "dict", data := .dict #[] }).push { cls := .type "cell", data := .cell none }).get? b=some o := fun b o e => QAk _ (QAk _ e)
  have hcl:((H2.push { cls := .type "dict", data := .dict #[] }).push { cls := .type "cell", data := .cell none }).IsCell (s₁.heap.objs.size+2) none := by
    have e:s₁.heap.objs.size+2=(H2.push { cls := .type "dict", data := .dict #[] }).objs.size := by rw [QCk, hC]
    rw [e];exact ⟨_, QBa _ rfl, rfl⟩
  generalize ((H2.push { cls := .type "dict", data := .dict #[] }).push { cls := .type "cell", data := .cell none })=h₁ at hns₁ old2 hcl ⊢;rw [hC];have old:∀ b o, s₁.heap.get? b=some o->h₁.get? b=some o := fun b o e => old2 b o (hH2 ▸ QAk _ e)
  have hD:h₁.get? s₁.heap.objs.size=some { cls := .type "list", data := .seq ([]:List Value).toArray } := old2 _ _ (hH2 ▸ QBa _ rfl);have st1:tn 0 h₁ := T.keep _ _ _ st fun b _ o e => old b o e
  have hDn:H₁ s₁.heap.objs.size=none := I.hok.fresh (QAc _);obtain ⟨W, ⟨m0, w0⟩, turn⟩ := h _ hDn;have loop:∀ tk:Nat, codeAny (model X.prog X.w) X.A (.compLoop (.ListComp elt [⟨tg, iter, ifs, 0⟩] scope pos) 0 (.ref it) (.ref s₁.heap.objs.size) (compEnvC scope ((x0, s₁.heap.objs.size+2)::ZI X.env.cells scope.names []) (s₁.heap.objs.size+1) X.env))
      (RR (.ref s₁.heap.objs.size) (s₁.heap.objs.size+1)) { s₁ with heap := h₁, toks := tk } := by
    intro tk;have I0 := Ziz (tk := tk) c I hf hfp old hD hns₁ hcl;have stat:∀ {H':Hp}, (∀ b∈fp, H' b=none)->∀ b∈fp, Zal (Z9 X x0 Nc scope ((x0, s₁.heap.objs.size+2)::ZI X.env.cells scope.names []) (s₁.heap.objs.size+1) s₁ H₁ fp) [] H' b := fun hn b hb =>
      ⟨hn b hb, (I0.ok.exf b hb).1, I0.ok.exfs b hb, .inl hb, (I0.ok.exf b hb).2, fun p hp => absurd (show p∈([]:List (Addr × Obj)) from hp) (by simp)⟩
    refine Zc4 (fun n s' => ∃ i ys σ' H', Inv (Z9 X x0 Nc scope ((x0, s₁.heap.objs.size+2)::ZI X.env.cells scope.names []) (s₁.heap.objs.size+1) s₁ H₁ fp) [] σ' H' s'/\tn i s'.heap/\(∀ b∈fp, H' b=none)/\W i n ys σ' H') ?_ m0
      ⟨0, [], _, _, I0, st1, fun b hb => by rw [Ze (QAy (hfp b hb))]; exact (hf b hb).1, w0⟩
    rintro n s3 ⟨i, ys, σ3, H3, I3, st3, fr3, w3⟩;obtain ⟨hl, alt⟩ := turn i n ys σ3 H3 w3
    rcases alt with ⟨stop, qn⟩ | ⟨go, N, hN, step⟩
    · refine thn (T.done (Z9 X x0 Nc scope ((x0, s₁.heap.objs.size+2)::ZI X.env.cells scope.names []) (s₁.heap.objs.size+1) s₁ H₁ fp) rfl rfl rfl hc i [] s3 σ3 H3 NoX I3 (stat fr3) st3 stop) fun r s4 zz0 => ?_
      obtain ⟨hr, I4⟩ := zz0;subst hr;exact fin σ3 H3 s4 I4 qn
    · refine thn (T.item (Z9 X x0 Nc scope ((x0, s₁.heap.objs.size+2)::ZI X.env.cells scope.names []) (s₁.heap.objs.size+1) s₁ H₁ fp) rfl rfl rfl hc i [] s3 σ3 H3 NoX I3 (stat fr3) st3 go) fun r s4 zz0 => ?_
      obtain ⟨u, hr, h4⟩ := zz0;subst hr;refine thn h4 fun _ s5 zz0 => ?_
      obtain ⟨x, H5, I5, r5, y5, st5, fr5⟩ := zz0;have I5' := I5.pinned (stat fr5) (T.obj _ _ st5);have again:∀ {σ7:St} {H7:Hp} {s7:Shared} {zs:List V} {m':Nat}, Inv (Z9 X x0 Nc scope ((x0, s₁.heap.objs.size+2)::ZI X.env.cells scope.names []) (s₁.heap.objs.size+1) s₁ H₁ fp) ([]++Zbw fp s5.heap) σ7 H7 s7->m'<n->W (i+1) m' zs σ7 H7 ->
          ∃ m, m<n/\∃ i ys σ' H', Inv (Z9 X x0 Nc scope ((x0, s₁.heap.objs.size+2)::ZI X.env.cells scope.names []) (s₁.heap.objs.size+1) s₁ H₁ fp) [] σ' H' s7/\tn i s7.heap/\(∀ b∈fp, H' b=none)/\W i m ys σ' H' := fun {σ7 H7 s7 zs m'} I7 hm w7 => by
        refine ⟨m', hm, i+1, zs, σ7, H7, I7.unpinned, T.keep _ _ _ st5 fun b hb o e => (I7.pin (b, o) (QBf _ (QBf _ (Y5 hb e)))).1, fun b hb => ?_, w7⟩;obtain ⟨o, e, d⟩ := T.obj _ _ st5 b hb;exact (I7.pin (b, o) (QBf _ (QBf _ (Y5 hb e)))).2.1
      refine thn (hg _ _ _ _ _ _ s5 σ3 H5 x u _ I5' r5 (step x H5 y5)) fun _ s6 zz0 => ?_
      obtain ⟨σ6, H6, I6, q6⟩ := zz0;refine thn (ht _ _ _ _ _ _ s6 σ6 H6 _ I6 q6) fun ok s7 zz0 => ?_
      obtain ⟨H7, I7, q7⟩ := zz0
      cases ok with
      | false =>
        rw [if_neg QAn] at q7 ⊢;obtain ⟨m', hm, w7⟩ := hN _ _ _ q7;exact again I7 hm w7
      | true =>
        rw [if_pos rfl] at q7 ⊢;refine thn (he _ _ _ _ _ _ s7 σ6 H7 _ I7 q7) fun y s8 zz0 => ?_
        obtain ⟨v8, H8, I8, r8, hl8, hz8, n8⟩ := zz0;obtain ⟨m', hm, w8⟩ := hN _ _ _ n8;refine thn (Yk _ s8 σ6 H8 (.ref s₁.heap.objs.size) [v8] (.ref s₁.heap.objs.size) [y] (fun v H' => H'=upd H8 s₁.heap.objs.size (.lst (ys++[v8]))) I8 rfl (.cons r8 .nil) ⟨_, ys, v8, rfl, rfl, hl8, hz8, rfl⟩) fun _ s9 zz0 => ?_
        obtain ⟨_, H9, I9, _, e9⟩ := zz0;subst e9;exact again I9 hm w8
  exact codeAny_compStart_list (loop _) (T.self _ 0 _ _ _ st1 (loop _))
end
section
variable {X:Cx} {elt tg iter:Expr} {ifs:List Expr} {scope:Scope} {pos spos:Pos} {wi:TI} {g:TG} {tt:TT} {te:TE}
theorem ZgF (x0:Str) (Nc:List Str) (fm:List (Option Nat)) (hc:X.calm=true) (hk:captOkC X.N X.env.scope x0 Nc scope fm=true) (hi:PI X tg iter wi)
  (hg:∀ cl C s₁ H₁ fp,PG (Z9 X x0 Nc scope cl C s₁ H₁ fp) tg g) (ht:∀ cl C s₁ H₁ fp,PTs (Z9 X x0 Nc scope cl C s₁ H₁ fp) ifs tt) (he:∀ cl C s₁ H₁ fp,PE (Z9 X x0 Nc scope cl C s₁ H₁ fp) elt te)
  (hs:∀ x,foldedSetIterable iter X.env x=pure x:=by intro _; rfl):PE X (.ListComp elt [⟨tg,iter,ifs,0⟩] scope pos) (ZiN fm wi g tt te):=by
 intro pins s σ H Q I h;have c:=captOkC.capt hk;rw [eval_ListComp];refine wpAny_comprehension_free (use:=none) rfl hs (JI fun y hy e=>I.ok.has y.1 (c.free y hy e)) c.kind c.names (thn (hi pins s σ H _ I h) fun v s1 h1=>thn h1 fun itv s2 h2=>?_);obtain ⟨it,fp,tn,J,H2,e,I2,T,st2,f2,h⟩:=h2;subst e;refine ZfI (RR:=fun acc C=>compPost (model X.prog X.w) X.A X.xe none (EP X pins σ Q) acc C) hc c I2 T st2 f2 hg ht he h fun σ' H' s' J' q=>?_;obtain ⟨m,hn,_⟩:=J'.loc;exact ⟨m,hn,fun h'' sb=>⟨.ref s2.heap.objs.size,H',Zj6 I2 J' (Zg3 I2 f2 J') sb,rfl,q⟩⟩
end
theorem ZgD {X:Cx} {x0:Str} {Nc:List Str} {scope:Scope} {cl:List (Str × Addr)} {C:Addr} {s₁:Shared} {H₁:Hp} {fp:List Addr} (i:Nat) {pos:Pos} (hN:Nc.Nodup:=by decide +kernel) (hi:Nc[i]? = some x0:=by rfl)
  (hx:(relabel scope X.env).names.lookup x0=some .cell:=by rfl):PG (Z9 X x0 Nc scope cl C s₁ H₁ fp) (.Name x0 pos) (ZaF i):=ZC hN hi (.inr hx) (.inl (by show (x0==x0)=true; simp))
section
variable {prog:Program} {w:World} {A:Around} {E:Value->Shared->Prop} {s:Shared}
theorem Yc:∀ {vs:List Value} {ns:List Int},IntsAre vs ns->vs.length=ns.length
 | _,_,.nil=>rfl
 | _,_,.cons _ _ r=>by rw [QAu,QAu,Yc r]
theorem Yg:∀ {vs:List Value} {ns:List Int},IntsAre vs ns->∀ (j:Nat) (h:j<ns.length),∃ t,vs[j]? = some (.int ns[j] t)
 | _,_,.cons n t r,0,_=>⟨t,rfl⟩
 | _,_,.cons n t r,j+1,h=>Yg r j (Nat.lt_of_succ_lt_succ h)
theorem ZgS {k:Int}:∀ {ns:List Int} {j:Nat},j<ns.idxOf k->∀ (h2:j<ns.length),(ns[j]==k)=false:=fun h h2=>PyProof.Rows.ne_of_lt_idxOf h h2
theorem Zbr {t:Addr} {items:Array Value} {ns:List Int} {x:Int} {u:Tok} {P:Fin->Shared->Prop} (ht:IsTup s.heap t items) (hi:IntsAre items.toList ns) (hk:x∈ns)
  (h:P (.done (.ret (.int ((ns.idxOf x:Nat):Int) s.toks))) { s with toks:=s.toks+1 }):wpAny (model prog w) A (Builtin.«tuple.index» ⟨[.ref t,.int x u],[]⟩) P E s:=by
 have hlen:items.size=ns.length:=by rw [<- QAz]; exact Yc hi
 have hj:ns.idxOf x<ns.length:=List.idxOf_lt_length_iff.mpr hk;show wpAny _ _ (Builtin.Tuple.tupleItemsOf (.ref t) >>= _) _ _ s;refine QZq (tupleItemsOf_ ht ?_);show wpAny _ _ (forIn [0:min items.size items.size] _ _ >>= _) _ _ s;rw [Std.Legacy.Range.forIn_eq_forIn_range']
 simp only [Std.Legacy.Range.size,Nat.sub_zero,Nat.add_sub_cancel,Nat.div_one,Nat.min_self];refine QZq (wpAny_forIn_list _
   (fun rest b s'=>b.1=none/\s'=s/\∃ i,rest=List.range' i (items.size - i)/\i<=ns.idxOf x)
   _ ?_ ?_ _ _ ⟨rfl,rfl,0,by simp,QAg _⟩)
 ·rintro y rest b s' ⟨hb,rfl,i,hr,hle⟩;have e:items.size - i=(items.size - (i+1))+1:=by exact O501 hlen hj hle
  rw [e,List.range'_succ] at hr
  injection hr with h1 h2
  subst h1;obtain ⟨tk,hy⟩:=Yg hi y (by exact O36 hj hle);rw [QDg] at hy
  simp only [hy];refine QZq (wpAny_eqBool_int ?_)
  cases hnx:(ns[y]'(by exact O36 hj hle)==x) with
  | true =>
   have hyi:y=ns.idxOf x:=by
    rcases QCm y (ns.idxOf x) with z | z
    ·rw [ZgS z (by exact O153 hj z)] at hnx
     cases hnx
    ·exact O32 hle z
   subst hyi;exact QZq (QZq (wpAny_mkInt (QZr (QZr (QZr h)))))
  | false =>
   refine QZr ⟨rfl,rfl,y+1,h2,?_⟩
   rcases QCm y (ns.idxOf x) with z | z
   ·exact z
   ·have:y=ns.idxOf x:=by exact O32 hle z
    subst this;have:=QDt hj;rw [this] at hnx
    simp at hnx
 ·rintro ⟨b1,b2⟩ s' ⟨hb,rfl,i,hr,hle⟩;have:items.size - i=0:=by
   cases hz:items.size - i with
   | zero=>rfl
   | succ m=>rw [hz,List.range'_succ] at hr; cases hr
  exact (O500 hlen hj hle this).elim
end
def Zn0 (to:TE) (t:TA):TE:=fun σ H Q=>to σ H fun x H1=>∃ (p:Addr) (ns:List Int),x = .ref p/\H1 p=some (.tup (ns.map V.int))/\t σ H1 fun xs H2=>∃ k:Int,xs=[.int k]/\H2 p=some (.tup (ns.map V.int))/\k∈ns/\Q (.int ((ns.idxOf k:Nat):Int)) H2
section
variable {X:Cx} {o e:Expr} {to:TE} {t:TA} {apos cpos:Pos}
theorem Jp (ho:PE X o to) (ha:PA X [e] t)
  (hbase:attributeBase o "index" X.env (eval o X.env)=eval o X.env:=by rfl)
  (hfew:((backTo cpos (starEach [e] X.env)).all (fun x=>!x.1)&&(backToKw cpos (keywordEach [] X.env)).all (fun x=>x.1.isSome)
   && decide ([e].length+([]:List Keyword).length+(if ([]:List Keyword).isEmpty then 0 else 1)<30))=true:=by rfl)
  (hline:(apos.endLine==cpos.line)=true:=by rfl) (hs:starEach [e] X.env=(false,eval e X.env)::starEach [] X.env:=by rfl) (hplain:(backTo cpos (starEach [] X.env)).any (·.1)=false:=by rfl) :
  PE X (.Call (.Attribute o "index" apos) [e] [] cpos) (Zn0 to t):=by
 intro pins s σ H Q I h;refine wpAny_Call_method_late hbase hfew hline rfl (thn (ho pins s σ H _ I h) fun v s1 zz0=>?_);obtain ⟨x,H1,I1,r1,q1⟩:=zz0;obtain ⟨p,ns,rfl,hp,q1⟩:=q1
 cases r1;obtain ⟨_,its,_,pl⟩:=I1.hok p _ hp;have pl:IsTupN s1.heap p its.toArray:=pl;refine ⟨"tuple","tuple.index",F.plainAttrs_tuple,F.slot_tuple_index,F.type_tuple_index,pl.is.typeIs,fun a e=>(by cases e; exact pl.bare),?_⟩;have hA:=ha cpos pins s1 σ H1 _ I1 q1;rw [hs] at hA ⊢;refine Calls.callWith_builtin (by show (false||(backTo cpos (starEach [] X.env)).any (·.1))=false; rw [hplain] <;> rfl) (Calls.evalArgs_plain ?_);refine thn hA fun us s2 zz0=>?_;obtain ⟨vs,H2,I2,r2,q2⟩:=zz0;obtain ⟨k,rfl,hp2,hk,q⟩:=q2;obtain ⟨u,rfl,t,rfl⟩:=r2.one;obtain ⟨_,its2,rv,pl2⟩:=I2.hok p _ hp2;have pl2:IsTupN s2.heap p its2.toArray:=pl2;exact wpAny_call_entry F.slot_tuple_index pl2.is.typeIs F.entry_tuple_index (Zbr pl2.is (Y8 rv) hk ⟨_,rfl,.int _,H2,I2.tok _,⟨_,rfl⟩,q⟩) (F.args_tuple_index_2 _ _)
end
end _L
namespace _M
open PySem _L
theorem Zaw {X:Cx} {pos:Pos} {es:List Expr} {k:Nat} {t:TGs} {n:Nat} (K:QZa) (hc:X.calm=true) (h:PGs X es t) (hK:X.K=K:=by rfl)
  (hn:(assignEach es X.env).length=n:=by rfl) (hst:(assignEach es X.env).findIdx? (·.1)=none:=by rfl):PG X (.Tuple es k pos) (ZnA K n t):=by subst hK; exact ZgC hc h hn hst
end _M
namespace _L
open PySem PySem.Spec PyProof.Rows
open PySem.SeqAt
def Zky:V->List V->Hp->VK->Prop:=fun x vs H Q=>∃ (l:Addr) (ns:List Int) (k:Int),x = .ref l/\vs=[.int k]/\H l=some (.lst (ns.map V.int))/\k∈ns/\Q (.int ((ns.idxOf k:Nat):Int)) H
theorem ZdK {X:Cx}:MtM X "list.index" Zky:=by
 intro pins s σ H x vs v us Q I rx rv h;obtain ⟨l,ns,k,rfl,rfl,hH,hk,q⟩:=h
 cases rx;obtain ⟨u,rfl,t,rfl⟩:=rv.one;obtain ⟨z,its,n,r,hl,e⟩:=I.lstM hH;have hi:IntsAre its ns:=Y8 r;have hlen:its.length=ns.length:=Yc hi;have hj:ns.idxOf k<ns.length:=List.idxOf_lt_length_iff.mpr hk;have hb:=ZbG;have hz:ns.length<=sizeLine:=by have:=z; rw [<- hlen]; exact Om.y2 ‹_› ‹_› rfl
 refine call_meets PySem.F.slot_list_index ⟨_,e,rfl⟩ PySem.F.entry_list_index (PySem.F.args_list_index_2 _ _)
  (list_indexAt l its.toArray n none #[] (.int k t) (isInt k) (ns.idxOf k) (by simpa [hlen] using hj) (by exact O499 z hl hlen hj hb) ?_ ?_) ⟨e,fun y hy=>(eq_isInt k t hi y (by simpa using hy)).at _ _,.int _,H,I.tok _,⟨_,rfl⟩,q⟩
 ·show isInt k its[ns.idxOf k]=true;rw [isInt_at k hi _ (by exact Om.a1 ‹_› ‹_›) hj]
  simpa using QDt hj
 ·intro j hjs hlt;show isInt k its[j]=false;rw [isInt_at k hi j (by simpa using hjs) (by exact O153 hj hlt)];exact ne_of_lt_idxOf hlt _
end _L
namespace _M
noncomputable abbrev HS:=List (Int × Nat)
noncomputable def look (hs:HS) (x:Int):Option Nat:=(hs.find? fun p=>decide (p.1=x)).map (·.2)
noncomputable def J7 (hs:HS) (x:Int) (w:Nat):HS:=if (hs.any fun p=>decide (p.1=x))=true then hs.map (fun p=>if p.1=x then (p.1,w) else p) else hs++[(x,w)]
noncomputable def YZ (hs:HS):List Int:=hs.map (·.1)
theorem Zfm (x:Int):look [] x=none:=rfl
theorem Yl {p:Int × Nat} {r:HS} {x:Int} (e:p.1=x):look (p::r) x=some p.2:=by simp [look,QCt,e]
theorem Ym {p:Int × Nat} {r:HS} {x:Int} (e:¬ p.1=x):look (p::r) x=look r x:=by simp [look,QCt,e]
theorem look_none {x:Int}:∀ {hs:HS},look hs x=none↔x∉YZ hs
 | []=>by simp [Zfm,YZ]
 | p::r=>by
  by_cases e:p.1=x
  ·rw [Yl e]
   simp [YZ,e]
  ·rw [Ym e,look_none]
   simp only [YZ,QAl,QBr,not_or];exact ⟨fun h=>⟨fun z=>e z.symm,h⟩,fun h=>h.2⟩
theorem ZcM {x:Int} {v:Nat}:∀ {hs:HS},look hs x=some v->(x,v)∈hs
 | [],h=>by cases h
 | p::r,h=>by
  by_cases e:p.1=x
  ·rw [Yl e] at h
   cases h;rw [<- e];exact QAj
  ·rw [Ym e] at h;exact QAp _ (ZcM h)
theorem ZbR {x:Int} {v:Nat}:∀ {hs:HS},(YZ hs).Nodup->(x,v)∈hs->look hs x=some v
 | [],_,h=>by cases h
 | p::r,nd,h=>by
  rcases QZn.mp h with z | z
  ·rw [Yl (by rw [<- z])];rw [<- z]
  ·have hn:p.1∉YZ r:=(List.nodup_cons.mp nd).1;have:¬ p.1=x:=fun e=>hn (by rw [e]; exact QZd.mpr ⟨_,z,rfl⟩)
   rw [Ym this];exact ZbR (List.nodup_cons.mp nd).2 z
theorem Zdb (x:Int):∀ hs:HS,(hs.any fun p=>decide (p.1=x))=(look hs x).isSome
 | []=>rfl
 | p::r=>by
  rw [QDd]
  by_cases e:p.1=x
  ·simp only [Yl e,QZh e,Bool.true_or,Option.isSome_some]
  ·rw [Ym e,QZi e,Bool.false_or];exact Zdb x r
theorem ZcN (x y:Int) (w:Nat):∀ hs:HS,look (hs.map fun p=>if p.1=x then (p.1,w) else p) y=(look hs y).map fun v=>if y=x then w else v
 | []=>rfl
 | p::r=>by
  rw [QAl]
  by_cases h:p.1=x
  ·rw [if_pos h]
   by_cases e:p.1=y
   ·rw [Yl (p:=(p.1,w)) e,Yl e,QDu,if_pos (e.symm.trans h)]
   ·rw [Ym (p:=(p.1,w)) e,Ym e,ZcN x y w r]
  ·rw [if_neg h]
   by_cases e:p.1=y
   ·rw [Yl e,Yl e,QDu,if_neg (fun z=>h (e.trans z))]
   ·rw [Ym e,Ym e,ZcN x y w r]
theorem ZdN (x y:Int) (w:Nat):∀ hs:HS,look hs x=none->look (hs++[(x,w)]) y=if y=x then some w else look hs y
 | [],_=>by
  by_cases e:x=y
  ·rw [if_pos e.symm]; exact Yl (p:=(x,w)) e
  ·rw [if_neg (fun z=>e z.symm)]; exact Ym (p:=(x,w)) e
 | p::r,hn=>by
  rw [List.cons_append];have hk:¬ p.1=x:=fun z=>by rw [Yl z] at hn; cases hn
  rw [Ym hk] at hn
  by_cases e:p.1=y
  ·rw [Yl e,Yl e,if_neg (fun z=>hk (e.trans z))]
  ·rw [Ym e,Ym e,ZdN x y w r hn]
theorem ZcL (hs:HS) (x y:Int) (w:Nat):look (J7 hs x w) y=if y=x then some w else look hs y:=by
 unfold J7;rw [Zdb]
 cases q:look hs x with
 | none =>
  rw [if_neg (by decide)];exact ZdN x y w hs q
 | some v =>
  rw [if_pos (show (some v).isSome=true from rfl),ZcN]
  by_cases e:y=x
  ·rw [if_pos e,e,q,QDu,if_pos rfl]
  ·rw [if_neg e]
   cases look hs y with
   | none=>rfl
   | some u=>rw [QDu,if_neg e]
theorem ZjI (x:Int) (w:Nat) (hs:HS):YZ (hs.map fun p=>if p.1=x then (p.1,w) else p)=YZ hs:=by
 unfold YZ;rw [QAw];refine QBy fun p _=>?_;show (if p.1=x then (p.1,w) else p).1=p.1
 split <;> rfl
theorem ZdH {hs:HS} (x:Int) (w:Nat) (h:(YZ hs).Nodup):(YZ (J7 hs x w)).Nodup:=by
 unfold J7;rw [Zdb]
 cases q:look hs x with
 | none =>
  rw [if_neg (by decide)];unfold YZ;rw [QAm];refine List.nodup_append.mpr ⟨h,by simp,fun a ha b hb=>?_⟩;rw [QAl,List.map_nil,QCy] at hb;rintro rfl;have hb':a=x:=hb;exact look_none.mp q (hb' ▸ ha)
 | some v =>
  rw [if_pos (show (some v).isSome=true from rfl),ZjI];exact h
theorem ZkW {hs:HS} {x:Int} {w:Nat} {p:Int × Nat} (h:p∈J7 hs x w):p∈hs\/p=(x,w):=by
 unfold J7 at h
 split at h
 ·obtain ⟨q,hq,e⟩:=QZd.mp h
  split at e
  ·next z=>rw [<- e,z]; exact .inr rfl
  ·rw [<- e]; exact .inl hq
 ·rcases QZf.mp h with z | z
  ·exact .inl z
  ·exact .inr (QZc.mp z)
noncomputable def cnt (hs:HS) (ts:List Int) (v:Nat):Nat:=hs.countP fun p=>decide (p.1∉ts)&&decide (p.2=v)
theorem JF {y:Int} {ts:List Int} (hy:y∉ts) (v:Nat):∀ {hs:HS},(YZ hs).Nodup->cnt hs ts v=cnt hs (ts++[y]) v+if look hs y=some v then 1 else 0
 | [],_=>by
  rw [Zfm,if_neg (by intro z; cases z)]
  rfl
 | p::r,nd=>by
  have ih:=JF hy v (List.nodup_cons.mp nd).2;unfold cnt at ih ⊢;rw [QBt,QBt]
  by_cases e:p.1=y
  ·have hn:look r y=none:=look_none.mpr (e ▸ (List.nodup_cons.mp nd).1);rw [hn,if_neg (by intro z; cases z),Nat.add_zero] at ih;rw [Yl e,ih];have h1:(decide (p.1∉ts++[y])&&decide (p.2=v))=false:=by
    rw [QZi (by rw [e]; simp),QCf]
   have h2:decide (p.1∉ts)=true:=QZh (by rw [e]; exact hy);rw [h1,h2,QCl,if_neg QAn,Nat.add_zero]
   by_cases z:p.2=v
   ·rw [if_pos (QZh z),if_pos (by rw [z])]
   ·rw [if_neg (by rw [QZi z]; exact QAn),if_neg (fun q=>z (QZl q))]
  ·rw [Ym e,ih];have h1:(decide (p.1∉ts++[y])&&decide (p.2=v))=(decide (p.1∉ts)&&decide (p.2=v)):=by
    congr 1
    refine decide_eq_decide.mpr ⟨fun h z=>h (QBe _ z),fun h z=>?_⟩
    rcases QZf.mp z with z | z
    ·exact h z
    ·exact e (QZc.mp z)
   rw [h1];omega
theorem Zc5 {v:Nat} {hs:HS} (nd:(YZ hs).Nodup):∀ {new ts:List Int},(ts++new).Nodup->cnt hs ts v=cnt hs (ts++new) v+new.countP fun y=>decide (look hs y=some v)
 | [],ts,_=>by rw [QBq]; rfl
 | y::new,ts,h=>by
  have e:ts++y::new=(ts++[y])++new:=by rw [QBo]; rfl
  rw [e] at h ⊢;have hy:y∉ts:=fun z=>by
   have:=(List.nodup_append.mp (List.nodup_append.mp h).1).2.2 y z y (by simp);exact this rfl
  rw [JF hy v nd,Zc5 nd h,QBt]
  by_cases q:look hs y=some v
  ·rw [if_pos q,if_pos (QZh q)];omega
  ·rw [if_neg q,if_neg (by rw [QZi q]; exact QAn)];omega
theorem ZhV {y:Int} {ts:List Int} (hy:y∉ts) {hs:HS} (nd:(YZ hs).Nodup) (w v:Nat):cnt (J7 hs y w) ts v=cnt hs (ts++[y]) v+if v=w then 1 else 0:=by
 rw [JF hy v (ZdH y w nd),ZcL,if_pos rfl];have h2:cnt (J7 hs y w) (ts++[y]) v=cnt hs (ts++[y]) v:=by
  unfold J7 cnt
  split
  ·rw [List.countP_map];refine List.countP_congr fun p _=>?_;show ((decide ((if p.1=y then (p.1,w) else p).1∉ts++[y])&&decide ((if p.1=y then (p.1,w) else p).2=v))=true↔_)
   by_cases e:p.1=y
   ·rw [if_pos e];have:decide (p.1∉ts++[y])=false:=QZi (by rw [e]; simp);show ((decide (p.1∉ts++[y])&&_)=true↔(decide (p.1∉ts++[y])&&_)=true);rw [this,QCf,QCf]
   ·rw [if_neg e]
  ·rw [List.countP_append,QBt,List.countP_nil];have:(decide ((y,w).1∉ts++[y])&&decide ((y,w).2=v))=false:=by
    rw [QZi (by simp),QCf]
   rw [this,if_neg QAn]
   rfl
 rw [h2]
 congr 1
 by_cases z:v=w
 ·rw [if_pos z,if_pos (by rw [z])]
 ·rw [if_neg z,if_neg (fun q=>z (QZl q).symm)]
noncomputable abbrev Res:=Bool × HS × List Int
noncomputable def Jj (rc:Nat->HS->List Int->Res) (w:Nat):List Int->HS->List Int->Res
 | [],hs,ts=>(false,hs,ts)
 | x::xs,hs,ts=>if x∈ts then Jj rc w xs hs ts else
  match look hs x with
  | none=>(true,J7 hs x w,ts++[x])
  | some v =>
   match rc v hs (ts++[x]) with
   | (true,hs',ts')=>(true,J7 hs' x w,ts')
   | (false,hs',ts')=>Jj rc w xs hs' ts'
noncomputable def YJ (L:LI):Nat->Nat->HS->List Int->Res
 | 0,_,hs,ts=>(false,hs,ts)
 | k+1,w,hs,ts=>Jj (YJ L k) w (L.getD w []) hs ts
structure OkH (L:LI) (hs:HS):Prop where
 nd:(YZ hs).Nodup
 ed:∀ p∈hs,p.2<L.length/\p.1∈L.getD p.2 []
structure Zm0 (L:LI) (U:List Int) (w:Nat) (xs:List Int) (hs:HS) (ts:List Int) (r:Res) where
 new:List Int
 pre:r.2.2=ts++new
 nd:r.2.2.Nodup
 sub:∀ y∈new,y∈U
 keep:∀ y∈ts,look r.2.1 y=look hs y
 ok:OkH L r.2.1
 yes:r.1=true->∀ v,cnt r.2.1 ts v=cnt hs ts v+if v=w then 1 else 0
 no:r.1=false->r.2.1=hs/\(∀ x∈xs,x∈r.2.2)/\∀ y∈r.2.2,y∉ts->∃ v,look hs y=some v/\∀ x∈L.getD v [],x∈r.2.2
noncomputable def free (U ts:List Int):Nat:=U.countP fun y=>decide (y∉ts)
theorem Zk7 {U ts:List Int} {x:Int} (hx:x∈U) (hn:x∉ts):free U (ts++[x])<free U ts:=by
 unfold free
 induction U with
 | nil=>cases hx
 | cons y U ih =>
  rw [QBt,QBt];have mono:∀ U:List Int,U.countP (fun y=>decide (y∉ts++[x]))<=U.countP fun y=>decide (y∉ts):=fun U=>List.countP_mono_left fun y _ h=>by
   simp only [QCn,QCy,not_or,QZg] at h ⊢;exact h.1
  by_cases e:y=x
  ·subst e;rw [if_neg (by simp),if_pos (QZh hn)];have:=mono U;omega
  ·rcases QZn.mp hx with z | z
   ·exact (e z.symm).elim
   ·have h1:decide (y∉ts++[x])=decide (y∉ts):=by
     refine decide_eq_decide.mpr ⟨fun h q=>h (QBe _ q),fun h q=>?_⟩
     rcases QZf.mp q with q | q
     ·exact h q
     ·exact e (QZc.mp q)
    rw [h1];have:=ih z;omega
theorem Zk8 {U ts new:List Int}:free U (ts++new)<=free U ts:=List.countP_mono_left fun y _ h=>by
 simp only [QCn,not_or,QZg] at h ⊢;exact h.1
theorem OkH.put {L:LI} {hs:HS} (o:OkH L hs) {x:Int} {w:Nat} (hw:w<L.length) (hx:x∈L.getD w []):OkH L (J7 hs x w) :=
 ⟨ZdH x w o.nd,fun p hp=>(ZkW hp).elim (o.ed p) fun e=>by rw [e]; exact ⟨hw,hx⟩⟩
theorem ZbF {L:LI} {U:List Int} (hU:∀ l∈L,∀ x∈l,x∈U) {k:Nat} (ih:∀ v hs ts,v<L.length->OkH L hs->ts.Nodup->free U ts<k->Nonempty (Zm0 L U v (L.getD v []) hs ts (YJ L k v hs ts)))
  {w:Nat} (hw:w<L.length):∀ (xs:List Int) (hs:HS) (ts:List Int),(∀ x∈xs,x∈L.getD w [])->OkH L hs->ts.Nodup->free U ts<=k->Nonempty (Zm0 L U w xs hs ts (Jj (YJ L k) w xs hs ts))
 | [],hs,ts,_,o,nt,_=>⟨⟨[],(QBq _).symm,nt,fun y h=>(by cases h),fun _ _=>rfl,o,fun h=>(by cases h),fun _=>⟨rfl,fun x h=>(by cases h),fun y h h'=>(h' h).elim⟩⟩⟩
 | x::xs,hs,ts,hxs,o,nt,hf=>by
  have hxw:x∈L.getD w []:=hxs x QAj;have hxs':∀ x∈xs,x∈L.getD w []:=fun y h=>hxs y (QAp _ h)
  have hxU:x∈U:=by
   rw [QAd,QAb hw] at hxw;exact hU _ (QAs hw) x hxw
  by_cases e:x∈ts
  ·have hl:Jj (YJ L k) w (x::xs) hs ts=Jj (YJ L k) w xs hs ts:=by
    rw [Jj,if_pos e]
   rw [hl];obtain ⟨g⟩:=ZbF hU ih hw xs hs ts hxs' o nt hf;refine ⟨⟨g.new,g.pre,g.nd,g.sub,g.keep,g.ok,g.yes,fun h=>⟨(g.no h).1,fun y hy=>?_,(g.no h).2.2⟩⟩⟩
   rcases QZn.mp hy with z | z
   ·rw [z,g.pre]; exact QBe _ e
   ·exact (g.no h).2.1 y z
  ·have nt1:(ts++[x]).Nodup:=List.nodup_append.mpr ⟨nt,by simp,fun a ha b hb=>by
    rw [QCy] at hb;rintro rfl;exact e (hb ▸ ha)⟩
   cases q:look hs x with
   | none =>
    have hl:Jj (YJ L k) w (x::xs) hs ts=(true,J7 hs x w,ts++[x]):=by
     rw [Jj,if_neg e,q]
    rw [hl];refine ⟨⟨[x],rfl,nt1,fun y h=>by rw [QZc.mp h]; exact hxU,fun y hy=>?_,o.put hw hxw,fun _ v=>?_,fun h=>(by cases h)⟩⟩
    ·show look (J7 hs x w) y=look hs y;rw [ZcL,if_neg (fun z:y=x=>e (z ▸ hy))]
    ·show cnt (J7 hs x w) ts v=_;rw [ZhV e o.nd,JF e v o.nd,q,if_neg (show ¬ (none:Option Nat)=some v from fun z=>by cases z)]
     rfl
   | some v =>
    have hv:v<L.length:=(o.ed _ (ZcM q)).1;obtain ⟨g⟩:=ih v hs (ts++[x]) hv o nt1 (QBb (Zk7 hxU e) hf)
    cases hr:YJ L k v hs (ts++[x]) with
    | mk b r =>
     obtain ⟨hs',ts'⟩:=r;rw [hr] at g
     cases b with
     | true =>
      have hl:Jj (YJ L k) w (x::xs) hs ts=(true,J7 hs' x w,ts'):=by
       rw [Jj,if_neg e,q]
       simp only [hr]
      rw [hl];have gp:ts'=ts++[x]++g.new:=g.pre;refine ⟨⟨[x]++g.new,by rw [<- QBo]; exact gp,g.nd,fun y h=>?_,fun y hy=>?_,g.ok.put hw hxw,fun _ u=>?_,fun h=>(by cases h)⟩⟩
      ·rcases QZf.mp h with z | z
       ·rw [QZc.mp z]; exact hxU
       ·exact g.sub y z
      ·show look (J7 hs' x w) y=look hs y;rw [ZcL,if_neg (fun z:y=x=>e (z ▸ hy))];exact g.keep y (QBe _ hy)
      ·show cnt (J7 hs' x w) ts u=_;have h1:cnt hs' (ts++[x]) u=cnt hs (ts++[x]) u+if u=v then 1 else 0:=g.yes rfl u
       rw [ZhV e g.ok.nd,h1,JF e u o.nd,q]
       congr 2
       by_cases z:u=v
       ·rw [if_pos z,if_pos (by rw [z])]
       ·rw [if_neg z,if_neg (fun y=>z (QZl y).symm)]
     | false =>
      have hl:Jj (YJ L k) w (x::xs) hs ts=Jj (YJ L k) w xs hs' ts':=by
       rw [Jj,if_neg e,q]
       simp only [hr]
      rw [hl];obtain ⟨n1,n2,n3⟩:=g.no rfl;have n1':hs'=hs:=n1;subst n1';have gp:ts'=ts++[x]++g.new:=g.pre;have hf':free U ts'<=k:=by
       rw [gp,QBo];exact QAr Zk8 hf
      obtain ⟨g2⟩:=ZbF hU ih hw xs hs' ts' hxs' o g.nd hf';have gp2:=g2.pre;have hsub:∀ y∈ts',y∈(Jj (YJ L k) w xs hs' ts').2.2:=fun y hy=>by rw [gp2]; exact QBe _ hy
      refine ⟨⟨[x]++g.new++g2.new,gp2.trans ((congrArg (· ++ g2.new) gp).trans (by simp only [QBo])),g2.nd,fun y h=>?_,fun y hy=>?_,g2.ok,fun h u=>?_,fun h=>⟨(g2.no h).1,fun y hy=>?_,fun y hy hn=>?_⟩⟩⟩
      ·rcases QZf.mp h with h | h
       ·rcases QZf.mp h with z | z
        ·rw [QZc.mp z]; exact hxU
        ·exact g.sub y z
       ·exact g2.sub y h
      ·exact g2.keep y (by rw [gp]; exact QBe _ (QBe _ hy))
      ·have h2:=g2.yes h u;have hnd:(ts++([x]++g.new)).Nodup:=by rw [<- QBo,<- gp]; exact g.nd
       have e1:=Zc5 (v:=u) g2.ok.nd hnd;have e2:=Zc5 (v:=u) o.nd hnd;rw [<- QBo,<- gp] at e1 e2;have e3:([x]++g.new).countP (fun y=>decide (look (Jj (YJ L k) w xs hs' ts').2.1 y=some u))=([x]++g.new).countP fun y=>decide (look hs' y=some u):=by
        refine List.countP_congr fun y hy=>?_;rw [g2.keep y (by rw [gp,QBo]; exact QBf _ hy)]
       rw [e3] at e1;omega
      ·rcases QZn.mp hy with z | z
       ·rw [z];exact hsub _ (by rw [gp]; exact QBe _ (QBf _ (QZc.mpr rfl)))
       ·exact (g2.no h).2.1 y z
      ·by_cases hy':y∈ts'
       ·by_cases z:y=x
        ·exact ⟨v,by rw [z]; exact q,fun a ha=>hsub a (n2 a ha)⟩
        ·obtain ⟨u,hu,hc⟩:=n3 y hy' (fun m=>(QZf.mp m).elim hn fun m=>z (QZc.mp m));exact ⟨u,hu,fun a ha=>hsub a (hc a ha)⟩
       ·exact (g2.no h).2.2 y hy hy'
theorem Zck {L:LI} {U:List Int} (hU:∀ l∈L,∀ x∈l,x∈U):∀ (k v:Nat) (hs:HS) (ts:List Int),v<L.length->OkH L hs->ts.Nodup->free U ts<k->Nonempty (Zm0 L U v (L.getD v []) hs ts (YJ L k v hs ts))
 | 0,_,_,_,_,_,_,h=>absurd h (QCc _)
 | k+1,v,hs,ts,hv,o,nt,h=>ZbF hU (Zck hU k) hv _ hs ts (fun _ h=>h) o nt (Nat.le_of_lt_succ h)
noncomputable def Jt (L:LI) (k:Nat):List Nat->HS->Option (Nat × List Int) × HS
 | [],hs=>(none,hs)
 | w::ws,hs=>match YJ L k w hs [] with
  | (true,hs',_)=>Jt L k ws hs'
  | (false,hs',ts)=>(some (w,ts),hs')
noncomputable def valH (hs:HS) (y:Int):Nat:=(look hs y).getD 0
structure Paper (L:LI) (hs:HS) (u:Nat) (ts:List Int):Prop where
 hu:u<L.length
 nd:ts.Nodup
 held:∀ y∈ts,∃ v,look hs y=some v/\v<L.length/\v≠u/\∀ x∈L.getD v [],x∈ts
 inj:∀ y∈ts,∀ z∈ts,look hs y=look hs z->y=z
 own:∀ x∈L.getD u [],x∈ts
theorem Zlj {hs:HS} (nd:(YZ hs).Nodup) {y:Int} {v:Nat} (h:look hs y=some v):1<=cnt hs [] v:=by
 rw [JF (y:=y) (ts:=[]) (by simp) v nd,if_pos h];exact O498
theorem Zli {hs:HS} (nd:(YZ hs).Nodup) {y z:Int} {v:Nat} (h:look hs y=some v) (h':look hs z=some v) (ne:y≠z):2<=cnt hs [] v:=by
 rw [JF (y:=y) (ts:=[]) (by simp) v nd,if_pos h,JF (y:=z) (ts:=[]++[y]) (by simpa using fun e=>ne e.symm) v nd,if_pos h'];exact O497
structure Held (L:LI) (hs:HS) (w:Nat):Prop where
 ok:OkH L hs
 one:∀ v,cnt hs [] v=if v<w then 1 else 0
theorem Held.inj {L:LI} {hs:HS} {w:Nat} (h:Held L hs w) {y z:Int} {v:Nat} (hy:look hs y=some v) (hz:look hs z=some v):y=z:=by
 by_cases e:y=z
 ·exact e
 ·have h2:=Zli h.ok.nd hy hz e;rw [h.one v] at h2
  split at h2 <;> omega
theorem Held.lt {L:LI} {hs:HS} {w:Nat} (h:Held L hs w) {y:Int} {v:Nat} (hy:look hs y=some v):v<w:=by
 have h2:=Zlj h.ok.nd hy;rw [h.one v] at h2
 split at h2
 ·assumption
 ·exact (O496 h2).elim
theorem ZeW {L:LI} {U:List Int} (hU:∀ l∈L,∀ x∈l,x∈U) {k:Nat} (hk:U.length<k):∀ (m w:Nat) (hs:HS),w+m=L.length->Held L hs w ->
  ((Jt L k (List.range' w m) hs).1=none->Held L (Jt L k (List.range' w m) hs).2 L.length) /\
   ∀ u ts,(Jt L k (List.range' w m) hs).1=some (u,ts)->Paper L (Jt L k (List.range' w m) hs).2 u ts
 | 0,w,hs,hw,h=>⟨fun _=>by rw [<- hw]; exact h,fun u ts e=>by cases e⟩
 | m+1,w,hs,hw,h=>by
  have hwl:w<L.length:=by exact O495 hw
  have hfr:free U []<k:=QEc List.countP_le_length hk;obtain ⟨g⟩:=Zck hU k w hs [] hwl h.ok QBg hfr;rw [List.range'_succ]
  cases hr:YJ L k w hs [] with
  | mk b r =>
   obtain ⟨hs',ts'⟩:=r;rw [hr] at g
   cases b with
   | true =>
    have e:Jt L k (w::List.range' (w+1) m) hs=Jt L k (List.range' (w+1) m) hs':=by
     rw [Jt]
     simp only [hr]
    rw [e];refine ZeW hU hk m (w+1) hs' (by exact O494 hw) ⟨g.ok,fun v=>?_⟩;have:=g.yes rfl v;rw [show cnt hs' [] v=_ from this,h.one v]
    by_cases a:v<w
    ·rw [if_pos a,if_neg (by exact O493 hw a),if_pos (by exact Om.f2 ‹_›)]
    ·rw [if_neg a]
     by_cases b:v=w
     ·rw [if_pos b,if_pos (by exact O492 hw b)]
     ·rw [if_neg b,if_neg (by exact O491 hw a b)]
   | false =>
    have e:Jt L k (w::List.range' (w+1) m) hs=(some (w,ts'),hs'):=by
     rw [Jt]
     simp only [hr]
    rw [e];obtain ⟨n1,n2,n3⟩:=g.no rfl;have n1':hs'=hs:=n1;subst n1';refine ⟨fun z=>(by cases z),fun u ts z=>?_⟩
    cases z;refine ⟨hwl,g.nd,fun y hy=>?_,fun y hy z hz q=>?_,n2⟩
    ·obtain ⟨v,hv,hc⟩:=n3 y hy (by simp);have:=h.lt hv;exact ⟨v,hv,by exact O490 hw hwl this,by exact O489 hw this,hc⟩
    ·obtain ⟨v,hv,_⟩:=n3 y hy (by simp);exact h.inj hv (q ▸ hv)
theorem ZjL (L:LI):Held L [] 0:=⟨⟨QBg,fun p h=>by cases h⟩,fun v=>by rw [if_neg (by exact O488 )]; rfl⟩
theorem ZcQ:∀ {T S:List Int},T.Nodup->(∀ x∈T,x∈S)->T.length<=S.length
 | [],_,_,_=>QAg _
 | x::T,S,nd,h=>by
  have hx:x∈S:=h x QAj;have ih:=ZcQ (T:=T) (S:=S.erase x) (List.nodup_cons.mp nd).2 fun y hy=>by
   have:y≠x:=fun e=>(List.nodup_cons.mp nd).1 (e ▸ hy)
   exact (List.mem_erase_of_ne this).mpr (h y (QAp _ hy))
  rw [List.length_erase_of_mem hx] at ih;have:0<S.length:=QDj hx;rw [QAu];omega
noncomputable def ZeB (hs:HS) (u:Nat) (ts:List Int):List Int:=(u:Int)::ts.map fun y=>((valH hs y:Nat):Int)
theorem Paper.val {L:LI} {hs:HS} {u:Nat} {ts:List Int} (p:Paper L hs u ts) {y:Int} (hy:y∈ts):look hs y=some (valH hs y):=by
 obtain ⟨v,hv,_⟩:=p.held y hy;unfold valH;rw [hv]
 rfl
theorem Paper.nodup {L:LI} {hs:HS} {u:Nat} {ts:List Int} (p:Paper L hs u ts):(ZeB hs u ts).Nodup:=by
 refine List.nodup_cons.mpr ⟨fun h=>?_,?_⟩
 ·obtain ⟨y,hy,e⟩:=QZd.mp h;obtain ⟨v,hv,_,hne,_⟩:=p.held y hy;rw [p.val hy] at hv;have:=QZl hv;exact (O487 e hne this).elim
 ·refine QZk.mpr (QZm.mpr ?_);have nd:=p.nd;have go:∀ {l:List Int},(∀ x∈l,x∈ts)->l.Nodup->l.Pairwise fun a b=>((valH hs a:Nat):Int)≠((valH hs b:Nat):Int):=by
   intro l
   induction l with
   | nil=>intro _ _; exact .nil
   | cons a l ih =>
    intro hs' nd;refine .cons (fun b hb e=>?_) (ih (fun x hx=>hs' x (QAp _ hx)) (List.nodup_cons.mp nd).2);have ha:=hs' a QAj;have hb':=hs' b (QAp _ hb);have:a=b:=p.inj a ha b hb' (by rw [p.val ha,p.val hb']; congr 1; exact Om.e1 ‹_›);exact (List.nodup_cons.mp nd).1 (this ▸ hb)
  exact go (fun _ h=>h) nd
theorem Paper.mem {L:LI} {hs:HS} {u:Nat} {ts:List Int} (p:Paper L hs u ts) {z:Int} (h:z∈ZeB hs u ts):∃ v:Nat,z=(v:Int)/\v<L.length/\∀ x∈L.getD v [],x∈ts:=by
 rcases QZn.mp h with e | e
 ·exact ⟨u,e,p.hu,p.own⟩
 ·obtain ⟨y,hy,e⟩:=QZd.mp e;obtain ⟨v,hv,hl,_,hc⟩:=p.held y hy;rw [p.val hy] at hv;exact ⟨v,by rw [<- e,QZl hv],hl,hc⟩
noncomputable def Yh (R:LI) (c:Nat):List Int:=R.map fun r=>r.getD c 0
noncomputable def ZW (n:Nat):List Int:=(List.range n).map fun (k:Nat)=>(k:Int)
structure OkRows (n:Nat) (R:LI):Prop where
 len:R.length<=n
 row:∀ r∈R,r.length=n/\r.Nodup/\∀ x∈r,0<=x/\x<(n:Int)
 col:∀ c,c<n->(Yh R c).Nodup
noncomputable def Jx (n:Nat) (R:LI) (c:Nat):List Int:=(ZW n).filter fun t=>decide (t∉Yh R c)
noncomputable def ZaE (n:Nat) (R:LI):LI:=(List.range n).map (Jx n R)
theorem mem_rngI {n:Nat} {x:Int}:x∈ZW n↔0<=x/\x<(n:Int):=by
 unfold ZW;rw [QZd]
 constructor
 ·rintro ⟨k,hk,rfl⟩;have:=QZe.mp hk;omega
 ·intro h;exact ⟨x.toNat,QZe.mpr (by exact O486 h),by exact O485 h⟩
theorem JY (n:Nat):(ZW n).Nodup:=by
 unfold ZW;refine QZk.mpr (QZm.mpr ?_);exact (QZk.mp QCg).imp fun h e=>h (by exact Om.e1 ‹_›)
theorem Yi (n:Nat):(ZW n).length=n:=by rw [ZW,QAa,QAq]
theorem Zg7 {A B:List Int} (na:A.Nodup) (h:∀ x∈A,x∈B) (hl:B.length<=A.length):∀ x∈B,x∈A:=by
 intro x hx
 by_cases e:x∈A
 ·exact e
 ·exfalso;have:=ZcQ (T:=A) (S:=B.erase x) na fun y hy=>by
   have:y≠x:=fun z=>e (z ▸ hy)
   exact (List.mem_erase_of_ne this).mpr (h y hy)
  rw [List.length_erase_of_mem hx] at this;have:0<B.length:=QDj hx;exact (O484 hl ‹_› this).elim
theorem YO {n:Nat} {r:List Int} (hl:r.length=n) (nd:r.Nodup) (hr:∀ x∈r,0<=x/\x<(n:Int)) {t:Int} (ht:0<=t/\t<(n:Int)):t∈r :=
 Zg7 nd (fun x hx=>mem_rngI.mpr (hr x hx)) (by rw [Yi,hl]; exact QAc _) t (mem_rngI.mpr ht)
theorem ZbQ {n:Nat} {t:Int} (ht:0<=t/\t<(n:Int)):∀ {R:LI},(∀ r∈R,r.length=n/\r.Nodup/\∀ x∈r,0<=x/\x<(n:Int))->(∀ c,c<n->(Yh R c).Nodup)->R.length<=(List.range n).countP fun c=>decide (t∈Yh R c)
 | [],_,_=>QAg _
 | r::R,hr,hc=>by
  have ih:=ZbQ ht (R:=R) (fun r' h=>hr r' (by simp [h])) fun c h=>by
   have:=hc c h;exact (List.nodup_cons.mp this).2
  obtain ⟨hl,nd,hb⟩:=hr r (by simp);have hmem:=YO hl nd hb ht;obtain ⟨i,hi,e⟩:=QBd hmem;have hin:i<n:=by exact Om.a2 ‹_› ‹_›
  have hg:r.getD i 0=t:=by rw [QAd,QAb hi]; exact e
  have hni:t∉Yh R i:=by
   have:r.getD i 0∉Yh R i:=(List.nodup_cons.mp (hc i hin)).1;rw [hg] at this;exact this
  have key:∀ (l:List Nat),l.Nodup->i∈l->l.countP (fun c=>decide (t∈Yh R c))+1<=l.countP fun c=>decide (t∈Yh (r::R) c):=by
   intro l
   induction l with
   | nil=>intro _ h; cases h
   | cons c l ih =>
    intro nd h;have hsub:∀ l:List Nat,l.countP (fun c=>decide (t∈Yh R c))<=l.countP fun c=>decide (t∈Yh (r::R) c):=fun l=>by
     refine List.countP_mono_left fun c _ hc=>?_;exact QZh (QAp _ (QZj hc))
    rw [QBt,QBt]
    by_cases e:c=i
    ·subst e;rw [QZi hni,QZh (show t∈Yh (r::R) c by show t∈r.getD c 0::_; rw [hg]; exact QAj)];have:=hsub l
     simp
     assumption
    ·have hin:i∈l:=by
      rcases QZn.mp h with z | z
      ·exact absurd z.symm e
      ·exact z
     have:=ih (List.nodup_cons.mp nd).2 hin
     by_cases q:t∈Yh R c
     ·rw [QZh q,QZh (show t∈Yh (r::R) c from QAp _ q)]
      simp
      assumption
     ·rw [QZi q]
      simp
      exact O483 hi this
  have:=key (List.range n) QCg (QZe.mpr hin);rw [QAu];omega
theorem Zg1 (l:List Nat) (p:Nat->Bool):l.countP (fun c=>!p c)+l.countP p=l.length:=by
 induction l with
 | nil=>rfl
 | cons a l ih =>
  rw [QBt,QBt,QAu]
  cases p a <;> simp <;> omega
theorem ZjH {n:Nat} {R:LI} (c:Nat):n - R.length<=(Jx n R c).length:=by
 have h:(ZW n).length<=(Jx n R c).length+(Yh R c).length:=by
  have:=ZcQ (T:=ZW n) (S:=Jx n R c++Yh R c) (JY n) fun x hx=>by
   by_cases e:x∈Yh R c
   ·exact QBf _ e
   ·exact QBe _ (QZo.mpr ⟨hx,QZh e⟩)
  rwa [QAo] at this
 rw [Yi] at h;unfold Yh at h;rw [QAa] at h;omega
theorem dbl (T:List Int) (m:Nat->Int->Bool):∀ P:List Nat,(P.map fun p=>T.countP fun t=>m p t).sum=(T.map fun t=>P.countP fun p=>m p t).sum
 | []=>by
  induction T with
  | nil=>rfl
  | cons t T ih=>simpa using ih
 | p::P=>by
  rw [QAl,QDk,dbl T m P];clear dbl
  induction T with
  | nil=>rfl
  | cons t T ih =>
   rw [QAl,QAl,QDk,QDk,QBt,QBt];exact O482 ih
theorem ZiP {α:Type} {f:α->Nat} {d:Nat}:∀ {l:List α},(∀ x∈l,d<=f x)->l.length*d<=(l.map f).sum
 | [],_=>by simp
 | x::l,h=>by
  have:=ZiP (l:=l) fun y hy=>h y (by simp [hy])
  have:=h x (by simp);rw [QAl,QDk,QAu,QCs];omega
theorem ZiO {α:Type} {f:α->Nat} {d:Nat}:∀ {l:List α},(∀ x∈l,f x<=d)->(l.map f).sum<=l.length*d
 | [],_=>by simp
 | x::l,h=>by
  have:=ZiO (l:=l) fun y hy=>h y (by simp [hy])
  have:=h x (by simp);rw [QAl,QDk,QAu,QCs];omega
theorem ZdQ {n:Nat} {R:LI} {c:Nat} (h:c<n):(ZaE n R).getD c []=Jx n R c:=by
 unfold ZaE;rw [QAd,QAe,QBi h]
 rfl
theorem ZdP (n:Nat) (R:LI):(ZaE n R).length=n:=by rw [ZaE,QAa,QAq]
theorem ZjR {A B:List Int} (na:A.Nodup) (h:∀ x∈A,x∈B):A.length<=B.countP fun t=>decide (t∈A):=by
 rw [List.countP_eq_length_filter];exact ZcQ na fun x hx=>QZo.mpr ⟨h x hx,QZh hx⟩
theorem Zc2:∀ {A B:List Nat} (p:Nat->Bool),A.Nodup->(∀ x∈A,x∈B)->A.countP p<=B.countP p
 | [],B,p,_,_=>by simp
 | a::A,B,p,nd,h=>by
  have ha:=h a (by simp);have ih:=Zc2 (A:=A) (B:=B.erase a) p (List.nodup_cons.mp nd).2 fun x hx=>by
   have:x≠a:=fun e=>(List.nodup_cons.mp nd).1 (e ▸ hx)
   exact (List.mem_erase_of_ne this).mpr (h x (by simp [hx]))
  have e:B.countP p=(B.erase a).countP p+if p a then 1 else 0:=by
   have:=(List.perm_cons_erase ha).countP_eq p;rw [this,QBt]
  rw [QBt,e];omega
theorem Zjt {n:Nat} {R:LI} (ok:OkRows n R) (hlt:R.length<n) {hs:HS} {u:Nat} {ts:List Int} (pa:Paper (ZaE n R) hs u ts):False:=by
 let P:List Nat:=u::ts.map (valH hs)
 have eP:ZeB hs u ts=P.map fun (k:Nat)=>(k:Int):=by
  show _=(u:Int)::(ts.map (valH hs)).map _;rw [QAw]
  rfl
 have ndP:P.Nodup:=by
  have:=pa.nodup;rw [eP] at this;exact QZk.mpr ((QZm.mp (QZk.mp this)).imp fun h e=>h (by rw [e]))
 have hP:∀ p∈P,p<n/\∀ x∈Jx n R p,x∈ts:=fun p hp=>by
  obtain ⟨v,e,hv,hx⟩:=pa.mem (z:=(p:Int)) (by rw [eP]; exact QZd.mpr ⟨p,hp,rfl⟩);have:v=p:=by exact O481 e
  subst this;rw [ZdP] at hv;rw [ZdQ hv] at hx;exact ⟨hv,hx⟩
 have h1:=ZiP (l:=P) (f:=fun p=>ts.countP fun t=>decide (t∈Jx n R p)) (d:=n - R.length) fun p hp=>by
  have nd:(Jx n R p).Nodup:=(JY n).sublist List.filter_sublist;exact QAr (ZjH p) (ZjR nd (hP p hp).2)
 rw [dbl ts (fun p t=>decide (t∈Jx n R p)) P] at h1;have h2:=ZiO (l:=ts) (f:=fun t=>P.countP fun p=>decide (t∈Jx n R p)) (d:=n - R.length) fun t _=>by
  by_cases ht:0<=t/\t<(n:Int)
  ·have hs:=ZbQ ht ok.row ok.col;have hn:=Zg1 (List.range n) fun c=>decide (t∈Yh R c)
   rw [QAq] at hn;have hle:P.countP (fun p=>decide (t∈Jx n R p))<=(List.range n).countP fun c=>!decide (t∈Yh R c):=by
    refine QAr (Zc2 (B:=List.range n) _ ndP fun x hx=>QZe.mpr (hP x hx).1) (List.countP_mono_left fun c _ hc=>?_);have:=(QZo.mp (QZj hc)).2
    simpa using this
   omega
  ·have:P.countP (fun p=>decide (t∈Jx n R p))=0:=by
    rw [List.countP_eq_zero];intro p _ hc;exact ht (mem_rngI.mp (QZo.mp (QZj hc)).1)
   omega
 have hl:P.length=ts.length+1:=by show (u::ts.map (valH hs)).length=_; rw [QAu,QAa]
 rw [hl,QCs] at h1;have h3:0<n - R.length:=by exact O339 hlt
 exact (O480 h1 h2 h3).elim
theorem OkRows.more {n:Nat} {R:LI} (ok:OkRows n R) (hlt:R.length<n) {r:List Int} (hl:r.length=n) (nd:r.Nodup) (hm:∀ c,c<n->r.getD c 0∈Jx n R c):OkRows n (R++[r]):=by
 have hb:∀ x∈r,0<=x/\x<(n:Int):=fun x hx=>by
  obtain ⟨i,hi,e⟩:=QBd hx;have:=hm i (by exact Om.a2 ‹_› ‹_›);rw [QAd,QAb hi] at this;have:=(QZo.mp this).1;have h2:=mem_rngI.mp this;rw [<- e];exact h2
 refine ⟨by rw [QAo]; exact hlt,fun r' h=>?_,fun c hc=>?_⟩
 ·rcases QZf.mp h with h | h
  ·exact ok.row r' h
  ·rw [QZc.mp h];exact ⟨hl,nd,hb⟩
 ·unfold Yh;rw [QAm];refine List.nodup_append.mpr ⟨ok.col c hc,by simp,fun a ha b hb' e=>?_⟩;have hb2:b=r.getD c 0:=by simpa using hb'
  have h2:=(QZo.mp (hm c hc)).2;have h3:r.getD c 0∉Yh R c:=by simpa using h2
  exact h3 (by rw [<- hb2,<- e]; exact ha)
theorem Held.has {L:LI} {hs:HS} {n v:Nat} (h:Held L hs n) (hv:v<n):∃ y,look hs y=some v:=by
 have h1:=h.one v;rw [if_pos hv] at h1;unfold cnt at h1;have h2:0<hs.countP fun p=>decide (p.1∉([]:List Int))&&decide (p.2=v):=by exact O479 h1
 obtain ⟨p,hp,hq⟩:=List.countP_pos_iff.mp h2
 simp only [QAv,QZg] at hq;exact ⟨p.1,ZbR h.ok.nd (by rw [<- hq.2]; exact hp)⟩
structure OkRow (n:Nat) (A:LI) (r:List Int):Prop where
 len:r.length=n
 nd:r.Nodup
 at_:∀ c,c<n->r.getD c 0∈Jx n A c
theorem Zgx {n:Nat} {R:LI} (ok:OkRows n R) (hlt:R.length<n):∃ r,OkRow n R r:=by
 have hU:∀ l∈ZaE n R,∀ x∈l,x∈ZW n:=fun l hl x hx=>by
  obtain ⟨c,_,rfl⟩:=QZd.mp hl;exact (QZo.mp hx).1
 have g:=ZeW (L:=ZaE n R) (U:=ZW n) hU (k:=n+1) (by rw [Yi]; exact O478 ) (ZaE n R).length 0 [] (by exact O477 ) (ZjL _);generalize Jt (ZaE n R) (n+1) (List.range' 0 (ZaE n R).length) []=z at g;obtain ⟨o,hs⟩:=z
 cases o with
 | some p=>exact (Zjt ok hlt (g.2 p.1 p.2 rfl)).elim
 | none =>
  have hd:=g.1 rfl;rw [ZdP] at hd
  let pick:Nat->Int:=fun v=>if h:v<n then Classical.choose (hd.has h) else 0
  have hp:∀ v,v<n->look hs (pick v)=some v:=fun v hv=>by
   show look hs (if h:v<n then Classical.choose (hd.has h) else 0)=some v;rw [dif_pos hv];exact Classical.choose_spec (hd.has hv)
  refine ⟨(List.range n).map pick,by rw [QAa,QAq],?_,fun c hc=>?_⟩
  ·refine QZk.mpr (QZm.mpr ?_);refine List.Pairwise.imp_of_mem ?_ (QZk.mp QCg);intro a b ha hb hne e;have h1:=hp a (QZe.mp ha);rw [e,hp b (QZe.mp hb)] at h1;exact hne (QZl h1).symm
  ·have e:((List.range n).map pick).getD c 0=pick c:=by
    rw [QAd,QAe,QBi hc]
    rfl
   rw [e];have h2:=(hd.ok.ed _ (ZcM (hp c hc))).2;rw [ZdQ hc] at h2;exact h2
theorem OkRow.more {n:Nat} {R:LI} {r:List Int} (h:OkRow n R r) (ok:OkRows n R) (hlt:R.length<n):OkRows n (R++[r]):=ok.more hlt h.len h.nd h.at_
noncomputable def ZS (n:Nat) (A:LI) (row:List Int):List Int:=(ZW n).filter fun t=>decide (t∉row)&&decide (t∉Yh A row.length)
structure PRow (n:Nat) (A:LI) (row:List Int):Prop where
 len:row.length<=n
 nd:row.Nodup
 at_:∀ c,c<row.length->row.getD c 0∈Jx n A c
theorem PRow.nil (n:Nat) (A:LI):PRow n A []:=⟨QAg _,QBg,fun c h=>absurd h (QCc _)⟩
theorem PRow.full {n:Nat} {A:LI} {row:List Int} (p:PRow n A row) (h:row.length=n):OkRow n A row:=⟨h,p.nd,fun c hc=>p.at_ c (by exact Om.a1 ‹_› ‹_›)⟩
theorem PRow.next {n:Nat} {A:LI} {row:List Int} (p:PRow n A row) (h:row.length<n) {t:Int} (ht:t∈ZS n A row):PRow n A (row++[t]):=by
 obtain ⟨h1,h2⟩:=QZo.mp ht
 simp only [QAv,QZg] at h2;refine ⟨by rw [QAo]; exact h,List.nodup_append.mpr ⟨p.nd,by simp,fun a ha b hb=>by
  rw [QCy] at hb;rintro rfl;exact h2.1 (hb ▸ ha)⟩,fun c hc=>?_⟩
 rw [QAo] at hc;have hc':c<row.length+1:=hc
 by_cases e:c<row.length
 ·have:=p.at_ c e;rw [QAd,QCr e,<- QAd];exact this
 ·have ec:c=row.length:=by exact O413 hc' e
  subst ec;rw [QAd,QCw (QAc _),Nat.sub_self];exact QZo.mpr ⟨h1,QZh h2.2⟩
theorem ZkR {n:Nat} {A:LI} {row r:List Int} (h:row.length<n) (o:OkRow n A r) (hp:row <+: r):∃ t∈ZS n A row,row++[t] <+: r:=by
 obtain ⟨tl,rfl⟩:=hp;have hl:=o.len;rw [QAo] at hl
 cases tl with
 | nil=>simp at hl; exact (O40 h hl).elim
 | cons t tl =>
  refine ⟨t,?_,⟨tl,by simp⟩⟩;have h1:=o.at_ row.length (by assumption);rw [QAd,QCw (QAc _),Nat.sub_self] at h1;obtain ⟨h2,h3⟩:=QZo.mp h1;refine QZo.mpr ⟨h2,?_⟩;have h4:=List.nodup_append.mp o.nd
  simp only [QAv];exact ⟨QZh fun z=>h4.2.2 t z t QAj rfl,h3⟩
structure One (n:Nat) (s:Nat->Nat):Prop where
 lt:∀ c,c<n->s c<n
 inj:∀ c d,c<n->d<n->s c=s d->c=d
noncomputable def Z6 (acc:List Nat):Nat:=acc.getLast?.getD 0
theorem Y7 (acc:List Nat) (x:Nat):Z6 (acc++[x])=x:=by simp [Z6]
inductive Path (n:Nat) (s:Nat->Nat) (c:Nat):List Nat->Prop
 | one:c<n->Path n s c [c]
 | more {acc:List Nat}:Path n s c acc->s (Z6 acc)∉acc->Path n s c (acc++[s (Z6 acc)])
theorem Path.lt {n:Nat} {s:Nat->Nat} {c:Nat} (o:One n s) {acc:List Nat} (p:Path n s c acc):∀ x∈acc,x<n:=by
 induction p with
 | one h=>intro x hx; rw [QZc.mp hx]; exact h
 | @more acc p _ ih =>
  have hl:Z6 acc<n:=by
   cases p with
   | one h=>exact h
   | @more acc' p' _=>rw [Y7]; exact ih _ (by simp)
  intro x hx
  rcases QZf.mp hx with hx | hx
  ·exact ih x hx
  ·rw [QZc.mp hx];exact o.lt _ hl
theorem Path.last_mem {n:Nat} {s:Nat->Nat} {c:Nat} {acc:List Nat} (p:Path n s c acc):Z6 acc∈acc:=by
 cases p with
 | one _=>exact QZc.mpr rfl
 | more _ _=>rw [Y7]; simp
theorem Path.nodup {n:Nat} {s:Nat->Nat} {c:Nat} {acc:List Nat} (p:Path n s c acc):acc.Nodup:=by
 induction p with
 | one _=>simp
 | more p h ih=>exact List.nodup_append.mpr ⟨ih,by simp,fun a ha b hb e=>h (by rw [<- QZc.mp hb,<- e]; exact ha)⟩
theorem Path.head_mem {n:Nat} {s:Nat->Nat} {c:Nat} {acc:List Nat} (p:Path n s c acc):c∈acc:=by
 induction p with
 | one _=>exact QZc.mpr rfl
 | more _ _ ih=>exact QBe _ ih
theorem Path.pred {n:Nat} {s:Nat->Nat} {c:Nat} {acc:List Nat} (p:Path n s c acc):∀ x∈acc,x≠c->∃ y∈acc,y≠Z6 acc/\s y=x:=by
 induction p with
 | one _=>intro x hx hne; exact absurd (QZc.mp hx) hne
 | @more acc p h ih =>
  intro x hx hne;rw [Y7]
  rcases QZf.mp hx with hx | hx
  ·obtain ⟨y,hy,_,e⟩:=ih x hx hne;exact ⟨y,QBe _ hy,fun z=>h (z ▸ hy),e⟩
  ·exact ⟨Z6 acc,QBe _ p.last_mem,fun z=>h (z ▸ p.last_mem),(QZc.mp hx).symm⟩
theorem Path.back {n:Nat} {s:Nat->Nat} {c:Nat} (o:One n s) {acc:List Nat} (p:Path n s c acc) (h:s (Z6 acc)∈acc):s (Z6 acc)=c:=by
 by_cases e:s (Z6 acc)=c
 ·exact e
 ·obtain ⟨y,hy,hne,hs⟩:=p.pred _ h e;exact absurd (o.inj _ _ (p.lt o _ hy) (p.lt o _ p.last_mem) hs) hne
theorem Zay {l:List Nat} {n:Nat} (nd:l.Nodup) (h:∀ x∈l,x<n):l.length<=n:=by
 have nd':(l.map fun (c:Nat)=>(c:Int)).Nodup:=QZk.mpr (QZm.mpr ((QZk.mp nd).imp fun h e=>h (by exact Om.e1 ‹_›)));have:=ZcQ nd' (S:=ZW n) fun x hx=>by
  obtain ⟨c,hc,rfl⟩:=QZd.mp hx;have:=h c hc;exact mem_rngI.mpr ⟨by exact Om.c6,by exact Om.c5 ‹_›⟩
 rwa [QAa,Yi] at this
noncomputable def J3 (s:Nat->Nat) (c:Nat):Nat->List Nat->List Nat
 | 0,acc=>acc
 | m+1,acc=>if s (Z6 acc)=c then acc else J3 s c m (acc++[s (Z6 acc)])
noncomputable def Yp (s:Nat->Nat) (n c:Nat):List Nat:=J3 s c n [c]
theorem Path.next {n:Nat} {s:Nat->Nat} {c:Nat} (o:One n s) {acc:List Nat} (p:Path n s c acc) (h:s (Z6 acc)≠c):Path n s c (acc++[s (Z6 acc)])/\acc.length<n:=by
 have p':Path n s c (acc++[s (Z6 acc)]):=.more p fun z=>h (p.back o z)
 refine ⟨p',?_⟩;have:=Zay p'.nodup (p'.lt o);rw [QAo] at this;exact this
theorem Ze6 {n:Nat} {s:Nat->Nat} {c:Nat} (o:One n s):∀ (m:Nat) (acc:List Nat),Path n s c acc->n<m+acc.length+1->Path n s c (J3 s c m acc)/\s (Z6 (J3 s c m acc))=c
 | 0,acc,p,h=>by
  refine ⟨p,?_⟩
  by_cases e:s (Z6 acc)=c
  ·exact e
  ·have:=(p.next o e).2;exact (O476 h this).elim
 | m+1,acc,p,h=>by
  rw [J3]
  by_cases e:s (Z6 acc)=c
  ·rw [if_pos e];exact ⟨p,e⟩
  ·rw [if_neg e];exact Ze6 o m _ (p.next o e).1 (by rw [QAo]; show n<m+(acc.length+1)+1; exact O475 h)
theorem JZ {n:Nat} {s:Nat->Nat} {c:Nat} (o:One n s) (hc:c<n):Path n s c (Yp s n c)/\s (Z6 (Yp s n c))=c:=Ze6 o n [c] (.one hc) (by simp; exact O474 )
theorem Ze5 {n:Nat} {s:Nat->Nat} {c:Nat} (o:One n s) (hc:c<n) {x:Nat} (hx:x∈Yp s n c):s x∈Yp s n c/\∃ y∈Yp s n c,s y=x:=by
 obtain ⟨p,e⟩:=JZ o hc
 constructor
 ·generalize Yp s n c=acc at p e hx;have go:∀ {acc:List Nat},Path n s c acc->∀ x∈acc,x=Z6 acc\/s x∈acc:=by
   intro acc p
   induction p with
   | one _=>intro x hx; exact .inl (QZc.mp hx)
   | @more acc p h ih =>
    intro x hx;rw [Y7]
    rcases QZf.mp hx with hx | hx
    ·rcases ih x hx with z | z
     ·exact .inr (by rw [z]; simp)
     ·exact .inr (QBe _ z)
    ·exact .inl (QZc.mp hx)
  rcases go p x hx with z | z
  ·rw [z,e];exact p.head_mem
  ·exact z
 ·by_cases h:x=c
  ·exact ⟨_,p.last_mem,e.trans h.symm⟩
  ·obtain ⟨y,hy,_,hs⟩:=p.pred x hx h;exact ⟨y,hy,hs⟩
noncomputable def Zz (s:Nat->Nat) (n:Nat):Nat->List (List Nat)
 | 0=>[]
 | i+1=>if (Zz s n i).all (fun r=>decide (i∉r))=true then Zz s n i++[Yp s n i] else Zz s n i
structure Cyc (s:Nat->Nat) (c:List Nat):Prop where
 pos:0<c.length
 nd:c.Nodup
 nx:∀ i,i<c.length->s (c.getD i 0)=c.getD ((i+1) % c.length) 0
noncomputable def rot (c:List Nat) (k:Nat):List Nat:=c.drop k++c.take k
theorem gDN {c:List Nat} {i:Nat} (h:i<c.length):c.getD i 0=c[i]:=by rw [QAd,QAb h]; rfl
theorem YQ (c:List Nat) (k:Nat):(rot c k).length=c.length:=by
 unfold rot;rw [QAo,QBn,QAt];exact O473
theorem Zct {c:List Nat} {k i:Nat} (hk:k<c.length) (hi:i<c.length):(rot c k).getD i 0=c.getD ((k+i) % c.length) 0:=by
 unfold rot;rw [QAd,QAd]
 congr 1
 by_cases h:k+i<c.length
 ·rw [QCr (by rw [QBn]; exact O472 hk h),List.getElem?_drop,QCo h]
 ·rw [QCw (by rw [QBn]; exact O471 hk h),QBn,List.getElem?_take_of_lt (by exact O470 hk hi h)]
  congr 1
  rw [Nat.mod_eq_sub_mod (by exact O469 h),QCo (by exact O468 hk hi h)];exact O467 hk h
theorem rot_mem {c:List Nat} {k x:Nat}:x∈rot c k↔x∈c:=by
 unfold rot;rw [QCn,or_comm,<- QCn,QCp]
theorem Zma {c:List Nat} {k:Nat} (h:c.Nodup):(rot c k).Nodup:=by
 have p:(rot c k).Perm c:=by
  unfold rot;refine List.perm_append_comm.trans ?_;rw [QCp]
 exact p.nodup_iff.mpr h
theorem Cyc.rot {s:Nat->Nat} {c:List Nat} (h:Cyc s c) {k:Nat} (hk:k<c.length):Cyc s (rot c k):=by
 refine ⟨by rw [YQ]; exact h.pos,Zma h.nd,fun i hi=>?_⟩;rw [YQ] at hi ⊢;rw [Zct hk hi,Zct hk (Nat.mod_lt _ h.pos),h.nx _ (Nat.mod_lt _ h.pos),Nat.mod_add_mod,Nat.add_mod_mod,Nat.add_assoc]
theorem Zjv {c:List Nat} (h:c.Nodup) {i j:Nat} (hi:i<c.length) (hj:j<c.length) (e:c.getD i 0=c.getD j 0):i=j:=by
 rw [gDN hi,gDN hj] at e;exact (List.getElem_inj h).mp e
theorem Zjy {k m L:Nat} (hk:k<L) (h:(k+m) % L=k):m % L=0:=by
 have:(k+m) % L=k % L:=by rw [h,QCo hk]
 have:=Nat.sub_mod_eq_zero_of_mod_eq this
 rwa [Nat.add_sub_cancel_left] at this
theorem ZfE {s:Nat->Nat} {c d:List Nat} (hc:Cyc s c) (hd:Cyc s d) {k:Nat} (hk:k<d.length) (e:c.getD 0 0=d.getD k 0):c=rot d k:=by
 have all:∀ i,c.getD (i % c.length) 0=d.getD ((k+i) % d.length) 0:=by
  intro i
  induction i with
  | zero=>rw [Nat.zero_mod,Nat.add_zero,QCo hk]; exact e
  | succ i ih =>
   have h1:=hc.nx (i % c.length) (Nat.mod_lt _ hc.pos);have h2:=hd.nx ((k+i) % d.length) (Nat.mod_lt _ hd.pos);rw [ih,h2,Nat.mod_add_mod,Nat.mod_add_mod] at h1;rw [<- h1]
   rfl
 have l1:c.length % d.length=0:=by
  have h:=all c.length;rw [Nat.mod_self,e] at h;exact Zjy hk (Zjv hd.nd hk (Nat.mod_lt _ hd.pos) h).symm
 have l2:d.length % c.length=0:=by
  have h:=all d.length;rw [Nat.add_mod_right,QCo hk,<- e] at h;exact Zjv hc.nd (Nat.mod_lt _ hc.pos) hc.pos h
 have hl:c.length=d.length:=Nat.dvd_antisymm (Nat.dvd_of_mod_eq_zero l2) (Nat.dvd_of_mod_eq_zero l1);refine QBs (by rw [YQ,hl]) fun i h1 h2=>?_;have h:=all i;rw [QCo h1,gDN h1] at h;rw [h,<- Zct hk (by exact O432 hl h1),gDN h2]
structure Cov (s:Nat->Nat) (C:List (List Nat)) (U:Nat->Prop):Prop where
 cy:∀ c∈C,Cyc s c
 dj:C.Pairwise fun c d=>∀ x∈c,x∉d
 all:∀ x,U x↔∃ c∈C,x∈c
theorem YC {α:Type} {C:List α} {i:Nat} (h:i<C.length) {x:α}:x∈C↔x=C[i]\/x∈C.eraseIdx i:=by
 rw [QCz]
 conv=>lhs; rw [<- QCp i C,QBk h]
 simp only [QCn,QBr]
 constructor
 ·rintro (a | a | a)
  ·exact .inr (.inl a)
  ·exact .inl a
  ·exact .inr (.inr a)
 ·rintro (a | a | a)
  ·exact .inr (.inl a)
  ·exact .inl a
  ·exact .inr (.inr a)
theorem ZcZ {α:Type} {C:List α} {i:Nat} (h:i<C.length):(C[i]::C.eraseIdx i).Perm C:=by
 rw [QCz]
 conv=>rhs; rw [<- QCp i C,QBk h]
 exact List.perm_middle.symm
theorem Zmd {C D:List (List Nat)} (p:C.Perm D) (h:C.Pairwise fun c d=>∀ x∈c,x∉d):D.Pairwise fun c d=>∀ x∈c,x∉d :=
 (p.pairwise_iff fun {a b} q x hx hb=>q x hb hx).mp h
theorem Cov.erase {s:Nat->Nat} {C:List (List Nat)} {U:Nat->Prop} (v:Cov s C U) {i:Nat} (h:i<C.length) {c:List Nat} (hc:∀ x,x∈c↔x∈C[i]):Cov s (C.eraseIdx i) (fun x=>U x/\x∉c):=by
 have dj:=Zmd (ZcZ h).symm v.dj;rw [List.pairwise_cons] at dj;refine ⟨fun d hd=>v.cy d ((YC h).mpr (.inr hd)),dj.2,fun x=>?_⟩;rw [v.all x]
 constructor
 ·rintro ⟨⟨d,hd,hx⟩,hn⟩
  rcases (YC h).mp hd with rfl | hd
  ·exact absurd ((hc x).mpr hx) hn
  ·exact ⟨d,hd,hx⟩
 ·rintro ⟨d,hd,hx⟩;exact ⟨⟨d,(YC h).mpr (.inr hd),hx⟩,fun z=>dj.1 d hd x ((hc x).mp z) hx⟩
theorem Cov.find {s:Nat->Nat} {C:List (List Nat)} {U:Nat->Prop} (v:Cov s C U) {d:List Nat} (hd:Cyc s d) (hU:∀ x∈d,U x):∃ (i:Nat) (h:i<C.length) (k:Nat),k<C[i].length/\d=rot C[i] k:=by
 have h0:d.getD 0 0∈d:=by rw [gDN hd.pos]; exact QAs _
 obtain ⟨c,hc,hx⟩:=(v.all _).mp (hU _ h0);obtain ⟨i,hi,rfl⟩:=QBd hc;obtain ⟨k,hk,e⟩:=QBd hx;exact ⟨i,hi,k,hk,ZfE hd (v.cy _ hc) hk (by rw [gDN hk,e])⟩
inductive Alg (s:Nat->Nat):(Nat->Prop)->List Nat->List Nat->Prop
 | nil {U:Nat->Prop}:(∀ x,¬ U x)->Alg s U [] []
 | step {U:Nat->Prop} {c w ls:List Nat}:Cyc s c->(∀ x∈c,U x)->(∀ d,Cyc s d->(∀ x∈d,U x)->c.length<=d.length)->Alg s (fun x=>U x/\x∉c) w ls->Alg s U (c++w) (c.length::ls)
theorem Alg.congr {s:Nat->Nat} {U V:Nat->Prop} {w ls:List Nat} (h:∀ x,U x↔V x) (a:Alg s U w ls):Alg s V w ls:=by
 have:U=V:=funext fun x=>propext (h x)
 exact this ▸ a
theorem Zdc {s:Nat->Nat} {U:Nat->Prop} {w ls:List Nat} (a:Alg s U w ls):∀ {C:List (List Nat)},Cov s C U->ls.Perm (C.map List.length)/\ls.Pairwise (· <= ·):=by
 induction a with
 | nil h =>
  intro C v
  cases C with
  | nil=>exact ⟨.nil,.nil⟩
  | cons c C =>
   have:=(v.cy c QAj).pos;exact absurd ((v.all (c.getD 0 0)).mpr ⟨c,QAj,by rw [gDN this]; exact QAs _⟩) (h _)
 | @step U c w ls hc hU hm _ ih =>
  intro C v;obtain ⟨i,hi,k,hk,e⟩:=v.find hc hU;have hl:c.length=C[i].length:=by rw [e,YQ]
  obtain ⟨p,pw⟩:=ih (v.erase hi (c:=c) fun x=>by rw [e]; exact rot_mem)
  constructor
  ·refine ((p.cons c.length).trans ?_);rw [hl];exact (ZcZ hi).map List.length
  ·refine List.pairwise_cons.mpr ⟨fun m hm'=>?_,pw⟩;obtain ⟨d,hd,rfl⟩:=QZd.mp (p.mem_iff.mp hm');have hd':=(YC hi).mpr (.inr hd);exact hm d (v.cy d hd') fun x hx=>(v.all x).mpr ⟨d,hd',hx⟩
def ZgQ (C:List (List Nat)) (m:Nat):Prop:=(∃ c∈C,c.length=m)/\∀ c∈C,m<=c.length
noncomputable def mnl (C:List (List Nat)):Nat:=(C.map List.length).foldl Nat.min (C.headD []).length
noncomputable def Zo:Nat->List (List Nat)->List (List Nat)
 | _,[]=>[[]]
 | 0,_::_=>[]
 | f+1,c::C=>(List.range (c::C).length).flatMap fun i=>if ((c::C).getD i []).length=mnl (c::C) then (List.range (mnl (c::C))).flatMap fun st=>(Zo f ((c::C).take i++(c::C).drop (i+1))).map fun w=>rot ((c::C).getD i []) st++w else []
theorem Zfy:∀ (l:List Nat) (a:Nat),(l.foldl Nat.min a=a\/l.foldl Nat.min a∈l)/\l.foldl Nat.min a<=a/\∀ x∈l,l.foldl Nat.min a<=x
 | [],a=>⟨.inl rfl,QAc _,fun x h=>by cases h⟩
 | y::l,a=>by
  obtain ⟨h1,h2,h3⟩:=Zfy l (Nat.min a y);rw [List.foldl_cons];have ha:Nat.min a y<=a:=Nat.min_le_left _ _;have hy:Nat.min a y<=y:=Nat.min_le_right _ _;refine ⟨?_,QAr h2 ha,fun x hx=>?_⟩
  ·rcases h1 with h1 | h1
   ·by_cases q:a<=y
    ·exact .inl (by rw [h1]; exact Nat.min_eq_left q)
    ·exact .inr (by rw [h1]; exact QZn.mpr (.inl (Nat.min_eq_right (by exact O466 q))))
   ·exact .inr (QAp _ h1)
  ·rcases QZn.mp hx with rfl | hx
   ·exact QAr h2 hy
   ·exact h3 x hx
theorem Zaz (c:List Nat) (C:List (List Nat)):ZgQ (c::C) (mnl (c::C)):=by
 obtain ⟨h1,h2,h3⟩:=Zfy ((c::C).map List.length) c.length;refine ⟨?_,fun d hd=>h3 _ (QZd.mpr ⟨d,hd,rfl⟩)⟩
 rcases h1 with h1 | h1
 ·exact ⟨c,QAj,h1.symm⟩
 ·obtain ⟨d,hd,e⟩:=QZd.mp h1;exact ⟨d,hd,e⟩
theorem gDL {C:List (List Nat)} {i:Nat} (h:i<C.length):C.getD i []=C[i]:=by rw [QAd,QAb h]; rfl
theorem Y1 (f:Nat) (c:List Nat) (C:List (List Nat)):Zo (f+1) (c::C)=(List.range (c::C).length).flatMap fun i=>if ((c::C).getD i []).length=mnl (c::C) then (List.range (mnl (c::C))).flatMap fun st=>(Zo f ((c::C).take i++(c::C).drop (i+1))).map fun w=>rot ((c::C).getD i []) st++w else []:=rfl
theorem Cyc.head {s:Nat->Nat} {c:List Nat} (h:Cyc s c):c.getD 0 0∈c:=by rw [gDN h.pos]; exact QAs _
theorem mem_walks {f:Nat} {c:List Nat} {C:List (List Nat)} {w:List Nat}:w∈Zo (f+1) (c::C)↔∃ (i:Nat) (h:i<(c::C).length) (st:Nat) (w':List Nat),(c::C)[i].length=mnl (c::C)/\st<(c::C)[i].length/\w'∈Zo f ((c::C).eraseIdx i)/\w=rot (c::C)[i] st++w':=by
 rw [Y1,QZp]
 constructor
 ·rintro ⟨i,hi,h⟩;have hi':=QZe.mp hi;rw [gDL hi'] at h
  by_cases q:(c::C)[i].length=mnl (c::C)
  ·rw [if_pos q] at h;obtain ⟨st,hst,h⟩:=QZp.mp h;obtain ⟨w',hw,rfl⟩:=QZd.mp h;exact ⟨i,hi',st,w',q,by rw [q]; exact QZe.mp hst,by rw [QCz]; exact hw,rfl⟩
  ·rw [if_neg q] at h
   cases h
 ·rintro ⟨i,hi,st,w',q,hst,hw,rfl⟩;refine ⟨i,QZe.mpr hi,?_⟩;rw [gDL hi,if_pos q];refine QZp.mpr ⟨st,QZe.mpr (by rw [<- q]; exact hst),QZd.mpr ⟨w',?_,rfl⟩⟩;rw [<- QCz];exact hw
theorem YL {s:Nat->Nat}:∀ {f:Nat} {C:List (List Nat)} {U:Nat->Prop} {w:List Nat},Cov s C U->C.length<=f->(w∈Zo f C↔∃ ls,Alg s U w ls)
 | f,[],U,w,v,_=>by
  have hU:∀ x,¬ U x:=fun x h=>by
   obtain ⟨c,hc,_⟩:=(v.all x).mp h
   cases hc
  have e:Zo f []=[[]]:=by cases f <;> rfl
  rw [e,QCy]
  constructor
  ·rintro rfl;exact ⟨[],.nil hU⟩
  ·rintro ⟨ls,a⟩
   cases a with
   | nil=>rfl
   | step hc hc2 _ _=>exact absurd (hc2 _ hc.head) (hU _)
 | 0,_::_,_,_,_,h=>by simp at h
 | f+1,c::C,U,w,v,hf=>by
  have lst:=Zaz c C;rw [mem_walks]
  constructor
  ·rintro ⟨i,hi,st,w',q,hst,hw,rfl⟩;have hcy:=(v.cy _ (QAs hi)).rot hst;have v':=v.erase hi (c:=rot (c::C)[i] st) fun x=>rot_mem
   obtain ⟨ls,a⟩:=(YL v' (by rw [List.length_eraseIdx_of_lt hi]; simp at hf ⊢; assumption)).mp hw;refine ⟨_,.step hcy (fun x hx=>(v.all x).mpr ⟨_,QAs hi,rot_mem.mp hx⟩) (fun d hd hdU=>?_) a⟩;obtain ⟨j,hj,k,hk,e⟩:=v.find hd hdU;rw [YQ,q,e,YQ];exact lst.2 _ (QAs hj)
  ·rintro ⟨ls,a⟩
   cases a with
   | nil h=>exact absurd ((v.all _).mpr ⟨c,QAj,(v.cy c QAj).head⟩) (h _)
   | @step _ d w' ls hd hdU hm a =>
    obtain ⟨i,hi,k,hk,rfl⟩:=v.find hd hdU;have v':=v.erase hi (c:=rot (c::C)[i] k) fun x=>rot_mem
    refine ⟨i,hi,k,w',?_,hk,(YL v' (by rw [List.length_eraseIdx_of_lt hi]; simp at hf ⊢; assumption)).mpr ⟨ls,a⟩,rfl⟩;obtain ⟨⟨d',hd',e⟩,h2⟩:=lst;have h3:=hm d' (v.cy d' hd') fun x hx=>(v.all x).mpr ⟨d',hd',hx⟩
    rw [YQ,e] at h3;exact Nat.le_antisymm h3 (h2 _ (QAs hi))
termination_by f=>f
theorem Zbn {s:Nat->Nat}:∀ {f:Nat} {C:List (List Nat)},(∀ c∈C,0<c.length)->C.length<=f->∃ w,w∈Zo f C
 | f,[],_,_=>⟨[],by cases f <;> simp [Zo]⟩
 | 0,_::_,_,h=>by simp at h
 | f+1,c::C,hp,hf=>by
  obtain ⟨⟨d,hd,e⟩,_⟩:=Zaz c C;obtain ⟨i,hi,rfl⟩:=QBd hd;obtain ⟨w,hw⟩:=Zbn (s:=s) (f:=f) (C:=(c::C).eraseIdx i) (fun x hx=>hp x ((YC hi).mpr (.inr hx))) (by rw [List.length_eraseIdx_of_lt hi]; simp at hf ⊢; assumption);exact ⟨_,mem_walks.mpr ⟨i,hi,0,w,e,hp _ hd,hw,rfl⟩⟩
section
variable {n:Nat} {s s' θ θi:Nat->Nat}
structure Conj (n:Nat) (s s' θ θi:Nat->Nat):Prop where
 a:∀ x,θi (θ x)=x
 b:∀ x,θ (θi x)=x
 lt:∀ x,x<n->θ x<n
 lti:∀ x,x<n->θi x<n
 go:∀ x,x<n->s' (θ x)=θ (s x)
 sl:∀ x,x<n->s x<n
theorem Conj.sym (h:Conj n s s' θ θi):Conj n s' s θi θ:=by
 refine ⟨h.b,h.a,h.lti,h.lt,fun x hx=>?_,fun x hx=>?_⟩
 ·have:=h.go (θi x) (h.lti x hx);rw [h.b] at this;rw [this,h.a]
 ·have:=h.go (θi x) (h.lti x hx);rw [h.b] at this;rw [this];exact h.lt _ (h.sl _ (h.lti x hx))
theorem Conj.inj (h:Conj n s s' θ θi) {x y:Nat} (e:θ x=θ y):x=y:=by rw [<- h.a x,<- h.a y,e]
theorem ZjC {c:List Nat} {θ:Nat->Nat} {i:Nat} (h:i<c.length):(c.map θ).getD i 0=θ (c.getD i 0):=by
 rw [gDN (by rw [QAa]; exact h),gDN h,QBu]
theorem Conj.cyc (h:Conj n s s' θ θi) {c:List Nat} (hc:Cyc s c) (hn:∀ x∈c,x<n):Cyc s' (c.map θ):=by
 refine ⟨by rw [QAa]; exact hc.pos,?_,fun i hi=>?_⟩
 ·refine QZk.mpr (QZm.mpr ((QZk.mp hc.nd).imp fun q e=>q (h.inj e)))
 ·rw [QAa] at hi ⊢;have hm:c.getD i 0∈c:=by rw [gDN hi]; exact QAs _
  rw [ZjC hi,ZjC (Nat.mod_lt _ hc.pos),h.go _ (hn _ hm),hc.nx i hi]
theorem Conj.alg (h:Conj n s s' θ θi) {U:Nat->Prop} {w ls:List Nat} (a:Alg s U w ls):(∀ x,U x->x<n)->Alg s' (fun y=>U (θi y)) (w.map θ) ls:=by
 induction a with
 | nil hU=>intro _; exact .nil fun x=>hU _
 | @step U c w ls hc hU hm _ ih =>
  intro hn;rw [QAm];have e:c.length=(c.map θ).length:=(QAa _).symm;rw [e];refine .step (h.cyc hc fun x hx=>hn x (hU x hx)) (fun x hx=>?_) (fun d hd hdU=>?_) (Alg.congr (fun y=>?_) (ih fun x hx=>hn x hx.1))
  ·obtain ⟨z,hz,rfl⟩:=QZd.mp hx;show U (θi (θ z));rw [h.a];exact hU z hz
  ·have h2:=hm (d.map θi) (h.sym.cyc hd fun x hx=>by have:=h.lt _ (hn _ (hdU x hx)); rw [h.b] at this; exact this) fun x hx=>by
    obtain ⟨z,hz,rfl⟩:=QZd.mp hx;exact hdU z hz
   rw [QAa] at h2 ⊢;exact h2
  ·show U (θi y)/\θi y∉c↔U (θi y)/\y∉c.map θ;refine and_congr_right fun _=>not_congr ⟨fun z=>QZd.mpr ⟨_,z,h.b y⟩,fun z=>?_⟩
   obtain ⟨x,hx,rfl⟩:=QZd.mp z;rw [h.a];exact hx
theorem Zg2 (h:Conj n s s' θ θi) {C C':List (List Nat)} (v:Cov s C (· < n)) (v':Cov s' C' (· < n)) {f f':Nat} (hf:C.length<=f) (hf':C'.length<=f') {w:List Nat} (hw:w∈Zo f C):w.map θ∈Zo f' C':=by
 obtain ⟨ls,a⟩:=(YL v hf).mp hw;refine (YL v' hf').mpr ⟨ls,Alg.congr (fun x=>?_) (h.alg a fun x hx=>hx)⟩;exact ⟨fun z=>by have:=h.lt _ z; rw [h.b] at this; exact this,fun z=>h.lti _ z⟩
theorem Ziy (h:Conj n s s' θ θi) {C C':List (List Nat)} (v:Cov s C (· < n)) (v':Cov s' C' (· < n)):∃ ls:List Nat,ls.Perm (C.map List.length)/\ls.Perm (C'.map List.length)/\ls.Pairwise (· <= ·):=by
 obtain ⟨w,hw⟩:=Zbn (s:=s) (f:=C.length) (C:=C) (fun c hc=>(v.cy c hc).pos) (QAc _);obtain ⟨ls,a⟩:=(YL v (QAc _)).mp hw;obtain ⟨p,pw⟩:=Zdc a v;have a':Alg s' (· < n) (w.map θ) ls:=Alg.congr (fun x=>⟨fun z=>by have:=h.lt _ z; rw [h.b] at this; exact this,fun z=>h.lti _ z⟩) (h.alg a fun x hx=>hx);exact ⟨ls,p,(Zdc a' v').1,pw⟩
end
section
variable {n:Nat} {s:Nat->Nat}
theorem ZkH {c:Nat} {acc:List Nat} (p:Path n s c acc):acc.getD 0 0=c/\0<acc.length/\Z6 acc=acc.getD (acc.length - 1) 0/\∀ i,i+1<acc.length->acc.getD (i+1) 0=s (acc.getD i 0):=by
 induction p with
 | one h=>exact ⟨rfl,by simp,rfl,fun i hi=>by simp at hi⟩
 | @more acc p _ ih =>
  obtain ⟨h1,h2,h3,h4⟩:=ih;have ap:∀ i,i<acc.length->(acc++[s (Z6 acc)]).getD i 0=acc.getD i 0:=fun i hi=>by
   rw [QAd,QCr hi,<- QAd]
  have ae:(acc++[s (Z6 acc)]).getD acc.length 0=s (Z6 acc):=by
   rw [QAd,QCw (QAc _),Nat.sub_self]
   rfl
  refine ⟨by rw [ap 0 h2]; exact h1,by simp,?_,fun i hi=>?_⟩
  ·rw [Y7,QAo];exact ae.symm
  ·rw [QAo] at hi;have hi':i<acc.length:=by simp at hi; assumption
   rw [ap i hi']
   by_cases q:i+1<acc.length
   ·rw [ap (i+1) q];exact h4 i q
   ·have e:i+1=acc.length:=by exact O464 hi' q
    rw [e,ae,h3,show acc.length - 1=i by exact O465 h2 hi' q]
theorem Zcv (o:One n s) {c:Nat} (hc:c<n):Cyc s (Yp s n c):=by
 obtain ⟨p,e⟩:=JZ o hc;obtain ⟨h1,h2,h3,h4⟩:=ZkH p;refine ⟨h2,p.nodup,fun i hi=>?_⟩
 by_cases q:i+1<(Yp s n c).length
 ·rw [QCo q];exact (h4 i q).symm
 ·have e2:i+1=(Yp s n c).length:=by exact O464 hi q
  rw [e2,Nat.mod_self,h1,show i=(Yp s n c).length - 1 by exact O463 hi q,<- h3];exact e
theorem Zj2 {c d:List Nat} (hc:Cyc s c) (hd:Cyc s d) {x:Nat} (h1:x∈c) (h2:x∈d):∀ y,y∈c↔y∈d:=by
 obtain ⟨i,hi,e1⟩:=QBd h1;obtain ⟨j,hj,e2⟩:=QBd h2;have h:=ZfE (hc.rot hi) hd hj (by rw [Zct hi hc.pos,Nat.add_zero,QCo hi,gDN hi,gDN hj,e1,e2]);intro y;rw [<- rot_mem (c:=c) (k:=i),h,rot_mem]
theorem Zcu (o:One n s):∀ i,i<=n->(∀ r∈Zz s n i,∃ c,c<n/\r=Yp s n c)/\(Zz s n i).Pairwise (fun c d=>∀ x∈c,x∉d)/\∀ x,x<i->∃ r∈Zz s n i,x∈r
 | 0,_=>⟨fun r h=>(by cases h),List.Pairwise.nil,fun x h=>absurd h (QCc _)⟩
 | i+1,hi=>by
  obtain ⟨h1,h2,h3⟩:=Zcu o i (by exact Om.f4 ‹_›);rw [Zz]
  by_cases q:(Zz s n i).all (fun r=>decide (i∉r))=true
  ·rw [if_pos q];rw [QBh] at q;have cyI:=Zcv o (c:=i) (by exact Om.f5 ‹_›);have inI:i∈Yp s n i:=(JZ o (by exact Om.f5 ‹_›)).1.head_mem;refine ⟨fun r hr=>?_,List.pairwise_append.mpr ⟨h2,List.pairwise_singleton _ _,fun c hc d hd x hx hxd=>?_⟩,fun x hx=>?_⟩
   ·rcases QZf.mp hr with hr | hr
    ·exact h1 r hr
    ·exact ⟨i,by exact Om.f5 ‹_›,QZc.mp hr⟩
   ·rw [QZc.mp hd] at hxd;obtain ⟨k,hk,rfl⟩:=h1 c hc;have:=(Zj2 (Zcv o hk) cyI hx hxd i).mpr inI;exact QZj (q _ hc) this
   ·by_cases e:x<i
    ·obtain ⟨r,hr,hx⟩:=h3 x e;exact ⟨r,QBe _ hr,hx⟩
    ·have:x=i:=by exact O413 hx e
     subst this;exact ⟨_,QBf _ QAj,inI⟩
  ·rw [if_neg q];refine ⟨h1,h2,fun x hx=>?_⟩
   by_cases e:x<i
   ·exact h3 x e
   ·have:x=i:=by exact O413 hx e
    subst this;rw [QBh] at q
    by_cases z:∃ r∈Zz s n x,x∈r
    ·exact z
    ·exact absurd (fun (r:List Nat) hr=>QZh (p:=x∉r) fun h=>z ⟨r,hr,h⟩) q
theorem Yt (o:One n s):Cov s (Zz s n n) (· < n):=by
 obtain ⟨h1,h2,h3⟩:=Zcu o n (QAc _);refine ⟨fun c hc=>?_,h2,fun x=>⟨fun h=>h3 x h,fun ⟨c,hc,hx⟩=>?_⟩⟩
 ·obtain ⟨k,hk,rfl⟩:=h1 c hc;exact Zcv o hk
 ·obtain ⟨k,hk,rfl⟩:=h1 c hc;exact (JZ o hk).1.lt o x hx
end
end _M
namespace _L
open PySem PySem.Spec PyProof.Rows
noncomputable def ZlS (K:QZa) (t:Addr):It :=
  ⟨fun i H => ∃ xs x, SqL K H t xs/\xs[i]? = some x,
   fun i H v H' => ∃ p x, v = .ref p/\H p=none/\(∀ xs, SqL K H t xs->xs[i]? = some x)/\H'=upd H p (.tup [.int (i:Int), x]),
   fun i H => ∃ xs, SqL K H t xs/\xs.length<=i⟩
theorem Zgs {P:Program} {w:World} {K:QZa} {elts:List Expr} {x1} {tpos:Pos} {e it t:Addr} (hei:e≠it) (hti:t≠it) (hte:t≠e):Turn P w K (.Tuple elts x1 tpos) (ZlS K t) [e,it] e (fun i h=>(∃ old,IsEnum h e it (i:Int) old)/\h.IsListIter it t i) where
 mem:=by simp
 obj:=fun i h st b hb=>by
  simp only [QBr,QCb,or_false] at hb
  rcases hb with rfl | rfl
  ·obtain ⟨old,z⟩:=st.1;exact ⟨_,z,fun v q=>by cases q⟩
  ·obtain ⟨o,z,c,d⟩:=st.2;exact ⟨o,z,fun v q=>by rw [d] at q; cases q⟩
 keep:=fun i h h' st k=>⟨let ⟨old,z⟩:=st.1; ⟨old,k e (by simp) _ z⟩,Heap.IsListIter.at st.2 fun o z=>k it (by simp) o z⟩
 item:=by
  intro X hP hw hK hc i pins s σ H E I hf st hg;subst hP hw hK;obtain ⟨xs,x,hq,hx⟩:=hg;obtain ⟨its,rv,p,hz⟩:=I.list hq;obtain ⟨u,hu,ru⟩:=rv.get hx;obtain ⟨⟨old,he⟩,hit⟩:=st;have hu':its.toArray[i]? = some u:=by simpa using hu
  have hlt:i<its.toArray.size:=(Array.getElem?_eq_some_iff.mp hu').1;have hef:e∉[it,t]:=fun z=>by
   simp only [QBr,QCb,or_false] at z
   rcases z with z | z
   ·exact hei z
   ·exact hte z.symm
  refine wpAny_pyNext_enum_itemD (Draws.list (A:=X.A.in1) (I.ok.hd hc) it t hti its.toArray) he ⟨hit,p.isList⟩ hlt hei hef fun x' h' tk hP ho hs' hT hsz hk=>⟨_,rfl,?_⟩
  have ex:x'=u:=by rw [hu'] at hP; cases hP; rfl
  subst ex;refine wpAny_letOwnedTupleGo_enum (s:={ s with heap:=h',toks:=tk+1 }) ho fun h2 he2 sb=>?_;have hnone:H s.heap.objs.size=none:=I.hok.fresh (QAc _);have hfp:∀ c∈[e,it],c<s.heap.objs.size:=fun c hc=>by
   simp only [QBr,QCb,or_false] at hc
   rcases hc with rfl | rfl
   ·exact QAh he
   ·obtain ⟨o,z,_⟩:=hit; exact QAh z
  have I1:Inv X pins σ (upd H s.heap.objs.size (.tup [.int (i:Int),x])) { s with heap:=s.heap.push { cls:=.type "tuple",data:=.seq #[.int (i:Int) tk,x'] },toks:=tk+1 } :=
   I.laid (t':=tk+1) (fun b u e=>QAk _ e) (QAc _) ⟨(show 2<=sizeLine by decide),[.int (i:Int) tk,x'],.cons ⟨tk,rfl⟩ (.cons ru .nil),⟨_,QBa _ rfl,rfl,_,rfl⟩⟩
  have hkk:∀ c o,c∉[e,it]->(s.heap.push { cls:=.type "tuple",data:=.seq #[.int (i:Int) tk,x'] }).get? c=some o->h2.get? c=some o:=fun c o hc z=>by
   simp only [QBr,QCb,or_false,not_or] at hc;rw [sb.2 c hc.1]
   by_cases q:c=s.heap.objs.size
   ·subst q;rw [QBa _ rfl] at z
    cases z;exact hT
   ·rw [Heap.get?_push_ne _ _ _ q] at z;exact hk c o hc.1 hc.2 z
  have hf':∀ c∈[e,it],Zal X pins (upd H s.heap.objs.size (.tup [.int (i:Int),x])) c:=fun c hc=>by
   obtain ⟨f0,r⟩:=hf c hc;exact ⟨by rw [Ze (QAy (hfp c hc))]; exact f0,r⟩
  have I2:Inv X pins σ (upd H s.heap.objs.size (.tup [.int (i:Int),x])) { s with heap:=h2,toks:=tk+1 }:=I1.turnedL (t':=tk+1) hkk hf';refine ⟨.ref s.heap.objs.size,_,I2,rfl,⟨_,x,rfl,hnone,fun l h=>by rw [I.list_inj h hq]; exact hx,rfl⟩,?_,fun c hc=>(hf' c hc).1⟩;exact ⟨⟨_,he2⟩,Heap.IsListIter.at hs'.1 fun o z=>(sb.2 it (Ne.symm hei)).trans z⟩
 done:=by
  intro X hP hw hK hc i pins s σ H E I hf st hg;subst hP hw hK;obtain ⟨xs,hq,hend⟩:=hg;obtain ⟨its,rv,p,hz⟩:=I.list hq;obtain ⟨⟨old,he⟩,hit⟩:=st;have h1:=rv.length;refine wpAny_pyNext_enum_end (I.ok.hd hc) he hit p.isList (by simp; exact O462 hend h1) fun h' keep=>⟨rfl,I.turnedL (t':=s.toks) (fun c o hc z=>?_) hf⟩
  simp only [QBr,QCb,or_false,not_or] at hc;exact keep c o hc.2 z
 self:=fun _ _ _ _ _ st h=>let ⟨_,z⟩:=st.1; wpAny_pyIter_enum z h
def ZmH (K:QZa) (ta:TA):TI:=fun σ H R=>ta σ H fun vs H1=>∃ t xs,vs=[.ref t]/\SqL K H1 t xs/\R (ZlS K t) H1
theorem Zjc {X:Cx} {elts:List Expr} {x1} {tpos:Pos} {a:Expr} {ta:TA} {p pos:Pos} (K:QZa) (hg:Gl X "enumerate") (hm:X.mg "enumerate" = none) (ha:PA X [a] ta) (hK:X.K=K:=by rfl) (hs:starEach [a] X.env=[(false,eval a X.env)]:=by rfl) :
  PI X (.Tuple elts x1 tpos) (.Call (.Name "enumerate" p) [a] [] pos) (ZmH K ta):=by
 subst hK;intro pins s σ H R I h;refine Call_ (ZbH I hg hm boot_enumerate (PyProof.Rows.callWith_type1 (thn (ha pos pins s σ H _ I h) fun us s1 zz0=>?_) (by rw [hs]; rfl) (by rfl)));obtain ⟨vs,H1,I1,r1,q1⟩:=zz0;obtain ⟨t,xs,e,hq,q⟩:=q1;subst e
 cases r1 with
 | cons r rr =>
  cases rr
  cases r;obtain ⟨its,rv,p,hz⟩:=I1.list hq;have a1:t<s1.heap.objs.size:=by obtain ⟨_,e,_⟩:=p.isList; exact QAh e
  refine call_enumerate_list p.isList fun h' he hit _ hk=>wpAny_pyIter_enum (s:={ s1 with heap:=h' }) he ?_
  refine ⟨_,[s1.heap.objs.size+1,s1.heap.objs.size],_,_,H1,rfl,I1.kept (t':=s1.toks) hk,Zgs (Nat.succ_ne_self _) (QAy a1) (QAy (QDb a1)),⟨⟨_,he⟩,hit⟩,fun c hc=>?_,q⟩
  simp only [QBr,QCb,or_false] at hc;have hge:s1.heap.objs.size<=c:=by
   rcases hc with rfl | rfl
   ·exact Nat.le_add_right _ _
   ·exact QAc _
  exact I1.fpOk hge (I1.hok.fresh hge)
end _L
namespace _L
open PySem PySem.Spec PyProof.Rows PySem.W
noncomputable def ZcP:List Int->List Int->Bool
 | x::xs,y::ys=>if x=y then ZcP xs ys else decide (x<y)
 | _,_=>false
end _L
namespace _L
open PySem PySem.Spec PyProof.Rows PySem.W SeqAt
theorem Zgt (l b:Addr) (items items2:List Value) (n n2:Nat) (dd dd2:Option Addr) (sl sl2:Array (Option Value)) (xs ys:List Int) (hi:IntsAre items xs) (hi2:IntsAre items2 ys) (hlen:xs.length=ys.length) :
  Meets (Builtin.«tuple.__lt__» ⟨[.ref l,.ref b],[]⟩)
   (fun A R s=>s.heap.get? l=some { cls:=.type "tuple",dict:=dd,data:=.seq items.toArray n,slots:=sl }/\s.heap.get? b=some { cls:=.type "tuple",dict:=dd2,data:=.seq items2.toArray n2,slots:=sl2 } /\
    R (.ok (.ret (.bool (ZcP xs ys)))) s) :=
 .of_wp fun prog w A R s h=>by
  obtain ⟨hp,g,d,tk,os⟩:=s; obtain ⟨hl,hb,h⟩:=h;have f2:=AutoSeq1.sub_tuple_tuple;have hl1:=Yc hi;have hl2:=Yc hi2;have hZ:(items.zip items2).length=xs.length:=by simp; exact O461 hlen hl1 hl2
  wp_walk using wpAny_loadPart' hl,wpAny_loadPart' hb,wpAny_forIn_list _ (fun rest b s'=>b.1=none/\s'=⟨hp,g,d,tk,os⟩/\∃ i,rest=(items.zip items2).drop i /\
   R (.ok (.ret (.bool (ZcP (xs.drop i) (ys.drop i))))) ⟨hp,g,d,tk,os⟩) _
  case turn =>
   rintro ⟨y,x⟩ rest b s' ⟨hb',rfl,i,hz,hR⟩;have hlt:i<(items.zip items2).length:=by
    rcases QCm i (items.zip items2).length with h' | h'
    ·exact h'
    ·rw [QCd h'] at hz; cases hz
   have hix:i<xs.length:=hZ ▸ hlt;have hiy:i<ys.length:=by exact Om.a2 ‹_› ‹_›
   rw [QBk hlt] at hz
   injection hz with hyx hrest
   obtain ⟨t1,h1⟩:=Yg hi i hix;obtain ⟨t2,h2⟩:=Yg hi2 i hiy;have hy:y = .int xs[i] t1:=by
    have e:=congrArg Prod.fst hyx;rw [List.getElem_zip] at e;rw [QAb (by exact Om.a1 ‹_› ‹_›)] at h1;exact e.trans (QZl h1)
   have hx:x = .int ys[i] t2:=by
    have e:=congrArg Prod.snd hyx;rw [List.getElem_zip] at e;rw [QAb (by exact Om.a1 ‹_› ‹_›)] at h2;exact e.trans (QZl h2)
   subst hy hx;rw [QBk hix,QBk hiy] at hR;unfold ZcP at hR;refine QZq (wpAny_eqBool_int ?_)
   by_cases he:xs[i]=ys[i]
   ·rw [if_pos he] at hR;have hb:(xs[i]==ys[i])=true:=by simpa using he
    rw [hb]
    wp_walk
    exact ⟨rfl,rfl,i+1,hrest,hR⟩
   ·rw [if_neg he] at hR;have hb:(xs[i]==ys[i])=false:=by simpa using he
    rw [hb];generalize hRC:richCompare=RC
    wp_walk
    subst hRC;refine PyProof.Rows.lt_int (a:=xs[i]) (b:=ys[i]) ?_
    wp_walk
    exact ⟨_,rfl,hR⟩
  case fin =>
   rintro ⟨b1,b2⟩ s' ⟨hb',rfl,i,hz,hR⟩
   simp only at hb';subst hb';have hge:xs.length<=i:=by
    rcases QCm i (items.zip items2).length with h' | h'
    ·rw [QBk h'] at hz; cases hz
    ·exact hZ ▸ h'
   rw [QCd hge] at hR;have hsz:items.length=items2.length:=by exact Om.u2 ‹_› ‹_› ‹_›
   wp_walk
   refine ⟨_,rfl,?_⟩
   simpa [Builtin.Tuple.tupleCompareSizes,ZcP,hsz] using hR
  case h =>
   exact ⟨rfl,rfl,0,by simp,by simpa using h⟩
section
variable {A:Around} {s:Shared}
theorem ZkY {prog:Program} {w:World} {E:Value->Shared->Prop} {Q:Value->Shared->Prop} {l b:Addr} {items items2:List Value} {xs ys:List Int} (hl:s.heap.IsTuple l items.toArray) (hb:s.heap.IsTuple b items2.toArray) (hi:IntsAre items xs) (hi2:IntsAre items2 ys) (hlen:xs.length=ys.length) (hu:A.units<cLine) (h:Q (.bool (ZcP xs ys)) s) :
  wpAny (model prog w) A (compareOp .Lt (.ref l) (.ref b)) Q E s:=by
 obtain ⟨⟨cls,dd,data,sl⟩,ho,hc,n,hd⟩:=id hl;obtain ⟨⟨cls2,dd2,data2,sl2⟩,ho2,hc2,n2,hd2⟩:=id hb
 simp only at hc hd hc2 hd2;subst hc hd hc2 hd2;exact richCompare_meets_room (op:=.Lt) ⟨_,ho,rfl⟩ ⟨_,ho2,rfl⟩ F.slot_tuple_lt F.entry_tuple_lt (F.args_tuple_lt_2 _ _) (Zgt l b items items2 n n2 dd dd2 sl sl2 xs ys hi hi2 hlen)
  ⟨ho,ho2,show Value.bool (ZcP xs ys)≠Value.notImplemented/\Q (.bool (ZcP xs ys)) s from ⟨(fun x=>nomatch x),h⟩⟩ hu
theorem Zld {l b:Addr} {items items2:List Value} {xs ys:List Int} (hl:s.heap.IsTuple l items.toArray) (hb:s.heap.IsTuple b items2.toArray) (hi:IntsAre items xs) (hi2:IntsAre items2 ys) (hlen:xs.length=ys.length) (hu:A.units<cLine):EqAt A s (.ref l) (.ref b) (decide (xs=ys)):=by
 have z1:=Yc hi;have z2:=Yc hi2
 by_cases hne:l=b
 ·subst hne;have e:items=items2:=by
   obtain ⟨o,ho,_,n,hd⟩:=id hl;obtain ⟨o2,ho2,_,n2,hd2⟩:=id hb;rw [ho] at ho2
   cases ho2;rw [hd] at hd2
   injection hd2 with h1 h2
   have:=congrArg Array.toList h1
   simpa using this
  subst e;have e2:xs=ys:=by
   refine QBs hlen fun j h1 h2=>?_;obtain ⟨t1,g1⟩:=Yg hi j h1;obtain ⟨t2,g2⟩:=Yg hi2 j h2;rw [g1] at g2;have:=QZl g2
   injection this
  rw [QZh e2];exact EqAt.same _
 ·have hr:=RcAt.tuples (A:=A) (s:=s) (e:=fun j=>decide (xs.getD j 0=ys.getD j 0)) hl hb hu fun j h1 h2=>by
   have j1:j<xs.length:=by simpa [z1] using h1
   have j2:j<ys.length:=by exact Om.a2 ‹_› ‹_›
   obtain ⟨t1,g1⟩:=Yg hi j j1;obtain ⟨t2,g2⟩:=Yg hi2 j j2;have e1:items.toArray[j] = .int xs[j] t1:=by
    rw [QAb (by exact Om.a1 ‹_› ‹_›)] at g1
    simpa using QZl g1
   have e2:items2.toArray[j] = .int ys[j] t2:=by
    rw [QAb (by exact Om.a1 ‹_› ‹_›)] at g2
    simpa using QZl g2
   rw [e1,e2];intro prog w E Q hq;refine wpAny_eqBool_int ?_;have e3:(xs[j]==ys[j])=decide (xs.getD j 0=ys.getD j 0):=by
    rw [QAd,QAd,QAb j1,QAb j2];show (xs[j]==ys[j])=decide (xs[j]=ys[j]);rw [QBj]
    simp
   rw [e3];exact hq
  have e:((List.range (min items.toArray.size items2.toArray.size)).all (fun j=>decide (xs.getD j 0=ys.getD j 0))&&items.toArray.size==items2.toArray.size)=decide (xs=ys):=by
   have s1:items.toArray.size=xs.length:=by simp [z1]
   have s2:items2.toArray.size=xs.length:=by simp [z2,hlen]
   rw [s1,s2,Nat.min_self,beq_self_eq_true,Bool.and_true,QBj,QBh,QZg]
   constructor
   ·intro h;refine QBs hlen fun j h1 h2=>?_;have:=QZj (h j (QZe.mpr h1));rw [QAd,QAd,QAb h1,QAb h2] at this;exact this
   ·intro h j _;rw [h];exact QZh rfl
  rw [<- e];exact EqAt.of_refs hne hr
end
end _L
namespace _L
open PySem PySem.Spec PyProof.Rows
section
variable {prog:Program} {w:World} {A:Around} {R:Result->Shared->Prop} {it:Addr} {fp wr:List Addr} {n:Nat} {P:Nat->Value->Prop} {St:Nat->Heap->Prop} {G:Shared->Prop} {lt:Nat->Nat->Bool} {bx:Addr}
theorem Zb9:(toString "min" ++ toString ".loop" : String) = "min.loop":=by decide
theorem ZkT (Wk:Walks prog w A.in1 it fp wr n P St) (hG:∀ (s:Shared) h' tk,G s->(∀ b o,b∉wr->b≠bx->s.heap.get? b=some o->h'.get? b=some o)->G { s with heap:=h',toks:=tk })
  (cmp:∀ i j u v (s:Shared) (Q:Value->Shared->Prop) (E:Value->Shared->Prop),G s->P i u->P j v->Q (.bool (lt i j)) s->wpAny (model prog w) A.in1 (richCompare .Lt u v) Q E s) (hb:bx∉fp) :
  ∀ (r i:Nat) (s:Shared) (u:Value) (c:Nat),n - (i+1)=r->i+1<=n->St (i+1) s.heap->G s->P (argBest lt i) u ->
  s.heap.get? bx=some { cls:=.type "list",dict:=none,data:=.seq #[u,u] c,slots:=#[] } ->
  (∀ v h' tk,P (argBest lt (n - 1)) v->(∀ b o,b∉wr->b≠bx->s.heap.get? b=some o->h'.get? b=some o)->R (.ok (.ret v)) { s with heap:=h',toks:=tk }) ->
  codeAny (model prog w) A (.builtin "min.loop" ⟨[.ref it,.none,.ref bx],[]⟩) R s:=by
 have hw:bx∉wr:=fun z=>hb (Wk.sub _ z)
 intro r
 induction r with
 | zero =>
  intro i s u c hr hi st g hp hx q;have e:i+1=n:=by exact O460 hr hi
  refine codeAny_builtin PySem.F.entry_min_loop ?_;rw [Around.under_plainId PySem.F.plain_min_loop _];refine QZq (m:=seqItems? (.ref bx)) (wpAny_seqItems hx rfl ?_);refine QZq (m:=tryCatch (pyNext (.ref it)) _) (wpAny_tryCatch (Wk.done s _ _ (e ▸ st) fun h2 tk k2=>?_));have hx2:=k2 bx _ hw hx;refine QZq (m:=updateSeq bx fun _=>#[]) (wpAny_updateSeq hx2 rfl (QZq (wpAny_letGo (QZr ?_))));exact q u _ tk (by rw [<- e]; exact hp) fun b o n1 n2 z=>(QEa _ _ (Ne.symm n2)).trans (k2 b o n1 z)
 | succ r ih =>
  intro i s u c hr hi st g hp hx q;have hlt:i+1<n:=by exact O459 hr hi
  refine codeAny_builtin PySem.F.entry_min_loop ?_;rw [Around.under_plainId PySem.F.plain_min_loop _];refine QZq (m:=seqItems? (.ref bx)) (wpAny_seqItems hx rfl ?_);refine QZq (m:=tryCatch (pyNext (.ref it)) _) (wpAny_tryCatch (Wk.item (i+1) s _ _ hlt st fun x h2 tk px st2 k2=>?_));have hx2:=k2 bx _ hw hx;have g2:G { s with heap:=h2,toks:=tk }:=hG s _ _ g fun b o n1 _ z=>k2 b o n1 z
  refine QZq (m:=tryCatch (holding [x,x] (richCompare .Lt x u >>= _)) _) (wpAny_tryCatch (wpAny_holding (QZq (cmp (i+1) (argBest lt i) x u _ _ _ g2 px hp ?_))));refine QZq (wpAny_holding (wpAny_truthy_bool (QZq (wpAny_letGo (QZr ?_)))))
  cases hl:lt (i+1) (argBest lt i) with
  | true =>
   simp only [if_true];refine QZq (wpAny_updateSeq hx2 rfl (QZq (wpAny_letGo ?_)));rw [Zb9];have up:∀ b o,b≠bx->h2.get? b=some o->(h2.update bx (Obj.mapSeq fun _=>#[x,x])).get? b=some o:=fun b o n2 z=>(QEa _ _ (Ne.symm n2)).trans z
   refine QZr ⟨plainId_quiet PySem.F.plain_min_loop _,ih (i+1) _ x _ (by exact O458 hr hlt) hlt (Wk.frame _ _ _ st2 fun b hf o z=>up b o (fun e=>hb (e ▸ hf)) z) (hG _ _ _ g2 fun b o _ n2 z=>up b o n2 z) (by simp only [argBest,hl,if_true]; exact px) (Heap.get?_update_self _ hx2 rfl) fun v h3 tk3 pv k3=>?_⟩;exact q v h3 tk3 pv fun b o n1 n2 z=>k3 b o n1 n2 (up b o n2 (k2 b o n1 z))
  | false =>
   simp only [QDh,if_false];refine QZq (wpAny_letGo ?_);rw [Zb9];exact QZr ⟨plainId_quiet PySem.F.plain_min_loop _,ih (i+1) _ u c (by exact O458 hr hlt) hlt st2 g2 (by simp only [argBest,hl,QDh,if_false]; exact hp) hx2 fun v h3 tk3 pv k3=>q v h3 tk3 pv fun b o n1 n2 z=>k3 b o n1 n2 (k2 b o n1 z)⟩
theorem Zjz (Wk:Walks prog w A.in1 it fp wr n P St) (hG:∀ (s:Shared) h' tk,G s->(∀ b o,b∉wr->b≠bx->s.heap.get? b=some o->h'.get? b=some o)->G { s with heap:=h',toks:=tk })
  (cmp:∀ i j u v (s:Shared) (Q:Value->Shared->Prop) (E:Value->Shared->Prop),G s->P i u->P j v->Q (.bool (lt i j)) s->wpAny (model prog w) A.in1 (richCompare .Lt u v) Q E s) (hb:bx∉fp) (hn:0<n)
  {s:Shared} {c:Nat} (st:St 0 s.heap) (g:G s) (hx:s.heap.get? bx=some { cls:=.type "list",dict:=none,data:=.seq #[] c,slots:=#[] })
  (q:∀ v h' tk,P (argBest lt (n - 1)) v->(∀ b o,b∉wr->b≠bx->s.heap.get? b=some o->h'.get? b=some o)->R (.ok (.ret v)) { s with heap:=h',toks:=tk }) :
  codeAny (model prog w) A (.builtin "min.loop" ⟨[.ref it,.none,.ref bx],[]⟩) R s:=by
 have hw:bx∉wr:=fun z=>hb (Wk.sub _ z)
 refine codeAny_builtin PySem.F.entry_min_loop ?_;rw [Around.under_plainId PySem.F.plain_min_loop _];refine QZq (m:=seqItems? (.ref bx)) (wpAny_seqItems hx rfl ?_);refine QZq (m:=tryCatch (pyNext (.ref it)) _) (wpAny_tryCatch (Wk.item 0 s _ _ hn st fun x h2 tk px st2 k2=>?_));have hx2:=k2 bx _ hw hx;have g2:G { s with heap:=h2,toks:=tk }:=hG s _ _ g fun b o n1 _ z=>k2 b o n1 z
 have up:∀ b o,b≠bx->h2.get? b=some o->(h2.update bx (Obj.mapSeq fun _=>#[x,x])).get? b=some o:=fun b o n2 z=>(QEa _ _ (Ne.symm n2)).trans z
 refine QZq (m:=updateSeq bx fun _=>#[x,x]) (wpAny_updateSeq hx2 rfl ?_);rw [Zb9];refine QZr ⟨plainId_quiet PySem.F.plain_min_loop _,ZkT Wk hG cmp hb _ 0 _ x _ rfl hn (Wk.frame _ _ _ st2 fun b hf o z=>up b o (fun e=>hb (e ▸ hf)) z) (hG _ _ _ g2 fun b o _ n2 z=>up b o n2 z) px (Heap.get?_update_self _ hx2 rfl) fun v h3 tk3 pv k3=>?_⟩;exact q v h3 tk3 pv fun b o n1 n2 z=>k3 b o n1 n2 (up b o n2 (k2 b o n1 z))
end
section
variable {prog:Program} {w:World} {A:Around} {E:Value->Shared->Prop} {s:Shared}
theorem ZhD {l:Addr} {vs:Array Value} {lt:Nat->Nat->Bool} {Q:Value->Shared->Prop} (hh:A.handled=none) (hl:s.heap.IsList l vs) (hn:0<vs.size)
  (cmp:∀ i j u v h' tk (Q:Value->Shared->Prop) (E:Value->Shared->Prop),(∀ b o,s.heap.get? b=some o->h'.get? b=some o)->vs[i]? = some u->vs[j]? = some v->Q (.bool (lt i j)) { s with heap:=h',toks:=tk }->wpAny (model prog w) A.in1 (richCompare .Lt u v) Q E { s with heap:=h',toks:=tk })
  (q:∀ v h' tk,vs[argBest lt (vs.size - 1)]? = some v->(∀ b o,s.heap.get? b=some o->h'.get? b=some o)->Q v { s with heap:=h',toks:=tk }) :
  wpAny (model prog w) A (call (.builtin "min") [.ref l]) Q E s:=by
 refine call_function_tree PySem.F.kind_min PySem.F.plain_min PySem.F.entry_min (PySem.F.args_min1 _) ?_;refine QZq (wpAny_of_eq (a:=[none,none]) rfl (QZq (QZr (QZq (m:=pyIter (.ref l)) ?_))));refine wpAny_pyIter_list hl ?_;obtain ⟨ol,el,_⟩:=id hl;have ll:l<s.heap.objs.size:=QAh el;refine QZq (wpAny_newObj_type ?_);rw [Zb9];have k1:∀ b o,s.heap.get? b=some o->(s.heap.push { cls:=.type "list_iterator",data:=.fields #[.ref l,.int 0 0] }).get? b=some o:=fun b o e=>QAk _ e
 have z1:(s.heap.push { cls:=.type "list_iterator",data:=.fields #[.ref l,.int 0 0] }).objs.size=s.heap.objs.size+1:=QCk ..;have k2:∀ b o,s.heap.get? b=some o->((s.heap.push { cls:=.type "list_iterator",data:=.fields #[.ref l,.int 0 0] }).push { cls:=.type "list",data:=.seq #[] }).get? b=some o:=fun b o e=>QAk _ (k1 b o e)
 refine QZr ⟨plainId_quiet PySem.F.plain_min_loop _,Zjz (bx:=(s.heap.push { cls:=.type "list_iterator",data:=.fields #[.ref l,.int 0 0] }).objs.size) (G:=fun t=>∃ h' tk,t={ s with heap:=h',toks:=tk }/\∀ b o,s.heap.get? b=some o->h'.get? b=some o) (Walks.list (A:=A.in1) hh s.heap.objs.size l (QAy ll) vs)
  (fun t h' tk ⟨h1,tk1,e1,g⟩ k=>⟨h',tk,by rw [e1],fun b o e=>k b o ?_ ?_ (by rw [e1]; exact g b o e)⟩) (fun i j u v t Q E zz0 hu hv z=> by obtain ⟨h1,tk1,e1,g⟩ := zz0; exact by subst e1; exact cmp i j u v h1 tk1 Q E g hu hv z) ?_ hn ⟨⟨_,QAk _ (QBa _ rfl),rfl,rfl⟩,hl.at fun o e=>k2 l o e⟩ ⟨_,_,rfl,k2⟩ (QBa _ rfl) fun v h' tk hv k=>q v h' tk hv fun b o e=>k b o ?_ ?_ (k2 b o e)⟩
 ·exact fun z=>QAy (QAh e) (by simpa using z)
 ·exact fun z=>by
   have:=QAh e;rw [z,z1] at this;exact Nat.not_succ_lt_self this
 ·intro z;rw [z1] at z
  simp only [QBr,QCb,or_false] at z
  rcases z with z | z
  ·exact Nat.succ_ne_self _ z
  ·rw [<- z] at ll;exact Nat.not_succ_lt_self ll
 ·exact fun z=>QAy (QAh e) (by simpa using z)
 ·exact fun z=>by
   have:=QAh e;rw [z,z1] at this;exact Nat.not_succ_lt_self this
end
end _L
namespace _L
open PySem PySem.Spec PyProof.Rows PySem.W SeqAt
theorem Zk0 (l b:Addr) (us vs:List Value) (n n2:Nat) (dd dd2:Option Addr) (sl sl2:Array (Option Value)) (xs ys:List Int) (hx:IntsAre us xs) (hy:IntsAre vs ys) :
  ∀ (k i:Nat),xs.length - i=k->i<=xs.length->i<=ys.length->Meets (Builtin.«list.__eq__.loop» ⟨[.ref l,.ref b,rawInt i,rawInt 0],[]⟩)
   (fun _ R s=>s.heap.get? l=some { cls:=.type "list",dict:=dd,data:=.seq us.toArray n,slots:=sl }/\s.heap.get? b=some { cls:=.type "list",dict:=dd2,data:=.seq vs.toArray n2,slots:=sl2 } /\
    R (.ok (.ret (.bool (_H.lexLt (xs.drop i) (ys.drop i))))) s):=by
 have zx:=Yc hx;have zy:=Yc hy;have ends:∀ i,i<=xs.length->i<=ys.length->(xs.length=i\/ys.length=i)->_H.lexLt (xs.drop i) (ys.drop i)=decide (xs.length<ys.length):=fun i h1 h2 h=>by
  rcases h with h | h
  ·rw [QCd (by exact Om.l1 ‹_›)]
   by_cases q:ys.length=i
   ·rw [QCd (by exact Om.l1 ‹_›)];exact (QZi (by exact O457 h q)).symm
   ·rw [QBk (by exact O454 h2 q)];exact (QZh (by exact O456 h2 h q)).symm
  ·rw [QCd (l:=ys) (by exact Om.l1 ‹_›)]
   by_cases q:xs.length=i
   ·rw [QCd (by exact Om.l1 ‹_›)];exact (QZi (by exact O455 h q)).symm
   ·rw [QBk (by exact O454 h1 q)];exact (QZi (by exact O453 h1 h)).symm
 intro k
 induction k with
 | zero =>
  intro i hk h1 h2 prog w A R s h;obtain ⟨hp,g,d,tk,os⟩:=s;obtain ⟨hl,hb,h⟩:=h
  wp_walk using AutoSeq1.wpAny_loadPart' hl,AutoSeq1.wpAny_loadPart' hb
  have e1:us.toArray[((i:Nat):Int).toNat]? = none:=by simp; exact O452 zx hk
  rw [e1]
  wp_walk using AutoSeq1.wpAny_loadPart' hl,AutoSeq1.wpAny_loadPart' hb
  rw [ends i h1 h2 (.inl (by exact O451 hk h1))] at h;show R (.ok (.ret (.bool (decide (us.toArray.size<vs.toArray.size))))) _;rw [QAi,QAi,zx,zy];exact h
 | succ k ih =>
  intro i hk h1 h2 prog w A R s h;obtain ⟨hp,g,d,tk,os⟩:=s;obtain ⟨hl,hb,h⟩:=h;have lx:i<xs.length:=by exact O28 hk h1
  obtain ⟨t1,g1⟩:=Yg hx i lx;have e1:us.toArray[((i:Nat):Int).toNat]? = some (.int xs[i] t1):=by simpa using g1
  wp_walk using AutoSeq1.wpAny_loadPart' hl,AutoSeq1.wpAny_loadPart' hb
  by_cases ly:i<ys.length
  ·obtain ⟨t2,g2⟩:=Yg hy i ly;have e2:vs.toArray[((i:Nat):Int).toNat]? = some (.int ys[i] t2):=by simpa using g2
   rw [e1,e2];rw [QBk lx,QBk ly] at h;unfold _H.lexLt at h;refine QZq (wpAny_eqBool_int ?_)
   by_cases he:xs[i]=ys[i]
   ·rw [if_pos he] at h;rw [show (xs[i]==ys[i])=true by simpa using he]
    wp_walk
    rw [show ((i:Int)+1)=((i+1:Nat):Int) from rfl];exact ⟨plainId_quiet MeetsSeq3.plain_eq_loop _,codeAny_builtin MeetsSeq3.entry_eq_loop (by
     rw [Around.under_plainId MeetsSeq3.plain_eq_loop _];exact ih (i+1) (by exact O450 hk lx ly) lx ly prog w A R _ ⟨hl,hb,h⟩)⟩
   ·rw [if_neg he] at h;rw [show (xs[i]==ys[i])=false by simpa using he];generalize hRC:richCompare=RC
    wp_walk using AutoSeq1.wpAny_loadPart' hl,AutoSeq1.wpAny_loadPart' hb
    rw [e1,e2];subst hRC;refine QZq (PyProof.Rows.lt_int (a:=xs[i]) (b:=ys[i]) ?_)
    wp_walk
    exact h
  ·have e2:vs.toArray[((i:Nat):Int).toNat]? = none:=by simp; omega
   rw [e1,e2]
   wp_walk using AutoSeq1.wpAny_loadPart' hl,AutoSeq1.wpAny_loadPart' hb
   rw [ends i h1 h2 (.inr (by omega))] at h;show R (.ok (.ret (.bool (decide (us.toArray.size<vs.toArray.size))))) _;rw [QAi,QAi,zx,zy];exact h
theorem Zk1 (l b:Addr) (us vs:List Value) (n n2:Nat) (dd dd2:Option Addr) (sl sl2:Array (Option Value)) (xs ys:List Int) (hx:IntsAre us xs) (hy:IntsAre vs ys) :
  Meets (Builtin.«list.__lt__» ⟨[.ref l,.ref b],[]⟩)
   (fun _ R s=>s.heap.get? l=some { cls:=.type "list",dict:=dd,data:=.seq us.toArray n,slots:=sl }/\s.heap.get? b=some { cls:=.type "list",dict:=dd2,data:=.seq vs.toArray n2,slots:=sl2 } /\
    R (.ok (.ret (.bool (_H.lexLt xs ys)))) s):=by
 intro prog w A R s h;obtain ⟨hp,g,d,tk,os⟩:=s;obtain ⟨hl,hb,h⟩:=h;have f3:=AutoSeq1.sub_list_list
 wp_walk using AutoSeq1.wpAny_loadPart' hl,AutoSeq1.wpAny_loadPart' hb
 exact ⟨plainId_quiet MeetsSeq3.plain_eq_loop _,codeAny_builtin MeetsSeq3.entry_eq_loop (by
  rw [Around.under_plainId MeetsSeq3.plain_eq_loop _];exact Zk0 l b us vs n n2 dd dd2 sl sl2 xs ys hx hy _ 0 rfl (QAg _) (QAg _) prog w A R _ ⟨hl,hb,h⟩)⟩
theorem ZjE {prog:Program} {w:World} {A:Around} {s:Shared} {E:Value->Shared->Prop} {Q:Value->Shared->Prop} {l b:Addr} {us vs:List Value} {xs ys:List Int} (hl:s.heap.IsList l us.toArray) (hb:s.heap.IsList b vs.toArray) (hx:IntsAre us xs) (hy:IntsAre vs ys) (hu:A.units<cLine) (h:Q (.bool (_H.lexLt xs ys)) s) :
  wpAny (model prog w) A (richCompare .Lt (.ref l) (.ref b)) Q E s:=by
 obtain ⟨⟨cls,dd,data,sl⟩,ho,hc,n,hd⟩:=id hl;obtain ⟨⟨cls2,dd2,data2,sl2⟩,ho2,hc2,n2,hd2⟩:=id hb
 simp only at hc hd hc2 hd2;subst hc hd hc2 hd2;exact richCompare_meets_room (op:=.Lt) ⟨_,ho,rfl⟩ ⟨_,ho2,rfl⟩ F.slot_list_lt F.entry_list_lt (F.args_list_lt_2 _ _) (Zk1 l b us vs n n2 dd dd2 sl sl2 xs ys hx hy)
  ⟨ho,ho2,show Value.bool (_H.lexLt xs ys)≠Value.notImplemented/\Q (.bool (_H.lexLt xs ys)) s from ⟨(fun x=>nomatch x),h⟩⟩ hu
noncomputable def Ja (e r:Nat->Bool):Nat->Nat->Bool
 | 0,_=>false
 | k+1,i=>if e i then Ja e r k (i+1) else r i
def Zlr (A:Around) (s:Shared) (u v:Value) (b:Bool):Prop:=∀ (prog:Program) (w:World) (E:Value->Shared->Prop) (Q:Value->Shared->Prop),Q (.bool b) s->wpAny (model prog w) A (richCompare .Lt u v) Q E s
theorem Zib (l b:Addr) (us vs:List Value) (n n2:Nat) (dd dd2:Option Addr) (sl sl2:Array (Option Value)) (e r:Nat->Bool) (hlen:us.length=vs.length) :
  Meets (Builtin.«tuple.__lt__» ⟨[.ref l,.ref b],[]⟩)
   (fun A R s=>s.heap.get? l=some { cls:=.type "tuple",dict:=dd,data:=.seq us.toArray n,slots:=sl }/\s.heap.get? b=some { cls:=.type "tuple",dict:=dd2,data:=.seq vs.toArray n2,slots:=sl2 } /\
    (∀ i u v,us[i]? = some u->vs[i]? = some v->EqAt A.in1 s u v (e i)/\(e i=false->Zlr A.in1 s u v (r i))) /\
    R (.ok (.ret (.bool (Ja e r us.length 0)))) s) :=
 .of_wp fun prog w A R s h=>by
  obtain ⟨hp,g,d,tk,os⟩:=s;obtain ⟨hl,hb,hc,h⟩:=h;have f2:=AutoSeq1.sub_tuple_tuple;have hZ:(us.zip vs).length=us.length:=by simp; exact O449 hlen
  wp_walk using AutoSeq1.wpAny_loadPart' hl,AutoSeq1.wpAny_loadPart' hb,wpAny_forIn_list _ (fun rest b s'=>b.1=none/\s'=⟨hp,g,d,tk,os⟩/\∃ i,rest=(us.zip vs).drop i /\
   R (.ok (.ret (.bool (Ja e r (us.length - i) i)))) ⟨hp,g,d,tk,os⟩) _
  case turn =>
   rintro ⟨y,x⟩ rest b s' ⟨hb',rfl,i,hz,hR⟩;have hlt:i<(us.zip vs).length:=by
    rcases QCm i (us.zip vs).length with z | z
    ·exact z
    ·rw [QCd z] at hz; cases hz
   have hix:i<us.length:=hZ ▸ hlt;have hiy:i<vs.length:=by exact Om.a2 ‹_› ‹_›
   rw [QBk hlt] at hz
   injection hz with hyx hrest
   have hy:y=us[i]:=by
    have q:=congrArg Prod.fst hyx;rw [List.getElem_zip] at q;exact q
   have hx:x=vs[i]:=by
    have q:=congrArg Prod.snd hyx;rw [List.getElem_zip] at q;exact q
   subst hy hx;obtain ⟨c1,c2⟩:=hc i _ _ (QAb hix) (QAb hiy);rw [show us.length - i=(us.length - (i+1))+1 by exact O448 hlen hZ hlt] at hR;unfold Ja at hR;refine QZq (c1 prog w _ _ ?_)
   cases he:e i with
   | true =>
    rw [he] at hR
    wp_walk
    exact ⟨rfl,rfl,i+1,hrest,hR⟩
   | false =>
    rw [he] at hR;generalize hRC:richCompare=RC
    wp_walk
    subst hRC;refine c2 he prog w _ _ ?_
    wp_walk
    exact ⟨_,rfl,hR⟩
  case fin =>
   rintro ⟨b1,b2⟩ s' ⟨hb',rfl,i,hz,hR⟩
   simp only at hb';subst hb';have hge:us.length<=i:=by
    rcases QCm i (us.zip vs).length with z | z
    ·rw [QBk z] at hz; cases hz
    ·exact hZ ▸ z
   rw [show us.length - i=0 by exact O447 hlen hZ hge] at hR
   wp_walk
   refine ⟨_,rfl,?_⟩
   simpa [Builtin.Tuple.tupleCompareSizes,Ja,hlen] using hR
  case h =>
   exact ⟨rfl,rfl,0,by simp,by simpa using h⟩
theorem ZkZ {A:Around} {s:Shared} {l b:Addr} {us vs:List Value} {e r:Nat->Bool} (hl:s.heap.IsTuple l us.toArray) (hb:s.heap.IsTuple b vs.toArray) (hlen:us.length=vs.length) (hu:A.units<cLine)
  (hc:∀ i u v,us[i]? = some u->vs[i]? = some v->EqAt A.in1 s u v (e i)/\(e i=false->Zlr A.in1 s u v (r i))):Zlr A s (.ref l) (.ref b) (Ja e r us.length 0):=fun prog w E Q h=>by
 obtain ⟨⟨cls,dd,data,sl⟩,ho,hc1,n,hd⟩:=id hl;obtain ⟨⟨cls2,dd2,data2,sl2⟩,ho2,hc2,n2,hd2⟩:=id hb
 simp only at hc1 hd hc2 hd2;subst hc1 hd hc2 hd2;exact richCompare_meets_room (op:=.Lt) ⟨_,ho,rfl⟩ ⟨_,ho2,rfl⟩ F.slot_tuple_lt F.entry_tuple_lt (F.args_tuple_lt_2 _ _) (Zib l b us vs n n2 dd dd2 sl sl2 e r hlen)
  ⟨ho,ho2,hc,show Value.bool (Ja e r us.length 0)≠Value.notImplemented/\Q (.bool (Ja e r us.length 0)) s from ⟨(fun x=>nomatch x),h⟩⟩ hu
end _L
namespace _L
open PySem PySem.Spec PyProof.Rows
theorem Zdr:∀ {ps:List Addr} {us:List Value},Vals (ps.map V.ref) us->us=ps.map Value.ref
 | [],_,.nil=>rfl
 | p::ps,_,.cons r t=>by
  cases r;rw [Zdr t]
  rfl
end _L
namespace _L
open PySem PySem.Spec PyProof.Rows PySem.W SeqAt
inductive LtD (K:QZa) (H:Hp):Nat->V->V->Bool->Prop where
 | nums {d:Nat} (x y:Int):LtD K H d (.int x) (.int y) (decide (x<y))
 | lsts {d:Nat} {a c:Addr} {xs ys:List Int} (h1:SqL K H a (xs.map V.int)) (h2:SqL K H c (ys.map V.int)):LtD K H d (.ref a) (.ref c) (_H.lexLt xs ys)
 | tups {d:Nat} {a c:Addr} {us vs:List V} {e r:Nat->Bool} (h1:SqT K H a us) (h2:SqT K H c vs) (hl:us.length=vs.length) (he:∀ i u v,us[i]? = some u->vs[i]? = some v->EqD K H d u v (e i)) (hr:∀ i u v,us[i]? = some u->vs[i]? = some v->e i=false->LtD K H d u v (r i)):LtD K H (d+1) (.ref a) (.ref c) (Ja e r us.length 0)
section
variable {X:Cx} {pins:List (Addr × Obj)} {σ:St} {H:Hp} {s:Shared}
theorem LtD.at (I:Inv X pins σ H s) {d:Nat} {x y:V} {b:Bool} (h:LtD X.K H d x y b):∀ {A:Around} {u v:Value},RelV x u->RelV y v->A.units+d<cLine->Zlr A s u v b:=by
 induction h with
 | nums x y =>
  intro A u v rx ry hu prog w E Q q;obtain ⟨t1,rfl⟩:=rx;obtain ⟨t2,rfl⟩:=ry;exact PyProof.Rows.lt_int (a:=x) (b:=y) q
 | @lsts d a c xs ys h1 h2 =>
  intro A u v rx ry hu prog w E Q q
  cases rx
  cases ry;obtain ⟨its,r1,p1,_⟩:=I.list h1;obtain ⟨its2,r2,p2,_⟩:=I.list h2;exact ZjE p1.isList p2.isList (Y8 r1) (Y8 r2) (by exact O446 hu) q
 | @tups d a c us vs e r h1 h2 hl he hr ih =>
  intro A u v rx ry hu
  cases rx
  cases ry;obtain ⟨its,r1,p1,_⟩:=I.tuple h1;obtain ⟨its2,r2,p2,_⟩:=I.tuple h2;have e1:=r1.length;have e2:=r2.length;rw [e1];refine ZkZ p1 p2 (by exact O445 hl e1 e2) (by exact O444 hu) fun i u v hu1 hv1=>?_;have l1:i<us.length:=by rw [e1]; exact (QZb.mp hu1).1
  have l2:i<vs.length:=by rw [e2]; exact (QZb.mp hv1).1
  obtain ⟨u',g1,ru⟩:=r1.get (QAb l1);obtain ⟨v',g2,rv⟩:=r2.get (QAb l2);have z1:u'=u:=by
   rw [hu1] at g1
   cases g1
   rfl
  have z2:v'=v:=by
   rw [hv1] at g2
   cases g2
   rfl
  subst z1;subst z2;exact ⟨((he i _ _ (QAb l1) (QAb l2)).all I (A:=A.in1) ru rv (by show A.units+1+d<cLine; exact O443 hu)).1,fun q=>ih i _ _ (QAb l1) (QAb l2) q ru rv (by show A.units+1+d<cLine; exact O443 hu)⟩
end
def Zn5 (K:QZa) (d:Nat):List V->Hp->VK->Prop:=fun xs H Q=>∃ (l:Addr) (ps:List Addr) (lt:Nat->Nat->Bool) (p:Addr),xs=[.ref l]/\SqL K H l (ps.map V.ref)/\0<ps.length/\(∀ i j p q,ps[i]? = some p->ps[j]? = some q->LtD K H d (.ref p) (.ref q) (lt i j))/\ps[argBest lt (ps.length - 1)]? = some p/\Q (.ref p) H
theorem ZfM {X:Cx} {d:Nat} (K:QZa) (hc:X.calm=true) (hu:X.A.units+1+d<cLine) (hK:X.K=K:=by rfl):Y0 X (.builtin "min") (Zn5 K d):=by
 subst hK;intro pins s σ H xs us Q I r h;obtain ⟨l,ps,lt,p,rfl,hl,hn,hlt,hp,q⟩:=h;obtain ⟨u,rfl,ru⟩:=JB r
 cases ru;obtain ⟨its,rv,pl,_⟩:=I.list hl;have hits:=Zdr rv;subst hits;have ext:∀ {h':Heap} {tk:Nat},(∀ b o,s.heap.get? b=some o->h'.get? b=some o)->Inv X pins σ H { s with heap:=h',toks:=tk }:=fun k=>I.kept k
 refine ZhD (lt:=lt) (I.ok.hd hc) pl.isList (by simp; exact hn) (fun i j u v h' tk Q E k hu1 hv1 z=>?_) (fun v h' tk hv k=>?_)
 ·have hu2:(ps.map Value.ref)[i]? = some u:=by simpa using hu1
  have hv2:(ps.map Value.ref)[j]? = some v:=by simpa using hv1
  rw [QAe] at hu2 hv2
  cases h1:ps[i]? with
  | none=>rw [h1] at hu2; cases hu2
  | some a =>
   cases h2:ps[j]? with
   | none=>rw [h2] at hv2; cases hv2
   | some c =>
    rw [h1] at hu2;rw [h2] at hv2
    cases hu2
    cases hv2;exact (hlt i j a c h1 h2).at (ext k) (A:=X.A.in1) rfl rfl (by show X.A.units+1+d<cLine; exact hu) _ _ _ _ z
 ·have hv2:(ps.map Value.ref)[argBest lt (ps.length - 1)]? = some v:=by simpa using hv
  rw [QAe,hp] at hv2
  cases hv2;exact ⟨.ref p,H,ext k,rfl,q⟩
end _L
namespace _L
open PySem PySem.Spec PyProof.Rows
structure W (p:Prop):Prop where
 h:p
section
variable {X:Cx} {es:List Expr} {t:TA} {p:Pos}
theorem ZV {st:Stmt} {rest:List Stmt} {u v:TS} (h1:W (PS X st u)) (h2:W (PSs X rest v)):W (PSs X (st::rest) (Zm5 u v)):=⟨Zd h1.h h2.h⟩
theorem Zei {st:Stmt} {u:TS} (h1:W (PS X st u)):W (PSs X [st] u):=⟨Zf h1.h⟩
end
end _L
namespace _M
open PySem _L
noncomputable def top (i:Nat):Stmt:=PySem.Challenge.pw_latinclose_k58_all_own_renamings_of_six.main.body.getD i (.Pass ⟨0,0,0,0⟩)
noncomputable abbrev Zeo:Stmt:=top 1
noncomputable abbrev JC:Stmt:=top 2
noncomputable abbrev Zb5:Stmt:=top 3
noncomputable abbrev Yo:Stmt:=top 4
noncomputable abbrev Zap:Stmt:=top 5
noncomputable abbrev Zco:Stmt:=top 6
noncomputable abbrev ZaW:Stmt:=top 7
noncomputable abbrev JL:Stmt:=top 9
noncomputable abbrev Zb3:Stmt:=top 10
noncomputable abbrev ZaZ:Stmt:=top 12
noncomputable abbrev Zen:Stmt:=top 13
noncomputable abbrev ZaV:Stmt:=top 14
noncomputable abbrev Zb6:Stmt:=top 15
noncomputable abbrev Zab:Stmt:=top 16
noncomputable abbrev Zaa:Stmt:=top 17
noncomputable abbrev Zi1:Stmt:=top 19
noncomputable abbrev ZaX:Stmt:=top 20
noncomputable abbrev Zhr:Stmt:=top 21
noncomputable abbrev Zcp:Stmt:=top 23
noncomputable abbrev ZaY:Stmt:=top 24
noncomputable abbrev Ze1:Stmt:=top 25
noncomputable abbrev Zaq:Stmt:=top 26
noncomputable abbrev Zhq:Stmt:=top 27
noncomputable abbrev Ze2:Stmt:=top 28
noncomputable abbrev Zcq:Stmt:=top 29
noncomputable abbrev Zi0:Stmt:=top 30
noncomputable abbrev Zb4:Stmt:=top 31
noncomputable abbrev Za1:Stmt:=top 32
noncomputable abbrev Zb2:Stmt:=top 33
noncomputable abbrev Za0:Stmt:=top 34
noncomputable abbrev Zep:Stmt:=top 35
noncomputable abbrev Zl7:Stmt:=top 36
theorem Fs {N P:List Str} {sc:Scope} (a:sc.kind = .function:=by rfl) (b:sc.isCoroutine=false:=by rfl) (c:sc.isGenerator=false:=by rfl) (d:N.Nodup:=by decide +kernel) (e:N.take P.length=P:=by rfl) (f:∀ x∈P,sc.names.lookup x=some .local\/sc.names.lookup x=some .cell:=by decide +kernel) (g:∀ y∈sc.names,y.2 ≠ .free:=by decide +kernel):Zt N P sc:=⟨a,b,c,d,e,f,g⟩
theorem huZ {k:Nat} {A:Around} (r:Room k A):A.units<cLine:=by
 have:=r.un;omega
theorem huK {k:Nat} {A:Around} (r:Room k A) (m:Nat) (h:m<=64:=by decide):A.units+m<cLine:=by
 have:=r.un;omega
structure Blt (mg:Str->Option Value):Prop where
 len:mg "len" = none
 range:mg "range" = none
 tuple:mg "tuple" = none
 list:mg "list" = none
 int:mg "int" = none
 zip:mg "zip" = none
 max:mg "max" = none
 sorted:mg "sorted" = none
 enum:mg "enumerate" = none
 min:mg "min" = none
 dict:mg "dict" = none
theorem ZfN:bootBuiltins "range" = some (Value.type "range"):=by decide +kernel
inductive Zh4 (K:QZa) (vs:List V) (H:Hp) (Q:VK):Prop where
 | mk (a:Addr) (ns:List Int) (k:Nat) (_:vs=[.ref a,.int k]) (_:SqL K H a (ns.map V.int)) (_:∀ z:Int,Q (.int z) H):Zh4 K vs H Q
def Zbu (K:QZa):Sp:=fun vs H Q _=>Zh4 K vs H Q
section
variable {P:Program} {w:World} {K:QZa} {mg:Str->Option Value} {base:Heap}
theorem Zl5:Zt ["_law_script","_law_k"] ["_law_script","_law_k"] (Zi Zcp):=Fs
theorem ZhC {f:Addr} {fd:FuncData} (F:Fun K "_law_cell_at" "_law_cell_at" Zcp f fd) (T:Blt mg):FnOk P w K mg base CX0 1 f fd ["_law_script","_law_k"] (Zbu K):=by
 refine F.ok Zl5 (fun vs H Q E h=>?_) (fun cdv A outer s H vs Q E hr h=>?_)
 ·obtain ⟨a,ns,k,rfl,_⟩:=h
  rfl
 ·obtain ⟨a,ns,k,rfl,hS,q⟩:=h;refine ⟨_,Zd (YT (ZJ Zlz (pv 1) (Zl (Zr K) rfl T.len PySem.boot_len (Za (pv 0) Zc)) (Z7 _)) (Zf (Zu (ZD Jc (pv 0) (pv 1) (fun _ _=>rfl)))) Z8)
   (Zf (Zu Zh)),?_⟩
  refine ⟨_,rfl,_,rfl,a,_,rfl,.inl hS,_,_,rfl,rfl,_,rfl,?_⟩;refine JG (fun hc=>?_) (fun _=>q 0);have hlt:k<ns.length:=by
   have:=QZj hc;rw [QAa] at this;omega
  have hat:(ns.map V.int)[k]? = some (.int ns[k]):=by rw [QAe]; simp [hlt]
  exact ⟨_,rfl,_,rfl,a,_,_,_,rfl,rfl,hS,ZR hat,q _⟩
theorem scNumber:Zt ["_law_script","_law_k","_law_cell","_law_number_here","_law_turn_here","_law_mixed"] ["_law_script","_law_k"] (Zi ZaY):=Fs
inductive Zgl (H:Hp) (a:Addr) (k:Nat) (z:Int) (i:Nat) (σ:St) (H2:Hp):Prop where
 | mk (num:Int) (kk mx:Option V) (_:σ=[some (.ref a),some (.int (k:Int)),some (.int z),some (.int num),kk,mx]) (_:H2=H):Zgl H a k z i σ H2
theorem ZdF {f fC:Addr} {fd dC:FuncData} (F:Fun K "_law_number" "_law_number" ZaY f fd) (T:Blt mg) (DC:Dfn K mg "_law_cell_at" Zcp ["_law_script","_law_k"] fC dC):FnOk P w K mg base CX0 2 f fd ["_law_script","_law_k"] (Zbu K):=by
 have GC:FnOk P w K mg base CX0 1 fC dC ["_law_script","_law_k"] (Zbu K):=ZhC DC.F T;refine F.ok scNumber (fun vs H Q E h=>?_) (fun cdv A outer s H vs Q E hr h=>?_)
 ·obtain ⟨a,ns,k,rfl,_⟩:=h
  rfl
 ·obtain ⟨a,ns,k,rfl,hS,q⟩:=h
  refine' ⟨_,Zd ?s0 (Zd (Zj (i:=3) scNumber.nd rfl (Or.inl rfl) Zh) (Zd (Ye PassesOwn.never rfl (Zn rfl T.range (Za Zh Zc)) (ZC (i:=4) scNumber.nd rfl (Or.inl rfl)) (Zd ?b0 (Zf ?b1))) (Zd ?s3 (Zf ?s4)))),?rd⟩
  case s0=>exact Zj (i:=2) scNumber.nd rfl (Or.inl rfl) (Zm GC hr rfl DC.m DC.F.kp DC.b .nil ZK (Za (pv 0) (Za (pv 1) Zc)))
  case b0=>exact Zj (i:=5) scNumber.nd rfl (Or.inl rfl) (Zk Yf (Zk Ju (Zk Yj (Zk Yj (Zk Yj (Zk Yf (pv 2) (Zk ZaM Zh Zh)) (Zk Ju Zh (pv 1))) (Zk Ju Zh (pv 4))) Zh) Zh) Zh)
  case b1=>exact Zj (i:=3) scNumber.nd rfl (Or.inl rfl) (Zk Yj (Zk Ju (pv 3) (Zk ZaM Zh Zh)) (Zk Yf (Zk Ju (Zk Yf (Zk Ju (Zk Yj (Zk Yj (Zk Yy (pv 5) Zh) (pv 1)) Zh) Zh) Zh) Zh) (Zk ZaM Zh Zh)))
  case s3=>exact YT (ZJ JO (Zk Yf (Zm GC hr rfl DC.m DC.F.kp DC.b .nil ZK (Za (pv 0) (Za Zh Zc))) Zh) Zh (Z7 _)) (Zf (Zu (pv 3))) Z8
  case s4=>exact Zu (Zk Yj (pv 2) (Zk Ju (Zk Ju (Zk ZaM Zh Zh) (pv 3)) (Zp ZiD rfl T.int ZmR (Za (ZeA Zlz (pv 2) (Zk ZaM Zh Zh) (Z7 _)) Zc))))
  case rd =>
   refine ⟨_,rfl,_,rfl,a,ns,k,rfl,hS,fun z=>?_⟩;refine ⟨2,rfl,by decide,by decide,?_⟩;refine ZT (lo:=0) (n:=2) (Zgl H a k z) ⟨0,none,none,rfl,rfl⟩ ?_ ?_
   ·rintro i σ H2 hi ⟨num,kk,mx,rfl,rfl⟩;rw [QBp];refine ⟨_,rfl,_,_,rfl,rfl,⟨by decide,by decide,by decide⟩,_,_,rfl,rfl,(by show (0:Int)<10 ^ 24; decide),_,rfl,_,_,rfl,rfl,.inl ⟨by decide,by decide⟩,_,_,rfl,rfl,_,rfl,_,_,rfl,rfl,.inl ⟨by decide,by decide⟩,_,_,rfl,rfl,_,_,rfl,rfl,_,_,rfl,rfl,.inr ⟨by decide,by decide⟩,_,_,rfl,rfl,(by show (0:Int)<2305843009213693951; decide),?_⟩;refine ⟨_,rfl,_,_,rfl,rfl,⟨by decide,by decide,by decide⟩,_,_,rfl,rfl,.inr ⟨by decide,by decide⟩,_,rfl,_,_,rfl,rfl,⟨by decide,by decide⟩,_,rfl,_,_,rfl,rfl,_,_,rfl,rfl,_,_,rfl,rfl,.inr ⟨by decide,by decide⟩,_,_,rfl,rfl,(by show (0:Int)<2305843009213693921; decide),_,_,rfl,rfl,.inr ⟨by decide,by decide⟩,_,_,rfl,rfl,⟨by decide,by decide,by decide⟩,_,_,rfl,rfl,(by show (0:Int)<10 ^ 18; decide),_,_,rfl,rfl,?_⟩;exact ⟨_,_,_,rfl,rfl⟩
   ·rintro σ H2 ⟨num,kk,mx,rfl,rfl⟩;refine ⟨_,rfl,a,ns,1,rfl,hS,fun z1=>⟨_,_,rfl,rfl,(by show (0:Int)<2; decide),rfl,_,rfl,JG (fun _=>⟨_,rfl,q num⟩) (fun _=>?_)⟩⟩;refine ⟨_,rfl,_,_,rfl,rfl,⟨by decide,by decide,by decide⟩,_,rfl,_,_,rfl,rfl,.inl ⟨by decide,by decide⟩,_,rfl,_,_,rfl,rfl,⟨by decide,by decide,by decide⟩,_,_,rfl,rfl,.inr ⟨_,rfl,_,_,rfl,rfl,.inr ?_,_,_,rfl,rfl,q _⟩⟩
    split <;> decide
end
theorem ZdW {α β:Type} (f:α->β):∀ (l:List α) (k:Nat),(l.map f).eraseIdx k=(l.eraseIdx k).map f
 | [],_=>rfl
 | _::_,0=>rfl
 | x::l,k+1=>by rw [QAl,List.eraseIdx_cons_succ,List.eraseIdx_cons_succ,QAl,ZdW f l k]
theorem ZcA:∀ (l:List Int) (k:Nat) (h:k<l.length),([l[k]]++l.eraseIdx k).Perm l
 | x::l,0,_=>List.Perm.refl _
 | x::l,k+1,h=>by
  have ih:=ZcA l k (by simpa using h);show ([l[k]'(by simpa using h)]++(x::l.eraseIdx k)).Perm (x::l);exact (List.Perm.swap x _ _).trans (ih.cons x)
theorem Zi4 (n:Nat):rng n=(ZW n).map V.int:=by
 unfold rng ZW;rw [QAw]
 rfl
structure Turn (n:Nat) (r:List Int):Prop where
 len:r.length=n
 nd:r.Nodup
 rg:∀ x∈r,0<=x/\x<(n:Int)
theorem Turn.of_perm {n:Nat} {r:List Int} (h:r.Perm (ZW n)):Turn n r:=⟨by rw [h.length_eq,Yi],h.nodup_iff.mpr (JY n),fun x hx=>mem_rngI.mp (h.mem_iff.mp hx)⟩
inductive ZhY (vs:List V) (H:Hp) (Q:VK):Prop where
 | mk (n:Nat) (z:Int) (_:vs=[.int (n:Int),.int z]) (_:n<=8) (_:∀ (t:Addr) (H':Hp) (r:List Int),Same H H'->H t=none->H' t=some (.tup (r.map V.int))->Turn n r->Q (.ref t) H'):ZhY vs H Q
def ZiQ:Sp:=fun vs H Q _=>ZhY vs H Q
def ZlG (H:Hp) (n:Nat) (lp lf:Addr) (m:Nat) (σ:St) (H2:Hp):Prop :=
 ∃ (num:Int) (pool found:List Int),σ=[some (.int (n:Int)),some (.int num),some (.ref lp),some (.ref lf)]/\Same H H2/\H2 lp=some (.lst (pool.map V.int))/\H2 lf=some (.lst (found.map V.int))/\(found++pool).Perm (ZW n)/\m=pool.length
section
variable {P:Program} {w:World} {K:QZa} {mg:Str->Option Value} {base:Heap}
theorem scTurn:Zt ["_law_n","_law_number_here","_law_pool","_law_found"] ["_law_n","_law_number_here"] (Zi Ze1):=Fs
theorem ZkK {f:Addr} {fd:FuncData} (F:Fun K "_law_turn" "_law_turn" Ze1 f fd) (T:Blt mg):FnOk P w K mg base CX0 1 f fd ["_law_n","_law_number_here"] ZiQ:=by
 refine F.ok scTurn (fun vs H Q E h=>?_) (fun cdv A outer s H vs Q E hr h=>?_)
 ·obtain ⟨_,_,rfl,_⟩:=h
  rfl
 ·obtain ⟨n,z,rfl,h8,q⟩:=h;have hu:=huZ hr
  refine' ⟨_,Zd ?s0 (Zd (Zj (i:=3) scTurn.nd rfl (Or.inl rfl) (Z0 Zc)) (Zd (Za5 PassesOwn.never ?c (Zd ?b0 (Zf ?b1))) (Zf ?r))),?rd⟩
  case s0=>exact Zj (i:=2) scTurn.nd rfl (Or.inl rfl) (Zp (Zg4 rfl) rfl T.list ZeP (Za (Zp ZbT rfl T.range ZfN (Za (pv 0) Zc)) Zc))
  case c=>exact ZJ (Zmn hu K) (pv 2) (Z0 Zc) (Z7 _)
  case b0=>exact Yx (Jg PySem.F.plainAttrs_list PySem.F.slot_list_append PySem.F.type_list_append Yk (pv 3) (Za (Jg PySem.F.plainAttrs_list PySem.F.slot_list_pop PySem.F.type_list_pop Zjx (pv 2) (Za (Zk Yf (pv 1) (Zl (Zr K) rfl T.len PySem.boot_len (Za (pv 2) Zc))) Zc)) Zc))
  case b1=>exact Zj (i:=1) scTurn.nd rfl (Or.inl rfl) (Zk Yy (pv 1) (Zk Yj (Zl (Zr K) rfl T.len PySem.boot_len (Za (pv 2) Zc)) Zh))
  case r=>exact Zu (Zp (Zv K) rfl T.tuple ZL (Za (pv 3) Zc))
  case rd =>
   refine ⟨_,rfl,n,rfl,fun lr hlr=>⟨lr,n,rfl,Zb,by exact Om.b1 ‹_› rfl,fun lp hlp=>⟨QAg _,fun lf hlf=>?_⟩⟩⟩;rw [Zi4] at hlf ⊢;have s0:Same H (upd H lr (.rng 0 (n:Int))):=Same.new hlr;have s1:Same (upd H lr (.rng 0 (n:Int))) (upd (upd H lr (.rng 0 (n:Int))) lp (.lst ((ZW n).map V.int))):=Same.new hlp;have s2:Same (upd (upd H lr (.rng 0 (n:Int))) lp (.lst ((ZW n).map V.int))) (upd (upd (upd H lr (.rng 0 (n:Int))) lp (.lst ((ZW n).map V.int))) lf (.lst [])):=Same.new hlf;have fp:H lp=none:=s0.free hlp;have ff:H lf=none:=(s0.trans s1).free hlf;have hne:lp≠lf:=fun e=>by rw [<- e,Zb] at hlf; cases hlf
   refine ⟨ZlG H n lp lf,⟨_,z,ZW n,[],rfl,s0.trans (s1.trans s2),s2 _ _ Zb,Zb,List.Perm.refl _,rfl⟩,?_⟩;rintro m σ H2 ⟨num,pool,found,rfl,sH,hp,hf,hpm,rfl⟩;have hlen:found.length+pool.length=n:=by rw [<- QAo,hpm.length_eq,Yi]
   refine ⟨_,rfl,QAg _,fun le hle=>⟨lp,le,pool.map V.int,[],rfl,rfl,SqL.of ((Same.new hle) _ _ hp),SqL.of Zb,.inl ⟨ZO pool,rfl⟩,_,rfl,?_⟩⟩;have s3:Same H2 (upd H2 le (.lst [])):=Same.new hle;have hp3:=s3 _ _ hp;have hf3:=s3 _ _ hf;have sH3:=sH.trans s3;generalize upd H2 le (.lst [])=H3 at hp3 hf3 sH3 ⊢
   cases pool with
   | nil =>
    refine Zai ⟨_,rfl,lf,_,rfl,.inl ⟨SqL.of hf3,fun t ht=>?_⟩⟩;rw [QBq] at hpm;exact q t _ found (sH3.trans (Same.new ht)) (sH3.free ht) Zb (Turn.of_perm hpm)
   | cons x pool =>
    have hb:(if true=true then !Jn ((x::pool).map V.int) [] else Jn ((x::pool).map V.int) [])=true:=by rw [if_pos rfl,ZjU]; rfl
    rw [hb];refine Zbd ⟨fun σ' H'=>∃ m',m'<(x::pool).length/\ZlG H n lp lf m' σ' H',fun _ _ z=>z,?_⟩;have hpos:0<(x::pool).length:=Nat.succ_pos _;generalize x::pool=pl at hp3 hpm hlen hpos ⊢;have hml:(pl.map V.int).length=pl.length:=QAa _;have hp1:(0:Int)<(pl.length:Int):=by exact O442 hpos hml
    obtain ⟨i,hi,hil⟩:∃ i:Nat,num % (pl.length:Int)=(i:Int)/\i<pl.length:=by
     have e1:=QDa num (show (pl.length:Int)≠0 by exact O441 hpos hml);have e2:=QEg num hp1;exact ⟨(num % (pl.length:Int)).toNat,by exact Om.z1 ‹_›,by exact O440 h8 hlen hpos hml e2⟩
    have hsi:seqIndex? (i:Int) (pl.map V.int).length=some i:=by
     have:=PySem.StrLaws.seqIndex_nonneg (i:=(i:Int)) (n:=(pl.map V.int).length) (by exact Om.c6) (by rw [hml]; exact Om.c5 ‹_›)
     simpa using this
    refine ⟨_,rfl,.inl ⟨rfl,_,SqL.of hf3⟩,_,rfl,.inl ⟨rfl,_,SqL.of hp3⟩,_,rfl,_,rfl,lp,_,rfl,.inl (SqL.of hp3),_,_,rfl,rfl,by rw [hml]; exact hp1,lp,_,(i:Int),i,.int pl[i],rfl,?_,hp3,by exact O439 ,by exact O438 h8 hlen hpos hml hil,hsi,by rw [QAe,QAb hil]; rfl,?_⟩
    ·show [V.int (num % ((pl.map V.int).length:Int))]=_;rw [hml,hi]
    have hf4:(upd H3 lp (.lst ((pl.map V.int).eraseIdx i))) lf=some (.lst (found.map V.int)):=by rw [Ze (Ne.symm hne)]; exact hf3
    refine ⟨lf,_,_,rfl,rfl,hf4,by rw [QAa]; exact Zy (by exact O437 h8 hlen hpos hml),?_⟩;have hp5:(upd (upd H3 lp (.lst ((pl.map V.int).eraseIdx i))) lf (.lst (found.map V.int++[.int pl[i]]))) lp=some (.lst ((pl.eraseIdx i).map V.int)):=by rw [Ze hne,Zb,ZdW]
    refine ⟨_,rfl,_,rfl,lp,_,rfl,.inl (SqL.of hp5),_,_,rfl,rfl,_,_,rfl,rfl,⟨?_,?_⟩,(pl.eraseIdx i).length,?_,_,pl.eraseIdx i,found++[pl[i]],rfl,fun b u e=>?_,hp5,?_,?_,rfl⟩
    ·show (0:Int)<(((pl.eraseIdx i).map V.int).length:Int)+1;exact O436
    ·show (((pl.eraseIdx i).map V.int).length:Int)+1<1073741824;rw [QAa,List.length_eraseIdx]
     split <;> omega
    ·rw [List.length_eraseIdx,if_pos hil];exact O435 hpos hml
    ·rw [Ze (Zg e ff),Ze (Zg e fp)];exact sH3 _ _ e
    ·rw [Zb,QAm]
     rfl
    ·rw [QBo];exact (List.Perm.append_left found (ZcA pl i hil)).trans hpm
end
theorem J9:∀ {a b:List Int},a.Perm b->a.Pairwise (· <= ·)->b.Pairwise (· <= ·)->a=b
 | [],b,p,_,_=>(List.Perm.nil_eq p)
 | x::a,[],p,_,_=>by have:=p.length_eq; cases this
 | x::a,y::b,p,ha,hb=>by
  have hxy:x=y:=by
   have h1:y∈x::a:=p.mem_iff.mpr QAj;have h2:x∈y::b:=p.mem_iff.mp QAj;have l1:x<=y:=by
    rcases QZn.mp h1 with z | z
    ·exact O434 z
    ·exact (List.pairwise_cons.mp ha).1 y z
   have l2:y<=x:=by
    rcases QZn.mp h2 with z | z
    ·exact O434 z
    ·exact (List.pairwise_cons.mp hb).1 x z
   omega
  subst hxy;rw [J9 (List.Perm.cons_inv p) (List.pairwise_cons.mp ha).2 (List.pairwise_cons.mp hb).2]
def TG (H:Hp) (a:Addr) (R:LI):Prop:=∃ ps:List Addr,H a=some (.tup (ps.map V.ref))/\Paired (fun p (r:List Int)=>H p=some (.tup (r.map V.int))) ps R
theorem TG.same {c:Addr} {H H1:Hp} {R:LI} (g:TG H c R) (x:Same H H1):TG H1 c R :=
 let ⟨ps,h,r⟩:=g
 ⟨ps,x _ _ h,Paired.mapP r fun _ _ z=>x _ _ z⟩
theorem TG.at {c:Addr} {H:Hp} {R:LI} (g:TG H c R) {k:Nat} (hk:k<R.length):∃ xs p,H c=some (.tup xs)/\xs.length=R.length/\atI xs (k:Int)=some (.ref p)/\H p=some (.tup ((R.getD k []).map V.int)):=by
 obtain ⟨ps,h,r⟩:=g;obtain ⟨p,hp,hH⟩:=Paired.getR r (QAb hk);refine ⟨_,p,h,by rw [QAa,r.length],ZR (by rw [QAe,hp]; rfl),?_⟩;rw [hH]
 simp [QAd,QAb hk]
structure Ren (n:Nat) (R:LI):Prop where
 len:R.length=3
 row:∀ r∈R,Turn n r
theorem Ren.at {n:Nat} {R:LI} (h:Ren n R) {k:Nat} (hk:k<3):Turn n (R.getD k []):=by
 have hk':k<R.length:=by rw [h.len]; exact hk
 have:R.getD k []=R[k]:=by simp [QAd,QAb hk']
 rw [this];exact h.row _ (QAs hk')
theorem Jz {r:List Int} {i:Nat} (h:i<r.length):atI (r.map V.int) (i:Int)=some (.int (r.getD i 0)):=by
 refine ZR ?_;rw [QAe,QAb h]
 simp [QAd,QAb h]
inductive ZbU (K:QZa) (vs:List V) (H:Hp) (Q:VK):Prop where
 | mk (a:Addr) (ns:List Int) (k n:Nat) (_:vs=[.ref a,.int (k:Int),.int (n:Int)]) (_:SqL K H a (ns.map V.int)) (_:n<=8) (_:∀ (t:Addr) (H':Hp) (R:LI),Same H H'->H t=none->TG H' t R->Ren n R->Q (.ref t) H'):ZbU K vs H Q
def Zcn (K:QZa):Sp:=fun vs H Q _=>ZbU K vs H Q
section
variable {P:Program} {w:World} {K:QZa} {mg:Str->Option Value} {base:Heap}
theorem Zgw:Zt ["_law_script","_law_k","_law_n"] ["_law_script","_law_k","_law_n"] (Zi Zaq):=Fs
inductive Zgk (H:Hp) (a:Addr) (k:Nat) (n:Nat) (l:Addr) (i:Nat) (ys:List V) (σ:St) (H2:Hp):Prop where
 | mk (v:Option V) (qs:List Addr) (R:LI) (_:σ=[v,some (.int (n:Int)),some (.ref a),some (.int (k:Int))]) (_:ys=qs.map V.ref) (_:Same H H2) (_:H2 l=some (.lst ys)) (_:Paired (fun q (x:List Int)=>H2 q=some (.tup (x.map V.int))) qs R) (_:R.length=i) (_:∀ r∈R,Turn n r):Zgk H a k n l i ys σ H2
theorem Zff {f fC fN fT:Addr} {fd dC dN dT:FuncData} (F:Fun K "_law_renaming" "_law_renaming" Zaq f fd) (T:Blt mg) (DC:Dfn K mg "_law_cell_at" Zcp ["_law_script","_law_k"] fC dC) (DN:Dfn K mg "_law_number" ZaY ["_law_script","_law_k"] fN dN) (DT:Dfn K mg "_law_turn" Ze1 ["_law_n","_law_number_here"] fT dT) :
  FnOk P w K mg base CX0 3 f fd ["_law_script","_law_k","_law_n"] (Zcn K):=by
 have GN:FnOk P w K mg base CX0 2 fN dN ["_law_script","_law_k"] (Zbu K):=ZdF DN.F T DC;have GT:FnOk P w K mg base CX0 2 fT dT ["_law_n","_law_number_here"] ZiQ:=(ZkK DT.F T).mono (by decide);refine F.ok Zgw (fun vs H Q E h=>?_) (fun cdv A outer s H vs Q E hr h=>?_)
 ·obtain ⟨_,_,_,_,rfl,_⟩:=h
  rfl
 ·obtain ⟨a,ns,k,n,rfl,hS,h8,q⟩:=h;refine ⟨_,Zf (Zu (Zp (Zv K) rfl T.tuple ZL (Za (Yq ["_law_j","_law_n","_law_script","_law_k"] [none,some 2,some 0,some 1] rfl rfl (Zn rfl T.range (Za Zh Zc)) (fun _ _ _ _ _=>Yu 0) (fun _ _ _ _ _=>ZA)
   (fun _ _ _ _ _=>Zm GT hr rfl DT.m DT.F.kp DT.b .nil ZK (Za (pv 1) (Za (Zm GN hr rfl DN.m DN.F.kp DN.b .nil ZK (Za (pv 2) (Za (Zk Yj (pv 3) (pv 0)) Zc))) Zc)))) Zc))),?_⟩
  refine ⟨3,rfl,by decide,by decide,fun l hl=>?_⟩;refine Z5 (ZG (n:=3)) (Zgk H a k n l)
   ⟨none,[],[],rfl,rfl,Same.new hl,Zb,.nil,rfl,fun r h=>by cases h⟩ (fun i ys σ H2 zz0=> by obtain ⟨_,_,_,_,_,_,h2,_,_,_⟩ := zz0; exact ⟨trivial,h2⟩) ?_ ?_
  ·rintro i x ys σ H2 hx ⟨v,qs,R,rfl,rfl,s2,h2,hQ,hRl,hRt⟩;obtain ⟨hi,rfl⟩:=Z3 hx;refine ⟨_,rfl,_,rfl,_,rfl,_,rfl,_,_,rfl,rfl,a,ns,k+i,rfl,s2.seq hS,fun z=>?_⟩;refine ⟨n,z,rfl,h8,fun t H3 r s3 _ ht3 tr=>?_⟩;have h3:=s3 _ _ h2;have up:∀ b row,H3 b=some (.tup row)->(upd H3 l (.lst (qs.map V.ref++[.ref t]))) b=some (.tup row):=fun b row e=>by
    rw [Ze (YE e h3 (by intro z; cases z))];exact e
   refine ⟨h3,by rw [QAa,hQ.length,hRl]; exact Zy (by exact O433 hRl hi),_,qs++[t],R++[r],rfl,by rw [QAm]; rfl,fun b u e=>?_,Zb,Paired.snoc (Paired.mapP hQ fun _ _ e=>up _ _ (s3 _ _ e)) (up _ _ ht3),by rw [QAo,hRl]; rfl,fun x hx=>?_⟩
   ·rw [Ze (Zg e hl)];exact s3 _ _ (s2 _ _ e)
   ·rcases QZf.mp hx with hx | hx
    ·exact hRt x hx
    ·rw [QZc.mp hx];exact tr
  ·rintro ys σ H2 ⟨v,qs,R,rfl,rfl,s2,h2,hQ,hRl,hRt⟩;rw [Zs] at hRl;refine ⟨l,_,rfl,.inl ⟨SqL.of h2,fun t ht=>?_⟩⟩;exact q t _ R (s2.trans (Same.new ht)) (s2.free ht) ⟨qs,Zb,Paired.mapP hQ fun _ _ z=>(Same.new ht) _ _ z⟩ ⟨hRl,hRt⟩
end
end _M
namespace _M
noncomputable def cmp (r s:List Int):List Int:=r.map fun x=>s.getD x.toNat 0
noncomputable def inv (r:List Int):List Int:=(List.range r.length).map fun (i:Nat)=>((r.idxOf (i:Int):Nat):Int)
theorem ZE {r:List Int} {i:Nat} (h:i<r.length):r.getD i 0=r[i]:=by rw [QAd,QAb h]; rfl
theorem J6 {n:Nat} {r s:List Int} (hr:r.length=n) (hs:s.length=n) (h:∀ i,i<n->r.getD i 0=s.getD i 0):r=s:=by
 refine QBs (by exact Om.g2 ‹_› ‹_›) fun i h1 h2=>?_;rw [<- ZE h1,<- ZE h2];exact h i (by exact Om.a2 ‹_› ‹_›)
theorem Turn.val {n:Nat} {r:List Int} (t:Turn n r) {i:Nat} (h:i<n):∃ x:Nat,r.getD i 0=(x:Int)/\x<n:=by
 have hi:i<r.length:=by rw [t.len]; exact h
 have:=t.rg _ (QAs hi);rw [<- ZE hi] at this;exact ⟨(r.getD i 0).toNat,by exact O50 this,by exact O394 h this⟩
theorem Turn.inj {n:Nat} {r:List Int} (t:Turn n r) {i j:Nat} (hi:i<n) (hj:j<n) (e:r.getD i 0=r.getD j 0):i=j:=by
 have hi':i<r.length:=by rw [t.len]; exact hi
 have hj':j<r.length:=by rw [t.len]; exact hj
 rw [ZE hi',ZE hj'] at e
 by_cases h:i=j
 ·exact h
 ·have p:=List.pairwise_iff_getElem.mp (QZk.mp t.nd)
  rcases Nat.lt_or_gt_of_ne h with z | z
  ·exact absurd e (p i j hi' hj' z)
  ·exact absurd e.symm (p j i hj' hi' z)
theorem Turn.of {n:Nat} {r:List Int} (hl:r.length=n) (hv:∀ i,i<n->∃ x:Nat,r.getD i 0=(x:Int)/\x<n) (hi:∀ i j,i<n->j<n->r.getD i 0=r.getD j 0->i=j):Turn n r:=by
 refine ⟨hl,?_,fun x hx=>?_⟩
 ·refine QZk.mpr (List.pairwise_iff_getElem.mpr fun i j h1 h2 hij e=>?_);rw [<- ZE h1,<- ZE h2] at e;have:=hi i j (by exact O432 hl h1) (by exact Om.a2 ‹_› ‹_›) e;exact (O40 hij this).elim
 ·obtain ⟨i,h,e⟩:=QBd hx;obtain ⟨y,hy,hyn⟩:=hv i (by exact Om.a2 ‹_› ‹_›);rw [ZE h,e] at hy;exact O431 h hy hyn
theorem Je (r s:List Int):(cmp r s).length=r.length:=QAa _
theorem YV {n:Nat} {r s:List Int} (t:Turn n r) {i:Nat} (h:i<n):(cmp r s).getD i 0=s.getD (r.getD i 0).toNat 0:=by
 have hi:i<r.length:=by rw [t.len]; exact h
 rw [ZE (by rw [Je]; exact hi),ZE hi];exact QBu _
theorem Turn.cmp {n:Nat} {r s:List Int} (t:Turn n r) (u:Turn n s):Turn n (cmp r s):=by
 refine Turn.of (by rw [Je,t.len]) (fun i h=>?_) fun i j hi hj e=>?_
 ·obtain ⟨x,hx,hxn⟩:=t.val h;rw [YV t h,hx,QAf];exact u.val hxn
 ·obtain ⟨x,hx,hxn⟩:=t.val hi;obtain ⟨y,hy,hyn⟩:=t.val hj;rw [YV t hi,YV t hj,hx,hy,QAf,QAf] at e;have:=u.inj hxn hyn e;exact t.inj hi hj (by rw [hx,hy,this])
theorem ZbM {n:Nat} {r s u:List Int} (tr:Turn n r) (ts:Turn n s):cmp (cmp r s) u=cmp r (cmp s u):=by
 refine J6 (n:=n) (by rw [Je,Je,tr.len]) (by rw [Je,tr.len]) fun i h=>?_;obtain ⟨x,hx,hxn⟩:=tr.val h;rw [YV (tr.cmp ts) h,YV tr h,YV tr h,hx,QAf,YV ts hxn]
theorem Zar {n i:Nat} (h:i<n):(ZW n).getD i 0=(i:Int):=by
 have hi:i<(ZW n).length:=by rw [Yi]; exact h
 rw [ZE hi]
 simp [ZW]
theorem JM (n:Nat):Turn n (ZW n):=⟨Yi n,JY n,fun x hx=>mem_rngI.mp hx⟩
theorem ZbL {n:Nat} {r:List Int} (t:Turn n r):cmp r (ZW n)=r:=by
 refine J6 (n:=n) (by rw [Je,t.len]) t.len fun i h=>?_;obtain ⟨x,hx,hxn⟩:=t.val h;rw [YV t h,hx,QAf,Zar hxn]
theorem Zbt {n:Nat} {r:List Int} (t:Turn n r):cmp (ZW n) r=r:=by
 refine J6 (n:=n) (by rw [Je,Yi]) t.len fun i h=>?_;rw [YV (JM n) h,Zar h,QAf]
theorem Jm (r:List Int):(inv r).length=r.length:=by unfold inv; rw [QAa,QAq]
theorem Jy {n:Nat} {r:List Int} (t:Turn n r) {i:Nat} (h:i<n):(inv r).getD i 0=((r.idxOf (i:Int):Nat):Int):=by
 have hi:i<r.length:=by rw [t.len]; exact h
 rw [ZE (by rw [Jm]; exact hi)]
 simp [inv]
theorem YK {n:Nat} {r:List Int} (t:Turn n r) {i:Nat} (h:i<n):r.idxOf (i:Int)<n/\r.getD (r.idxOf (i:Int)) 0=(i:Int):=by
 have hm:(i:Int)∈r:=YO t.len t.nd t.rg ⟨by exact Om.c6,by exact Om.c5 ‹_›⟩;have h1:=QEv hm;refine ⟨by rw [<- t.len]; exact h1,?_⟩;rw [ZE h1];exact QDt h1
theorem Y9 {n:Nat} {r:List Int} (t:Turn n r) {i x:Nat} (h:i<n) (hx:x<n) (e:r.getD i 0=(x:Int)):r.idxOf (x:Int)=i:=by
 obtain ⟨h1,h2⟩:=YK t hx;exact t.inj h1 h (h2.trans e.symm)
theorem Turn.inv {n:Nat} {r:List Int} (t:Turn n r):Turn n (inv r):=by
 refine Turn.of (by rw [Jm,t.len]) (fun i h=>⟨_,Jy t h,(YK t h).1⟩) fun i j hi hj e=>?_;rw [Jy t hi,Jy t hj] at e;have e':r.idxOf (i:Int)=r.idxOf (j:Int):=by exact Om.e1 ‹_›
 have h1:=(YK t hi).2;rw [e',(YK t hj).2] at h1;omega
theorem ZeM {n:Nat} {r:List Int} (t:Turn n r):cmp r (inv r)=ZW n:=by
 refine J6 (n:=n) (by rw [Je,t.len]) (Yi n) fun i h=>?_;obtain ⟨x,hx,hxn⟩:=t.val h;rw [YV t h,hx,QAf,Jy t hxn,Zar h,Y9 t h hxn hx]
theorem ZeG {n:Nat} {r:List Int} (t:Turn n r):cmp (inv r) r=ZW n:=by
 refine J6 (n:=n) (by rw [Je,Jm,t.len]) (Yi n) fun i h=>?_;rw [YV t.inv h,Jy t h,QAf,(YK t h).2,Zar h]
theorem Zbe {n:Nat} {r:List Int} (t:Turn n r):inv (inv r)=r:=by
 refine J6 (n:=n) (by rw [Jm,Jm,t.len]) t.len fun i h=>?_;obtain ⟨x,hx,hxn⟩:=t.val h;rw [Jy t.inv h,hx,Y9 t.inv hxn h];rw [Jy t hxn,Y9 t h hxn hx]
noncomputable def YD (R S:LI):LI:=(List.range 3).map fun k=>cmp (R.getD k []) (S.getD k [])
noncomputable def YN (R:LI):LI:=R.map inv
noncomputable def JV (n:Nat):LI:=[ZW n,ZW n,ZW n]
theorem Ren.three {n:Nat} {R:LI} (h:Ren n R):∃ a b c,R=[a,b,c]/\Turn n a/\Turn n b/\Turn n c:=by
 obtain ⟨hl,hr⟩:=h
 match R,hl,hr with
 | [a,b,c],_,hr=>exact ⟨a,b,c,rfl,hr a (by simp),hr b (by simp),hr c (by simp)⟩
theorem Ren.of3 {n:Nat} {a b c:List Int} (ha:Turn n a) (hb:Turn n b) (hc:Turn n c):Ren n [a,b,c]:=⟨rfl,fun r hr=>by
 rcases QZn.mp hr with rfl | hr
 ·exact ha
 ·rcases QZn.mp hr with rfl | hr
  ·exact hb
  ·rw [QZc.mp hr];exact hc⟩
theorem Zoc (a b c d e f:List Int):YD [a,b,c] [d,e,f]=[cmp a d,cmp b e,cmp c f]:=rfl
theorem Zbs (n:Nat):Ren n (JV n):=Ren.of3 (JM n) (JM n) (JM n)
theorem Ren.beh {n:Nat} {R S:LI} (hR:Ren n R) (hS:Ren n S):Ren n (YD R S):=by
 obtain ⟨a,b,c,rfl,ha,hb,hc⟩:=hR.three;obtain ⟨d,e,f,rfl,hd,he,hf⟩:=hS.three;exact Ren.of3 (ha.cmp hd) (hb.cmp he) (hc.cmp hf)
theorem Ren.und {n:Nat} {R:LI} (hR:Ren n R):Ren n (YN R):=by
 obtain ⟨a,b,c,rfl,ha,hb,hc⟩:=hR.three;exact Ren.of3 ha.inv hb.inv hc.inv
theorem YX {n:Nat} {R:LI} (hR:Ren n R):YD R (YN R)=JV n/\YD (YN R) R=JV n/\YN (YN R)=R/\YD R (JV n)=R/\YD (JV n) R=R:=by
 obtain ⟨a,b,c,rfl,ha,hb,hc⟩:=hR.three;refine ⟨?_,?_,?_,?_,?_⟩
 ·show [cmp a (inv a),cmp b (inv b),cmp c (inv c)]=_;rw [ZeM ha,ZeM hb,ZeM hc]; rfl
 ·show [cmp (inv a) a,cmp (inv b) b,cmp (inv c) c]=_;rw [ZeG ha,ZeG hb,ZeG hc]; rfl
 ·show [inv (inv a),inv (inv b),inv (inv c)]=_;rw [Zbe ha,Zbe hb,Zbe hc]
 ·show [cmp a (ZW n),cmp b (ZW n),cmp c (ZW n)]=_;rw [ZbL ha,ZbL hb,ZbL hc]
 ·show [cmp (ZW n) a,cmp (ZW n) b,cmp (ZW n) c]=_;rw [Zbt ha,Zbt hb,Zbt hc]
theorem Jr {n:Nat} {R S U:LI} (hR:Ren n R) (hS:Ren n S) (hU:Ren n U):YD (YD R S) U=YD R (YD S U):=by
 obtain ⟨a,b,c,rfl,ha,hb,hc⟩:=hR.three;obtain ⟨d,e,f,rfl,hd,he,hf⟩:=hS.three;obtain ⟨g,h,i,rfl,hg,hh,hi⟩:=hU.three;show [cmp (cmp a d) g,cmp (cmp b e) h,cmp (cmp c f) i]=[cmp a (cmp d g),cmp b (cmp e h),cmp c (cmp f i)];rw [ZbM ha hd,ZbM hb he,ZbM hc hf]
end _M
namespace _M
open PySem _L
def Zh6 (n:Nat) (v:V):Prop:=v = .non\/∃ x:Nat,v = .int (x:Int)/\x<n
noncomputable def en (B:List (List V)) (i j:Nat):V:=(B.getD i []).getD j .non
structure EG (n:Nat) (B:List (List V)):Prop where
 len:B.length=n
 row:∀ i,i<n->(B.getD i []).length=n
 ent:∀ i j,i<n->j<n->Zh6 n (en B i j)
noncomputable def mkB (n:Nat) (f:Nat->Nat->V):List (List V):=(List.range n).map fun i=>(List.range n).map fun j=>f i j
theorem Zbb (n:Nat) (f:Nat->Nat->V):(mkB n f).length=n:=by unfold mkB; rw [QAa,QAq]
theorem Zca {n:Nat} (f:Nat->Nat->V) {i:Nat} (h:i<n):(mkB n f).getD i []=(List.range n).map fun j=>f i j:=by
 unfold mkB;rw [QAd,QAe,QBi h]
 rfl
theorem Zmw {n:Nat} (f:Nat->Nat->V) {i j:Nat} (h:i<n) (h':j<n):en (mkB n f) i j=f i j:=by
 unfold en;rw [Zca f h,QAd,QAe,QBi h']
 rfl
theorem ZbE {n:Nat} {f g:Nat->Nat->V} (h:∀ i j,i<n->j<n->f i j=g i j):mkB n f=mkB n g:=by
 unfold mkB;refine QBy fun i hi=>QBy fun j hj=>h i j (QZe.mp hi) (QZe.mp hj)
theorem EG.is {n:Nat} {B:List (List V)} (e:EG n B):B=mkB n (en B):=by
 refine QBs (by rw [Zbb,e.len]) fun i h1 h2=>?_;have hi:i<n:=by rw [<- e.len]; exact h1
 have e1:B[i]=B.getD i []:=by rw [QAd,QAb h1]; rfl
 have e2:(mkB n (en B))[i]=(mkB n (en B)).getD i []:=by rw [QAd,QAb h2]; rfl
 rw [e1,e2,Zca _ hi];refine QBs (by rw [e.row i hi,QAa,QAq]) fun j h3 h4=>?_;rw [QBu,QDm];unfold en;rw [QAd (l:=B.getD i []),QAb h3]
 rfl
noncomputable def ZaO (t:List Int):V->V
 | .int x=>.int (t.getD x.toNat 0)
 | v=>v
theorem ZjD {n:Nat} {t u:List Int} (ht:Turn n t) {v:V} (h:Zh6 n v):ZaO u (ZaO t v)=ZaO (cmp t u) v:=by
 rcases h with rfl | ⟨x,rfl,hx⟩
 ·rfl
 ·show V.int (u.getD (t.getD (x:Int).toNat 0).toNat 0)=V.int ((cmp t u).getD (x:Int).toNat 0);rw [QAf,YV ht hx]
theorem ZgP {n:Nat} {v:V} (h:Zh6 n v):ZaO (ZW n) v=v:=by
 rcases h with rfl | ⟨x,rfl,hx⟩
 ·rfl
 ·show V.int ((ZW n).getD (x:Int).toNat 0)=_;rw [QAf,Zar hx]
noncomputable def ixo (r:List Int) (i:Nat):Nat:=r.idxOf (i:Int)
noncomputable def YS (n:Nat) (B:List (List V)) (R:LI):List (List V):=mkB n fun i j=>ZaO (R.getD 2 []) (en B (ixo (R.getD 0 []) i) (ixo (R.getD 1 []) j))
theorem Z4 {n:Nat} {r:List Int} (t:Turn n r) {i:Nat} (h:i<n):ixo r i<n:=(YK t h).1
theorem ZhI {n:Nat} {r s:List Int} (t:Turn n r) (u:Turn n s) {i:Nat} (h:i<n):ixo (cmp r s) i=ixo r (ixo s i):=by
 obtain ⟨h1,h2⟩:=YK u h;obtain ⟨h3,h4⟩:=YK t h1;refine Y9 (t.cmp u) h3 h ?_;show (cmp r s).getD (r.idxOf ((s.idxOf (i:Int):Nat):Int)) 0=_;rw [YV t h3,h4,QAf,h2]
theorem ZdS {n i:Nat} (h:i<n):ixo (ZW n) i=i:=Y9 (JM n) h h (Zar h)
theorem Zbc {n:Nat} {r:List Int} (t:Turn n r) {i:Nat} (h:i<n):(inv r).getD i 0=((ixo r i:Nat):Int):=Jy t h
theorem ZdA {n:Nat} {B:List (List V)} (e:EG n B):YS n B (JV n)=B:=by
 conv=>rhs; rw [e.is]
 refine ZbE fun i j hi hj=>?_;show ZaO (ZW n) (en B (ixo (ZW n) i) (ixo (ZW n) j))=_;rw [ZdS hi,ZdS hj,ZgP (e.ent i j hi hj)]
theorem Zhx {n:Nat} {B:List (List V)} {R S:LI} (e:EG n B) (hR:Ren n R) (hS:Ren n S):YS n (YS n B R) S=YS n B (YD R S):=by
 obtain ⟨a,b,c,rfl,ha,hb,hc⟩:=hR.three;obtain ⟨a',b',c',rfl,ha',hb',hc'⟩:=hS.three;rw [Zoc];refine ZbE fun i j hi hj=>?_;show ZaO c' (en (YS n B [a,b,c]) (ixo a' i) (ixo b' j))=ZaO (cmp c c') (en B (ixo (cmp a a') i) (ixo (cmp b b') j));rw [ZhI ha ha' hi,ZhI hb hb' hj];have h1:=Z4 ha' hi;have h2:=Z4 hb' hj;unfold YS;rw [Zmw _ h1 h2];show ZaO c' (ZaO c (en B (ixo a (ixo a' i)) (ixo b (ixo b' j))))=_;rw [ZjD hc (e.ent _ _ (Z4 ha h1) (Z4 hb h2))]
theorem Zku {n:Nat} {B:List (List V)} {R:LI} (e:EG n B) (hR:Ren n R):YS n (YS n B R) (YN R)=B:=by
 rw [Zhx e hR hR.und,(YX hR).1,ZdA e]
theorem GridT.at' {c:Addr} {H:Hp} {B:List (List V)} (g:GridT H c B) {k:Nat} (hk:k<B.length):∃ xs p,H c=some (.tup xs)/\xs.length=B.length/\atI xs (k:Int)=some (.ref p)/\H p=some (.tup (B.getD k [])):=by
 obtain ⟨ps,h,r⟩:=g;obtain ⟨p,hp,hH⟩:=Paired.getR r (QAb hk);refine ⟨_,p,h,by rw [QAa,r.length],ZR (by rw [QAe,hp]; rfl),?_⟩;rw [hH]
 simp [QAd,QAb hk]
theorem ZlE {n:Nat} {B:List (List V)} (e:EG n B) {i j:Nat} (hi:i<n) (hj:j<n):atI (B.getD i []) (j:Int)=some (en B i j):=by
 refine ZR ?_;have:j<(B.getD i []).length:=by rw [e.row i hi]; exact hj
 unfold en;rw [QAd (l:=B.getD i []),QAb this]
 rfl
theorem YI {α β:Type} (g:α->β) (l:List α):l.filterMap (fun i=>some (g i))=l.map g:=by
 induction l with
 | nil=>rfl
 | cons a l ih=>rw [QCi,QAl,ih]
theorem Yr {α:Type} (l:List α) {i:Nat} (h:i<l.length):l.take (i+1)=l.take i++[l[i]]:=(List.take_append_getElem h).symm
inductive ZfT (vs:List V) (H:Hp) (Q:VK):Prop where
 | mk (n:Nat) (_:vs=[.int (n:Int)]) (_:1<=n) (_:n<=8) (_:∀ t H',Same H H'->TG H' t (JV n)->Q (.ref t) H'):ZfT vs H Q
def Zhj:Sp:=fun vs H Q _=>ZfT vs H Q
inductive Zd5 (vs:List V) (H:Hp) (Q:VK):Prop where
 | mk (a:Addr) (n:Nat) (R:LI) (_:vs=[.ref a]) (_:TG H a R) (_:Ren n R) (_:1<=n) (_:n<=8) (_:∀ t H',Same H H'->TG H' t (YN R)->Q (.ref t) H'):Zd5 vs H Q
def Zcm:Sp:=fun vs H Q _=>Zd5 vs H Q
inductive ZlI (vs:List V) (H:Hp) (Q:VK):Prop where
 | mk (a:Addr) (n:Nat) (r:List Int) (_:vs=[.ref a]) (_:H a=some (.tup (r.map V.int))) (_:Turn n r) (_:n<=8) (_:∀ t H',Same H H'->H t=none->H' t=some (.tup ((inv r).map V.int))->Q (.ref t) H'):ZlI vs H Q
def Znf:Sp:=fun vs H Q _=>ZlI vs H Q
inductive ZfW (vs:List V) (H:Hp) (Q:VK):Prop where
 | mk (v:V) (p:Addr) (n:Nat) (t:List Int) (_:vs=[v,.ref p]) (_:H p=some (.tup (t.map V.int))) (_:Turn n t) (_:Zh6 n v) (_:Q (ZaO t v) H):ZfW vs H Q
def Zhn:Sp:=fun vs H Q _=>ZfW vs H Q
inductive Zdd (vs:List V) (H:Hp) (Q:VK):Prop where
 | mk (g a:Addr) (n:Nat) (B:List (List V)) (R:LI) (_:vs=[.ref g,.ref a]) (_:GridT H g B) (_:EG n B) (_:TG H a R) (_:Ren n R) (_:1<=n) (_:n<=8) (_:∀ t H',Same H H'->GridT H' t (YS n B R)->Q (.ref t) H'):Zdd vs H Q
def Zao:Sp:=fun vs H Q _=>Zdd vs H Q
section
variable {P:Program} {w:World} {K:QZa} {mg:Str->Option Value} {base:Heap}
theorem scStill:Zt ["n","turn"] ["n"] (Zi Zeo):=Fs
theorem Zjl {f:Addr} {fd:FuncData} (F:Fun K "still" "still" Zeo f fd) (T:Blt mg):FnOk P w K mg base CX0 1 f fd ["n"] Zhj:=by
 refine F.ok scStill (fun vs H Q E h=>?_) (fun cdv A outer s H vs Q E hr h=>?_)
 ·obtain ⟨_,rfl,_⟩:=h
  rfl
 ·obtain ⟨n,rfl,h1,h8,q⟩:=h
  refine' ⟨_,Zd ?s0 (Zf (Zu (ZaK (Za (pv 1) (Za (pv 1) (Za (pv 1) Zc)))))),?rd⟩
  case s0=>exact Zj (i:=1) scStill.nd rfl (Or.inl rfl) (Zp (ZfK rfl) rfl T.tuple ZL (Za (Zp ZbT rfl T.range ZfN (Za (pv 0) Zc)) Zc))
  case rd =>
   refine ⟨_,rfl,n,rfl,fun lr hlr=>⟨lr,n,rfl,Zb,by exact Om.b1 ‹_› rfl,fun lt hlt=>?_⟩⟩;refine ⟨_,rfl,_,rfl,_,rfl,(show 3<=sizeLine from Zq (by decide)),fun lp hlp=>?_⟩;have s0:Same H (upd H lr (.rng 0 (n:Int))):=Same.new hlr;have s1:Same (upd H lr (.rng 0 (n:Int))) (upd (upd H lr (.rng 0 (n:Int))) lt (.tup (rng n))):=Same.new hlt;have s2:Same (upd (upd H lr (.rng 0 (n:Int))) lt (.tup (rng n))) (upd (upd (upd H lr (.rng 0 (n:Int))) lt (.tup (rng n))) lp (.tup [.ref lt,.ref lt,.ref lt])):=Same.new hlp;have ht:(upd (upd (upd H lr (.rng 0 (n:Int))) lt (.tup (rng n))) lp (.tup [.ref lt,.ref lt,.ref lt])) lt=some (.tup ((ZW n).map V.int)):=by
    rw [<- Zi4];exact s2 _ _ Zb
   exact q lp _ (s0.trans (s1.trans s2)) ⟨[lt,lt,lt],Zb,.cons ht (.cons ht (.cons ht .nil))⟩
theorem Zni:Zt ["turn"] ["turn"] (Zi Yo):=Fs
theorem Zdi {f:Addr} {fd:FuncData} (F:Fun K "turn_undone" "turn_undone" Yo f fd) (T:Blt mg):FnOk P w K mg base CX0 1 f fd ["turn"] Znf:=by
 refine F.ok Zni (fun vs H Q E h=>?_) (fun cdv A outer s H vs Q E hr h=>?_)
 ·obtain ⟨_,_,_,rfl,_⟩:=h
  rfl
 ·obtain ⟨a,n,r,rfl,ha,tr,h8,q⟩:=h;refine ⟨_,Zf (Zu (Zp (Zv K) rfl T.tuple ZL (Za (Yq ["number","turn"] [none,some 0] rfl rfl (Zn rfl T.range (Za (Zl (Zr K) rfl T.len PySem.boot_len (Za (pv 0) Zc)) Zc)) (fun _ _ _ _ _=>Yu 0) (fun _ _ _ _ _=>ZA) (fun _ _ _ _ _=>Jp (pv 1) (Za (pv 0) Zc))) Zc))),?_⟩;refine ⟨_,rfl,a,_,rfl,.inr (SqT.of ha),_,rfl,by exact Om.c2,by rw [QAa,tr.len]; exact Om.c1 ‹_› rfl,fun l hl=>?_⟩;rw [QAa,tr.len,QAf];refine ZB (fun i=>some (.int ((r.idxOf (i:Int):Nat):Int))) (fun σ=>∃ v,σ=[v,some (.ref a)]) (ZG (n:=n)) (by rw [Zs]; exact Zq (by exact Om.b1 ‹_› rfl)) hl (fun H' sm=>trivial) ⟨none,rfl⟩ ?_ ?_
  ·rintro j x σ H' R' hj ⟨v,rfl⟩ sm kk;obtain ⟨hjn,rfl⟩:=Z3 hj;refine ⟨_,rfl,a,r,rfl,sm _ _ ha,_,rfl,_,rfl,sm _ _ ha,YO tr.len tr.nd tr.rg ⟨by exact Om.c6,by exact Om.c5 ‹_›⟩,?_⟩;exact kk [some (.int (j:Int)),some (.ref a)] H' ⟨_,rfl⟩ (Same.refl _)
  ·intro H2 s2 h2;have e0:(List.range (rng n).length).filterMap (fun i:Nat=>some (V.int ((r.idxOf (i:Int):Nat):Int)))=(inv r).map V.int:=by
    rw [YI,Zs];unfold inv;rw [tr.len,QAw]
    rfl
   rw [e0] at h2;exact ⟨l,_,rfl,.inl ⟨SqL.of h2,fun t ht=>q t _ (s2.trans (Same.new ht)) (s2.free ht) Zb⟩⟩
theorem ZiY:Zt ["renaming"] ["renaming"] (Zi Zap):=Fs
inductive Zgj (H:Hp) (R:LI) (lz:Addr) (i:Nat) (ys:List V) (σ:St) (H4:Hp):Prop where
 | mk (v0:Option V) (zs:List Addr) (_:σ=[v0]) (_:ys=zs.map V.ref) (_:Same H H4) (_:H4 lz=some (.lst ys)) (_:Paired (fun q (r:List Int)=>H4 q=some (.tup (r.map V.int))) zs ((YN R).take i)):Zgj H R lz i ys σ H4
theorem ZbB {f fU:Addr} {fd dU:FuncData} (F:Fun K "undone" "undone" Zap f fd) (T:Blt mg) (DU:Dfn K mg "turn_undone" Yo ["turn"] fU dU):FnOk P w K mg base CX0 2 f fd ["renaming"] Zcm:=by
 have GU:FnOk P w K mg base CX0 1 fU dU ["turn"] Znf:=Zdi DU.F T;refine F.ok ZiY (fun vs H Q E h=>?_) (fun cdv A outer s H vs Q E hr h=>?_)
 ·obtain ⟨_,_,_,rfl,_⟩:=h
  rfl
 ·obtain ⟨a,n,R,rfl,hA,rR,h1,h8,q⟩:=h;refine ⟨_,Zf (Zu (Zp (Zv K) rfl T.tuple ZL (Za (Yq ["turn"] [none] rfl rfl (Za6 K (pv 0)) (fun _ _ _ _ _=>Yu 0) (fun _ _ _ _ _=>ZA) (fun _ _ _ _ _=>Zm GU hr rfl DU.m DU.F.kp DU.b .nil ZK (Za (pv 0) Zc))) Zc))),?_⟩;obtain ⟨ps,hps,hPs⟩:=id hA;have lp:(ps.map V.ref).length=3:=by rw [QAa,hPs.length,rR.len]
  have lu:(YN R).length=3:=by unfold YN; rw [QAa,rR.len]
  refine ⟨_,rfl,a,rfl,⟨_,SqT.of hps⟩,fun lz hlz=>?_⟩;refine Z5 (Zb0 (xs:=ps.map V.ref)) (Zgj H R lz)
   ⟨none,[],rfl,rfl,Same.new hlz,Zb,.nil⟩ (fun i ys σ H4 zz0=> by obtain ⟨_,_,_,_,s4,hl,_⟩ := zz0; exact ⟨SqT.of (s4 _ _ hps),hl⟩) ?_ ?_
  ·rintro i x ys σ H4 hx ⟨v0,zs,rfl,rfl,s4,hl4,hZ⟩;have hi:i<3:=by rw [<- lp]; exact (QZb.mp hx).1
   rw [QAe] at hx
   cases hpi:ps[i]? with
   | none=>rw [hpi] at hx; cases hx
   | some p1 =>
    rw [hpi] at hx
    cases hx;obtain ⟨r,hr1,hp1⟩:=Paired.getL hPs hpi;have tr:=rR.row r (QAx hr1);refine ⟨_,rfl,p1,n,r,rfl,s4 _ _ hp1,tr,h8,fun z H6 s6 hz0 hz=>?_⟩;have hl6:=s6 _ _ hl4;have up:∀ b row,H6 b=some (.tup row)->(upd H6 lz (.lst (zs.map V.ref++[.ref z]))) b=some (.tup row):=fun b row e=>by
     rw [Ze (YE e hl6 (by intro z; cases z))];exact e
    have hzl:zs.length=i:=by rw [hZ.length,QAt,lu]; exact Om.m1 ‹_›
    refine ⟨hl6,by rw [QAa,hzl]; exact Zy (by exact O347 hi hzl),_,zs++[z],rfl,by rw [QAm]; rfl,fun b u e=>?_,Zb,?_⟩
    ·rw [Ze (Zg e hlz)];exact s6 _ _ (s4 _ _ e)
    ·have eb:(YN R)[i]? = some (inv r):=by
      unfold YN;rw [QAe,hr1]
      rfl
     have hib:i<(YN R).length:=by exact Om.a1 ‹_› ‹_›
     rw [QAb hib] at eb;rw [Yr _ hib,QZl eb];exact Paired.snoc (Paired.mapP hZ fun _ _ e=>up _ _ (s6 _ _ e)) (up _ _ hz)
  ·rintro ys σ H4 ⟨v0,zs,rfl,rfl,s4,hl4,hZ⟩;rw [lp,QBc (by exact Om.l1 ‹_›)] at hZ;exact ⟨lz,_,rfl,.inl ⟨SqL.of hl4,fun t ht=>q t _ (s4.trans (Same.new ht)) ⟨zs,Zb,Paired.mapP hZ fun _ _ e=>(Same.new ht) _ _ e⟩⟩⟩
theorem Zkr:Zt ["entry","things"] ["entry","things"] (Zi Zco):=Fs
theorem Zjq {f:Addr} {fd:FuncData} (F:Fun K "entry_renamed" "entry_renamed" Zco f fd):FnOk P w K mg base CX0 1 f fd ["entry","things"] Zhn:=by
 refine F.ok Zkr (fun vs H Q E h=>?_) (fun cdv A outer s H vs Q E hr h=>?_)
 ·obtain ⟨_,_,_,_,rfl,_⟩:=h
  rfl
 ·obtain ⟨v,p,n,t,rfl,hp,ht,he,q⟩:=h;refine ⟨_,Zf (Zu (Zfc (ZaJ (Zjf (pv 0))) Zez (ZD Zah (pv 1) (pv 0) (fun _ _=>rfl)))),?_⟩
  rcases he with rfl | ⟨x,rfl,hx⟩
  ·exact ⟨_,rfl,_,rfl,Zbd q⟩
  ·refine ⟨_,rfl,_,rfl,Zai ⟨_,rfl,_,rfl,p,_,_,_,rfl,rfl,SqT.of hp,Jz (i:=x) (by rw [ht.len]; exact hx),?_⟩⟩;exact q
theorem scRenamed:Zt ["begun","renaming","sources","told","row"] ["begun","renaming"] (Zi ZaW):=Fs
inductive Zgi (g:Addr) (a:Addr) (n:Nat) (B:List (List V)) (R:LI) (su:Addr) (lt:Addr) (H2:Hp) (i:Nat) (σ:St) (H3:Hp):Prop where
 | mk (v4:Option V) (qs:List Addr) (_:σ=[some (.ref g),some (.ref a),some (.ref su),some (.ref lt),v4]) (_:(∀ b o,b≠lt->H2 b=some o->H3 b=some o)) (_:H3 lt=some (.lst (qs.map V.ref))) (_:Paired (fun p row=>H3 p=some (.tup row)/\p≠lt) qs ((YS n B R).take i)):Zgi g a n B R su lt H2 i σ H3
theorem ZgH {f fU fT fE:Addr} {fd dU dT dE:FuncData} (F:Fun K "renamed" "renamed" ZaW f fd) (T:Blt mg) (DU:Dfn K mg "undone" Zap ["renaming"] fU dU) (DT:Dfn K mg "turn_undone" Yo ["turn"] fT dT) (DE:Dfn K mg "entry_renamed" Zco ["entry","things"] fE dE):FnOk P w K mg base CX0 3 f fd ["begun","renaming"] Zao:=by
 have GU:FnOk P w K mg base CX0 2 fU dU ["renaming"] Zcm:=ZbB DU.F T DT;have GE:FnOk P w K mg base CX0 2 fE dE ["entry","things"] Zhn:=(Zjq DE.F).mono (by decide);refine F.ok scRenamed (fun vs H Q E h=>?_) (fun cdv A outer s H vs Q E hr h=>?_)
 ·obtain ⟨_,_,_,_,_,rfl,_⟩:=h
  rfl
 ·obtain ⟨g,a,n,B,R,rfl,hG,eg,hA,rn,h1,h8,q⟩:=h
  refine' ⟨_,Zd ?s0 (Zd (Zj (i:=3) scRenamed.nd rfl (Or.inl rfl) (Z0 Zc)) (Zd (Ye PassesOwn.never rfl (Zjb (ZD Zah (pv 2) Zh (fun _ _=>rfl))) (ZC (i:=4) scRenamed.nd rfl (Or.inr rfl)) (Zf ?b)) (Zf (Zu (Zp (Zv K) rfl T.tuple ZL (Za (pv 3) Zc)))))),?rd⟩
  case s0=>exact Zj (i:=2) scRenamed.nd rfl (Or.inl rfl) (Zm GU hr rfl DU.m DU.F.kp DU.b .nil ZK (Za (pv 1) Zc))
  case b=>exact Yx (Jg PySem.F.plainAttrs_list PySem.F.slot_list_append PySem.F.type_list_append Yk (pv 3) (Za (Zp (Zv K) rfl T.tuple ZL (Za (Yq ["column","begun","row","renaming"] [none,some 0,some 4,some 1] rfl rfl (Za6 K (ZD Zah (pv 2) Zh (fun _ _=>rfl))) (fun _ _ _ _ _=>Yu 0) (fun _ _ _ _ _=>ZA) (fun _ _ _ _ _=>Zm GE hr rfl DE.m DE.F.kp DE.b .nil ZK (Za (ZD (ZM K) (ZD (ZM K) (pv 1) (pv 2) (fun _ _=>rfl)) (pv 0) (fun _ _=>rfl)) (Za (ZD (ZM K) (pv 3) Zh (fun _ _=>rfl)) Zc)))) Zc)) Zc))
  case rd =>
   refine ⟨_,rfl,a,n,R,rfl,hA,rn,h1,h8,fun su H1 s1 hS=>⟨QAg _,fun lt hlt=>?_⟩⟩;have s2:Same H1 (upd H1 lt (.lst [])):=Same.new hlt;have hlt0:H lt=none:=s1.free hlt;have hl2:(upd H1 lt (.lst [])) lt=some (.lst []):=Zb;generalize upd H1 lt (.lst [])=H2 at s2 hl2 ⊢;have hS2:=hS.same s2;have rU:=rn.und;have g0:(YN R).getD 0 []=inv (R.getD 0 []):=by
    obtain ⟨x,y,z,rfl,_⟩:=rn.three
    rfl
   have g1:(YN R).getD 1 []=inv (R.getD 1 []):=by
    obtain ⟨x,y,z,rfl,_⟩:=rn.three
    rfl
   obtain ⟨xs0,p0,a1,a2,a3,a4⟩:=hS2.at (k:=0) (by rw [rU.len]; decide);obtain ⟨xs1,p1,b1,b2,b3,b4⟩:=hS2.at (k:=1) (by rw [rU.len]; decide);rw [g0] at a4;rw [g1] at b4;have t0:=rn.at (k:=0) (by decide);have t1:=rn.at (k:=1) (by decide);have t2:=rn.at (k:=2) (by decide);have l0:((inv (R.getD 0 [])).map V.int).length=n:=by rw [QAa,Jm,t0.len]
   have l1:((inv (R.getD 1 [])).map V.int).length=n:=by rw [QAa,Jm,t1.len]
   have hG2:=(hG.same s1).same s2;have hA2:=(hA.same s1).same s2;refine ⟨_,rfl,su,_,0,_,rfl,rfl,SqT.of a1,a3,p0,rfl,⟨_,SqT.of a4⟩,?_⟩;refine ZhN (xs:=(inv (R.getD 0 [])).map V.int) (Zgi g a n B R su lt H2)
    ⟨none,[],rfl,fun _ _ _ e=>e,hl2,.nil⟩ (fun i σ H3 _ zz0=> by obtain ⟨_,_,_,s3,_,_⟩ := zz0; exact SqT.of (s3 _ _ (fun z=>by rw [z,hl2] at a4; cases a4) a4)) ?_ ?_
   ·rintro i x σ H3 hx ⟨v4,qs,rfl,s3,hl3,hQ⟩;have hi:i<n:=by rw [<- l0]; exact (QZb.mp hx).1
    have hx':x = .int ((ixo (R.getD 0 []) i:Nat):Int):=by
     have hil:i<(inv (R.getD 0 [])).length:=by rw [Jm,t0.len]; exact hi
     rw [QAe,QAb hil] at hx;have:=Zbc t0 hi;rw [ZE hil] at this;rw [this] at hx
     cases hx
     rfl
    subst hx';have up:∀ {b:Addr} {row:List V},H2 b=some (.tup row)->H3 b=some (.tup row):=fun {b row} e=>s3 _ _ (fun z=>by rw [z,hl2] at e; cases e) e
    have hio:=Z4 t0 hi;obtain ⟨xg,pg,c1,c2,c3,c4⟩:=GridT.at' hG2 (k:=ixo (R.getD 0 []) i) (by rw [eg.len]; exact hio);obtain ⟨xr,pr,d1,d2,d3,d4⟩:=hA2.at (k:=2) (by rw [rn.len]; decide);refine ⟨_,rfl,.inl ⟨rfl,_,SqL.of hl3⟩,_,rfl,su,_,1,_,rfl,rfl,SqT.of (up b1),b3,p1,rfl,⟨_,SqT.of (up b4)⟩,fun lc hlc=>?_⟩;refine ZB (fun j=>some (ZaO (R.getD 2 []) (en B (ixo (R.getD 0 []) i) (ixo (R.getD 1 []) j)))) (fun σ=>∃ v,σ=[v,some (.ref g),some (.int ((ixo (R.getD 0 []) i:Nat):Int)),some (.ref a)]) (Zb0 (xs:=(inv (R.getD 1 [])).map V.int)) (by rw [l1]; exact Zq (by exact Om.b1 ‹_› rfl)) hlc (fun H' sm=>SqT.of (sm _ _ (up b4))) ⟨none,rfl⟩ ?_ ?_
    ·rintro j y σ H4 R' hj ⟨v,rfl⟩ sm kk;have hjn:j<n:=by rw [<- l1]; exact (QZb.mp hj).1
     have hy':y = .int ((ixo (R.getD 1 []) j:Nat):Int):=by
      have hil:j<(inv (R.getD 1 [])).length:=by rw [Jm,t1.len]; exact hjn
      rw [QAe,QAb hil] at hj;have:=Zbc t1 hjn;rw [ZE hil] at this;rw [this] at hj
      cases hj
      rfl
     subst hy';have hjo:=Z4 t1 hjn;refine ⟨_,rfl,_,rfl,g,_,_,_,rfl,rfl,SqT.of (sm _ _ (up c1)),c3,_,rfl,pg,_,_,_,rfl,rfl,SqT.of (sm _ _ (up c4)),ZlE eg hio hjo,_,rfl,a,_,2,_,rfl,rfl,SqT.of (sm _ _ (up d1)),d3,_,pr,n,R.getD 2 [],rfl,sm _ _ (up d4),t2,eg.ent _ _ hio hjo,?_⟩;exact kk [some (.int ((ixo (R.getD 1 []) j:Nat):Int)),some (.ref g),some (.int ((ixo (R.getD 0 []) i:Nat):Int)),some (.ref a)] H4 ⟨_,rfl⟩ (Same.refl _)
    ·intro H4 s4 h4;have er:(List.range ((inv (R.getD 1 [])).map V.int).length).filterMap (fun j:Nat=>some (ZaO (R.getD 2 []) (en B (ixo (R.getD 0 []) i) (ixo (R.getD 1 []) j))))=(YS n B R).getD i []:=by
      rw [YI,l1];unfold YS;rw [Zca _ hi]
     rw [er] at h4;have hib:i<(YS n B R).length:=by unfold YS; rw [Zbb]; exact hi
     have eb:(YS n B R)[i]=(YS n B R).getD i []:=by rw [QAd,QAb hib]; rfl
     generalize (YS n B R).getD i []=rw' at h4 eb;refine ⟨lc,_,rfl,.inl ⟨SqL.of h4,fun tp htp=>?_⟩⟩;have s5:Same H4 (upd H4 tp (.tup rw')):=Same.new htp;have hl5:=s5 _ _ (s4 _ _ hl3);have htl:tp≠lt:=fun z=>by rw [z,s4 _ _ hl3] at htp; cases htp
     have hql:qs.length=i:=by rw [hQ.length,QAt]; exact Om.m1 ‹_›
     refine ⟨lt,_,_,rfl,rfl,hl5,by rw [QAa,hql]; exact Zy (by exact O430 h1 h8 l0 l1 hi hql),_,qs++[tp],rfl,fun b o hb e=>?_,by rw [Zb,QAm]; rfl,?_⟩
     ·rw [Ze hb];exact s5 _ _ (s4 _ _ (s3 _ _ hb e))
     ·rw [Yr _ hib,eb];refine Paired.snoc (Paired.mapP hQ fun b row z=>⟨?_,z.2⟩) ⟨?_,htl⟩
      ·rw [Ze z.2];exact s5 _ _ (s4 _ _ z.1)
      ·rw [Ze htl,Zb]
   ·rintro σ H3 ⟨v4,qs,rfl,s3,hl3,hQ⟩;rw [l0,QBc (by unfold YS; rw [Zbb]; exact QAc _)] at hQ;refine ⟨_,rfl,lt,_,rfl,.inl ⟨SqL.of hl3,fun t ht=>q t _ (fun b o e=>?_) ⟨qs,Zb,Paired.mapP hQ fun _ _ z=>(Same.new ht) _ _ z.1⟩⟩⟩;exact Same.new ht _ _ (s3 _ _ (Zg e hlt0) (s2 _ _ (s1 _ _ e)))
end
theorem TG.three {H:Hp} {a:Addr} {x y z:List Int} (g:TG H a [x,y,z]):∃ p q r:Addr,H a=some (.tup [.ref p,.ref q,.ref r])/\H p=some (.tup (x.map V.int))/\H q=some (.tup (y.map V.int))/\H r=some (.tup (z.map V.int)):=by
 obtain ⟨ps,h,pr⟩:=g
 cases pr with
 | cons h1 t1 =>
  cases t1 with
  | cons h2 t2 =>
   cases t2 with
   | cons h3 t3 =>
    cases t3;exact ⟨_,_,_,h,h1,h2,h3⟩
section
variable {P:Program} {w:World} {K:QZa} {mg:Str->Option Value} {base:Heap}
theorem scRenL:Zt ["_law_begun","_law_renaming_here","_law_rows","_law_columns_here","_law_things","_law_n","_law_made","_law_row_here","_law_line","_law_entries"] ["_law_begun","_law_renaming_here"] (Zi Zhq):=Fs
inductive Zgh (g:Addr) (a:Addr) (n:Nat) (B:List (List V)) (r:List Int) (c:List Int) (t:List Int) (p0:Addr) (p1:Addr) (p2:Addr) (lt:Addr) (H2:Hp) (i:Nat) (σ:St) (H3:Hp):Prop where
 | mk (v7 v8 v9:Option V) (qs:List Addr) (_:σ=[some (.ref g),some (.ref a),some (.ref p0),some (.ref p1),some (.ref p2),some (.int (n:Int)),some (.ref lt),v7,v8,v9]) (_:(∀ b o,b≠lt->H2 b=some o->H3 b=some o)) (_:H3 lt=some (.lst (qs.map V.ref))) (_:Paired (fun p row=>H3 p=some (.tup row)/\p≠lt) qs ((YS n B [r,c,t]).take i)):Zgh g a n B r c t p0 p1 p2 lt H2 i σ H3
theorem ZkL {f:Addr} {fd:FuncData} (F:Fun K "_law_renamed" "_law_renamed" Zhq f fd) (T:Blt mg):FnOk P w K mg base CX0 1 f fd ["_law_begun","_law_renaming_here"] Zao:=by
 refine F.ok scRenL (fun vs H Q E h=>?_) (fun cdv A outer s H vs Q E hr h=>?_)
 ·obtain ⟨_,_,_,_,_,rfl,_⟩:=h
  rfl
 ·obtain ⟨g,a,n,B,R,rfl,hG,eg,hA,rn,h1,h8,q⟩:=h
  refine' ⟨_,Zd ?s0 (Zd ?s1 (Zd (Zj (i:=6) scRenL.nd rfl (Or.inl rfl) (Z0 Zc)) (Zd (Ye PassesOwn.never rfl (Zn rfl T.range (Za (pv 5) Zc)) (ZC (i:=7) scRenL.nd rfl (Or.inl rfl)) (Zd ?b0 (Zd ?b1 (Zf ?b2)))) (Zf (Zu (Zp (Zv K) rfl T.tuple ZL (Za (pv 6) Zc))))))),?rd⟩
  case s0=>exact Zcy (pv 1) (Zaw (n:=3) K rfl (ZX (ZC (i:=2) scRenL.nd rfl (Or.inl rfl)) (ZX (ZC (i:=3) scRenL.nd rfl (Or.inr rfl)) (ZX (ZC (i:=4) scRenL.nd rfl (Or.inr rfl)) JD))))
  case s1=>exact Zj (i:=5) scRenL.nd rfl (Or.inl rfl) (Zl (Zr K) rfl T.len PySem.boot_len (Za (pv 0) Zc))
  case b0=>exact Zj (i:=8) scRenL.nd rfl (Or.inr rfl) (ZD Zah (pv 0) (Jp (pv 2) (Za (pv 7) Zc)) (fun _ _=>rfl))
  case b1=>exact ZdD (i:=9) ["_law_column","_law_line","_law_columns_here"] [none,some 8,some 3] scRenL.nd rfl (Or.inl rfl) rfl rfl (Zn rfl T.range (Za (pv 5) Zc)) (fun _ _ _ _ _=>Yu 0) (fun _ _ _ _ _=>ZA) (fun _ _ _ _ _=>ZD (ZM K) (pv 1) (Jp (pv 2) (Za (pv 0) Zc)) (fun _ _=>rfl))
  case b2=>exact Yx (Jg PySem.F.plainAttrs_list PySem.F.slot_list_append PySem.F.type_list_append Yk (pv 6) (Za (Zp (Zv K) rfl T.tuple ZL (Za (Yq ["_law_thing","_law_things"] [none,some 4] rfl rfl (Z2 K (pv 9)) (fun _ _ _ _ _=>Yu 0) (fun _ _ _ _ _=>ZA) (fun _ _ _ _ _=>Zfc (ZaJ (Zjf (pv 0))) Zez (ZD (ZM K) (pv 1) (pv 0) (fun _ _=>rfl)))) Zc)) Zc))
  case rd =>
   obtain ⟨r,c,t,rfl,t0,t1,t2⟩:=rn.three;obtain ⟨p0,p1,p2,ha,hp0,hp1,hp2⟩:=hA.three;obtain ⟨gs,hgs,hGs⟩:=id hG;have hgl:(gs.map V.ref).length=n:=by rw [QAa,hGs.length,eg.len]
   refine ⟨_,rfl,a,_,rfl,SqT.of ha,rfl,_,_,rfl,_,_,rfl,_,_,rfl,rfl,?_⟩;refine ⟨_,rfl,g,_,rfl,.inr (SqT.of hgs),?_⟩;show ZaF 5 (V.int ((gs.map V.ref).length:Int)) _ _ _;rw [hgl];refine ⟨QAg _,fun lt hlt=>?_⟩;have s2:Same H (upd H lt (.lst [])):=Same.new hlt;have hl2:(upd H lt (.lst [])) lt=some (.lst []):=Zb;generalize upd H lt (.lst [])=H2 at s2 hl2 ⊢;refine ⟨_,rfl,(n:Int),rfl,by exact Om.c2,by exact Om.c1 ‹_› rfl,?_⟩;rw [QAf];refine ZT (lo:=0) (n:=n) (Zgh g a n B r c t p0 p1 p2 lt H2)
    ⟨none,none,none,[],rfl,fun _ _ _ e=>e,hl2,.nil⟩ ?_ ?_
   ·rintro i σ H3 hi ⟨v7,v8,v9,qs,rfl,s3,hl3,hQ⟩;rw [QBp];have up:∀ {b:Addr} {row:List V},H b=some (.tup row)->H3 b=some (.tup row):=fun {b row} e=>s3 _ _ (fun z=>by rw [z,hlt] at e; cases e) (s2 _ _ e)
    have hio:=Z4 t0 hi;obtain ⟨xg,pg,c1,c2,c3,c4⟩:=GridT.at' hG (k:=ixo r i) (by rw [eg.len]; exact hio);refine ⟨_,rfl,_,rfl,p0,r,rfl,up hp0,_,rfl,(i:Int),rfl,up hp0,YO t0.len t0.nd t0.rg ⟨by exact Om.c6,by exact Om.c5 ‹_›⟩,g,_,_,_,rfl,rfl,SqT.of (up c1),c3,?_⟩;refine ⟨_,rfl,(n:Int),rfl,by exact Om.c2,by exact Om.c1 ‹_› rfl,fun le hle=>?_⟩;rw [QAf];refine ZB (fun j=>some (en B (ixo r i) (ixo c j))) (fun σ=>∃ v,σ=[v,some (.ref pg),some (.ref p1)]) (ZG (n:=n)) (by rw [Zs]; exact Zq (by exact Om.b1 ‹_› rfl)) hle (fun H' sm=>trivial) ⟨none,rfl⟩ ?_ ?_
    ·rintro j y σ H4 R' hj ⟨v,rfl⟩ sm kk;obtain ⟨hjn,rfl⟩:=Z3 hj;have hjo:=Z4 t1 hjn;refine ⟨_,rfl,_,rfl,p1,c,rfl,sm _ _ (up hp1),_,rfl,(j:Int),rfl,sm _ _ (up hp1),YO t1.len t1.nd t1.rg ⟨by exact Om.c6,by exact Om.c5 ‹_›⟩,pg,_,_,_,rfl,rfl,SqT.of (sm _ _ (up c4)),ZlE eg hio hjo,?_⟩;exact kk [some (.int (j:Int)),some (.ref pg),some (.ref p1)] H4 ⟨_,rfl⟩ (Same.refl _)
    intro H4 s4 hle4;rw [YI,Zs] at hle4;refine ⟨_,rfl,.inl ⟨rfl,_,SqL.of (s4 _ _ hl3)⟩,_,rfl,le,rfl,⟨_,SqL.of hle4⟩,fun lc hlc=>?_⟩;refine ZB (fun j=>some (ZaO t (en B (ixo r i) (ixo c j)))) (fun σ=>∃ v,σ=[v,some (.ref p2)]) (Z1 (xs:=(List.range n).map fun j=>en B (ixo r i) (ixo c j))) (by rw [QAa,QAq]; exact Zq (by exact Om.b1 ‹_› rfl)) hlc (fun H' sm=>SqL.of (sm _ _ hle4)) ⟨none,rfl⟩ ?_ ?_
    ·rintro j y σ H5 R' hj ⟨v,rfl⟩ sm kk;have hjn:j<n:=by
      have:=(QZb.mp hj).1;rw [QAa,QAq] at this;exact this
     rw [QAe,QBi hjn] at hj
     cases hj;have kk':=fun v'=>kk [v',some (.ref p2)] H5 ⟨v',rfl⟩ (Same.refl _)
     show Zbm _ _ _ (en B (ixo r i) (ixo c j)) _ _ _
     rcases eg.ent _ _ hio (Z4 t1 hjn) with e | ⟨x,e,hx⟩
     ·rw [e] at kk' ⊢;exact ⟨_,rfl,_,rfl,Zbd (kk' _)⟩
     ·rw [e] at kk' ⊢;exact ⟨_,rfl,_,rfl,Zai ⟨_,rfl,_,rfl,p2,_,_,_,rfl,rfl,SqT.of (sm _ _ (s4 _ _ (up hp2))),Jz (i:=x) (by rw [t2.len]; exact hx),kk' _⟩⟩
    ·intro H5 s5 h5;have er:(List.range ((List.range n).map fun j=>en B (ixo r i) (ixo c j)).length).filterMap (fun j:Nat=>some (ZaO t (en B (ixo r i) (ixo c j))))=(YS n B [r,c,t]).getD i []:=by
      rw [YI,QAa,QAq];unfold YS;rw [Zca _ hi]
      rfl
     rw [er] at h5;have hib:i<(YS n B [r,c,t]).length:=by unfold YS; rw [Zbb]; exact hi
     have eb:(YS n B [r,c,t])[i]=(YS n B [r,c,t]).getD i []:=by rw [QAd,QAb hib]; rfl
     generalize (YS n B [r,c,t]).getD i []=rw' at h5 eb;refine ⟨lc,_,rfl,.inl ⟨SqL.of h5,fun tp htp=>?_⟩⟩;have s6:Same H5 (upd H5 tp (.tup rw')):=Same.new htp;have hl5:=s6 _ _ (s5 _ _ (s4 _ _ hl3));have htl:tp≠lt:=fun z=>by rw [z,s5 _ _ (s4 _ _ hl3)] at htp; cases htp
     have hql:qs.length=i:=by rw [hQ.length,QAt]; exact Om.m1 ‹_›
     refine ⟨lt,_,_,rfl,rfl,hl5,by rw [QAa,hql]; exact Zy (by exact O429 h1 h8 hgl hi hql),_,_,_,qs++[tp],rfl,fun b o hb e=>?_,by rw [Zb,QAm]; rfl,?_⟩
     ·rw [Ze hb];exact s6 _ _ (s5 _ _ (s4 _ _ (s3 _ _ hb e)))
     ·rw [Yr _ hib,eb];refine Paired.snoc (Paired.mapP hQ fun b row z=>⟨?_,z.2⟩) ⟨?_,htl⟩
      ·rw [Ze z.2];exact s6 _ _ (s5 _ _ (s4 _ _ z.1))
      ·rw [Ze htl,Zb]
   ·rintro σ H3 ⟨v7,v8,v9,qs,rfl,s3,hl3,hQ⟩;rw [QBc (by unfold YS; rw [Zbb]; exact QAc _)] at hQ;refine ⟨_,rfl,lt,_,rfl,.inl ⟨SqL.of hl3,fun tt htt=>q tt _ (fun b o e=>?_) ⟨qs,Zb,Paired.mapP hQ fun _ _ z=>(Same.new htt) _ _ z.1⟩⟩⟩;exact Same.new htt _ _ (s3 _ _ (Zg e hlt) (s2 _ _ e))
end
structure MG (H:Hp) (a:Addr) (ps:List Addr) (R:LI):Prop where
 out:H a=some (.lst (ps.map V.ref))
 rows:Paired (fun p (r:List Int)=>H p=some (.lst (r.map V.int))) ps R
 nd:ps.Nodup
 ap:a∉ps
noncomputable def mkI (n:Nat) (f:Nat->Nat->Int):LI:=(List.range n).map fun k=>(List.range n).map fun c=>f k c
theorem ZU (n:Nat) (f:Nat->Nat->Int):(mkI n f).length=n:=by unfold mkI; rw [QAa,QAq]
theorem ZcJ {n:Nat} (f:Nat->Nat->Int) {i:Nat} (h:i<n):(mkI n f)[i]? = some ((List.range n).map fun c=>f i c):=by
 unfold mkI;rw [QAe,QBi h]
 rfl
theorem ZcI {f:Nat->Int} {n:Nat} (h:∀ i j,i<n->j<n->f i=f j->i=j):((List.range n).map f).Nodup:=by
 refine QZk.mpr (QZm.mpr ?_);refine List.Pairwise.imp_of_mem ?_ (QZk.mp QCg);intro a b ha hb hne e;exact hne (h a b (QZe.mp ha) (QZe.mp hb) e)
theorem Zmv {n:Nat} {f:Nat->Nat->Int} (hv:∀ k c,k<n->c<n->0<=f k c/\f k c<(n:Int)) (hr:∀ k c d,k<n->c<n->d<n->f k c=f k d->c=d) (hcol:∀ k l c,k<n->l<n->c<n->f k c=f l c->k=l):OkRows n (mkI n f):=by
 refine ⟨by rw [ZU]; exact QAc _,fun r hr'=>?_,fun c hc=>?_⟩
 ·obtain ⟨k,hk,rfl⟩:=QZd.mp hr';have hk':=QZe.mp hk;refine ⟨by rw [QAa,QAq],ZcI fun i j hi hj e=>hr k i j hk' hi hj e,fun x hx=>?_⟩;obtain ⟨c,hc,rfl⟩:=QZd.mp hx;exact hv k c hk' (QZe.mp hc)
 ·have e:Yh (mkI n f) c=(List.range n).map fun k=>f k c:=by
   unfold Yh mkI;rw [QAw];refine QBy fun k _=>?_;show ((List.range n).map fun c=>f k c).getD c 0=f k c;rw [QAd,QAe,QBi hc]
   rfl
  rw [e];exact ZcI fun i j hi hj e=>hcol i j c hi hj hc e
noncomputable def okF (n:Nat) (f:Nat->Nat->Int):Bool:=(List.range n).all fun k=>(List.range n).all fun c=>decide (0<=f k c)&&decide (f k c<(n:Int))&&(List.range n).all fun d=>(!decide (f k c=f k d)||decide (c=d))&&(!decide (f c k=f d k)||decide (c=d))
theorem ZgK {n:Nat} {f:Nat->Nat->Int} (h:okF n f=true):OkRows n (mkI n f):=by
 unfold okF at h;rw [QBh] at h;have g:∀ k c,k<n->c<n->(0<=f k c/\f k c<(n:Int))/\∀ d,d<n->(f k c=f k d->c=d)/\(f c k=f d k->c=d):=fun k c hk hc=>by
  have h1:=h k (QZe.mpr hk);rw [QBh] at h1;have h2:=h1 c (QZe.mpr hc);rw [QAv,QAv,QZg,QZg,QBh] at h2;refine ⟨h2.1,fun d hd=>?_⟩;have h3:=h2.2 d (QZe.mpr hd);rw [QAv,QDp,QDp,Bool.not_eq_true',Bool.not_eq_true',decide_eq_false_iff_not,decide_eq_false_iff_not,QZg] at h3;exact ⟨fun e=>h3.1.elim (fun z=>absurd e z) id,fun e=>h3.2.elim (fun z=>absurd e z) id⟩
 exact Zmv (fun k c hk hc=>(g k c hk hc).1) (fun k c d hk hc hd e=>((g k c hk hc).2 d hd).1 e) (fun k l c hk hl hc e=>((g c k hc hk).2 l hl).2 e)
noncomputable def fX (i j:Nat):Int:=Builtin.bitXor (i:Int) (j:Int)
noncomputable def fS (i j:Nat):Int:=2*(((i:Int) / 2+(j:Int) / 2) % 3)+((i:Int)+(j:Int)) % 2
noncomputable def fC (n i j:Nat):Int:=((i:Int)+(j:Int)) % (n:Int)
theorem Zns:OkRows 4 (mkI 4 fX):=ZgK (by decide +kernel)
theorem Znt:OkRows 6 (mkI 6 fS):=ZgK (by decide +kernel)
theorem Zjp {n:Nat} (h:n<=8):OkRows n (mkI n (fC n)):=by
 refine ZgK ?_;have:∀ n,n<9->okF n (fC n)=true:=by decide +kernel
 exact this n (by exact Om.f3 ‹_›)
theorem Y4 {α β:Type} {F G:α->β->Prop}:∀ {as:List α} {bs:List β},Paired F as bs->(∀ a∈as,∀ b,F a b->G a b)->Paired G as bs
 | _,_,.nil,_=>.nil
 | _,_,.cons h t,k=>.cons (k _ QAj _ h) (Y4 t fun a ha b e=>k a (QAp _ ha) b e)
inductive Zh5 (vs:List V) (H:Hp) (Q:VK):Prop where
 | mk (n:Nat) (z:Int) (_:vs=[.int (n:Int),.int z]) (_:1<=n) (_:n<=8) (_:∀ (l:Addr) (ps:List Addr) (R:LI) (H':Hp),Same H H'->H l=none->(∀ p∈ps,H p=none)->MG H' l ps R->OkRows n R->R.length=n->Q (.ref l) H'):Zh5 vs H Q
def ZiX:Sp:=fun vs H Q _=>Zh5 vs H Q
section
variable {P:Program} {w:World} {K:QZa} {mg:Str->Option Value} {base:Heap}
theorem Zl6:Zt ["_law_n","_law_number_here"] ["_law_n","_law_number_here"] (Zi Ze2):=Fs
inductive Zgf (H:Hp) (l:Addr) (i:Nat) (ys:List V) (σ:St) (H2:Hp):Prop where
 | mk (v:Option V) (qs:List Addr) (_:σ=[v]) (_:ys=qs.map V.ref) (_:Same H H2) (_:H2 l=some (.lst ys)) (_:Paired (fun p (r:List Int)=>H2 p=some (.lst (r.map V.int))) qs ((mkI 4 fX).take i)) (_:qs.Nodup) (_:l∉qs) (_:∀ p∈qs,H p=none):Zgf H l i ys σ H2
inductive Zge (H:Hp) (n:Nat) (l:Addr) (i:Nat) (ys:List V) (σ:St) (H2:Hp):Prop where
 | mk (v:Option V) (qs:List Addr) (_:σ=[v,some (.int (n:Int))]) (_:ys=qs.map V.ref) (_:Same H H2) (_:H2 l=some (.lst ys)) (_:Paired (fun p (r:List Int)=>H2 p=some (.lst (r.map V.int))) qs ((mkI n (fC n)).take i)) (_:qs.Nodup) (_:l∉qs) (_:∀ p∈qs,H p=none):Zge H n l i ys σ H2
inductive Zgd (H:Hp) (l:Addr) (i:Nat) (ys:List V) (σ:St) (H2:Hp):Prop where
 | mk (v:Option V) (qs:List Addr) (_:σ=[v]) (_:ys=qs.map V.ref) (_:Same H H2) (_:H2 l=some (.lst ys)) (_:Paired (fun p (r:List Int)=>H2 p=some (.lst (r.map V.int))) qs ((mkI 6 fS).take i)) (_:qs.Nodup) (_:l∉qs) (_:∀ p∈qs,H p=none):Zgd H l i ys σ H2
inductive Zgc (H:Hp) (n:Nat) (l:Addr) (i:Nat) (ys:List V) (σ:St) (H2:Hp):Prop where
 | mk (v:Option V) (qs:List Addr) (_:σ=[v,some (.int (n:Int))]) (_:ys=qs.map V.ref) (_:Same H H2) (_:H2 l=some (.lst ys)) (_:Paired (fun p (r:List Int)=>H2 p=some (.lst (r.map V.int))) qs ((mkI n (fC n)).take i)) (_:qs.Nodup) (_:l∉qs) (_:∀ p∈qs,H p=none):Zgc H n l i ys σ H2
inductive Zgb (H:Hp) (n:Nat) (l:Addr) (i:Nat) (ys:List V) (σ:St) (H2:Hp):Prop where
 | mk (v:Option V) (qs:List Addr) (_:σ=[v,some (.int (n:Int))]) (_:ys=qs.map V.ref) (_:Same H H2) (_:H2 l=some (.lst ys)) (_:Paired (fun p (r:List Int)=>H2 p=some (.lst (r.map V.int))) qs ((mkI n (fC n)).take i)) (_:qs.Nodup) (_:l∉qs) (_:∀ p∈qs,H p=none):Zgb H n l i ys σ H2
theorem ZkP {f:Addr} {fd:FuncData} (F:Fun K "_law_base" "_law_base" Ze2 f fd) (T:Blt mg):FnOk P w K mg base CX0 1 f fd ["_law_n","_law_number_here"] ZiX:=by
 refine F.ok Zl6 (fun vs H Q E h=>?_) (fun cdv A outer s H vs Q E hr h=>?_)
 ·obtain ⟨_,_,rfl,_⟩:=h
  rfl
 ·obtain ⟨n,z,rfl,h1,h8,q⟩:=h
  refine' ⟨_,Zd (YT (PW.pt (ZgB ?c0 (Zew ?c1))) (Zf (Zu ?r0)) Z8) (Zd (YT (PW.pt (ZgB ?d0 (Zew ?d1))) (Zf (Zu ?r1)) Z8) (Zf (Zu ?r2))),?rd⟩
  case c0=>exact ZJ JO (pv 0) Zh (Z7 _)
  case c1=>exact ZJ JO (Zk Yf (pv 1) Zh) Zh (Z7 _)
  case d0=>exact ZJ JO (pv 0) Zh (Z7 _)
  case d1=>exact ZJ JO (Zk Yf (pv 1) Zh) Zh (Z7 _)
  case r0=>exact ZgF "_law_i" ["_law_i"] [none] rfl rfl (Zn rfl T.range (Za Zh Zc)) (fun _ _ _ _ _=>ZgD 0) (fun _ _ _ _ _=>ZA) (fun _ _ _ _ _=>Yq ["_law_j","_law_i"] [none,some 0] rfl rfl (Zn rfl T.range (Za Zh Zc)) (fun _ _ _ _ _=>Yu 0) (fun _ _ _ _ _=>ZA) (fun _ _ _ _ _=>Zk Zmm (pv 1) (pv 0)))
  case r1=>exact ZgF "_law_i" ["_law_i"] [none] rfl rfl (Zn rfl T.range (Za Zh Zc)) (fun _ _ _ _ _=>ZgD 0) (fun _ _ _ _ _=>ZA) (fun _ _ _ _ _=>Yq ["_law_j","_law_i"] [none,some 0] rfl rfl (Zn rfl T.range (Za Zh Zc)) (fun _ _ _ _ _=>Yu 0) (fun _ _ _ _ _=>ZA) (fun _ _ _ _ _=>Zk Yj (Zk Ju Zh (Zk Yf (Zk Yj (Zk Yy (pv 1) Zh) (Zk Yy (pv 0) Zh)) Zh)) (Zk Yf (Zk Yj (pv 1) (pv 0)) Zh)))
  case r2=>exact ZgF "_law_i" ["_law_i","_law_n"] [none,some 0] rfl rfl (Zn rfl T.range (Za (pv 0) Zc)) (fun _ _ _ _ _=>ZgD 0) (fun _ _ _ _ _=>ZA) (fun _ _ _ _ _=>Yq ["_law_j","_law_i","_law_n"] [none,some 0,some 1] rfl rfl (Zn rfl T.range (Za (pv 1) Zc)) (fun _ _ _ _ _=>Yu 0) (fun _ _ _ _ _=>ZA) (fun _ _ _ _ _=>Zk Yf (Zk Yj (pv 1) (pv 0)) (pv 2)))
  case rd =>
   refine ⟨_,rfl,rfl,_,rfl,?_⟩;refine JG (fun hd=>?_) (fun hd=>Zai ?_)
   ·have e4:n=4:=by
     have e:=QZj hd
     injection e with e
     omega
    refine ⟨_,rfl,_,_,rfl,rfl,(by show (0:Int)<3; decide),rfl,_,rfl,JG (fun _=>?_) (fun _=>?_)⟩
    ·subst e4;refine ⟨4,rfl,by decide,by decide,fun l hl=>?_⟩;refine Z5 (ZG (n:=4)) (Zgf H l)
      ⟨none,[],rfl,rfl,Same.new hl,Zb,.nil,QBg,by simp,fun p hp=>by cases hp⟩ (fun i ys σ H2 zz0=> by obtain ⟨_,_,_,_,_,h2,_,_,_,_⟩ := zz0; exact ⟨trivial,h2⟩) ?_ ?_
     ·rintro i x ys σ H2 hx ⟨v,qs,rfl,rfl,s2,h2,hQ,hnd,hap,hfr⟩;obtain ⟨hi,rfl⟩:=Z3 hx;refine ⟨4,rfl,by decide,by decide,fun l2 hl2=>?_⟩
      skip
      refine ZB (fun j=>some (.int (fX i j))) (fun σ=>∃ v,σ=[v,some (.int (i:Int))]) (ZG (n:=4)) (by rw [Zs]; exact Zq (by decide)) hl2 (fun _ _=>trivial) ⟨none,rfl⟩ ?_ ?_
      ·rintro j y σ H3 R' hj ⟨v,rfl⟩ sm kk;obtain ⟨hjn,rfl⟩:=Z3 hj;have kk':=kk [some (.int (j:Int)),some (.int (i:Int))] H3 ⟨_,rfl⟩ (Same.refl _);exact ⟨_,rfl,_,rfl,_,_,rfl,rfl,kk'⟩
      ·intro H3 s3 h3;rw [YI,Zs] at h3;have h23:=s3 _ _ h2;have e3:H3 l2=some (.lst (((List.range 4).map fun c=>fX i c).map V.int)):=by rw [h3,QAw]; rfl
       have hne:l2≠l:=fun z=>by rw [z,h2] at hl2; cases hl2
       have hnq:l2∉qs:=fun z=>by
        obtain ⟨k,hk,e⟩:=QBd z;obtain ⟨r,_,hp⟩:=Paired.getL hQ (QAb hk);rw [e,hl2] at hp
        cases hp
       have hql:qs.length=i:=by rw [hQ.length,QAt,ZU]; exact Om.m1 ‹_›
       have hib:i<(mkI 4 fX).length:=by rw [ZU]; exact hi
       have eb:(mkI 4 fX)[i]=(List.range 4).map fun c=>fX i c:=by
        have:=ZcJ (n:=4) fX hi;rw [QAb hib] at this;exact QZl this
       have up:∀ b,b≠l->(upd H3 l (.lst (qs.map V.ref++[.ref l2]))) b=H3 b:=fun b hb=>Ze hb
       have ap:∀ p∈qs,p≠l:=fun p hp z=>hap (z ▸ hp)
       refine ⟨h23,by rw [QAa,hql]; exact Zy (by exact O428 hi hql),_,qs++[l2],rfl,by rw [QAm]; rfl,fun b u e=>?_,Zb,?_,List.nodup_append.mpr ⟨hnd,by simp,fun a ha b hb e=>hnq (by rw [<- QZc.mp hb,<- e]; exact ha)⟩,?_,?_⟩
       ·rw [up _ (Zg e hl)];exact s3 _ _ (s2 _ _ e)
       ·rw [Yr _ hib,eb];refine Paired.snoc ?_ (by rw [up _ hne]; exact e3);exact Y4 hQ fun p hp r e=>by rw [up _ (ap p hp)]; exact s3 _ _ e
       ·intro z
        rcases QZf.mp z with z | z
        ·exact hap z
        ·exact hne (QZc.mp z).symm
       ·intro p hp
        rcases QZf.mp hp with hp | hp
        ·exact hfr p hp
        ·rw [QZc.mp hp];exact s2.free hl2
     ·rintro ys σ H2 ⟨v,qs,rfl,rfl,s2,h2,hQ,hnd,hap,hfr⟩;rw [Zs,QBc (by rw [ZU]; exact QAc _)] at hQ;exact q l qs _ H2 s2 hl hfr ⟨h2,hQ,hnd,hap⟩ (Zns) (ZU _ _)
    ·refine ⟨_,rfl,rfl,_,rfl,?_⟩;refine JG (fun hd2=>?_) (fun hd2=>Zai ?_)
     ·have e:=QZj hd2
      injection e with e
      exact (O427 e4 e).elim
     refine ⟨_,rfl,(n:Int),rfl,by exact Om.c2,by exact Om.c1 ‹_› rfl,fun l hl=>?_⟩;rw [QAf];refine Z5 (ZG (n:=n)) (Zge H n l)
      ⟨none,[],rfl,rfl,Same.new hl,Zb,.nil,QBg,by simp,fun p hp=>by cases hp⟩ (fun i ys σ H2 zz0=> by obtain ⟨_,_,_,_,_,h2,_,_,_,_⟩ := zz0; exact ⟨trivial,h2⟩) ?_ ?_
     ·rintro i x ys σ H2 hx ⟨v,qs,rfl,rfl,s2,h2,hQ,hnd,hap,hfr⟩;obtain ⟨hi,rfl⟩:=Z3 hx;refine ⟨_,rfl,(n:Int),rfl,by exact Om.c2,by exact Om.c1 ‹_› rfl,fun l2 hl2=>?_⟩;rw [QAf];refine ZB (fun j=>some (.int ((fC n) i j))) (fun σ=>∃ v,σ=[v,some (.int (i:Int)),some (.int (n:Int))]) (ZG (n:=n)) (by rw [Zs]; exact Zq (by exact Om.b1 ‹_› rfl)) hl2 (fun _ _=>trivial) ⟨none,rfl⟩ ?_ ?_
      ·rintro j y σ H3 R' hj ⟨v,rfl⟩ sm kk;obtain ⟨hjn,rfl⟩:=Z3 hj;have kk':=kk [some (.int (j:Int)),some (.int (i:Int)),some (.int (n:Int))] H3 ⟨_,rfl⟩ (Same.refl _);exact ⟨_,rfl,_,rfl,_,_,rfl,rfl,_,rfl,_,_,rfl,rfl,(by show (0:Int)<(n:Int); exact Om.c3 ‹_›),kk'⟩
      ·intro H3 s3 h3;rw [YI,Zs] at h3;have h23:=s3 _ _ h2;have e3:H3 l2=some (.lst (((List.range n).map fun c=>(fC n) i c).map V.int)):=by rw [h3,QAw]; rfl
       have hne:l2≠l:=fun z=>by rw [z,h2] at hl2; cases hl2
       have hnq:l2∉qs:=fun z=>by
        obtain ⟨k,hk,e⟩:=QBd z;obtain ⟨r,_,hp⟩:=Paired.getL hQ (QAb hk);rw [e,hl2] at hp
        cases hp
       have hql:qs.length=i:=by rw [hQ.length,QAt,ZU]; exact Om.m1 ‹_›
       have hib:i<(mkI n (fC n)).length:=by rw [ZU]; exact hi
       have eb:(mkI n (fC n))[i]=(List.range n).map fun c=>(fC n) i c:=by
        have:=ZcJ (n:=n) (fC n) hi;rw [QAb hib] at this;exact QZl this
       have up:∀ b,b≠l->(upd H3 l (.lst (qs.map V.ref++[.ref l2]))) b=H3 b:=fun b hb=>Ze hb
       have ap:∀ p∈qs,p≠l:=fun p hp z=>hap (z ▸ hp)
       refine ⟨h23,by rw [QAa,hql]; exact Zy (by exact O426 e4 hi hql),_,qs++[l2],rfl,by rw [QAm]; rfl,fun b u e=>?_,Zb,?_,List.nodup_append.mpr ⟨hnd,by simp,fun a ha b hb e=>hnq (by rw [<- QZc.mp hb,<- e]; exact ha)⟩,?_,?_⟩
       ·rw [up _ (Zg e hl)];exact s3 _ _ (s2 _ _ e)
       ·rw [Yr _ hib,eb];refine Paired.snoc ?_ (by rw [up _ hne]; exact e3);exact Y4 hQ fun p hp r e=>by rw [up _ (ap p hp)]; exact s3 _ _ e
       ·intro z
        rcases QZf.mp z with z | z
        ·exact hap z
        ·exact hne (QZc.mp z).symm
       ·intro p hp
        rcases QZf.mp hp with hp | hp
        ·exact hfr p hp
        ·rw [QZc.mp hp];exact s2.free hl2
     ·rintro ys σ H2 ⟨v,qs,rfl,rfl,s2,h2,hQ,hnd,hap,hfr⟩;rw [Zs,QBc (by rw [ZU]; exact QAc _)] at hQ;exact q l qs _ H2 s2 hl hfr ⟨h2,hQ,hnd,hap⟩ (Zjp h8) (ZU _ _)
   ·refine ⟨_,rfl,rfl,_,rfl,?_⟩;refine JG (fun hd2=>?_) (fun hd2=>Zai ?_)
    ·have e6:n=6:=by
      have e:=QZj hd2
      injection e with e
      omega
     refine ⟨_,rfl,_,_,rfl,rfl,(by show (0:Int)<3; decide),rfl,_,rfl,JG (fun _=>?_) (fun _=>?_)⟩
     ·subst e6;refine ⟨6,rfl,by decide,by decide,fun l hl=>?_⟩;refine Z5 (ZG (n:=6)) (Zgd H l)
       ⟨none,[],rfl,rfl,Same.new hl,Zb,.nil,QBg,by simp,fun p hp=>by cases hp⟩ (fun i ys σ H2 zz0=> by obtain ⟨_,_,_,_,_,h2,_,_,_,_⟩ := zz0; exact ⟨trivial,h2⟩) ?_ ?_
      ·rintro i x ys σ H2 hx ⟨v,qs,rfl,rfl,s2,h2,hQ,hnd,hap,hfr⟩;obtain ⟨hi,rfl⟩:=Z3 hx;refine ⟨6,rfl,by decide,by decide,fun l2 hl2=>?_⟩
       skip
       refine ZB (fun j=>some (.int (fS i j))) (fun σ=>∃ v,σ=[v,some (.int (i:Int))]) (ZG (n:=6)) (by rw [Zs]; exact Zq (by decide)) hl2 (fun _ _=>trivial) ⟨none,rfl⟩ ?_ ?_
       ·rintro j y σ H3 R' hj ⟨v,rfl⟩ sm kk;obtain ⟨hjn,rfl⟩:=Z3 hj;have kk':=kk [some (.int (j:Int)),some (.int (i:Int))] H3 ⟨_,rfl⟩ (Same.refl _);exact ⟨_,rfl,_,_,rfl,rfl,⟨by decide,by decide⟩,_,rfl,_,_,rfl,rfl,⟨by decide,by decide⟩,_,_,rfl,rfl,_,_,rfl,rfl,(by show (0:Int)<3; decide),_,_,rfl,rfl,.inl ⟨by decide,by decide⟩,_,rfl,_,rfl,_,_,rfl,rfl,_,_,rfl,rfl,(by show (0:Int)<2; decide),_,_,rfl,rfl,kk'⟩
       ·intro H3 s3 h3;rw [YI,Zs] at h3;have h23:=s3 _ _ h2;have e3:H3 l2=some (.lst (((List.range 6).map fun c=>fS i c).map V.int)):=by rw [h3,QAw]; rfl
        have hne:l2≠l:=fun z=>by rw [z,h2] at hl2; cases hl2
        have hnq:l2∉qs:=fun z=>by
         obtain ⟨k,hk,e⟩:=QBd z;obtain ⟨r,_,hp⟩:=Paired.getL hQ (QAb hk);rw [e,hl2] at hp
         cases hp
        have hql:qs.length=i:=by rw [hQ.length,QAt,ZU]; exact Om.m1 ‹_›
        have hib:i<(mkI 6 fS).length:=by rw [ZU]; exact hi
        have eb:(mkI 6 fS)[i]=(List.range 6).map fun c=>fS i c:=by
         have:=ZcJ (n:=6) fS hi;rw [QAb hib] at this;exact QZl this
        have up:∀ b,b≠l->(upd H3 l (.lst (qs.map V.ref++[.ref l2]))) b=H3 b:=fun b hb=>Ze hb
        have ap:∀ p∈qs,p≠l:=fun p hp z=>hap (z ▸ hp)
        refine ⟨h23,by rw [QAa,hql]; exact Zy (by exact O425 hi hql),_,qs++[l2],rfl,by rw [QAm]; rfl,fun b u e=>?_,Zb,?_,List.nodup_append.mpr ⟨hnd,by simp,fun a ha b hb e=>hnq (by rw [<- QZc.mp hb,<- e]; exact ha)⟩,?_,?_⟩
        ·rw [up _ (Zg e hl)];exact s3 _ _ (s2 _ _ e)
        ·rw [Yr _ hib,eb];refine Paired.snoc ?_ (by rw [up _ hne]; exact e3);exact Y4 hQ fun p hp r e=>by rw [up _ (ap p hp)]; exact s3 _ _ e
        ·intro z
         rcases QZf.mp z with z | z
         ·exact hap z
         ·exact hne (QZc.mp z).symm
        ·intro p hp
         rcases QZf.mp hp with hp | hp
         ·exact hfr p hp
         ·rw [QZc.mp hp];exact s2.free hl2
      ·rintro ys σ H2 ⟨v,qs,rfl,rfl,s2,h2,hQ,hnd,hap,hfr⟩;rw [Zs,QBc (by rw [ZU]; exact QAc _)] at hQ;exact q l qs _ H2 s2 hl hfr ⟨h2,hQ,hnd,hap⟩ (Znt) (ZU _ _)
     ·refine ⟨_,rfl,(n:Int),rfl,by exact Om.c2,by exact Om.c1 ‹_› rfl,fun l hl=>?_⟩;rw [QAf];refine Z5 (ZG (n:=n)) (Zgc H n l)
       ⟨none,[],rfl,rfl,Same.new hl,Zb,.nil,QBg,by simp,fun p hp=>by cases hp⟩ (fun i ys σ H2 zz0=> by obtain ⟨_,_,_,_,_,h2,_,_,_,_⟩ := zz0; exact ⟨trivial,h2⟩) ?_ ?_
      ·rintro i x ys σ H2 hx ⟨v,qs,rfl,rfl,s2,h2,hQ,hnd,hap,hfr⟩;obtain ⟨hi,rfl⟩:=Z3 hx;refine ⟨_,rfl,(n:Int),rfl,by exact Om.c2,by exact Om.c1 ‹_› rfl,fun l2 hl2=>?_⟩;rw [QAf];refine ZB (fun j=>some (.int ((fC n) i j))) (fun σ=>∃ v,σ=[v,some (.int (i:Int)),some (.int (n:Int))]) (ZG (n:=n)) (by rw [Zs]; exact Zq (by exact Om.b1 ‹_› rfl)) hl2 (fun _ _=>trivial) ⟨none,rfl⟩ ?_ ?_
       ·rintro j y σ H3 R' hj ⟨v,rfl⟩ sm kk;obtain ⟨hjn,rfl⟩:=Z3 hj;have kk':=kk [some (.int (j:Int)),some (.int (i:Int)),some (.int (n:Int))] H3 ⟨_,rfl⟩ (Same.refl _);exact ⟨_,rfl,_,rfl,_,_,rfl,rfl,_,rfl,_,_,rfl,rfl,(by show (0:Int)<(n:Int); exact Om.c3 ‹_›),kk'⟩
       ·intro H3 s3 h3;rw [YI,Zs] at h3;have h23:=s3 _ _ h2;have e3:H3 l2=some (.lst (((List.range n).map fun c=>(fC n) i c).map V.int)):=by rw [h3,QAw]; rfl
        have hne:l2≠l:=fun z=>by rw [z,h2] at hl2; cases hl2
        have hnq:l2∉qs:=fun z=>by
         obtain ⟨k,hk,e⟩:=QBd z;obtain ⟨r,_,hp⟩:=Paired.getL hQ (QAb hk);rw [e,hl2] at hp
         cases hp
        have hql:qs.length=i:=by rw [hQ.length,QAt,ZU]; exact Om.m1 ‹_›
        have hib:i<(mkI n (fC n)).length:=by rw [ZU]; exact hi
        have eb:(mkI n (fC n))[i]=(List.range n).map fun c=>(fC n) i c:=by
         have:=ZcJ (n:=n) (fC n) hi;rw [QAb hib] at this;exact QZl this
        have up:∀ b,b≠l->(upd H3 l (.lst (qs.map V.ref++[.ref l2]))) b=H3 b:=fun b hb=>Ze hb
        have ap:∀ p∈qs,p≠l:=fun p hp z=>hap (z ▸ hp)
        refine ⟨h23,by rw [QAa,hql]; exact Zy (by exact O424 e6 hi hql),_,qs++[l2],rfl,by rw [QAm]; rfl,fun b u e=>?_,Zb,?_,List.nodup_append.mpr ⟨hnd,by simp,fun a ha b hb e=>hnq (by rw [<- QZc.mp hb,<- e]; exact ha)⟩,?_,?_⟩
        ·rw [up _ (Zg e hl)];exact s3 _ _ (s2 _ _ e)
        ·rw [Yr _ hib,eb];refine Paired.snoc ?_ (by rw [up _ hne]; exact e3);exact Y4 hQ fun p hp r e=>by rw [up _ (ap p hp)]; exact s3 _ _ e
        ·intro z
         rcases QZf.mp z with z | z
         ·exact hap z
         ·exact hne (QZc.mp z).symm
        ·intro p hp
         rcases QZf.mp hp with hp | hp
         ·exact hfr p hp
         ·rw [QZc.mp hp];exact s2.free hl2
      ·rintro ys σ H2 ⟨v,qs,rfl,rfl,s2,h2,hQ,hnd,hap,hfr⟩;rw [Zs,QBc (by rw [ZU]; exact QAc _)] at hQ;exact q l qs _ H2 s2 hl hfr ⟨h2,hQ,hnd,hap⟩ (Zjp h8) (ZU _ _)
    ·refine ⟨_,rfl,(n:Int),rfl,by exact Om.c2,by exact Om.c1 ‹_› rfl,fun l hl=>?_⟩;rw [QAf];refine Z5 (ZG (n:=n)) (Zgb H n l)
      ⟨none,[],rfl,rfl,Same.new hl,Zb,.nil,QBg,by simp,fun p hp=>by cases hp⟩ (fun i ys σ H2 zz0=> by obtain ⟨_,_,_,_,_,h2,_,_,_,_⟩ := zz0; exact ⟨trivial,h2⟩) ?_ ?_
     ·rintro i x ys σ H2 hx ⟨v,qs,rfl,rfl,s2,h2,hQ,hnd,hap,hfr⟩;obtain ⟨hi,rfl⟩:=Z3 hx;refine ⟨_,rfl,(n:Int),rfl,by exact Om.c2,by exact Om.c1 ‹_› rfl,fun l2 hl2=>?_⟩;rw [QAf];refine ZB (fun j=>some (.int ((fC n) i j))) (fun σ=>∃ v,σ=[v,some (.int (i:Int)),some (.int (n:Int))]) (ZG (n:=n)) (by rw [Zs]; exact Zq (by exact Om.b1 ‹_› rfl)) hl2 (fun _ _=>trivial) ⟨none,rfl⟩ ?_ ?_
      ·rintro j y σ H3 R' hj ⟨v,rfl⟩ sm kk;obtain ⟨hjn,rfl⟩:=Z3 hj;have kk':=kk [some (.int (j:Int)),some (.int (i:Int)),some (.int (n:Int))] H3 ⟨_,rfl⟩ (Same.refl _);exact ⟨_,rfl,_,rfl,_,_,rfl,rfl,_,rfl,_,_,rfl,rfl,(by show (0:Int)<(n:Int); exact Om.c3 ‹_›),kk'⟩
      ·intro H3 s3 h3;rw [YI,Zs] at h3;have h23:=s3 _ _ h2;have e3:H3 l2=some (.lst (((List.range n).map fun c=>(fC n) i c).map V.int)):=by rw [h3,QAw]; rfl
       have hne:l2≠l:=fun z=>by rw [z,h2] at hl2; cases hl2
       have hnq:l2∉qs:=fun z=>by
        obtain ⟨k,hk,e⟩:=QBd z;obtain ⟨r,_,hp⟩:=Paired.getL hQ (QAb hk);rw [e,hl2] at hp
        cases hp
       have hql:qs.length=i:=by rw [hQ.length,QAt,ZU]; exact Om.m1 ‹_›
       have hib:i<(mkI n (fC n)).length:=by rw [ZU]; exact hi
       have eb:(mkI n (fC n))[i]=(List.range n).map fun c=>(fC n) i c:=by
        have:=ZcJ (n:=n) (fC n) hi;rw [QAb hib] at this;exact QZl this
       have up:∀ b,b≠l->(upd H3 l (.lst (qs.map V.ref++[.ref l2]))) b=H3 b:=fun b hb=>Ze hb
       have ap:∀ p∈qs,p≠l:=fun p hp z=>hap (z ▸ hp)
       refine ⟨h23,by rw [QAa,hql]; exact Zy (by exact O423 h1 h8 hi hql),_,qs++[l2],rfl,by rw [QAm]; rfl,fun b u e=>?_,Zb,?_,List.nodup_append.mpr ⟨hnd,by simp,fun a ha b hb e=>hnq (by rw [<- QZc.mp hb,<- e]; exact ha)⟩,?_,?_⟩
       ·rw [up _ (Zg e hl)];exact s3 _ _ (s2 _ _ e)
       ·rw [Yr _ hib,eb];refine Paired.snoc ?_ (by rw [up _ hne]; exact e3);exact Y4 hQ fun p hp r e=>by rw [up _ (ap p hp)]; exact s3 _ _ e
       ·intro z
        rcases QZf.mp z with z | z
        ·exact hap z
        ·exact hne (QZc.mp z).symm
       ·intro p hp
        rcases QZf.mp hp with hp | hp
        ·exact hfr p hp
        ·rw [QZc.mp hp];exact s2.free hl2
     ·rintro ys σ H2 ⟨v,qs,rfl,rfl,s2,h2,hQ,hnd,hap,hfr⟩;rw [Zs,QBc (by rw [ZU]; exact QAc _)] at hQ;exact q l qs _ H2 s2 hl hfr ⟨h2,hQ,hnd,hap⟩ (Zjp h8) (ZU _ _)
end
structure Row (n:Nat) (r:List Int):Prop where
 len:r.length=n
 nd:r.Nodup
 rg:∀ x∈r,0<=x/\x<(n:Int)
theorem OkRows.rowAt {n:Nat} {R:LI} (ok:OkRows n R) {k:Nat} (hk:k<R.length):Row n (R.getD k []):=by
 have:R.getD k []=R[k]:=by simp [QAd,QAb hk]
 rw [this];obtain ⟨h1,h2,h3⟩:=ok.row _ (QAs hk);exact ⟨h1,h2,h3⟩
theorem Row.inj {n:Nat} {r:List Int} (t:Row n r) {i j:Nat} (hi:i<n) (hj:j<n) (e:r.getD i 0=r.getD j 0):i=j:=by
 have hi':i<r.length:=by rw [t.len]; exact hi
 have hj':j<r.length:=by rw [t.len]; exact hj
 rw [ZE hi',ZE hj'] at e
 by_cases h:i=j
 ·exact h
 ·have p:=List.pairwise_iff_getElem.mp (QZk.mp t.nd)
  rcases Nat.lt_or_gt_of_ne h with z | z
  ·exact absurd e (p i j hi' hj' z)
  ·exact absurd e.symm (p j i hj' hi' z)
theorem Row.has {n:Nat} {r:List Int} (t:Row n r) {x:Int} (h:0<=x/\x<(n:Int)):r.idxOf x<n/\r.getD (r.idxOf x) 0=x:=by
 have hm:x∈r:=YO t.len t.nd t.rg h;have h1:=QEv hm;refine ⟨by rw [<- t.len]; exact h1,?_⟩;rw [ZE h1];exact QDt h1
theorem Row.val {n:Nat} {r:List Int} (t:Row n r) {i:Nat} (h:i<n):0<=r.getD i 0/\r.getD i 0<(n:Int):=by
 have hi:i<r.length:=by rw [t.len]; exact h
 rw [ZE hi];exact t.rg _ (QAs hi)
noncomputable def stp (a b:List Int) (c:Nat):Nat:=a.idxOf (b.getD c 0)
theorem ZaS {n:Nat} {a b:List Int} (ha:Row n a) (hb:Row n b):One n (stp a b):=by
 refine ⟨fun c hc=>(ha.has (hb.val hc)).1,fun c d hc hd e=>?_⟩;have h1:=(ha.has (hb.val hc)).2;have h2:=(ha.has (hb.val hd)).2;unfold stp at e;rw [e,h2] at h1;exact (hb.inj hd hc h1).symm
noncomputable def toI (l:List Nat):List Int:=l.map fun (c:Nat)=>(c:Int)
theorem Zkl (l:List Nat) (x:Nat):toI (l++[x])=toI l++[(x:Int)]:=by unfold toI; rw [QAm]; rfl
noncomputable def ent (R:LI) (k c:Nat):Int:=(R.getD k []).getD c 0
noncomputable def mk (n:Nat) (f:Nat->Nat->Int):LI:=(List.range n).map fun k=>(List.range n).map fun c=>f k c
theorem Zmu {n:Nat} {f:Nat->Nat->Int} {k c:Nat} (hk:k<n) (hc:c<n):ent (mk n f) k c=f k c:=by
 unfold ent mk
 simp [QAd,QAe,QBi hk,QBi hc]
theorem ZdI {α:Type} {f:Nat->α} {n:Nat} (h:∀ i j,i<n->j<n->f i=f j->i=j):((List.range n).map f).Nodup:=by
 refine QZk.mpr (QZm.mpr ?_);refine List.Pairwise.imp_of_mem ?_ (QZk.mp QCg);intro a b ha hb hne e;exact hne (h a b (QZe.mp ha) (QZe.mp hb) e)
theorem ZlA {n:Nat} {f:Nat->Nat->Int} (hv:∀ k c,k<n->c<n->0<=f k c/\f k c<(n:Int)) (hr:∀ k c d,k<n->c<n->d<n->f k c=f k d->c=d) (hcol:∀ k l c,k<n->l<n->c<n->f k c=f l c->k=l):OkRows n (mk n f)/\(mk n f).length=n:=by
 have hl:(mk n f).length=n:=by unfold mk; rw [QAa,QAq]
 refine ⟨⟨Nat.le_of_eq hl,fun r h=>?_,fun c hc=>?_⟩,hl⟩
 ·obtain ⟨k,hk,rfl⟩:=QZd.mp h;have hk':=QZe.mp hk;refine ⟨by rw [QAa,QAq],ZdI fun i j hi hj e=>hr k i j hk' hi hj e,fun x hx=>?_⟩;obtain ⟨c,hc,rfl⟩:=QZd.mp hx;exact hv k c hk' (QZe.mp hc)
 ·have e:Yh (mk n f) c=(List.range n).map fun k=>f k c:=by
   unfold Yh mk;rw [QAw];refine QBy fun k hk=>?_;show ((List.range n).map fun c=>f k c).getD c 0=f k c
   simp [QAd,QAe,QBi hc]
  rw [e];exact ZdI fun i j hi hj e=>hcol i j c hi hj hc e
theorem ZF {n:Nat} {R:LI} (ok:OkRows n R) (hl:R.length=n) {k:Nat} (hk:k<n):Row n (R.getD k []):=ok.rowAt (by exact Om.a1 ‹_› ‹_›)
theorem J1 {n:Nat} {R:LI} (ok:OkRows n R) (hl:R.length=n) {k l c:Nat} (hk:k<n) (hl':l<n) (hc:c<n) (e:ent R k c=ent R l c):k=l:=by
 have nd:=ok.col c hc;have k1:k<(Yh R c).length:=by unfold Yh; rw [QAa]; exact Om.a1 ‹_› ‹_›
 have k2:l<(Yh R c).length:=by unfold Yh; rw [QAa]; exact Om.a1 ‹_› ‹_›
 by_cases h:k=l
 ·exact h
 ·have p:=List.pairwise_iff_getElem.mp (QZk.mp nd);have e1:(Yh R c)[k]=ent R k c:=by simp [Yh,ent,QAd,QAb (show k<R.length by exact Om.a1 ‹_› ‹_›)]
  have e2:(Yh R c)[l]=ent R l c:=by simp [Yh,ent,QAd,QAb (show l<R.length by exact Om.a1 ‹_› ‹_›)]
  rcases Nat.lt_or_gt_of_ne h with z | z
  ·exact absurd (e1.trans (e.trans e2.symm)) (p k l k1 k2 z)
  ·exact absurd (e2.trans (e.symm.trans e1.symm)) (p l k k2 k1 z)
theorem Znu {n:Nat} {R:LI} (ok:OkRows n R) (hl:R.length=n):mk n (ent R)=R:=by
 refine QBs (by unfold mk; rw [QAa,QAq,hl]) fun k h1 h2=>?_;have hk:k<n:=by exact Om.a2 ‹_› ‹_›
 have e:(mk n (ent R))[k]=(List.range n).map fun c=>ent R k c:=by simp [mk]
 rw [e];have hr:=(ok.row _ (QAs h2)).1;refine QBs (by rw [QAa,QAq,hr]) fun c h3 h4=>?_
 simp [ent,QAd,QAb h2,QAb h4]
noncomputable def other (o1 o2:Nat) (S:List Nat) (k c:Nat):Nat:=if c∈S/\(k=o1\/k=o2) then o1+o2 - k else k
noncomputable def ZgW (n:Nat) (R:LI) (o1 o2:Nat) (S:List Nat):LI:=mk n fun k c=>ent R (other o1 o2 S k c) c
theorem ZcE {n o1 o2:Nat} {S:List Nat} (h1:o1<n) (h2:o2<n) {k c:Nat} (hk:k<n):other o1 o2 S k c<n:=by
 unfold other
 split
 ·next h=>rcases h.2 with e | e <;> omega
 ·exact hk
theorem Zii {o1 o2:Nat} {S:List Nat} {k l c:Nat} (e:other o1 o2 S k c=other o1 o2 S l c):k=l:=by
 unfold other at e
 split at e <;> split at e
 ·next h h'=>rcases h.2 with a | a <;> rcases h'.2 with b | b <;> omega
 ·next h h' =>
  exact absurd ⟨h.1,by rcases h.2 with a | a <;> omega⟩ h'
 ·next h h' =>
  exact absurd ⟨h'.1,by rcases h'.2 with a | a <;> omega⟩ h
 ·exact e
theorem ZbA {o1 o2:Nat} {S:List Nat} (c:Nat):other o1 o2 S o1 c=if c∈S then o2 else o1:=by
 unfold other
 by_cases h:c∈S
 ·rw [if_pos ⟨h,.inl rfl⟩,if_pos h]; exact O306 
 ·rw [if_neg (fun z=>h z.1),if_neg h]
theorem Zbz {o1 o2:Nat} {S:List Nat} (c:Nat):other o1 o2 S o2 c=if c∈S then o1 else o2:=by
 unfold other
 by_cases h:c∈S
 ·rw [if_pos ⟨h,.inr rfl⟩,if_pos h]; exact O422 
 ·rw [if_neg (fun z=>h z.1),if_neg h]
theorem ZaL {o1 o2:Nat} {S:List Nat} {k:Nat} (h1:k≠o1) (h2:k≠o2) (c:Nat):other o1 o2 S k c=k:=by
 unfold other;rw [if_neg (fun z=>z.2.elim h1 h2)]
theorem Zek {n:Nat} {a b:List Int} (ha:Row n a) (hb:Row n b) {c:Nat} (hc:c<n):a.getD (stp a b c) 0=b.getD c 0:=(ha.has (hb.val hc)).2
theorem ZnD {n:Nat} {R:LI} (ok:OkRows n R) (hl:R.length=n) {o1 o2 c0:Nat} (h1:o1<n) (h2:o2<n) (hc0:c0<n) :
  OkRows n (ZgW n R o1 o2 (Yp (stp (R.getD o1 []) (R.getD o2 [])) n c0))/\(ZgW n R o1 o2 (Yp (stp (R.getD o1 []) (R.getD o2 [])) n c0)).length=n:=by
 have ra:=ZF ok hl h1;have rb:=ZF ok hl h2;have so:=ZaS ra rb;have cl:=fun {x} hx=>Ze5 (x:=x) so hc0 hx
 have hse:∀ c,c<n->ent R o1 (stp (R.getD o1 []) (R.getD o2 []) c)=ent R o2 c:=fun c hc=>Zek ra rb hc
 generalize stp (R.getD o1 []) (R.getD o2 [])=s at so cl hse;have hlt:∀ x∈Yp s n c0,x<n:=(JZ so hc0).1.lt so;generalize Yp s n c0=S at cl hlt;have x1:∀ c d,c∈S->d∉S->d<n->ent R o2 c≠ent R o1 d:=fun c d hc hd hdn e=>by
  have:=hse c (hlt c hc);have e2:stp (R.getD o1 []) (R.getD o2 []) c=stp (R.getD o1 []) (R.getD o2 []) c:=rfl;have e3:=ra.inj (so.lt c (hlt c hc)) hdn (this.trans e);exact hd (e3 ▸ (cl hc).1)
 have x2:∀ c d,c∈S->d∉S->d<n->ent R o1 c≠ent R o2 d:=fun c d hc hd hdn e=>by
  have h3:=hse d hdn;have e3:=ra.inj (hlt c hc) (so.lt d hdn) (e.trans h3.symm);obtain ⟨y,hy,e4⟩:=(cl hc).2;have:=so.inj y d (hlt y hy) hdn (e4.trans e3);exact hd (this ▸ hy)
 refine ZlA (fun k c hk hc=>(ZF ok hl (ZcE h1 h2 hk)).val hc) (fun k c d hk hc hd e=>?_) fun k l c hk hl' hc e=>Zii (J1 ok hl (ZcE h1 h2 hk) (ZcE h1 h2 hl') hc e)
 by_cases k1:k=o1
 ·subst k1;rw [ZbA,ZbA] at e
  by_cases hcS:c∈S <;> by_cases hdS:d∈S
  ·rw [if_pos hcS,if_pos hdS] at e; exact rb.inj hc hd e
  ·rw [if_pos hcS,if_neg hdS] at e; exact absurd e (x1 c d hcS hdS hd)
  ·rw [if_neg hcS,if_pos hdS] at e; exact absurd e.symm (x1 d c hdS hcS hc)
  ·rw [if_neg hcS,if_neg hdS] at e; exact ra.inj hc hd e
 ·by_cases k2:k=o2
  ·subst k2;rw [Zbz,Zbz] at e
   by_cases hcS:c∈S <;> by_cases hdS:d∈S
   ·rw [if_pos hcS,if_pos hdS] at e; exact ra.inj hc hd e
   ·rw [if_pos hcS,if_neg hdS] at e; exact absurd e (x2 c d hcS hdS hd)
   ·rw [if_neg hcS,if_pos hdS] at e; exact absurd e.symm (x2 d c hdS hcS hc)
   ·rw [if_neg hcS,if_neg hdS] at e; exact rb.inj hc hd e
  ·rw [ZaL k1 k2,ZaL k1 k2] at e;exact (ZF ok hl hk).inj hc hd e
theorem ZeE {n i:Nat} (h:i<n):ixN n (i:Int)=some i:=by
 unfold ixN;rw [if_pos (by exact Om.c6),if_pos (by exact Om.c5 ‹_›),QAf]
noncomputable def ZH (n:Nat) (x y:List Int) (S:List Nat):List Int:=(List.range n).map fun c=>if c∈S then y.getD c 0 else x.getD c 0
theorem Zl9 {n:Nat} {R:LI} (ok:OkRows n R) (hl:R.length=n) {k:Nat} (hk:k<n):R[k]? = some ((List.range n).map fun c=>ent R k c):=by
 have e:(mk n (ent R))[k]? = R[k]?:=by rw [Znu ok hl]
 rw [<- e];unfold mk;rw [QAe,QBi hk]
 rfl
theorem ZmK {n:Nat} {R:LI} (ok:OkRows n R) (hl:R.length=n) {o1 o2:Nat} (h1:o1<n) (h2:o2<n) (S:List Nat) :
  (R.set o1 (ZH n (R.getD o1 []) (R.getD o2 []) S)).set o2 (ZH n (R.getD o2 []) (R.getD o1 []) S)=ZgW n R o1 o2 S:=by
 refine QDn fun k=>?_
 by_cases hk:k<n
 ·have er:(ZgW n R o1 o2 S)[k]? = some ((List.range n).map fun c=>ent R (other o1 o2 S k c) c):=by
   unfold ZgW mk;rw [QAe,QBi hk]
   rfl
  rw [er,QCu,QCu]
  by_cases e2:o2=k
  ·subst e2;rw [if_pos rfl,QCx,if_pos (by exact Om.a1 ‹_› ‹_›)];unfold ZH
   congr 1
   refine QBy fun c _=>?_;rw [Zbz]
   by_cases hc:c∈S
   ·rw [if_pos hc,if_pos hc]; rfl
   ·rw [if_neg hc,if_neg hc]; rfl
  ·rw [if_neg e2]
   by_cases e1:o1=k
   ·subst e1;rw [if_pos rfl,if_pos (by exact Om.a1 ‹_› ‹_›)];unfold ZH
    congr 1
    refine QBy fun c _=>?_;rw [ZbA]
    by_cases hc:c∈S
    ·rw [if_pos hc,if_pos hc]; rfl
    ·rw [if_neg hc,if_neg hc]; rfl
   ·rw [if_neg e1,Zl9 ok hl hk]
    congr 1
    refine QBy fun c _=>?_;rw [ZaL (fun z=>e1 z.symm) (fun z=>e2 z.symm)]
 ·rw [QCv (by rw [QCx,QCx]; exact O421 hl hk),QCv (by unfold ZgW mk; rw [QAa,QAq]; exact O369 hk)]
theorem Zdu {n:Nat} {x y:List Int} (h:x.length=n):ZH n x y []=x:=by
 unfold ZH;refine QBs (by rw [QAa,QAq,h]) fun i h1 h2=>?_;rw [QBu,QDm,if_neg (by simp),ZE h2]
theorem Zdt {n:Nat} {x y:List Int} {S:List Nat} {c:Nat} (hc:c<n):(ZH n x y S).set c (y.getD c 0)=ZH n x y (S++[c]):=by
 unfold ZH;refine QBs (by rw [QCx,QAa,QAa]) fun i h1 h2=>?_;rw [List.getElem_set,QBu,QDm,QBu,QDm]
 by_cases e:c=i
 ·subst e;rw [if_pos rfl,if_pos (by simp)]
 ·rw [if_neg e]
  by_cases h:i∈S
  ·rw [if_pos h,if_pos (QBe _ h)]
  ·rw [if_neg h,if_neg (by
    intro z
    rcases QZf.mp z with z | z
    ·exact h z
    ·exact e (QZc.mp z).symm)]
theorem Zdv (n:Nat) (x y:List Int) (S:List Nat):(ZH n x y S).length=n:=by unfold ZH; rw [QAa,QAq]
inductive ZfX (vs:List V) (H:Hp) (Q:VK):Prop where
 | mk (a:Addr) (ps:List Addr) (n o1 o2 c:Nat) (R:LI) (_:vs=[.ref a,.int (o1:Int),.int (o2:Int),.int (c:Int)]) (_:MG H a ps R) (_:OkRows n R) (_:R.length=n) (_:n<=8) (_:o1<n) (_:o2<n) (_:o1≠o2) (_:c<n) (_:∀ H',(∀ b o,b∉ps->H b=some o->H' b=some o)->MG H' a ps (ZgW n R o1 o2 (Yp (stp (R.getD o1 []) (R.getD o2 [])) n c))->Q (.ref a) H'):ZfX vs H Q
def Zho:Sp:=fun vs H Q _=>ZfX vs H Q
noncomputable def JX (n:Nat) (R:LI) (o1 o2:Nat) (S:List Nat):LI:=(R.set o1 (ZH n (R.getD o1 []) (R.getD o2 []) S)).set o2 (ZH n (R.getD o2 []) (R.getD o1 []) S)
def WAl (H:Hp) (a:Addr) (ps:List Addr) (n o1 o2 c0:Nat) (R:LI) (l1 l2:Addr) (m:Nat) (σ:St) (H2:Hp):Prop :=
 ∃ (acc:List Nat) (c:Nat) (v7:Option V),σ=[some (.ref a),some (.int (o1:Int)),some (.int (o2:Int)),some (.int (c:Int)),some (.ref l1),some (.ref l2),some (.int ((R.getD o1 []).getD c0 0)),v7] /\
  (∀ b o,b∉ps->H b=some o->H2 b=some o)/\H2 l1=some (.lst ((R.getD o1 []).map V.int))/\H2 l2=some (.lst ((R.getD o2 []).map V.int))/\MG H2 a ps (JX n R o1 o2 acc) /\
  Path n (stp (R.getD o1 []) (R.getD o2 [])) c0 (acc++[c])/\J3 (stp (R.getD o1 []) (R.getD o2 [])) c0 (n - acc.length) (acc++[c])=Yp (stp (R.getD o1 []) (R.getD o2 [])) n c0/\m=n - acc.length
theorem Zaf {H H':Hp} {q:Addr} {row:List Int}:∀ {ps:List Addr} {R:LI} {i:Nat},Paired (fun p (r:List Int)=>H p=some (.lst (r.map V.int))) ps R->ps.Nodup->ps[i]? = some q->(∀ b,b≠q->H' b=H b)->H' q=some (.lst (row.map V.int))->Paired (fun p (r:List Int)=>H' p=some (.lst (r.map V.int))) ps (R.set i row)
 | _,_,_,.nil,_,h,_,_=>by cases h
 | p::ps,r::R,0,.cons h t,nd,hi,ho,hq=>by
  rw [List.getElem?_cons_zero] at hi
  cases hi;rw [List.nodup_cons] at nd;exact .cons hq (Y4 t fun x hx y e=>by rw [ho x (fun z=>nd.1 (z ▸ hx))]; exact e)
 | p::ps,r::R,i+1,.cons h t,nd,hi,ho,hq=>by
  rw [List.getElem?_cons_succ] at hi;rw [List.nodup_cons] at nd;have hne:p≠q:=fun z=>nd.1 (z ▸ QAx hi)
  exact .cons (by rw [ho p hne]; exact h) (Zaf t nd.2 hi ho hq)
section
variable {P:Program} {w:World} {K:QZa} {mg:Str->Option Value} {base:Heap}
theorem scAlong:Zt ["_law_rows","_law_one","_law_other","_law_column","_law_first","_law_second","_law_start","_law_thing"] ["_law_rows","_law_one","_law_other","_law_column"] (Zi Zcq):=Fs
theorem Zjr {f:Addr} {fd:FuncData} (F:Fun K "_law_along" "_law_along" Zcq f fd) (T:Blt mg):FnOk P w K mg base CX0 1 f fd ["_law_rows","_law_one","_law_other","_law_column"] Zho:=by
 refine F.ok scAlong (fun vs H Q E h=>?_) (fun cdv A outer s H vs Q E hr h=>?_)
 ·obtain ⟨_,_,_,_,_,_,_,rfl,_⟩:=h
  rfl
 ·obtain ⟨a,ps,n,o1,o2,c0,R,rfl,hM,ok,hRl,h8,h1,h2,hne,hc0,q⟩:=h
  refine' ⟨_,Zd ?s0 (Zd ?s1 (Zd ?s2 (Zf (Za5 PassesOwn.never (Zmf Zly) (Zd ?b0 (Zd ?b1 (Zd ?b2 (Zd ?b3 (Zf ?b4))))))))),?rd⟩
  case s0=>exact Zj (i:=4) scAlong.nd rfl (Or.inl rfl) (Zp (Zc7 K) rfl T.list ZeP (Za (ZD Jc (pv 0) (pv 1) (fun _ _=>rfl)) Zc))
  case s1=>exact Zj (i:=5) scAlong.nd rfl (Or.inl rfl) (Zp (Zc7 K) rfl T.list ZeP (Za (ZD Jc (pv 0) (pv 2) (fun _ _=>rfl)) Zc))
  case s2=>exact Zj (i:=6) scAlong.nd rfl (Or.inl rfl) (ZD Jc (pv 4) (pv 3) (fun _ _=>rfl))
  case b0=>exact Zj (i:=7) scAlong.nd rfl (Or.inl rfl) (ZD Jc (pv 5) (pv 3) (fun _ _=>rfl))
  case b1=>exact Zcy (pv 7) (Zey (ZD Jc (pv 0) (pv 1) (fun _ _=>rfl)) (pv 3) ZaU)
  case b2=>exact Zcy (ZD Jc (pv 4) (pv 3) (fun _ _=>rfl)) (Zey (ZD Jc (pv 0) (pv 2) (fun _ _=>rfl)) (pv 3) ZaU)
  case b3=>exact YT (ZJ JO (pv 7) (pv 6) (Z7 _)) (Zf (Zu (pv 0))) Z8
  case b4=>exact Zj (i:=3) scAlong.nd rfl (Or.inl rfl) (Jg PySem.F.plainAttrs_list PySem.F.slot_list_index PySem.F.type_list_index ZdK (pv 4) (Za (pv 7) Zc))
  case rd =>
   have ra:Row n (R.getD o1 []):=ok.rowAt (by exact Om.a1 ‹_› ‹_›);have rb:Row n (R.getD o2 []):=ok.rowAt (by exact Om.a1 ‹_› ‹_›);have so:=ZaS ra rb;have exS:=ZmK ok hRl h1 h2;have rl1:R[o1]? = some (R.getD o1 []):=by rw [QAd,QAb (by exact Om.a1 ‹_› ‹_›)]; rfl
   have rl2:R[o2]? = some (R.getD o2 []):=by rw [QAd,QAb (by exact Om.a1 ‹_› ‹_›)]; rfl
   obtain ⟨p1,hp1,hr1⟩:=Paired.getR hM.rows rl1;obtain ⟨p2,hp2,hr2⟩:=Paired.getR hM.rows rl2;have hat1:atI (ps.map V.ref) (o1:Int)=some (.ref p1):=ZR (by rw [QAe,hp1]; rfl);have hat2:atI (ps.map V.ref) (o2:Int)=some (.ref p2):=ZR (by rw [QAe,hp2]; rfl);have m1:p1∈ps:=QAx hp1;have m2:p2∈ps:=QAx hp2;have hpne:p1≠p2:=fun e=>by
    have hi1:o1<ps.length:=(QZb.mp hp1).1;have hi2:o2<ps.length:=(QZb.mp hp2).1;have e1:ps[o1]=ps[o2]:=by
     rw [QAb hi1] at hp1;rw [QAb hi2] at hp2;rw [QZl hp1,QZl hp2,e]
    exact hne ((List.getElem_inj hM.nd).mp e1)
   have hrow0:JX n R o1 o2 []=R:=by
    unfold JX;rw [Zdu ra.len,Zdu rb.len];have e1:R.set o1 (R.getD o1 [])=R:=by
     refine QDn fun i=>?_;rw [QCu]
     by_cases e:o1=i
     ·subst e;rw [if_pos rfl,if_pos (by exact Om.a1 ‹_› ‹_›),rl1]
     ·rw [if_neg e]
    rw [e1];refine QDn fun i=>?_;rw [QCu]
    by_cases e:o2=i
    ·subst e;rw [if_pos rfl,if_pos (by exact Om.a1 ‹_› ‹_›),rl2]
    ·rw [if_neg e]
   generalize hA:R.getD o1 []=A0 at ra so rl1 hr1 q exS;generalize hB:R.getD o2 []=B0 at rb so rl2 hr2 q exS;refine ⟨_,rfl,_,rfl,a,_,_,_,rfl,rfl,SqL.of hM.out,hat1,p1,_,rfl,.inl (SqL.of hr1),fun l1 hl1=>?_⟩;have s1:Same H (upd H l1 (.lst (A0.map V.int))):=Same.new hl1;refine ⟨_,rfl,_,rfl,a,_,_,_,rfl,rfl,SqL.of (s1 _ _ hM.out),hat2,p2,_,rfl,.inl (SqL.of (s1 _ _ hr2)),fun l2 hl2=>?_⟩;have s2:Same (upd H l1 (.lst (A0.map V.int))) (upd (upd H l1 (.lst (A0.map V.int))) l2 (.lst (B0.map V.int))):=Same.new hl2;have sH:=s1.trans s2;have hl1':(upd (upd H l1 (.lst (A0.map V.int))) l2 (.lst (B0.map V.int))) l1=some (.lst (A0.map V.int)):=s2 _ _ Zb;have hl2':(upd (upd H l1 (.lst (A0.map V.int))) l2 (.lst (B0.map V.int))) l2=some (.lst (B0.map V.int)):=Zb;have psn:∀ b∈ps,∃ r:List Int,H b=some (.lst (r.map V.int)):=fun b hb=>by
    obtain ⟨i,hi,e⟩:=QBd hb;obtain ⟨r,_,hr'⟩:=Paired.getL hM.rows (QAb hi);exact ⟨r,by rw [<- e]; exact hr'⟩
   have nl1:l1∉ps:=fun z=>by obtain ⟨r,e⟩:=psn _ z; rw [hl1] at e; cases e
   have nl2:l2∉ps:=fun z=>by obtain ⟨r,e⟩:=psn _ z; rw [s1.free hl2] at e; cases e
   generalize upd (upd H l1 (.lst (A0.map V.int))) l2 (.lst (B0.map V.int))=Hs at sH hl1' hl2' ⊢;refine ⟨_,rfl,_,rfl,l1,_,_,_,rfl,rfl,SqL.of hl1',Jz (by rw [ra.len]; exact hc0),?_⟩;refine ⟨WAl H a ps n o1 o2 c0 R l1 l2,⟨_,[],c0,none,by rw [hA]; rfl,fun b o _ e=>sH _ _ e,by rw [hA]; exact hl1',by rw [hB]; exact hl2',⟨sH _ _ hM.out,?_,hM.nd,hM.ap⟩,.one hc0,rfl,rfl⟩,?_⟩
   ·rw [hrow0];exact Paired.mapP hM.rows fun _ _ e=>sH _ _ e
   rintro m σ H2 ⟨acc,c,v7,rfl,keep,k1,k2,M2,pa,hrf,rfl⟩;rw [hA,hB] at pa hrf;rw [hA] at k1;rw [hB] at k2;rw [hA];have hcn:c<n:=pa.lt so _ (by simp);have hal:acc.length<n:=by
    have:=Zay pa.nodup (pa.lt so);rw [QAo,QDf] at this;exact Om.f5 ‹_›
   refine ⟨true,rfl,Zbd ⟨fun σ' H'=>∃ m',m'<n - acc.length/\WAl H a ps n o1 o2 c0 R l1 l2 m' σ' H',fun _ _ z=>z,?_⟩⟩;have eR:JX n R o1 o2 acc=(R.set o1 (ZH n A0 B0 acc)).set o2 (ZH n B0 A0 acc):=by unfold JX; rw [hA,hB]
   have g1:(JX n R o1 o2 acc)[o1]? = some (ZH n A0 B0 acc):=by
    rw [eR,QCu,if_neg (Ne.symm hne),QCu,if_pos rfl,if_pos (by exact Om.a1 ‹_› ‹_›)]
   obtain ⟨p1',hp1',hq1⟩:=Paired.getR M2.rows g1;rw [hp1] at hp1'
   cases hp1';refine ⟨_,rfl,_,rfl,l2,_,_,_,rfl,rfl,SqL.of k2,Jz (by rw [rb.len]; exact hcn),?_⟩;refine ⟨_,rfl,_,rfl,_,rfl,a,_,_,_,rfl,rfl,SqL.of M2.out,hat1,_,rfl,p1,_,_,c,rfl,rfl,hq1,ZeE (by rw [QAa,Zdv]; exact hcn),?_⟩;have c3:(upd H2 p1 (.lst (((ZH n A0 B0 acc).map V.int).set c (.int (B0.getD c 0))))) p1=some (.lst ((ZH n A0 B0 (acc++[c])).map V.int)):=by rw [Zb,<- Zdt hcn,List.map_set]
   have o3:∀ b,b≠p1->(upd H2 p1 (.lst (((ZH n A0 B0 acc).map V.int).set c (.int (B0.getD c 0))))) b=H2 b:=fun b hb=>Ze hb
   generalize upd H2 p1 (.lst (((ZH n A0 B0 acc).map V.int).set c (.int (B0.getD c 0))))=H3 at c3 o3 ⊢;have na1:a≠p1:=fun z=>hM.ap (z ▸ m1)
   have na2:a≠p2:=fun z=>hM.ap (z ▸ m2)
   have P3:=Zaf (H':=H3) (row:=ZH n A0 B0 (acc++[c])) M2.rows hM.nd hp1 o3 c3;have g2:((JX n R o1 o2 acc).set o1 (ZH n A0 B0 (acc++[c])))[o2]? = some (ZH n B0 A0 acc):=by
    rw [QCu,if_neg hne,eR,QCu,if_pos rfl,if_pos (by rw [QCx]; exact Om.a1 ‹_› ‹_›)]
   obtain ⟨p2',hp2',hq2⟩:=Paired.getR P3 g2;rw [hp2] at hp2'
   cases hp2';have nn1:l1≠p1:=fun z=>nl1 (z ▸ m1)
   have nn2:l1≠p2:=fun z=>nl1 (z ▸ m2)
   have nm1:l2≠p1:=fun z=>nl2 (z ▸ m1)
   have nm2:l2≠p2:=fun z=>nl2 (z ▸ m2)
   refine ⟨_,rfl,_,rfl,l1,_,_,_,rfl,rfl,SqL.of ((o3 _ nn1).trans k1),Jz (by rw [ra.len]; exact hcn),_,rfl,_,rfl,a,_,_,_,rfl,rfl,SqL.of ((o3 _ na1).trans M2.out),hat2,_,rfl,p2,_,_,c,rfl,rfl,hq2,ZeE (by rw [QAa,Zdv]; exact hcn),?_⟩;have c4:(upd H3 p2 (.lst (((ZH n B0 A0 acc).map V.int).set c (.int (A0.getD c 0))))) p2=some (.lst ((ZH n B0 A0 (acc++[c])).map V.int)):=by rw [Zb,<- Zdt hcn,List.map_set]
   have o4:∀ b,b≠p2->(upd H3 p2 (.lst (((ZH n B0 A0 acc).map V.int).set c (.int (A0.getD c 0))))) b=H3 b:=fun b hb=>Ze hb
   generalize upd H3 p2 (.lst (((ZH n B0 A0 acc).map V.int).set c (.int (A0.getD c 0))))=H4 at c4 o4 ⊢;have P4:=Zaf (H':=H4) (row:=ZH n B0 A0 (acc++[c])) P3 hM.nd hp2 o4 c4;have eS:((JX n R o1 o2 acc).set o1 (ZH n A0 B0 (acc++[c]))).set o2 (ZH n B0 A0 (acc++[c]))=(R.set o1 (ZH n A0 B0 (acc++[c]))).set o2 (ZH n B0 A0 (acc++[c])):=by
    rw [eR,List.set_comm _ _ (Ne.symm hne),List.set_set,List.set_set]
   rw [eS] at P4;have k14:H4 l1=some (.lst (A0.map V.int)):=(o4 _ nn2).trans ((o3 _ nn1).trans k1);have k24:H4 l2=some (.lst (B0.map V.int)):=(o4 _ nm2).trans ((o3 _ nm1).trans k2);have out4:H4 a=some (.lst (ps.map V.ref)):=(o4 _ na2).trans ((o3 _ na1).trans M2.out);have keep4:∀ b o,b∉ps->H b=some o->H4 b=some o:=fun b o hb e=>(o4 b (fun z=>hb (by rw [z]; exact m2))).trans ((o3 b (fun z=>hb (by rw [z]; exact m1))).trans (keep b o hb e))
   refine ⟨_,rfl,_,rfl,rfl,_,rfl,?_⟩;have hlast:Z6 (acc++[c])=c:=Y7 _ _;have estp:stp A0 B0 c=A0.idxOf (B0.getD c 0):=rfl;have hst:=Zek ra rb hcn;refine JG (fun hd=>?_) (fun hd=>?_)
   ·have e:=QZj hd
    injection e with e
    have e':stp A0 B0 (Z6 (acc++[c]))=c0:=by
     rw [hlast];exact ra.inj (so.lt _ hcn) hc0 (hst.trans e)
    have ringe:acc++[c]=Yp (stp A0 B0) n c0:=by
     rw [show n - acc.length=(n - acc.length - 1)+1 by exact O420 hal,J3,if_pos e'] at hrf;exact hrf
    refine ⟨_,rfl,q H4 keep4 ⟨out4,?_,hM.nd,hM.ap⟩⟩;rw [<- ringe,<- exS];exact P4
   ·have e':stp A0 B0 (Z6 (acc++[c]))≠c0:=fun z=>hd (by
     rw [hlast] at z;rw [z] at hst;rw [hst];exact QZh rfl)
    obtain ⟨p',hlt⟩:=pa.next so e';rw [hlast] at p' e';rw [show n - acc.length=(n - acc.length - 1)+1 by exact O420 hal,J3,if_neg (by rw [hlast]; exact e'),hlast] at hrf;refine ⟨_,rfl,.inl ⟨rfl,_,SqL.of k14⟩,_,rfl,l1,A0,_,rfl,rfl,k14,YO ra.len ra.nd ra.rg (rb.val hcn),?_⟩;refine ⟨n - (acc++[c]).length,by rw [QAo,QDf]; exact O419 hal,acc++[c],stp A0 B0 c,_,by rw [hA]; rfl,keep4,by rw [hA]; exact k14,by rw [hB]; exact k24,⟨out4,?_,hM.nd,hM.ap⟩,by rw [hA,hB]; exact p',?_,rfl⟩
    ·unfold JX;rw [hA,hB];exact P4
    ·rw [hA,hB,QAo,QDf,show n - (acc.length+1)=n - acc.length - 1 by exact O418 ];exact hrf
end
def LLs (H:Hp) (a:Addr) (L:LI):Prop:=∃ ps:List Addr,H a=some (.lst (ps.map V.ref))/\Paired (fun p l=>H p=some (.lst (l.map V.int))) ps L
theorem LLs.same {c:Addr} {H H1:Hp} {L:LI} (g:LLs H c L) (x:Same H H1):LLs H1 c L :=
 let ⟨ps,h,r⟩:=g
 ⟨ps,x _ _ h,Paired.mapP r fun _ _ z=>x _ _ z⟩
theorem Zbg (t:Int):∀ xs:List Int,inV (.int t) (xs.map V.int)=decide (t∈xs)
 | []=>rfl
 | x::xs=>by
  have ih:=Zbg t xs;unfold inV at ih ⊢;rw [QAl,QDd,ih];show ((x==t)||_)=_;rw [QBj]
  simp only [QDp,beq_iff_eq,QZg,QBr];exact ⟨fun h=>h.elim (fun e=>.inl e.symm) .inr,fun h=>h.elim (fun e=>.inl e.symm) .inr⟩
theorem ZmP {R:LI} {c:Nat}:((List.range R.length).map fun i=>V.int ((R.getD i []).getD c 0))=(Yh R c).map V.int:=by
 unfold Yh;refine QDn fun i=>?_;rw [QAw,QAe,QAe]
 by_cases h:i<R.length
 ·rw [QBi h,QAb h]
  simp [QAd,QAb h]
 ·rw [QCv (by simpa using h),QCv (by simpa using h)]
  rfl
theorem Zit {r:List Int} {ps:List Addr} (h:r≠[]):r.map V.int≠ps.map V.ref:=by
 cases r with
 | nil=>exact absurd rfl h
 | cons x r=>cases ps <;> intro e <;> cases e
theorem LLs.push {a t:Addr} {H:Hp} {R:LI} {r:List Int} {ps:List Addr} (h:H a=some (.lst (ps.map V.ref))) (hp:Paired (fun p (r:List Int)=>H p=some (.lst (r.map V.int))) ps R) (hR:∀ r∈R,r≠[]) (hr:r≠[]) (ht:H t=some (.lst (r.map V.int))):LLs (upd H a (.lst (ps.map V.ref++[.ref t]))) a (R++[r]):=by
 have ne:∀ (b:Addr) (x:List Int),x≠[]->H b=some (.lst (x.map V.int))->b≠a:=fun b x hx e c=>by
  rw [c,h] at e
  injection e with e
  injection e with e
  exact Zit hx e.symm
 refine ⟨ps++[t],by rw [Zb,QAm]; rfl,Paired.snoc ?_ ?_⟩
 ·have go:∀ (qs:List Addr) (S:LI),Paired (fun p (r:List Int)=>H p=some (.lst (r.map V.int))) qs S->(∀ r∈S,r≠[])->Paired (fun p (r:List Int)=>upd H a (.lst (ps.map V.ref++[.ref t])) p=some (.lst (r.map V.int))) qs S:=by
   intro qs S x
   induction x with
   | nil=>intro _; exact .nil
   | cons e _ ih =>
    intro hS;refine .cons ?_ (ih fun r hr=>hS r (QAp _ hr));rw [Ze (ne _ _ (hS _ QAj) e)];exact e
  exact go _ _ hp hR
 ·rw [Ze (ne _ _ hr ht)];exact ht
theorem Zgz (l:List Int):(List.range l.length).map (fun j=>l.getD j 0)=l:=by
 refine QBs (by rw [QAa,QAq]) fun i h1 h2=>?_;rw [QBu,QDm,ZE h2]
theorem ZbI (p:Int->Bool):∀ l:List Int,l.filterMap (fun x=>if p x=true then some (V.int x) else none)=(l.filter p).map V.int
 | []=>rfl
 | x::l=>by
  rw [QCi,List.filter_cons,ZbI p l]
  cases h:p x with
  | true=>rw [if_pos rfl,if_pos rfl,QAl]
  | false=>rw [if_neg QAn,if_neg QAn]
theorem ZjP (p:Int->Bool) (l:List Int):(List.range l.length).filterMap (fun j=>if p (l.getD j 0)=true then some (V.int (l.getD j 0)) else none)=(l.filter p).map V.int:=by
 rw [<- ZbI p l]
 conv=>rhs; rw [<- Zgz l]
 rw [List.filterMap_map]
 rfl
theorem Zla (p:Int->Bool) (n:Nat):(List.range n).filterMap (fun j:Nat=>if p (j:Int)=true then some (V.int (j:Int)) else none)=((ZW n).filter p).map V.int:=by
 rw [<- ZbI p (ZW n)];unfold ZW;rw [List.filterMap_map]
 rfl
theorem Zju (n:Nat) (A:LI) (row:List Int):((ZW n).filter fun t=>decide (t∉row)).filter (fun t=>decide (t∉Yh A row.length))=ZS n A row:=by
 unfold ZS;rw [List.filter_filter]
 congr 1
 funext t
 rw [Bool.and_comm]
inductive Zke (k:Nat) (vs:List V) (H:Hp) (Q:VK):Prop where
 | mk (aA ar at_:Addr) (n:Nat) (A:LI) (row ts:List Int) (_:vs=[.ref aA,.ref ar,.ref at_]) (_:LLs H aA A) (_:(∀ o∈A,o.length=n)) (_:A.length<=8) (_:H ar=some (.lst (row.map V.int))) (_:PRow n A row) (_:n<=8) (_:H at_=some (.lst (ts.map V.int))) (_:ts.length=n) (_:n - row.length<k) (_:(∀ (p:Addr) (H':Hp) (r:List Int),Same H H'->H' p=some (.lst (r.map V.int))->OkRow n A r->row <+: r->Q (.ref p) H')) (_:(∀ H',Same H H'->(∀ r,OkRow n A r->row <+: r->False)->Q .non H')):Zke k vs H Q
def Zlv (k:Nat):Sp:=fun vs H Q _=>Zke k vs H Q
section
variable {P:Program} {w:World} {K:QZa} {mg:Str->Option Value} {base:Heap}
theorem scRow:Zt ["_law_rows","_law_made","_law_digits","_law_column","_law_pool","_law_turn_here","_law_thing","_law_found"] ["_law_rows","_law_made","_law_digits"] (Zi Zi0):=Fs
inductive Zga (aA:Addr) (ar:Addr) (at_:Addr) (n:Nat) (A:LI) (row:List Int) (l5:Addr) (m:Nat) (H9:Hp) (xs:List V) (i:Nat) (σ:St) (H7:Hp):Prop where
 | mk (v6 v7:Option V) (_:σ=[some (.ref aA),some (.ref ar),some (.ref at_),some (.int (row.length:Int)),some (.ref l5),some (.int (m:Int)),v6,v7]) (_:Same H9 H7) (_:∀ j:Nat,j<i->∀ x,xs[j]? = some (.int x)->∀ r,OkRow n A r->row++[x] <+: r->False):Zga aA ar at_ n A row l5 m H9 xs i σ H7
theorem Zjm {f:Addr} {fd:FuncData} (D:Dfn K mg "_law_row" Zi0 ["_law_rows","_law_made","_law_digits"] f fd) (T:Blt mg):∀ k:Nat,FnOk P w K mg base CX0 k f fd ["_law_rows","_law_made","_law_digits"] (Zlv k)
 | 0=>⟨fun vs H Q E h=>by obtain ⟨_,_,_,_,_,_,_,rfl,_⟩:=h; rfl,fun A outer s H args us vs Q E _ _ _ _ h=>by obtain ⟨_,_,_,_,_,_,_,rfl,_,_,_,_,_,_,_,_,z,_⟩:=h; exact absurd z (QCc _)⟩
 | k+1=>by
  have G:=Zjm D T k;refine D.F.ok scRow (fun vs H Q E h=>?_) (fun cdv A0 outer s H vs Q E hr h=>?_)
  ·obtain ⟨_,_,_,_,_,_,_,rfl,_⟩:=h
   rfl
  ·obtain ⟨aA,ar,at_,n,A,row,ts,rfl,hA,hAn,hA8,hrow,pr,h8,hts,htl,hk,q1,q2⟩:=h
   refine' ⟨_,Zd ?s0 (Zd ?s1 (Zd ?s2 (Zd ?s3 (Zd ?s4 (Zd (Ye PassesOwn.never rfl ?i (ZC (i:=6) scRow.nd rfl (Or.inl rfl)) (Zd ?b0 (Zf ?b1))) (Zf (Zu Zez))))))),?rd⟩
   case s0=>exact Zj (i:=3) scRow.nd rfl (Or.inr rfl) (Zl (Zr K) rfl T.len PySem.boot_len (Za (pv 1) Zc))
   case s1=>exact YT (ZJ JO (pv 3) (Zl (Zr K) rfl T.len PySem.boot_len (Za (pv 2) Zc)) (Z7 _)) (Zf (Zu (pv 1))) Z8
   case s2=>exact ZdD (i:=4) ["_law_thing","_law_made"] [none,some 1] scRow.nd rfl (Or.inl rfl) rfl rfl (Zn rfl T.range (Za (Zl (Zr K) rfl T.len PySem.boot_len (Za (pv 2) Zc)) Zc)) (fun _ _ _ _ _=>Yu 0) (fun _ _ _ _ _=>Zat (ZJ (Zax K) (pv 0) (pv 1) rfl)) (fun _ _ _ _ _=>pv 0)
   case s3=>exact ZdD (i:=4) ["_law_thing","_law_rows","_law_column"] [none,some 0,some 3] scRow.nd rfl (Or.inl rfl) rfl rfl (Z2 K (pv 4)) (fun _ _ _ _ _=>Yu 0) (fun _ _ _ _ _=>Zat (ZJ (Zax K) (pv 0) (Yq ["_law_row_here","_law_column"] [none,some 2] rfl rfl (Z2 K (pv 1)) (fun _ _ _ _ _=>Yu 0) (fun _ _ _ _ _=>ZA) (fun _ _ _ _ _=>ZD (JR K) (pv 0) (pv 1) (fun _ _=>rfl))) rfl)) (fun _ _ _ _ _=>pv 0)
   case s4=>exact Zj (i:=5) scRow.nd rfl (Or.inl rfl) (Zk Yf (ZD Jc (pv 2) (pv 3) (fun _ _=>rfl)) (Zl (ZbO rfl) rfl T.max PyProof.Rows.boot_max (Za Zh (Za (Zl (Zr K) rfl T.len PySem.boot_len (Za (pv 4) Zc)) Zc))))
   case i=>exact Zb8 (Zk ZcF (JN ZaT (pv 4) (Zau (pv 5)) Zav) (JN ZaT (pv 4) Zav (Zau (pv 5))))
   case b0=>exact Zj (i:=7) scRow.nd rfl (Or.inl rfl) (Zm G hr rfl D.m D.F.kp D.b .nil ZK (Za (pv 0) (Za (Zk ZcF (pv 1) (Z0 (Za (pv 6) Zc))) (Za (pv 2) Zc))))
   case b1=>exact YT (ZaJ (Zhz (pv 7))) (Zf (Zu (pv 7))) Z8
   case rd =>
    have hrl:(row.map V.int).length=row.length:=QAa _;have htl':(ts.map V.int).length=n:=by rw [QAa,htl]
    refine ⟨_,rfl,ar,_,rfl,.inl (SqL.of hrow),?_⟩;rw [hrl];refine ⟨_,rfl,_,rfl,at_,_,rfl,.inl (SqL.of hts),rfl,_,rfl,?_⟩;rw [htl'];refine JG (fun hc=>?_) (fun hc=>?_)
    ·have e:row.length=n:=by
      have e:=QZj hc
      injection e with e
      exact Om.e1 ‹_›
     exact ⟨_,rfl,q1 ar H row (Same.refl H) hrow (pr.full e) (List.prefix_refl _)⟩
    have hlt:row.length<n:=by
     have h1:row.length≠n:=fun e=>hc (QZh (by rw [e]))
     have:=pr.len;omega
    obtain ⟨ps,hps,hPs⟩:=id hA;have hpl:(ps.map V.ref).length=A.length:=by rw [QAa,hPs.length]
    refine ⟨_,rfl,at_,_,rfl,.inl (SqL.of hts),_,rfl,by exact Om.c2,by rw [htl']; exact Om.c1 ‹_› rfl,fun l4 hl4=>?_⟩;rw [htl',QAf];refine ZB (fun j=>if (fun t:Int=>decide (t∉row)) ((j:Nat):Int)=true then some (V.int ((j:Nat):Int)) else none) (fun σ=>∃ v,σ=[v,some (.ref ar)]) (ZG (n:=n)) (by rw [Zs]; exact Zq (by exact Om.b1 ‹_› rfl)) hl4 (fun _ _=>trivial) ⟨none,rfl⟩ ?_ ?_
    ·rintro i x σ H' R' hi ⟨v,rfl⟩ sm kk;obtain ⟨hin,rfl⟩:=Z3 hi;have kk':=fun v'=>kk [v',some (.ref ar)] H' ⟨v',rfl⟩ (Same.refl _)
     refine ⟨_,rfl,_,rfl,ar,row.map V.int,rfl,.inl (SqL.of (sm _ _ hrow)),rfl,ZO row,_,rfl,?_⟩;have e1:(if true=true then !inV (.int (i:Int)) (row.map V.int) else inV (.int (i:Int)) (row.map V.int))=decide ((i:Int)∉row):=by rw [if_pos rfl,Zbg]; simp
     rw [e1];refine JG (fun hc3=>?_) (fun hc3=>?_)
     ·rw [if_pos hc3] at kk';exact ⟨_,rfl,kk' _⟩
     ·rw [if_neg hc3] at kk';exact kk' _
    intro H4 s4 h4;rw [Zs] at h4
    replace h4:H4 l4=some (.lst (((ZW n).filter (fun t:Int=>decide (t∉row))).map V.int)):=by rw [h4]; exact congrArg (fun x=>some (HO.lst x)) (Zla (fun t:Int=>decide (t∉row)) n)
    have hm1:∀ t∈(ZW n).filter (fun t:Int=>decide (t∉row)),0<=t/\t<(n:Int):=fun t ht=>mem_rngI.mp (QZo.mp ht).1
    have hln:((ZW n).filter (fun t:Int=>decide (t∉row))).length<=n:=QAr (List.length_filter_le _ _) (by rw [Yi]; exact QAc _);generalize hpo:(ZW n).filter (fun t:Int=>decide (t∉row))=po at h4 hm1 hln;have hps4:=s4 _ _ hps;refine ⟨_,rfl,l4,rfl,⟨_,SqL.of h4⟩,fun l5 hl5=>?_⟩;refine ZB (fun j=>if (fun t:Int=>decide (t∉Yh A row.length)) (po.getD j 0)=true then some (V.int (po.getD j 0)) else none) (fun σ=>∃ v,σ=[v,some (.ref aA),some (.int (row.length:Int))]) (Z1 (xs:=po.map V.int)) (by rw [QAa]; exact Zq (by exact Om.b3 ‹_› ‹_› rfl)) hl5 (fun H' sm=>SqL.of (sm _ _ h4)) ⟨none,rfl⟩ ?_ ?_
    ·rintro i x σ H' R' hi ⟨v,rfl⟩ sm kk;have hil:i<po.length:=by
      have:=(QZb.mp hi).1;rw [QAa] at this;exact this
     have ex:x = .int (po.getD i 0):=by
      rw [QAe,QAb hil] at hi;rw [ZE hil]
      cases hi
      rfl
     subst ex;generalize po.getD i 0=t at kk ⊢;have hps5:=sm _ _ hps4;refine ⟨_,rfl,_,rfl,aA,rfl,⟨_,SqL.of hps5⟩,fun l6 hl6=>ZB (fun i=>some (V.int ((A.getD i []).getD row.length 0))) (fun σ=>∃ v,σ=[v,some (.int (row.length:Int))]) (Z1 (xs:=ps.map V.ref)) (by rw [hpl]; exact Zq (by exact Om.b1 ‹_› rfl)) hl6 (fun H' sm=>SqL.of (sm _ _ hps5)) ⟨none,rfl⟩ ?_ ?_⟩
     ·rintro i x σ H2 R2 hi ⟨v,rfl⟩ sm2 kk2;rw [QAe] at hi
      cases hpi:ps[i]? with
      | none=>rw [hpi] at hi; cases hi
      | some p =>
       rw [hpi] at hi
       cases hi;obtain ⟨o,ho,hp⟩:=Paired.getL hPs hpi;have hol:o.length=n:=hAn o (QAx ho);have hat:(o.map V.int)[row.length]? = some (.int ((A.getD i []).getD row.length 0)):=by
        rw [QAe,QAb (by exact Om.a1 ‹_› ‹_›)]
        simp [QAd,ho,QAb (show row.length<o.length by exact Om.a1 ‹_› ‹_›)]
       exact ⟨_,rfl,_,rfl,p,o.map V.int,(row.length:Int),_,rfl,rfl,SqL.of (sm2 _ _ (sm _ _ (s4 _ _ hp))),ZR hat,kk2 _ _ ⟨_,rfl⟩ (Same.refl _)⟩
     ·intro H2 s2 h2;rw [YI,hpl,ZmP] at h2;refine ⟨l6,_,rfl,.inl (SqL.of h2),rfl,ZO _,_,rfl,?_⟩;have e2:(if true=true then !inV (.int t) ((Yh A row.length).map V.int) else inV (.int t) ((Yh A row.length).map V.int))=decide (t∉Yh A row.length):=by rw [if_pos rfl,Zbg]; simp
      rw [e2];have kk':=fun v'=>kk [v',some (.ref aA),some (.int (row.length:Int))] H2 ⟨v',rfl⟩ s2
      refine JG (fun hc4=>?_) (fun hc4=>?_)
      ·rw [if_pos hc4] at kk';exact ⟨_,rfl,kk' _⟩
      ·rw [if_neg hc4] at kk';exact kk' _
    intro H5 s5 h5;rw [QAa] at h5
    replace h5:H5 l5=some (.lst ((ZS n A row).map V.int)):=by
     rw [h5,<- Zju n A row,hpo];exact congrArg (fun x=>some (HO.lst x)) (ZjP (fun t:Int=>decide (t∉Yh A row.length)) po)
    have s45:=s4.trans s5;have hpl2:(ZS n A row).length<=n:=by
     unfold ZS;refine QAr (List.length_filter_le _ _) ?_;rw [Yi];exact QAc _
    have hnl:((ZS n A row).map V.int).length=(ZS n A row).length:=QAa _;have htat:(ts.map V.int)[row.length]? = some (.int (ts.getD row.length 0)):=by
     rw [QAe,QAb (by exact Om.a1 ‹_› ‹_›)]
     simp [QAd,QAb (show row.length<ts.length by exact Om.a1 ‹_› ‹_›)]
    generalize ts.getD row.length 0=t at htat;obtain ⟨M,hM,hM1,hMl⟩:∃ M:Int,(if ((ZS n A row).length:Int)>1 then ((ZS n A row).length:Int) else 1)=M/\0<M/\M<=max 1 ((ZS n A row).length:Int):=by
     refine ⟨_,rfl,?_,?_⟩
     ·split <;> omega
     ·split <;> omega
    obtain ⟨m,hm,hml⟩:∃ m:Nat,t % M=(m:Int)/\m<=(ZS n A row).length:=by
     have e1:=QDa t (show M≠0 by exact O417 hM1);have e2:=QEg t hM1;exact ⟨(t % M).toNat,by exact Om.z1 ‹_›,by exact O416 hnl hMl e2⟩
    refine ⟨_,rfl,_,rfl,at_,_,_,_,rfl,rfl,SqL.of (s45 _ _ hts),ZR htat,_,rfl,l5,_,rfl,.inl (SqL.of h5),1,_,rfl,_,_,rfl,rfl,?_,?_⟩
    ·rw [hnl,hM];exact hM1
    show ZaF 5 (V.int (t % (if (((ZS n A row).map V.int).length:Int)>1 then (((ZS n A row).map V.int).length:Int) else 1))) _ _ _;rw [hnl,hM,hm];refine ⟨_,rfl,_,rfl,(m:Int),rfl,l5,_,rfl,SqL.of h5,fun l7 hl7=>?_⟩;rw [Zc1 _ (by rw [hnl]; exact hml)];have s7:Same H5 (upd H5 l7 (.lst (((ZS n A row).map V.int).drop m))):=Same.new hl7;refine ⟨_,rfl,_,rfl,(m:Int),rfl,l5,_,rfl,SqL.of (s7 _ _ h5),fun l8 hl8=>?_⟩;rw [Zg0 _ (by rw [hnl]; exact hml)];have s8:Same (upd H5 l7 (.lst (((ZS n A row).map V.int).drop m))) (upd (upd H5 l7 (.lst (((ZS n A row).map V.int).drop m))) l8 (.lst (((ZS n A row).map V.int).take m))):=Same.new hl8;refine ⟨l7,l8,_,_,rfl,rfl,s8 _ _ Zb,Zb,Zq (by rw [QBn,QAt,hnl]; exact O415 h8 htl hrl htl' hlt hpl2 hnl hml),fun l9 hl9=>?_⟩;have s9:=(s7.trans s8).trans (Same.new (o:=.lst (((ZS n A row).map V.int).drop m++((ZS n A row).map V.int).take m)) hl9);have h9:(upd (upd (upd H5 l7 (.lst (((ZS n A row).map V.int).drop m))) l8 (.lst (((ZS n A row).map V.int).take m))) l9 (.lst (((ZS n A row).map V.int).drop m++((ZS n A row).map V.int).take m))) l9=some (.lst (((ZS n A row).map V.int).drop m++((ZS n A row).map V.int).take m)):=Zb;generalize upd (upd (upd H5 l7 (.lst (((ZS n A row).map V.int).drop m))) l8 (.lst (((ZS n A row).map V.int).take m))) l9 (.lst (((ZS n A row).map V.int).drop m++((ZS n A row).map V.int).take m))=H9 at s9 h9 ⊢;have memx:∀ y:V,y∈((ZS n A row).map V.int).drop m++((ZS n A row).map V.int).take m↔y∈(ZS n A row).map V.int:=fun y=>by
     conv=>rhs; rw [<- QCp m ((ZS n A row).map V.int)]
     rw [QCn,QCn,or_comm]
    generalize ((ZS n A row).map V.int).drop m++((ZS n A row).map V.int).take m=xs at h9 memx ⊢;have sH9:=s45.trans s9;refine ⟨l9,rfl,⟨_,SqL.of h9⟩,ZcY (xs:=xs) (Zga aA ar at_ n A row l5 m H9 xs)
     ⟨none,none,rfl,Same.refl _,fun j h=>absurd h (QCc _)⟩ (fun i σ H7 _ zz0=> by obtain ⟨_,_,_,s7,_⟩ := zz0; exact SqL.of (s7 _ _ h9)) ?_ ?_⟩
    ·rintro i y σ H7 hy ⟨v6,v7,rfl,s7,hno⟩;obtain ⟨x,hxm,rfl⟩:=QZd.mp ((memx y).mp (QAx hy));have sH7:=sH9.trans s7;refine ⟨_,rfl,_,rfl,_,rfl,(show 1<=sizeLine from Zq (by decide)),fun lA hlA=>?_⟩;have sA:Same H7 (upd H7 lA (.lst [.int x])):=Same.new hlA;refine ⟨ar,lA,_,_,rfl,rfl,sA _ _ (sH7 _ _ hrow),Zb,by rw [hrl]; exact Zq (by simp; exact Om.b2 ‹_› ‹_› rfl),fun lB hlB=>?_⟩;have sB:Same (upd H7 lA (.lst [.int x])) (upd (upd H7 lA (.lst [.int x])) lB (.lst (row.map V.int++[.int x]))):=Same.new hlB;have sAB:=sA.trans sB;refine ⟨_,rfl,aA,lB,at_,n,A,row++[x],ts,rfl,hA.same (sH7.trans sAB),hAn,hA8,by rw [Zb,QAm]; rfl,pr.next hlt hxm,h8,sAB _ _ (sH7 _ _ hts),htl,by rw [QAo]; simp; exact O414 htl hk htl' hlt hnl,fun p HC r sC hp o pf=>?_,fun HC sC hnone=>?_⟩
     ·refine ⟨_,rfl,_,rfl,Zbd ⟨_,rfl,?_⟩⟩;exact q1 p HC r (sH7.trans (sAB.trans sC)) hp o (List.IsPrefix.trans (List.prefix_append _ _) pf)
     ·refine ⟨_,rfl,_,rfl,Zai ⟨_,_,rfl,s7.trans (sAB.trans sC),fun j hj z hz r o pf=>?_⟩⟩
      by_cases e:j<i
      ·exact hno j e z hz r o pf
      ·have ej:j=i:=by exact O413 hj e
       subst ej;rw [hy] at hz
       cases hz;exact hnone r o pf
    ·rintro σ H7 ⟨v6,v7,rfl,s7,hno⟩;refine q2 H7 (sH9.trans s7) fun r o pf=>?_;obtain ⟨x,hx,pf2⟩:=ZkR hlt o pf;obtain ⟨j,hj,hje⟩:=QBd ((memx _).mpr (QZd.mpr ⟨x,hx,rfl⟩));exact hno j hj x (by rw [QAb hj,hje]) r o pf2
end
inductive ZlK (vs:List V) (H:Hp) (Q:VK):Prop where
 | mk (n:Nat) (z:Int) (_:vs=[.int (n:Int),.int z]) (_:1<=n) (_:n<=8) (_:∀ (l:Addr) (R:LI) (H':Hp),Same H H'->LLs H' l R->OkRows n R->R.length=n->Q (.ref l) H'):ZlK vs H Q
def Zkq:Sp:=fun vs H Q _=>ZlK vs H Q
section
variable {P:Program} {w:World} {K:QZa} {mg:Str->Option Value} {base:Heap}
theorem scByRows:Zt ["_law_n","_law_number_here","_law_rows","_law_row_here","_law_digits","_law_column"] ["_law_n","_law_number_here"] (Zi Zb4):=Fs
inductive Zf9 (H:Hp) (n:Nat) (lr:Addr) (i:Nat) (σ:St) (H2:Hp):Prop where
 | mk (z:Int) (v3 v4 v5:Option V) (R:LI) (_:σ=[some (.int (n:Int)),some (.int z),some (.ref lr),v3,v4,v5]) (_:Same H H2) (_:LLs H2 lr R) (_:OkRows n R) (_:R.length=i):Zf9 H n lr i σ H2
inductive Zf8 (n:Nat) (lr:Addr) (i:Nat) (H2:Hp) (ld:Addr) (j:Nat) (σ:St) (H3:Hp):Prop where
 | mk (z:Int) (v5:Option V) (ts:List Int) (_:σ=[some (.int (n:Int)),some (.int z),some (.ref lr),some (.int (i:Int)),some (.ref ld),v5]) (_:Same H2 H3) (_:H3 ld=some (.lst (ts.map V.int))) (_:ts.length=j):Zf8 n lr i H2 ld j σ H3
theorem Zin {f fR:Addr} {fd dR:FuncData} (F:Fun K "_law_by_rows" "_law_by_rows" Zb4 f fd) (T:Blt mg) (DR:Dfn K mg "_law_row" Zi0 ["_law_rows","_law_made","_law_digits"] fR dR):FnOk P w K mg base CX0 10 f fd ["_law_n","_law_number_here"] Zkq:=by
 have GR:FnOk P w K mg base CX0 9 fR dR ["_law_rows","_law_made","_law_digits"] (Zlv 9):=Zjm DR T 9;refine F.ok scByRows (fun vs H Q E h=>?_) (fun cdv A outer s H vs Q E hr h=>?_)
 ·obtain ⟨_,_,rfl,_⟩:=h
  rfl
 ·obtain ⟨n,z,rfl,h1,h8,q⟩:=h
  refine' ⟨_,Zd (Zj (i:=2) scByRows.nd rfl (Or.inl rfl) (Z0 Zc)) (Zd (Ye PassesOwn.never rfl (Zn rfl T.range (Za (pv 0) Zc)) (ZC (i:=3) scByRows.nd rfl (Or.inl rfl)) (Zd (Zj (i:=4) scByRows.nd rfl (Or.inl rfl) (Z0 Zc)) (Zd (Ye PassesOwn.never rfl (Zn rfl T.range (Za (pv 0) Zc)) (ZC (i:=5) scByRows.nd rfl (Or.inl rfl)) (Zd ?c0 (Zf ?c1))) (Zf ?b2)))) (Zf (Zu (pv 2)))),?rd⟩
  case c0=>exact Yx (Jg PySem.F.plainAttrs_list PySem.F.slot_list_append PySem.F.type_list_append Yk (pv 4) (Za (Zk Yf (pv 1) Zh) Zc))
  case c1=>exact Zj (i:=1) scByRows.nd rfl (Or.inl rfl) (Zk Yy (pv 1) Zh)
  case b2=>exact Yx (Jg PySem.F.plainAttrs_list PySem.F.slot_list_append PySem.F.type_list_append Yk (pv 2) (Za (Zm GR hr rfl DR.m DR.F.kp DR.b .nil ZK (Za (pv 2) (Za (Z0 Zc) (Za (pv 4) Zc)))) Zc))
  case rd =>
   refine ⟨QAg _,fun lr hlr=>?_⟩;refine ⟨_,rfl,(n:Int),rfl,by exact Om.c2,by exact Om.c1 ‹_› rfl,?_⟩;rw [QAf];refine ZT (lo:=0) (n:=n) (Zf9 H n lr)
    ⟨z,none,none,none,[],rfl,Same.new hlr,⟨[],Zb,.nil⟩,⟨QAg _,(fun r h=>by cases h),fun c _=>QBg⟩,rfl⟩ ?_ ?_
   ·rintro i σ H2 hi ⟨z,v3,v4,v5,R,rfl,s2,hL,ok,hRl⟩;rw [QBp];refine ⟨QAg _,fun ld hld=>?_⟩;refine ⟨_,rfl,(n:Int),rfl,by exact Om.c2,by exact Om.c1 ‹_› rfl,?_⟩;rw [QAf];refine ZT (lo:=0) (n:=n) (Zf8 n lr i H2 ld)
     ⟨z,_,[],rfl,Same.new hld,Zb,rfl⟩ ?_ ?_
    ·rintro j σ H3 hj ⟨z,v5,ts,rfl,s3,h3,htl⟩;rw [QBp];refine ⟨_,rfl,.inl ⟨rfl,_,SqL.of h3⟩,_,rfl,_,_,rfl,rfl,(by show (0:Int)<6; decide),ld,_,_,rfl,rfl,h3,by rw [QAa]; exact Zy (by exact Om.b5 ‹_› ‹_› ‹_› rfl),?_⟩;refine ⟨_,rfl,_,_,rfl,rfl,⟨by decide,by decide⟩,_,_,ts++[z % 6],rfl,fun b u e=>?_,by rw [Zb,QAm]; rfl,by rw [QAo,htl]; rfl⟩;rw [Ze (Zg e hld)];exact s3 _ _ e
    ·rintro σ H3 ⟨z,v5,ts,rfl,s3,h3,htl⟩;have hL3:=hL.same s3;obtain ⟨ps,hps,hPs⟩:=id hL3;have hpl:(ps.map V.ref).length=R.length:=by rw [QAa,hPs.length]
     refine ⟨_,rfl,.inl ⟨rfl,_,SqL.of hps⟩,_,rfl,QAg _,fun l5 hl5=>?_⟩;have s5:Same H3 (upd H3 l5 (.lst [])):=Same.new hl5;refine ⟨_,rfl,lr,l5,ld,n,R,[],ts,rfl,hL3.same s5,fun o ho=>(ok.row o ho).1,by exact Om.b5 ‹_› ‹_› ‹_› rfl,Zb,PRow.nil n R,h8,s5 _ _ h3,htl,by simp; exact Om.f3 ‹_›,fun p H7 r s7 hp o _=>?_,fun H7 s7 hno=>?_⟩
     ·have hR7:=hL3.same (s5.trans s7);obtain ⟨ps7,hps7,hPs7⟩:=hR7;have e7:ps7.map V.ref=ps.map V.ref:=by
       have:=(s5.trans s7) _ _ hps;rw [hps7] at this
       injection this with this
       injection this
      refine ⟨lr,_,_,rfl,rfl,hps7,by rw [e7,hpl]; exact Zy (by exact Om.b5 ‹_› ‹_› ‹_› rfl),_,_,_,_,R++[r],rfl,fun b u e=>?_,?_,o.more ok (by exact Om.x1 ‹_› ‹_›),by rw [QAo,hRl]; rfl⟩
      ·rw [Ze (Zg e hlr)];exact s7 _ _ (s5 _ _ (s3 _ _ (s2 _ _ e)))
      ·refine LLs.push hps7 hPs7 (fun x hx=>?_) ?_ hp
       ·have:=(ok.row x hx).1;exact fun z=>by rw [z] at this; simp at this; exact O412 h1 h8 htl this
       ·have:=o.len;exact fun z=>by rw [z] at this; simp at this; exact O412 h1 h8 htl this
     ·obtain ⟨r,hr'⟩:=Zgx ok (by exact Om.x1 ‹_› ‹_›);exact (hno r hr' List.nil_prefix).elim
   ·rintro σ H2 ⟨z,v3,v4,v5,R,rfl,s2,hL,ok,hRl⟩;exact ⟨_,rfl,q lr R H2 s2 hL ok hRl⟩
theorem scByRings:Zt ["_law_n","_law_number_here","_law_rows","_law_turn_here","_law_one","_law_other"] ["_law_n","_law_number_here"] (Zi Za1):=Fs
inductive Zf7 (H:Hp) (n:Nat) (l:Addr) (ps:List Addr) (i:Nat) (σ:St) (H2:Hp):Prop where
 | mk (z:Int) (v3 v4 v5:Option V) (R:LI) (_:σ=[some (.int (n:Int)),some (.int z),some (.ref l),v3,v4,v5]) (_:Same H H2) (_:MG H2 l ps R) (_:OkRows n R) (_:R.length=n):Zf7 H n l ps i σ H2
theorem ZgJ {f fB fA:Addr} {fd dB dA:FuncData} (F:Fun K "_law_by_rings" "_law_by_rings" Za1 f fd) (T:Blt mg) (DB:Dfn K mg "_law_base" Ze2 ["_law_n","_law_number_here"] fB dB) (DA:Dfn K mg "_law_along" Zcq ["_law_rows","_law_one","_law_other","_law_column"] fA dA):FnOk P w K mg base CX0 2 f fd ["_law_n","_law_number_here"] Zkq:=by
 have GB:FnOk P w K mg base CX0 1 fB dB ["_law_n","_law_number_here"] ZiX:=ZkP DB.F T;have GA:FnOk P w K mg base CX0 1 fA dA ["_law_rows","_law_one","_law_other","_law_column"] Zho:=Zjr DA.F T;refine F.ok scByRings (fun vs H Q E h=>?_) (fun cdv A outer s H vs Q E hr h=>?_)
 ·obtain ⟨_,_,rfl,_⟩:=h
  rfl
 ·obtain ⟨n,z,rfl,h1,h8,q⟩:=h
  refine' ⟨_,Zd ?s0 (Zd ?s1 (Zd (Ye PassesOwn.never rfl (Zn rfl T.range (Za (Zk Yf (pv 1) Zh) Zc)) (ZC (i:=3) scByRings.nd rfl (Or.inl rfl)) (Zd ?b0 (Zd ?b1 (Zd ?b2 (Zf (YT ?c (Zf ?d) Z8)))))) (Zf (Zu (pv 2))))),?rd⟩
  case s0=>exact Zj (i:=2) scByRings.nd rfl (Or.inl rfl) (Zm GB hr rfl DB.m DB.F.kp DB.b .nil ZK (Za (pv 0) (Za (pv 1) Zc)))
  case s1=>exact Zj (i:=1) scByRings.nd rfl (Or.inl rfl) (Zk Yy (pv 1) Zh)
  case b0=>exact Zj (i:=1) scByRings.nd rfl (Or.inl rfl) (Zk Yy (pv 1) Zh)
  case b1=>exact Zj (i:=4) scByRings.nd rfl (Or.inl rfl) (Zk Yf (pv 1) (pv 0))
  case b2=>exact Zj (i:=5) scByRings.nd rfl (Or.inl rfl) (Zk Yf (Zk Yj (Zk Yj (pv 4) Zh) (Zk Yf (Zk Yy (pv 1) (pv 0)) (Zl (ZbO rfl) rfl T.max PyProof.Rows.boot_max (Za Zh (Za (Zk Zjh (pv 0) Zh) Zc))))) (pv 0))
  case c=>exact ZJ Zjj (pv 4) (pv 5) (Z7 _)
  case d=>exact Zj (i:=2) scByRings.nd rfl (Or.inl rfl) (Zm GA hr rfl DA.m DA.F.kp DA.b .nil ZK (Za (pv 2) (Za (pv 4) (Za (pv 5) (Za (Zk Yf (Zk Yy (Zk Yy (pv 1) (pv 0)) (Zl (ZbO rfl) rfl T.max PyProof.Rows.boot_max (Za Zh (Za (Zk Zjh (pv 0) Zh) Zc)))) (pv 0)) Zc)))))
  case rd =>
   refine ⟨_,rfl,_,rfl,n,z,rfl,h1,h8,fun l ps R H1 s1 hl hfr M1 ok hRl=>?_⟩;refine ⟨_,rfl,_,_,rfl,rfl,⟨by decide,by decide⟩,?_⟩;obtain ⟨m,hm,hm7⟩:∃ m:Nat,z / 3 % 7=(m:Int)/\m<7:=⟨(z / 3 % 7).toNat,by exact O411 ,by exact O410 ⟩;refine ⟨_,rfl,_,_,rfl,rfl,(by show (0:Int)<7; decide),(m:Int),?_,by exact Om.c2,by exact O409 hm,?_⟩
   ·show [V.int (z / 3 % 7)]=_;rw [hm]
   rw [QAf];refine ZT (lo:=0) (n:=m) (Zf7 H n l ps)
    ⟨_,none,none,none,R,rfl,s1,M1,ok,hRl⟩ ?_ ?_
   ·clear M1 ok hRl;rintro i σ H2 hi ⟨z,v3,v4,v5,R,rfl,s2,M2,ok,hRl⟩;rw [QBp];refine ⟨_,rfl,_,_,rfl,rfl,⟨by decide,by decide⟩,?_⟩;generalize hz:z / 7=y;obtain ⟨o1,e1,ho1⟩:∃ o1:Nat,y % (n:Int)=(o1:Int)/\o1<n:=⟨(y % (n:Int)).toNat,by have:=QDa y (show (n:Int)≠0 by exact O408 h1 h8 hRl); exact Om.z1 ‹_›,by have:=QEg y (show (0:Int)<n by exact Om.c3 ‹_›); have:=QDa y (show (n:Int)≠0 by exact O408 h1 h8 hRl); omega⟩;obtain ⟨M,hM,hM1,hM2⟩:∃ M:Int,(if (n:Int) - 1>1 then (n:Int) - 1 else 1)=M/\0<M/\M<=8:=by
     refine ⟨_,rfl,?_,?_⟩
     ·split <;> omega
     ·split <;> omega
    refine ⟨_,rfl,_,rfl,_,_,rfl,rfl,(by show (0:Int)<(n:Int); exact Om.c3 ‹_›),?_⟩;show ZaF 4 (V.int (y % (n:Int))) _ _ _;rw [e1];obtain ⟨o2,e2,ho2⟩:∃ o2:Nat,((o1:Int)+1+y / (n:Int) % M) % (n:Int)=(o2:Int)/\o2<n:=⟨(((o1:Int)+1+y / (n:Int) % M) % (n:Int)).toNat,by have:=QDa ((o1:Int)+1+y / (n:Int) % M) (show (n:Int)≠0 by exact O408 h1 h8 hRl); exact Om.z1 ‹_›,by have:=QEg ((o1:Int)+1+y / (n:Int) % M) (show (0:Int)<n by exact Om.c3 ‹_›); have:=QDa ((o1:Int)+1+y / (n:Int) % M) (show (n:Int)≠0 by exact O408 h1 h8 hRl); omega⟩;refine ⟨_,rfl,_,_,rfl,rfl,_,rfl,_,rfl,_,_,rfl,rfl,⟨(by show (0:Int)<(n:Int); exact Om.c3 ‹_›),(by show (n:Int)<1073741824; exact O407 h1 h8 hRl)⟩,_,rfl,_,_,rfl,rfl,1,_,rfl,_,_,rfl,rfl,(by rw [hM]; exact hM1),_,_,rfl,rfl,_,rfl,_,_,rfl,rfl,(by show (0:Int)<(n:Int); exact Om.c3 ‹_›),?_⟩;show ZaF 5 (V.int (((o1:Int)+1+y / (n:Int) % (if (n:Int) - 1>1 then (n:Int) - 1 else 1)) % (n:Int))) _ _ _;rw [hM,e2];refine ⟨_,rfl,_,rfl,rfl,_,rfl,JG (fun hd=>?_) (fun _=>⟨_,_,_,_,R,rfl,s2,M2,ok,hRl⟩)⟩;have hne:o1≠o2:=fun e=>by
     rw [e,QZh rfl] at hd
     cases hd
    obtain ⟨c0,e3,hc0⟩:∃ c0:Nat,y / (n:Int) / M % (n:Int)=(c0:Int)/\c0<n:=⟨(y / (n:Int) / M % (n:Int)).toNat,by have:=QDa (y / (n:Int) / M) (show (n:Int)≠0 by exact O408 h1 h8 hRl); exact Om.z1 ‹_›,by have:=QEg (y / (n:Int) / M) (show (0:Int)<n by exact Om.c3 ‹_›); have:=QDa (y / (n:Int) / M) (show (n:Int)≠0 by exact O408 h1 h8 hRl); omega⟩;refine ⟨_,rfl,_,rfl,_,rfl,_,rfl,_,rfl,_,_,rfl,rfl,⟨(by show (0:Int)<(n:Int); exact Om.c3 ‹_›),(by show (n:Int)<1073741824; exact O407 h1 h8 hRl)⟩,_,rfl,_,_,rfl,rfl,1,_,rfl,_,_,rfl,rfl,⟨(by rw [hM]; exact hM1),(by rw [hM]; exact O406 hM1 hM2)⟩,_,rfl,_,_,rfl,rfl,(by show (0:Int)<(n:Int); exact Om.c3 ‹_›),l,ps,n,o1,o2,c0,R,?_,M2,ok,hRl,h8,ho1,ho2,hne,hc0,fun H3 k3 M3=>?_⟩
    ·show [V.ref l,V.int (o1:Int),V.int (o2:Int),V.int (y / (n:Int) / (if (n:Int) - 1>1 then (n:Int) - 1 else 1) % (n:Int))]=_;rw [hM,e3]
    ·obtain ⟨ok3,hl3⟩:=ZnD ok hRl ho1 ho2 hc0;exact ⟨_,_,_,_,_,rfl,fun b u e=>k3 b u (fun z=>by rw [hfr b z] at e; cases e) (s2 _ _ e),M3,ok3,hl3⟩
   ·rintro σ H2 ⟨z,v3,v4,v5,R,rfl,s2,M2,ok,hRl⟩;exact ⟨_,rfl,q l R H2 s2 ⟨ps,M2.out,M2.rows⟩ ok hRl⟩
end
structure ZnG (n:Nat) (R:LI) (x:Nat->Nat):Prop where
 h0:x 0<n
 h1:x 1<n
 h2:x 2<n
 e:ent R (x 0) (x 1)=((x 2:Nat):Int)
noncomputable def e3 (R:LI) (i j:Nat):Nat->Nat
 | 0=>i
 | 1=>j
 | _=>(ent R i j).toNat
theorem ZaC {n:Nat} {R:LI} (ok:OkRows n R) (hl:R.length=n) {i j:Nat} (hi:i<n) (hj:j<n):0<=ent R i j/\ent R i j<(n:Int):=(ZF ok hl hi).val hj
theorem Zkj {n:Nat} {R:LI} (ok:OkRows n R) (hl:R.length=n) {i j:Nat} (hi:i<n) (hj:j<n):ZnG n R (e3 R i j):=by
 have h:=ZaC ok hl hi hj;exact ⟨hi,hj,show (ent R i j).toNat<n by exact O394 hj h,show ent R i j=(((ent R i j).toNat:Nat):Int) by exact O50 h⟩
noncomputable def ZY (n:Nat) (R Rn:LI):LI:=mk n fun i j=>(Rn.getD 2 []).getD (ent R (ixo (Rn.getD 0 []) i) (ixo (Rn.getD 1 []) j)).toNat 0
section
variable {n:Nat} {R Rn F:LI} {rl:List Nat}
theorem ZhH {r:List Int} (t:Turn n r) {i j:Nat} (hi:i<n) (hj:j<n) (e:ixo r i=ixo r j):i=j:=by
 have h1:=(YK t hi).2;have h2:=(YK t hj).2;unfold ixo at e;rw [e,h2] at h1;omega
theorem YR (ok:OkRows n R) (hl:R.length=n) (rn:Ren n Rn):OkRows n (ZY n R Rn)/\(ZY n R Rn).length=n:=by
 have t0:=rn.at (k:=0) (by decide);have t1:=rn.at (k:=1) (by decide);have t2:=rn.at (k:=2) (by decide);have rg:∀ i j,i<n->j<n->∃ x:Nat,ent R (ixo (Rn.getD 0 []) i) (ixo (Rn.getD 1 []) j)=(x:Int)/\x<n:=fun i j hi hj=>by
  have:=ZaC ok hl (Z4 t0 hi) (Z4 t1 hj);exact ⟨(ent R (ixo (Rn.getD 0 []) i) (ixo (Rn.getD 1 []) j)).toNat,by exact O50 this,by exact O394 hj this⟩
 refine ZlA (fun i j hi hj=>?_) (fun i j k hi hj hk e=>?_) (fun i j k hi hj hk e=>?_)
 ·obtain ⟨x,ex,hx⟩:=rg i j hi hj;rw [ex,QAf];obtain ⟨y,ey,hy⟩:=t2.val hx;rw [ey];exact O405 hy
 ·obtain ⟨x,ex,hx⟩:=rg i j hi hj;obtain ⟨y,ey,hy⟩:=rg i k hi hk;rw [ex,ey,QAf,QAf] at e;have:=t2.inj hx hy e;refine ZhH t1 hj hk ((ZF ok hl (Z4 t0 hi)).inj (Z4 t1 hj) (Z4 t1 hk) ?_);show ent R _ _=ent R _ _;rw [ex,ey,this]
 ·obtain ⟨x,ex,hx⟩:=rg i k hi hk;obtain ⟨y,ey,hy⟩:=rg j k hj hk;rw [ex,ey,QAf,QAf] at e;have:=t2.inj hx hy e;exact ZhH t0 hi hj (J1 ok hl (Z4 t0 hi) (Z4 t0 hj) (Z4 t1 hk) (by rw [ex,ey,this]))
noncomputable def rnE (Rn:LI) (x:Nat->Nat) (k:Nat):Nat:=((Rn.getD k []).getD (x k) 0).toNat
theorem Zgy (rn:Ren n Rn) {x:Nat->Nat} {k:Nat} (hk:k<3) (hx:x k<n):(Rn.getD k []).getD (x k) 0=((rnE Rn x k:Nat):Int)/\rnE Rn x k<n/\ixo (Rn.getD k []) (rnE Rn x k)=x k:=by
 obtain ⟨y,ey,hy⟩:=(rn.at hk).val hx;have e:rnE Rn x k=y:=by
  unfold rnE;rw [ey,QAf]
 rw [e];exact ⟨ey,hy,Y9 (rn.at hk) hx hy ey⟩
theorem Zie (rn:Ren n Rn) (ok:OkRows n R) (hl:R.length=n) {x:Nat->Nat} (t:ZnG n R x):ent (ZY n R Rn) (rnE Rn x 0) (rnE Rn x 1)=((rnE Rn x 2:Nat):Int):=by
 obtain ⟨_,a1,a2⟩:=Zgy rn (x:=x) (k:=0) (by decide) t.h0;obtain ⟨_,b1,b2⟩:=Zgy rn (x:=x) (k:=1) (by decide) t.h1;obtain ⟨c0,_,_⟩:=Zgy rn (x:=x) (k:=2) (by decide) t.h2;unfold ZY;rw [Zmu a1 b1,a2,b2,t.e,QAf];exact c0
end
theorem Za8 {H:Hp}:∀ {ps:List Addr} {R:LI},Paired (fun p row=>H p=some (.tup row)) ps (R.map fun r=>r.map V.int)->Paired (fun p (r:List Int)=>H p=some (.tup (r.map V.int))) ps R
 | _,[],.nil=>.nil
 | _,_::_,.cons h t=>.cons h (Za8 t)
theorem ZcB {H:Hp}:∀ {ps:List Addr} {R:LI},Paired (fun p (r:List Int)=>H p=some (.tup (r.map V.int))) ps R->Paired (fun p row=>H p=some (.tup row)) ps (R.map fun r=>r.map V.int)
 | _,_,.nil=>.nil
 | _,_,.cons h t=>.cons h (ZcB t)
theorem GridT.tg {H:Hp} {a:Addr} {R:LI} (g:GridT H a (R.map fun r=>r.map V.int)):TG H a R :=
 let ⟨ps,h,r⟩:=g
 ⟨ps,h,Za8 r⟩
theorem TG.grid {H:Hp} {a:Addr} {R:LI} (g:TG H a R):GridT H a (R.map fun r=>r.map V.int) :=
 let ⟨ps,h,r⟩:=g
 ⟨ps,h,ZcB r⟩
theorem ZmM {n:Nat} {R:LI} (ok:OkRows n R) (hl:R.length=n) {i j:Nat} (hi:i<n) (hj:j<n):en (R.map fun r=>r.map V.int) i j=V.int (ent R i j):=by
 have h1:i<R.length:=by exact Om.a1 ‹_› ‹_›
 have h2:j<R[i].length:=by rw [(ok.row _ (QAs h1)).1]; exact hj
 unfold en ent;rw [QAd (l:=R.map fun r=>r.map V.int),QAe,QAb h1,QAd (l:=R),QAb h1];show (R[i].map V.int).getD j .non=V.int (R[i].getD j 0);rw [QAd,QAe,QAb h2,QAd,QAb h2]
 rfl
theorem Zmt {n:Nat} (f:Nat->Nat->Int):(mk n f).map (fun r=>r.map V.int)=mkB n fun i j=>V.int (f i j):=by
 unfold mk mkB;rw [QAw];refine QBy fun i _=>?_;show ((List.range n).map fun c=>f i c).map V.int=_;rw [QAw]
 rfl
theorem Jf {n:Nat} {R Rn:LI} (ok:OkRows n R) (hl:R.length=n) (rn:Ren n Rn):YS n (R.map fun r=>r.map V.int) Rn=(ZY n R Rn).map fun r=>r.map V.int:=by
 unfold ZY;rw [Zmt];unfold YS;refine ZbE fun i j hi hj=>?_;rw [ZmM ok hl (Z4 (rn.at (by decide)) hi) (Z4 (rn.at (by decide)) hj)]
 rfl
theorem Zbf {n:Nat} {R:LI} (ok:OkRows n R) (hl:R.length=n):EG n (R.map fun r=>r.map V.int):=by
 have row:∀ i (h:i<R.length),(R.map fun r=>r.map V.int).getD i []=R[i].map V.int:=fun i h=>by
  rw [QAd,QAe,QAb h]
  rfl
 refine ⟨by rw [QAa,hl],fun i hi=>?_,fun i j hi hj=>?_⟩
 ·rw [row i (by exact Om.a1 ‹_› ‹_›),QAa];exact (ok.row _ (QAs _)).1
 ·obtain ⟨h1,h2,h3⟩:=ok.row (R[i]'(by exact Om.a1 ‹_› ‹_›)) (QAs _);unfold en;rw [row i (by exact Om.a1 ‹_› ‹_›),QAd,QAe,QAb (by exact Om.a1 ‹_› ‹_›)];have:=h3 ((R[i]'(by exact Om.a1 ‹_› ‹_›))[j]'(by exact Om.a1 ‹_› ‹_›)) (QAs _);refine .inr ⟨((R[i]'(by exact Om.a1 ‹_› ‹_›))[j]'(by exact Om.a1 ‹_› ‹_›)).toNat,?_,by exact O404 hl hi hj h1 this⟩;show V.int _=V.int _
  congr 1
  exact O403 hl hi hj h1 this
inductive Zd6 (K:QZa) (vs:List V) (H:Hp) (Q:VK):Prop where
 | mk (a:Addr) (ns:List Int) (k n:Nat) (_:vs=[.ref a,.int (k:Int),.int (n:Int)]) (_:SqL K H a (ns.map V.int)) (_:1<=n) (_:n<=8) (_:∀ (t:Addr) (H':Hp) (R:LI),Same H H'->TG H' t R->OkRows n R->R.length=n->Q (.ref t) H'):Zd6 K vs H Q
def ZeX (K:QZa):Sp:=fun vs H Q _=>Zd6 K vs H Q
section
variable {P:Program} {w:World} {K:QZa} {mg:Str->Option Value} {base:Heap}
structure SqD (K:QZa) (mg:Str->Option Value) (fC fN fT fR fL fB fA fW fM fG:Addr) (dC dN dT dR dL dB dA dW dM dG:FuncData):Prop where
 C:Dfn K mg "_law_cell_at" Zcp ["_law_script","_law_k"] fC dC
 N:Dfn K mg "_law_number" ZaY ["_law_script","_law_k"] fN dN
 T:Dfn K mg "_law_turn" Ze1 ["_law_n","_law_number_here"] fT dT
 R:Dfn K mg "_law_renaming" Zaq ["_law_script","_law_k","_law_n"] fR dR
 L:Dfn K mg "_law_renamed" Zhq ["_law_begun","_law_renaming_here"] fL dL
 B:Dfn K mg "_law_base" Ze2 ["_law_n","_law_number_here"] fB dB
 A:Dfn K mg "_law_along" Zcq ["_law_rows","_law_one","_law_other","_law_column"] fA dA
 W:Dfn K mg "_law_row" Zi0 ["_law_rows","_law_made","_law_digits"] fW dW
 M:Dfn K mg "_law_by_rows" Zb4 ["_law_n","_law_number_here"] fM dM
 G:Dfn K mg "_law_by_rings" Za1 ["_law_n","_law_number_here"] fG dG
variable {fC fN fT fR fL fB fA fW fM fG:Addr} {dC dN dT dR dL dB dA dW dM dG:FuncData}
theorem scSquare:Zt ["_law_script","_law_k","_law_n","_law_number_here","_law_rows"] ["_law_script","_law_k","_law_n"] (Zi Zb2):=Fs
inductive Zf6 (R:LI) (H2:Hp) (lk:Addr) (i:Nat) (ys:List V) (σ:St) (H':Hp):Prop where
 | mk (v:Option V) (qs:List Addr) (_:σ=[v]) (_:ys=qs.map V.ref) (_:Same H2 H') (_:H' lk=some (.lst ys)) (_:Paired (fun p row=>H' p=some (.tup row)) qs ((R.map fun r=>r.map V.int).take i)):Zf6 R H2 lk i ys σ H'
theorem Zil {f:Addr} {fd:FuncData} (F:Fun K "_law_square" "_law_square" Zb2 f fd) (T:Blt mg) (Z:SqD K mg fC fN fT fR fL fB fA fW fM fG dC dN dT dR dL dB dA dW dM dG):FnOk P w K mg base CX0 11 f fd ["_law_script","_law_k","_law_n"] (ZeX K):=by
 have GN:FnOk P w K mg base CX0 10 fN dN ["_law_script","_law_k"] (Zbu K):=(ZdF Z.N.F T Z.C).mono (by decide);have GM:FnOk P w K mg base CX0 10 fM dM ["_law_n","_law_number_here"] Zkq:=Zin Z.M.F T Z.W;have GG:FnOk P w K mg base CX0 10 fG dG ["_law_n","_law_number_here"] Zkq:=(ZgJ Z.G.F T Z.B Z.A).mono (by decide);have GR:FnOk P w K mg base CX0 10 fR dR ["_law_script","_law_k","_law_n"] (Zcn K):=(Zff Z.R.F T Z.C Z.N Z.T).mono (by decide);have GL:FnOk P w K mg base CX0 10 fL dL ["_law_begun","_law_renaming_here"] Zao:=(ZkL Z.L.F T).mono (by decide);refine F.ok scSquare (fun vs H Q E h=>?_) (fun cdv A outer s H vs Q E hr h=>?_)
 ·obtain ⟨_,_,_,_,rfl,_⟩:=h
  rfl
 ·obtain ⟨a,ns,k,n,rfl,hS,h1,h8,q⟩:=h
  refine' ⟨_,Zd ?s0 (Zd (YT ?c (Zf ?d0) (Zf ?d1)) (Zf (Zu ?r))),?rd⟩
  case s0=>exact Zj (i:=3) scSquare.nd rfl (Or.inl rfl) (Zm GN hr rfl Z.N.m Z.N.F.kp Z.N.b .nil ZK (Za (pv 0) (Za (pv 1) Zc)))
  case c=>exact ZJ JO (Zk Yf (pv 3) Zh) Zh (Z7 _)
  case d0=>exact Zj (i:=4) scSquare.nd rfl (Or.inl rfl) (Zm GM hr rfl Z.M.m Z.M.F.kp Z.M.b .nil ZK (Za (pv 2) (Za (Zk Yy (pv 3) Zh) Zc)))
  case d1=>exact Zj (i:=4) scSquare.nd rfl (Or.inl rfl) (Zm GG hr rfl Z.G.m Z.G.F.kp Z.G.b .nil ZK (Za (pv 2) (Za (Zk Yy (pv 3) Zh) Zc)))
  case r=>exact Zm GL hr rfl Z.L.m Z.L.F.kp Z.L.b .nil ZK (Za (Zp (Zv K) rfl T.tuple ZL (Za (Yq ["_law_row_here"] [none] rfl rfl (Z2 K (pv 4)) (fun _ _ _ _ _=>Yu 0) (fun _ _ _ _ _=>ZA) (fun _ _ _ _ _=>Zp (Zv K) rfl T.tuple ZL (Za (pv 0) Zc))) Zc)) (Za (Zm GR hr rfl Z.R.m Z.R.F.kp Z.R.b .nil ZK (Za (pv 0) (Za (Zk Yj (pv 1) Zh) (Za (pv 2) Zc)))) Zc))
  case rd =>
   refine ⟨_,rfl,_,rfl,a,ns,k,rfl,hS,fun z=>?_⟩;refine ⟨_,rfl,_,_,rfl,rfl,(by show (0:Int)<2; decide),rfl,_,rfl,?_⟩;refine JG (fun _=>?_) (fun _=>?_)
   all_goals
    refine ⟨_,rfl,_,rfl,_,_,rfl,rfl,⟨by decide,by decide⟩,n,_,rfl,h1,h8,fun lr R H2 sH2 hL ok hRl=>?_⟩;obtain ⟨ps,hps,hPs⟩:=id hL;have hpl:(ps.map V.ref).length=R.length:=by rw [QAa,hPs.length]
    refine ⟨_,rfl,lr,rfl,⟨_,SqL.of hps⟩,fun lk hlk=>Z5 (Z1 (xs:=ps.map V.ref)) (Zf6 R H2 lk)
     ⟨none,[],rfl,rfl,Same.new hlk,Zb,.nil⟩ (fun i ys σ H' zz0=> by obtain ⟨v,qs,_,_,sm,hl,_⟩ := zz0; exact ⟨SqL.of (sm _ _ hps),hl⟩) ?_ ?_⟩
    ·rintro j x ys σ H7 hj ⟨v,qs,rfl,rfl,sm7,hl7,hP7⟩;rw [QAe] at hj
     cases hpj:ps[j]? with
     | none=>rw [hpj] at hj; cases hj
     | some p =>
      rw [hpj] at hj
      cases hj;obtain ⟨r,hrj,hp⟩:=Paired.getL hPs hpj;refine ⟨_,rfl,p,r.map V.int,rfl,.inl ⟨SqL.of (sm7 _ _ hp),fun tp htp=>?_⟩⟩;have sm8:Same H7 (upd H7 tp (.tup (r.map V.int))):=Same.new htp;have hl9:=sm8 _ _ hl7;have hjl:j<R.length:=(QZb.mp hrj).1;have hql:qs.length=j:=by rw [hP7.length,QAt,QAa]; omega
      refine ⟨hl9,by rw [QAa,hql]; exact Zy (by omega),_,qs++[tp],rfl,by rw [QAm]; rfl,fun b o e=>?_,Zb,?_⟩
      ·rw [Ze (Zg e hlk)];exact sm8 _ _ (sm7 _ _ e)
      ·have up:∀ b row,(upd H7 tp (.tup (r.map V.int))) b=some (.tup row)->(upd (upd H7 tp (.tup (r.map V.int))) lk (.lst (qs.map V.ref++[.ref tp]))) b=some (.tup row):=fun b row e=>by
        rw [Ze (YE e hl9 (by intro z; cases z))];exact e
       have et:(R.map fun r=>r.map V.int).take (j+1)=(R.map fun r=>r.map V.int).take j++[r.map V.int]:=by rw [QCe,QAe,hrj]; rfl
       rw [et];exact Paired.snoc (Paired.mapP hP7 fun q row e=>up q row (sm8 _ _ e)) (up tp _ Zb)
    ·rintro ys σ H7 ⟨v,qs,rfl,rfl,sm7,hl7,hP7⟩;rw [hpl,QBc (by rw [QAa]; exact QAc _)] at hP7;refine ⟨lk,_,rfl,.inl ⟨SqL.of hl7,fun tk htk=>?_⟩⟩;have sm8:Same H7 (upd H7 tk (.tup (qs.map V.ref))):=Same.new htk;have hG8:GridT (upd H7 tk (.tup (qs.map V.ref))) tk (R.map fun r=>r.map V.int):=⟨qs,Zb,Paired.mapP hP7 fun _ _ z=>sm8 _ _ z⟩;have s28:=sH2.trans (sm7.trans sm8);generalize upd H7 tk (.tup (qs.map V.ref))=H8 at hG8 s28 ⊢;refine ⟨_,rfl,_,rfl,_,_,rfl,rfl,_,rfl,a,ns,k+1,n,rfl,s28.seq hS,h8,fun tr H9 Rn s9 _ hT9 rn=>?_⟩;have eg:=Zbf ok hRl;exact ⟨tk,tr,n,_,Rn,rfl,hG8.same s9,eg,hT9,rn,h1,h8,fun t HA sA hGA=>by
      rw [Jf ok hRl rn] at hGA;exact q t HA _ (s28.trans (s9.trans sA)) (GridT.tg hGA) (YR ok hRl rn).1 (YR ok hRl rn).2⟩
end
inductive ZhZ (vs:List V) (H:Hp) (Q:VK):Prop where
 | mk (g:Addr) (n o1 o2 c:Nat) (R:LI) (_:vs=[.ref g,.int (o1:Int),.int (o2:Int),.int (c:Int)]) (_:TG H g R) (_:OkRows n R) (_:R.length=n) (_:n<=8) (_:o1<n) (_:o2<n) (_:c<n) (_:∀ l H',Same H H'->H l=none->H' l=some (.lst ((toI (Yp (stp (R.getD o1 []) (R.getD o2 [])) n c)).map V.int))->Q (.ref l) H'):ZhZ vs H Q
def ZiR:Sp:=fun vs H Q _=>ZhZ vs H Q
def LLn (H0 H:Hp) (a:Addr) (L:List (List Nat)):Prop:=∃ ps:List Addr,H a=some (.lst (ps.map V.ref))/\Paired (fun p (r:List Nat)=>H p=some (.lst ((toI r).map V.int))/\p≠a/\H0 p=none) ps L
theorem ZhK (i:Nat) (r:List Nat):inV (.int (i:Int)) ((toI r).map V.int)=decide (i∈r):=by
 rw [Zbg]
 congr 1
 unfold toI;rw [eq_iff_iff]
 constructor
 ·intro h;obtain ⟨c,hc,e⟩:=QZd.mp h;have:c=i:=by exact Om.e1 ‹_›
  rw [<- this];exact hc
 ·intro h;exact QZd.mpr ⟨i,h,rfl⟩
inductive ZfU (vs:List V) (H:Hp) (Q:VK):Prop where
 | mk (g:Addr) (n o1 o2:Nat) (R:LI) (_:vs=[.ref g,.int (o1:Int),.int (o2:Int)]) (_:TG H g R) (_:OkRows n R) (_:R.length=n) (_:n<=8) (_:o1<n) (_:o2<n) (_:o1≠o2) (_:∀ l H',Same H H'->H l=none->LLn H H' l (Zz (stp (R.getD o1 []) (R.getD o2 [])) n n)->Q (.ref l) H'):ZfU vs H Q
def Zhk:Sp:=fun vs H Q _=>ZfU vs H Q
theorem Ze4 {n:Nat} {s:Nat->Nat} (o:One n s) {c:Nat} (hc:c<n):(Yp s n c).length<=n:=Zay (JZ o hc).1.nodup ((JZ o hc).1.lt o)
theorem YM (s:Nat->Nat) (n:Nat):∀ j,(Zz s n j).length<=j
 | 0=>QAc _
 | j+1=>by
  have ih:=YM s n j;rw [Zz]
  split
  ·rw [QAo]; exact Nat.succ_le_succ ih
  ·omega
theorem Zfz {n:Nat} {s:Nat->Nat} (o:One n s):∀ j,j<=n->(Zz s n j).flatten.length<=j*n
 | 0,_=>QAg _
 | j+1,h=>by
  have ih:=Zfz o j (by exact Om.f4 ‹_›);rw [Zz];have e:(j+1)*n=j*n+n:=QCs j n
  split
  ·have:=Ze4 o (c:=j) (by exact Om.f5 ‹_›);rw [List.flatten_append,QAo,List.flatten_singleton];omega
  ·omega
theorem Zka (L:List (List Nat)) (i:Nat):L.all (fun r=>decide (i∉r)) = !decide (i∈L.flatten):=by
 rw [QBj,QBh]
 simp
theorem ZaH (a b:List Nat):toI (a++b)=toI a++toI b:=QAm
def WRf (H:Hp) (g:Addr) (n o1 o2 c:Nat) (s:Nat->Nat) (l:Addr) (m:Nat) (σ:St) (H2:Hp):Prop :=
 ∃ (acc:List Nat) (x:Nat),σ=[some (.ref g),some (.int (o1:Int)),some (.int (o2:Int)),some (.int (c:Int)),some (.ref l),some (.int (x:Int))]/\Same H H2/\H2 l=some (.lst ((toI acc).map V.int))/\((acc=[]/\x=c)\/(Path n s c acc/\x=s (Z6 acc)/\J3 s c (n+1 - acc.length) acc=Yp s n c))/\m=n+1 - acc.length
section
variable {P:Program} {w:World} {K:QZa} {mg:Str->Option Value} {base:Heap}
theorem scRf:Zt ["square","one","other","column","ring","here"] ["square","one","other","column"] (Zi JL):=Fs
theorem Zfe {f:Addr} {fd:FuncData} (F:Fun K "ring_from" "ring_from" JL f fd):FnOk P w K mg base CX0 1 f fd ["square","one","other","column"] ZiR:=by
 refine F.ok scRf (fun vs H Q E h=>?_) (fun cdv A outer s H vs Q E hr h=>?_)
 ·obtain ⟨_,_,_,_,_,_,rfl,_⟩:=h
  rfl
 ·obtain ⟨g,n,o1,o2,c,R,rfl,hT,ok,hRl,h8,h1,h2,hc,q⟩:=h
  refine' ⟨_,Zd (Zj (i:=4) scRf.nd rfl (Or.inl rfl) (Z0 Zc)) (Zd (Zj (i:=5) scRf.nd rfl (Or.inl rfl) (pv 3)) (Zd (Za5 PassesOwn.never (ZJ (Zax K) (pv 5) (pv 4) rfl) (Zd ?b0 (Zf ?b1))) (Zf (Zu (pv 4))))),?rd⟩
  case b0=>exact Yx (Jg PySem.F.plainAttrs_list PySem.F.slot_list_append PySem.F.type_list_append Yk (pv 4) (Za (pv 5) Zc))
  case b1=>exact Zj (i:=5) scRf.nd rfl (Or.inl rfl) (Jp (ZD Zah (pv 0) (pv 1) (fun _ _=>rfl)) (Za (ZD Zah (ZD Zah (pv 0) (pv 2) (fun _ _=>rfl)) (pv 5) (fun _ _=>rfl)) Zc))
  case rd =>
   have ra:Row n (R.getD o1 []):=ok.rowAt (by exact Om.a1 ‹_› ‹_›);have rb:Row n (R.getD o2 []):=ok.rowAt (by exact Om.a1 ‹_› ‹_›);have so:=ZaS ra rb;refine ⟨QAg _,fun l hl=>⟨_,rfl,?_⟩⟩;refine ⟨WRf H g n o1 o2 c (stp (R.getD o1 []) (R.getD o2 [])) l,⟨_,[],c,rfl,Same.new hl,Zb,.inl ⟨rfl,rfl⟩,rfl⟩,?_⟩;rintro m σ H2 ⟨acc,x,rfl,sH,hl2,hcase,rfl⟩;have hxn:x<n:=by
    rcases hcase with ⟨_,z⟩ | ⟨pa,z,_⟩
    ·exact Om.x1 ‹_› ‹_›
    ·rw [z];exact so.lt _ (pa.lt so _ pa.last_mem)
   have hal:acc.length<=n:=by
    rcases hcase with ⟨z,_⟩ | ⟨pa,_,_⟩
    ·rw [z]; exact QAg _
    ·exact Zay pa.nodup (pa.lt so)
   refine ⟨_,rfl,_,rfl,l,_,rfl,.inl (SqL.of hl2),rfl,ZO _,_,rfl,?_⟩;have e3:(if true=true then !inV (.int (x:Int)) ((toI acc).map V.int) else inV (.int (x:Int)) ((toI acc).map V.int)) = !decide (x∈acc):=by rw [if_pos rfl,ZhK]
   rw [e3];refine JG (fun hd=>?_) (fun hd=>?_)
   ·have hni:x∉acc:=by simpa using hd
    refine ⟨fun σ' H'=>∃ m',m'<n+1 - acc.length/\WRf H g n o1 o2 c (stp (R.getD o1 []) (R.getD o2 [])) l m' σ' H',fun _ _ z=>z,?_⟩;refine ⟨_,rfl,.inl ⟨rfl,_,SqL.of hl2⟩,_,rfl,l,_,_,rfl,rfl,hl2,by rw [QAa,toI,QAa]; exact Zy (by exact Om.b3 ‹_› ‹_› rfl),?_⟩;have s3:Same H (upd H2 l (.lst ((toI acc).map V.int++[.int (x:Int)]))):=fun b u e=>by
     rw [Ze (Zg e hl)];exact sH _ _ e
    have hl3:(upd H2 l (.lst ((toI acc).map V.int++[.int (x:Int)]))) l=some (.lst ((toI (acc++[x])).map V.int)):=by rw [Zb,Zkl,QAm]; rfl
    generalize upd H2 l (.lst ((toI acc).map V.int++[.int (x:Int)]))=H3 at s3 hl3 ⊢;have hT3:=hT.same s3;obtain ⟨xA,pA,a1,a2,a3,a4⟩:=hT3.at (k:=o1) (by exact Om.a1 ‹_› ‹_›);obtain ⟨xB,pB,b1,b2,b3,b4⟩:=hT3.at (k:=o2) (by exact Om.a1 ‹_› ‹_›);refine ⟨_,rfl,_,rfl,g,_,_,_,rfl,rfl,SqT.of a1,a3,pA,_,rfl,a4,_,rfl,_,rfl,g,_,_,_,rfl,rfl,SqT.of b1,b3,_,rfl,pB,_,_,_,rfl,rfl,SqT.of b4,Jz (by rw [rb.len]; exact hxn),_,rfl,a4,YO ra.len ra.nd ra.rg (rb.val hxn),?_⟩;have hlast:Z6 (acc++[x])=x:=Y7 _ _;have hpath:Path n (stp (R.getD o1 []) (R.getD o2 [])) c (acc++[x])/\J3 (stp (R.getD o1 []) (R.getD o2 [])) c (n+1 - (acc++[x]).length) (acc++[x])=Yp (stp (R.getD o1 []) (R.getD o2 [])) n c:=by
     rcases hcase with ⟨z1,z2⟩ | ⟨pa,z,hrf⟩
     ·subst z1;subst z2;exact ⟨.one hc,rfl⟩
     ·subst z;have e':stp (R.getD o1 []) (R.getD o2 []) (Z6 acc)≠c:=fun e=>hni (by rw [e]; exact pa.head_mem)
      refine ⟨.more pa hni,?_⟩;rw [show n+1 - acc.length=(n - acc.length)+1 by exact O402 hRl hal a2 b2] at hrf;rw [J3,if_neg e'] at hrf;rw [QAo,show n+1 - (acc.length+[stp (R.getD o1 []) (R.getD o2 []) (Z6 acc)].length)=n - acc.length by simp];exact hrf
    refine ⟨n+1 - (acc++[x]).length,by rw [QAo,QDf]; exact O401 hRl hal a2 b2,acc++[x],stp (R.getD o1 []) (R.getD o2 []) x,rfl,s3,hl3,.inr ⟨hpath.1,by rw [hlast],hpath.2⟩,rfl⟩
   ·have hin:x∈acc:=by simpa using hd
    rcases hcase with ⟨z,_⟩ | ⟨pa,z,hrf⟩
    ·rw [z] at hin
     cases hin
    ·subst z;have e':=pa.back so hin;rw [show n+1 - acc.length=(n - acc.length)+1 by exact O400 hal,J3,if_pos e'] at hrf;refine ⟨_,rfl,q l H2 sH hl ?_⟩;rw [hl2,hrf]
theorem scRingsP:Zt ["square","one","other","found","passed","column","ring"] ["square","one","other"] (Zi Zb3):=Fs
inductive Zgg (H:Hp) (g:Addr) (n:Nat) (o1:Nat) (o2:Nat) (lf:Addr) (lp:Addr) (sp:Nat->Nat) (i:Nat) (σ:St) (H2:Hp):Prop where
 | mk (v5 v6:Option V) (ps:List Addr) (_:σ=[some (.ref g),some (.int (o1:Int)),some (.int (o2:Int)),some (.ref lf),some (.ref lp),v5,v6]) (_:Same H H2) (_:H2 lf=some (.lst (ps.map V.ref))) (_:H2 lp=some (.lst ((toI (Zz sp n i).flatten).map V.int))) (_:Paired (fun p (r:List Nat)=>H2 p=some (.lst ((toI r).map V.int))/\p≠lf/\p≠lp/\H p=none) ps (Zz sp n i)):Zgg H g n o1 o2 lf lp sp i σ H2
theorem Zim {f fR:Addr} {fd dR:FuncData} (F:Fun K "rings" "rings" Zb3 f fd) (T:Blt mg) (DR:Dfn K mg "ring_from" JL ["square","one","other","column"] fR dR):FnOk P w K mg base CX0 2 f fd ["square","one","other"] Zhk:=by
 have GR:FnOk P w K mg base CX0 1 fR dR ["square","one","other","column"] ZiR:=Zfe DR.F;refine F.ok scRingsP (fun vs H Q E h=>?_) (fun cdv A outer s H vs Q E hr h=>?_)
 ·obtain ⟨_,_,_,_,_,rfl,_⟩:=h
  rfl
 ·obtain ⟨g,n,o1,o2,R,rfl,hT,ok,hRl,h8,h1,h2,hne,q⟩:=h
  refine' ⟨_,Zd (Zj (i:=3) scRingsP.nd rfl (Or.inl rfl) (Z0 Zc)) (Zd (Zj (i:=4) scRingsP.nd rfl (Or.inl rfl) (Z0 Zc)) (Zd (Ye PassesOwn.never rfl (Zn rfl T.range (Za (Zl (Zr K) rfl T.len PySem.boot_len (Za (pv 0) Zc)) Zc)) (ZC (i:=5) scRingsP.nd rfl (Or.inl rfl)) (Zf (YT ?c (Zd ?b0 (Zd ?b1 (Zf ?b2))) Z8))) (Zf (Zu (pv 3))))),?rd⟩
  case c=>exact ZJ (Zax K) (pv 5) (pv 4) rfl
  case b0=>exact Zj (i:=6) scRingsP.nd rfl (Or.inl rfl) (Zm GR hr rfl DR.m DR.F.kp DR.b .nil ZK (Za (pv 0) (Za (pv 1) (Za (pv 2) (Za (pv 5) Zc)))))
  case b1=>exact Yx (Jg PySem.F.plainAttrs_list PySem.F.slot_list_append PySem.F.type_list_append Yk (pv 3) (Za (pv 6) Zc))
  case b2=>exact Yx (Jg PySem.F.plainAttrs_list PySem.F.slot_list_extend PySem.F.type_list_extend JP (pv 4) (Za (pv 6) Zc))
  case rd =>
   refine ⟨QAg _,fun lf hlf=>⟨QAg _,fun lp hlp=>?_⟩⟩;have s0:Same H (upd H lf (.lst [])):=Same.new hlf;have s1:Same (upd H lf (.lst [])) (upd (upd H lf (.lst [])) lp (.lst [])):=Same.new hlp;have hlp0:H lp=none:=s0.free hlp;have hfp:lf≠lp:=fun e=>by rw [<- e,Zb] at hlp; cases hlp
   obtain ⟨gs,hgs,hGs⟩:=id hT;have hgl:(gs.map V.ref).length=n:=by rw [QAa,hGs.length,hRl]
   refine ⟨_,rfl,g,_,rfl,.inr (SqT.of ((s0.trans s1) _ _ hgs)),_,rfl,by exact Om.c2,by exact O399 hRl h8 hgl,?_⟩;rw [hgl,QAf];generalize hs:stp (R.getD o1 []) (R.getD o2 [])=sp at q;have so:One n sp:=by rw [<- hs]; exact ZaS (ok.rowAt (by exact Om.a1 ‹_› ‹_›)) (ok.rowAt (by exact Om.a1 ‹_› ‹_›))
   refine ZT (lo:=0) (n:=n) (Zgg H g n o1 o2 lf lp sp)
    ⟨none,none,[],rfl,s0.trans s1,s1 _ _ Zb,Zb,.nil⟩ ?_ ?_
   ·rintro i σ H2 hi ⟨v5,v6,ps,rfl,s2,hf,hp,hPs⟩;rw [QBp];have hpl:ps.length=(Zz sp n i).length:=hPs.length;have hfi:=YM sp n i;have hfl:=Zfz so i (by exact Om.d1 ‹_›);have hii:i*n<=8*8:=QBv (by exact Om.b2 ‹_› ‹_› rfl) h8;refine ⟨_,rfl,_,rfl,lp,_,rfl,.inl (SqL.of hp),rfl,ZO _,_,rfl,?_⟩;have e3:(if true=true then !inV (.int (i:Int)) ((toI (Zz sp n i).flatten).map V.int) else inV (.int (i:Int)) ((toI (Zz sp n i).flatten).map V.int))=(Zz sp n i).all fun r=>decide (i∉r):=by rw [if_pos rfl,ZhK,Zka]
    rw [e3];refine JG (fun hd=>?_) (fun hd=>?_)
    ·have er:Zz sp n (i+1)=Zz sp n i++[Yp sp n i]:=by rw [Zz,if_pos hd]
     refine ⟨_,rfl,_,rfl,_,rfl,_,rfl,g,n,o1,o2,i,R,rfl,hT.same s2,ok,hRl,h8,h1,h2,hi,fun p H3 s3 hp0 hp3=>?_⟩;rw [hs] at hp3;have hf3:=s3 _ _ hf;have hlp3:=s3 _ _ hp;have hpf:p≠lf:=fun z=>by rw [z,hf] at hp0; cases hp0
     have hpp:p≠lp:=fun z=>by rw [z,hp] at hp0; cases hp0
     refine ⟨_,rfl,.inl ⟨rfl,_,SqL.of hf3⟩,_,rfl,lf,_,_,rfl,rfl,hf3,by rw [QAa]; exact Zy (by exact O398 hRl h8 h1 hgl hi hpl hfi),?_⟩;have g1:∀ b,b≠lf->(upd H3 lf (.lst (ps.map V.ref++[.ref p]))) b=H3 b:=fun b hb=>Ze hb
     have g0:(upd H3 lf (.lst (ps.map V.ref++[.ref p]))) lf=some (.lst ((ps++[p]).map V.ref)):=by rw [Zb,QAm]; rfl
     generalize upd H3 lf (.lst (ps.map V.ref++[.ref p]))=H4 at g1 g0 ⊢;have hp4:H4 p=some (.lst ((toI (Yp sp n i)).map V.int)):=by rw [g1 _ hpf]; exact hp3
     have hlp4:H4 lp=some (.lst ((toI (Zz sp n i).flatten).map V.int)):=by rw [g1 _ (Ne.symm hfp)]; exact hlp3
     have hrl:=Ze4 so hi;refine ⟨_,rfl,.inl ⟨rfl,_,SqL.of hlp4⟩,_,rfl,lp,p,_,_,rfl,rfl,hlp4,hp4,?_,?_⟩
     ·refine QCa (Zy ?_);rw [QAa,QAa,toI,toI,QAa,QAa];exact O397 hRl h8 h1 hgl hfl hii hrl
     ·refine ⟨_,_,ps++[p],rfl,fun b u e=>?_,?_,?_,?_⟩
      ·rw [Ze (Zg e hlp0),g1 _ (Zg e hlf)];exact s3 _ _ (s2 _ _ e)
      ·rw [Ze hfp];exact g0
      ·rw [Zb,er,List.flatten_append,List.flatten_singleton,ZaH,QAm]
      ·rw [er];refine Paired.snoc (Paired.mapP hPs fun b r z=>⟨?_,z.2⟩) ⟨?_,hpf,hpp,s2.free hp0⟩
       ·rw [Ze z.2.2.1,g1 _ z.2.1];exact s3 _ _ z.1
       ·rw [Ze hpp];exact hp4
    ·have er:Zz sp n (i+1)=Zz sp n i:=by rw [Zz,if_neg hd]
     refine ⟨_,_,ps,rfl,s2,hf,?_,?_⟩
     ·rw [er]; exact hp
     ·rw [er]; exact hPs
   ·rintro σ H2 ⟨v5,v6,ps,rfl,s2,hf,hp,hPs⟩;exact ⟨_,rfl,q lf H2 s2 hlf ⟨ps,hf,Paired.mapP hPs fun _ _ z=>⟨z.1,z.2.1,z.2.2.2⟩⟩⟩
end
noncomputable def lexo {α:Type} [DecidableEq α] (lt:α->α->Bool):List α->List α->Bool
 | [],[]=>false
 | [],_::_=>true
 | _::_,[]=>false
 | x::xs,y::ys=>if x=y then lexo lt xs ys else lt x y
structure Ord {α:Type} (lt:α->α->Bool):Prop where
 irr:∀ x,lt x x=false
 tr:∀ x y z,lt x y=true->lt y z=true->lt x z=true
 tot:∀ x y,lt x y=false->lt y x=false->x=y
section
variable {α:Type} [DecidableEq α] {lt:α->α->Bool}
theorem Jq (x y:α) (xs ys:List α):lexo lt (x::xs) (y::ys)=if x=y then lexo lt xs ys else lt x y:=by rw [lexo]
theorem Zfp:∀ xs:List α,lexo lt xs xs=false
 | []=>rfl
 | x::xs=>by rw [Jq,if_pos rfl,Zfp xs]
theorem ZhG (o:Ord lt):∀ xs ys zs:List α,lexo lt xs ys=true->lexo lt ys zs=true->lexo lt xs zs=true
 | [],[],zs,h,_=>by cases h
 | [],_::_,[],_,h=>by cases h
 | [],_::_,_::_,_,_=>rfl
 | _::_,[],_,h,_=>by cases h
 | _::_,_::_,[],_,h=>by cases h
 | x::xs,y::ys,z::zs,h1,h2=>by
  rw [Jq] at h1 h2 ⊢
  by_cases e1:x=y
  ·subst e1;rw [if_pos rfl] at h1
   by_cases e2:x=z
   ·rw [if_pos e2] at h2 ⊢;exact ZhG o xs ys zs h1 h2
   ·rw [if_neg e2] at h2 ⊢;exact h2
  ·rw [if_neg e1] at h1
   by_cases e2:y=z
   ·subst e2;rw [if_neg e1];exact h1
   ·rw [if_neg e2] at h2
    by_cases e3:x=z
    ·subst e3;have:=o.tr _ _ _ h1 h2;rw [o.irr] at this
     cases this
    ·rw [if_neg e3];exact o.tr _ _ _ h1 h2
theorem Zfo (o:Ord lt):∀ xs ys:List α,lexo lt xs ys=false->lexo lt ys xs=false->xs=ys
 | [],[],_,_=>rfl
 | [],_::_,h,_=>by cases h
 | _::_,[],_,h=>by cases h
 | x::xs,y::ys,h1,h2=>by
  rw [Jq] at h1 h2
  by_cases e1:x=y
  ·subst e1;rw [if_pos rfl] at h1 h2;rw [Zfo o xs ys h1 h2]
  ·rw [if_neg e1] at h1;rw [if_neg (Ne.symm e1)] at h2;exact absurd (o.tot x y h1 h2) e1
theorem Ord.lexo (o:Ord lt):Ord (lexo lt):=⟨Zfp,ZhG o,Zfo o⟩
end
noncomputable def ltI (x y:Int):Bool:=decide (x<y)
theorem ord_int:Ord ltI:=⟨fun x=>QZi (by exact O396 ),fun x y z h1 h2=>QZh (by have:=QZj h1; have:=QZj h2; omega),fun x y h1 h2=>by have:=of_decide_eq_false h1; have:=of_decide_eq_false h2; omega⟩
noncomputable def ZbX:List Int->List Int->Bool:=lexo ltI
noncomputable def ZbY:LI->LI->Bool:=lexo ZbX
theorem ord_lexI:Ord ZbX:=ord_int.lexo
theorem Zjg:Ord ZbY:=ord_lexI.lexo
theorem Zfs:∀ xs ys:List Int,_H.lexLt xs ys=ZbX xs ys
 | [],[]=>rfl
 | [],_::_=>rfl
 | _::_,[]=>rfl
 | x::xs,y::ys=>by
  unfold ZbX;rw [_H.lexLt,Jq,Zfs xs ys]
  rfl
theorem ZfA:∀ (F G:LI) (k i:Nat),F.length=G.length->F.length - i=k->i<=F.length->Ja (fun j=>decide (F.getD j []=G.getD j [])) (fun j=>ZbX (F.getD j []) (G.getD j [])) k i=ZbY (F.drop i) (G.drop i)
 | F,G,0,i,hl,hk,hi=>by
  rw [QCd (by exact O357 hl hk),QCd (by exact O356 hl hk)]
  rfl
 | F,G,k+1,i,hl,hk,hi=>by
  have h1:i<F.length:=by exact O355 hl hk hi
  have h2:i<G.length:=by exact Om.a2 ‹_› ‹_›
  have g1:F.getD i []=F[i]:=by rw [QAd,QAb h1]; rfl
  have g2:G.getD i []=G[i]:=by rw [QAd,QAb h2]; rfl
  rw [Ja,QBk h1,QBk h2];unfold ZbY;rw [Jq,g1,g2]
  by_cases e:F[i]=G[i]
  ·rw [if_pos (QZh e),if_pos e];exact ZfA F G k (i+1) hl (by exact O395 hl hk h1) h1
  ·rw [if_neg (by rw [QZg]; exact e),if_neg e]
theorem Zda {α:Type} {lt:α->α->Bool} (o:Ord lt) (v:Nat->α):∀ k,argBest (fun i j=>lt (v i) (v j)) k<=k/\∀ j,j<=k->lt (v j) (v (argBest (fun i j=>lt (v i) (v j)) k))=false
 | 0=>⟨QAc _,fun j hj=>by
   have:j=0:=by exact O389 hj
   subst this;exact o.irr _⟩
 | k+1=>by
  obtain ⟨h1,h2⟩:=Zda o v k;have e:argBest (fun i j=>lt (v i) (v j)) (k+1)=if lt (v (k+1)) (v (argBest (fun i j=>lt (v i) (v j)) k))=true then k+1 else argBest (fun i j=>lt (v i) (v j)) k:=rfl
  rw [e]
  cases hb:lt (v (k+1)) (v (argBest (fun i j=>lt (v i) (v j)) k)) with
  | true =>
   rw [if_pos rfl];refine ⟨QAc _,fun j hj=>?_⟩
   by_cases q:j=k+1
   ·subst q;exact o.irr _
   ·have h3:=h2 j (by exact Om.q1 ‹_› ‹_›)
    cases hj2:lt (v j) (v (k+1)) with
    | false=>rfl
    | true=>rw [o.tr _ _ _ hj2 hb] at h3; cases h3
  | false =>
   rw [if_neg QAn];refine ⟨by exact O348 h1,fun j hj=>?_⟩
   by_cases q:j=k+1
   ·subst q;exact hb
   ·exact h2 j (by exact Om.q1 ‹_› ‹_›)
noncomputable def sF (R:LI) (a b:Nat):Nat->Nat:=stp (R.getD a []) (R.getD b [])
noncomputable def rgs (n:Nat) (R:LI) (a b:Nat):List (List Nat):=Zz (sF R a b) n n
noncomputable def leN (x y:Nat):Bool:=decide (x<=y)
noncomputable def sl (n:Nat) (R:LI) (a b:Nat):List Int:=toI (((rgs n R a b).map List.length).mergeSort leN)
noncomputable def thg (R:LI) (a:Nat) (w:List Nat):List Int:=inv (w.map fun c=>ent R a c)
noncomputable def Zx (n:Nat) (R:LI) (a:Nat) (w:List Nat):LI:=[(List.range n).map fun r=>(thg R a w).getD (ent R r (w.getD 0 0)).toNat 0,inv (toI w),thg R a w]
structure Hop (n:Nat) (R:LI) (a b:Nat) (w:List Nat):Prop where
 ha:a<n
 hb:b<n
 hne:a≠b
 hw:w∈Zo n (rgs n R a b)
 hm:∀ c d,c<n->d<n->c≠d->ZbX (sl n R c d) (sl n R a b)=false
theorem JW:∀ {a b:List Nat},a.Perm b->a.Pairwise (· <= ·)->b.Pairwise (· <= ·)->a=b
 | [],b,p,_,_=>List.Perm.nil_eq p
 | x::a,[],p,_,_=>by have:=p.length_eq; cases this
 | x::a,y::b,p,ha,hb=>by
  have hxy:x=y:=by
   have h1:y∈x::a:=p.mem_iff.mpr QAj;have h2:x∈y::b:=p.mem_iff.mp QAj;have l1:x<=y:=by
    rcases QZn.mp h1 with z | z
    ·exact O30 z
    ·exact (List.pairwise_cons.mp ha).1 y z
   have l2:y<=x:=by
    rcases QZn.mp h2 with z | z
    ·exact O30 z
    ·exact (List.pairwise_cons.mp hb).1 x z
   omega
  subst hxy;rw [JW (List.Perm.cons_inv p) (List.pairwise_cons.mp ha).2 (List.pairwise_cons.mp hb).2]
theorem ZbD (l:List Nat):(l.mergeSort leN).Pairwise (· <= ·):=by
 have h:=List.pairwise_mergeSort (le:=leN) (fun a b c h1 h2=>QZh (QAr (QZj h1) (QZj h2))) (fun a b=>by unfold leN; rw [QDp,QZg,QZg]; exact Nat.le_total a b) l;exact h.imp fun z=>QZj z
section
variable {n:Nat} {R Rn:LI}
theorem YA (ok:OkRows n R) (hl:R.length=n) {a b:Nat} (ha:a<n) (hb:b<n):One n (sF R a b):=ZaS (ZF ok hl ha) (ZF ok hl hb)
theorem Zac (ok:OkRows n R) (hl:R.length=n) {a b x:Nat} (ha:a<n) (hb:b<n) (hx:x<n):ent R a (sF R a b x)=ent R b x:=Zek (ZF ok hl ha) (ZF ok hl hb) hx
theorem Zi2 (ok:OkRows n R) (hl:R.length=n) {a b x y:Nat} (ha:a<n) (hb:b<n) (hx:x<n) (hy:y<n) (e:ent R a y=ent R b x):sF R a b x=y :=
 (ZF ok hl ha).inj ((YA ok hl ha hb).lt x hx) hy ((Zac ok hl ha hb hx).trans e.symm)
noncomputable def rw_ (Rn:LI) (k x:Nat):Nat:=((Rn.getD k []).getD x 0).toNat
theorem YY (rn:Ren n Rn) {k x:Nat} (hk:k<3) (hx:x<n):rw_ Rn k x<n:=by
 obtain ⟨y,e,hy⟩:=(rn.at hk).val hx;unfold rw_;rw [e,QAf];exact hy
theorem Zcs (rn:Ren n Rn) {k x:Nat} (hk:k<3) (hx:x<n):(Rn.getD k []).getD x 0=((rw_ Rn k x:Nat):Int):=by
 obtain ⟨y,e,hy⟩:=(rn.at hk).val hx;unfold rw_;rw [e,QAf]
theorem Zi3 (rn:Ren n Rn) {k x:Nat} (hk:k<3) (hx:x<n):ixo (Rn.getD k []) (rw_ Rn k x)=x:=Y9 (rn.at hk) hx (YY rn hk hx) (Zcs rn hk hx)
theorem ZcS (rn:Ren n Rn) {k x:Nat} (hk:k<3) (hx:x<n):rw_ Rn k (ixo (Rn.getD k []) x)=x:=by
 unfold rw_ ixo;rw [(YK (rn.at hk) hx).2,QAf]
theorem Zcr (rn:Ren n Rn) {k x y:Nat} (hk:k<3) (hx:x<n) (hy:y<n) (e:rw_ Rn k x=rw_ Rn k y):x=y:=by rw [<- Zi3 rn hk hx,e,Zi3 rn hk hy]
theorem J0 (rn:Ren n Rn) (ok:OkRows n R) (hl:R.length=n) {a x:Nat} (ha:a<n) (hx:x<n):ent (ZY n R Rn) (rw_ Rn 0 a) (rw_ Rn 1 x)=((rw_ Rn 2 (ent R a x).toNat:Nat):Int):=Zie rn ok hl (Zkj ok hl ha hx)
noncomputable def thO (n:Nat) (Rn:LI) (x:Nat):Nat:=if x<n then rw_ Rn 1 x else x
noncomputable def thI (n:Nat) (Rn:LI) (x:Nat):Nat:=if x<n then ixo (Rn.getD 1 []) x else x
theorem ZfH (rn:Ren n Rn) (ok:OkRows n R) (hl:R.length=n) {a b:Nat} (ha:a<n) (hb:b<n):Conj n (sF R a b) (sF (ZY n R Rn) (rw_ Rn 0 a) (rw_ Rn 0 b)) (thO n Rn) (thI n Rn):=by
 have l1:∀ x,x<n->thO n Rn x<n:=fun x hx=>by unfold thO; rw [if_pos hx]; exact YY rn (by decide) hx
 have l2:∀ x,x<n->thI n Rn x<n:=fun x hx=>by unfold thI; rw [if_pos hx]; exact Z4 (rn.at (by decide)) hx
 obtain ⟨ok',hl'⟩:=YR ok hl rn;refine ⟨fun x=>?_,fun x=>?_,l1,l2,fun x hx=>?_,(YA ok hl ha hb).lt⟩
 ·by_cases hx:x<n
  ·unfold thI;rw [if_pos (l1 x hx)];unfold thO;rw [if_pos hx];exact Zi3 rn (by decide) hx
  ·unfold thI thO;rw [if_neg hx,if_neg hx]
 ·by_cases hx:x<n
  ·unfold thO;rw [if_pos (l2 x hx)];unfold thI;rw [if_pos hx];exact ZcS rn (by decide) hx
  ·unfold thI thO;rw [if_neg hx,if_neg hx]
 ·have hs:=(YA ok hl ha hb).lt x hx;refine Zi2 ok' hl' (YY rn (by decide) ha) (YY rn (by decide) hb) (l1 x hx) (l1 _ hs) ?_;unfold thO;rw [if_pos hx,if_pos hs,J0 rn ok hl ha hs,J0 rn ok hl hb hx,Zac ok hl ha hb hx]
theorem Zhp (rn:Ren n Rn) (ok:OkRows n R) (hl:R.length=n) {a b:Nat} (ha:a<n) (hb:b<n):sl n (ZY n R Rn) (rw_ Rn 0 a) (rw_ Rn 0 b)=sl n R a b:=by
 obtain ⟨ok',hl'⟩:=YR ok hl rn;obtain ⟨ls,p1,p2,pw⟩:=Ziy (ZfH rn ok hl ha hb) (Yt (YA ok hl ha hb)) (Yt (YA ok' hl' (YY rn (by decide) ha) (YY rn (by decide) hb)));have e1:=JW (p1.trans (List.mergeSort_perm _ leN).symm) pw (ZbD _);have e2:=JW (p2.trans (List.mergeSort_perm _ leN).symm) pw (ZbD _);unfold sl rgs;rw [<- e1,<- e2]
theorem Zdq (ok:OkRows n R) (hl:R.length=n) {a b:Nat} (ha:a<n) (hb:b<n) {w:List Nat} (hw:w∈Zo n (rgs n R a b)):w.Nodup/\∀ x,x∈w↔x<n:=by
 obtain ⟨ls,al⟩:=(YL (Yt (YA ok hl ha hb)) (YM _ _ _)).mp hw;have go:∀ {U:Nat->Prop} {w ls:List Nat},Alg (sF R a b) U w ls->w.Nodup/\∀ x,x∈w↔U x:=by
  intro U w ls al
  induction al with
  | nil h=>exact ⟨QBg,fun x=>⟨fun z=>(by cases z),fun z=>absurd z (h x)⟩⟩
  | @step U c w ls hc hU _ _ ih =>
   refine ⟨List.nodup_append.mpr ⟨hc.nd,ih.1,fun x hx y hy e=>?_⟩,fun x=>?_⟩
   ·subst e;exact ((ih.2 x).mp hy).2 hx
   ·rw [QCn,ih.2 x]
    by_cases q:x∈c
    ·exact ⟨fun _=>hU x q,fun _=>.inl q⟩
    ·exact ⟨fun z=>(z.resolve_left q).1,fun z=>.inr ⟨z,q⟩⟩
 exact go al
end
structure Cols (n:Nat) (w:List Nat):Prop where
 nd:w.Nodup
 all:∀ x,x∈w↔x<n
theorem Cols.len {n:Nat} {w:List Nat} (c:Cols n w):w.length=n:=by
 have p:w.Perm (List.range n):=(List.perm_ext_iff_of_nodup c.nd QCg).mpr fun x=>by rw [c.all x,QZe]
 rw [p.length_eq,QAq]
theorem Cols.turn {n:Nat} {w:List Nat} (c:Cols n w):Turn n (toI w):=by
 refine ⟨by unfold toI; rw [QAa]; exact c.len,?_,fun x hx=>?_⟩
 ·unfold toI;exact QZk.mpr (QZm.mpr ((QZk.mp c.nd).imp fun q e=>q (by exact Om.e1 ‹_›)))
 ·unfold toI at hx;obtain ⟨y,hy,rfl⟩:=QZd.mp hx;have:=(c.all y).mp hy;omega
section
variable {n:Nat} {R:LI} {w:List Nat} {a:Nat}
theorem Js (ok:OkRows n R) (hl:R.length=n) (c:Cols n w) (ha:a<n):Turn n (w.map fun x=>ent R a x):=by
 refine ⟨by rw [QAa]; exact c.len,?_,fun x hx=>?_⟩
 ·refine QZk.mpr (QZm.mpr (List.Pairwise.imp_of_mem ?_ (QZk.mp c.nd)));intro x y hx hy q e;exact q ((ZF ok hl ha).inj ((c.all x).mp hx) ((c.all y).mp hy) e)
 ·obtain ⟨y,hy,rfl⟩:=QZd.mp hx;exact ZaC ok hl ha ((c.all y).mp hy)
theorem Cols.zero (c:Cols n w) (h1:1<=n):w.getD 0 0<n:=by
 have hp:0<w.length:=by rw [c.len]; exact h1
 rw [gDN hp];exact (c.all _).mp (QAs _)
theorem ZQ (ok:OkRows n R) (hl:R.length=n) {i j:Nat} (hi:i<n) (hj:j<n):ent R i j=(((ent R i j).toNat:Nat):Int)/\(ent R i j).toNat<n:=by
 have:=ZaC ok hl hi hj;exact ⟨by exact O50 this,by exact O394 hj this⟩
theorem al0 (ok:OkRows n R) (hl:R.length=n) (c:Cols n w) (h1:1<=n) (ha:a<n) {r:Nat} (hr:r<n):((Zx n R a w).getD 0 []).getD r 0=(((w.map fun x=>ent R a x).idxOf (ent R r (w.getD 0 0)):Nat):Int):=by
 have t:=Js ok hl c ha;obtain ⟨e1,e2⟩:=ZQ ok hl hr (c.zero h1);show ((List.range n).map fun r=>(thg R a w).getD (ent R r (w.getD 0 0)).toNat 0).getD r 0=_;rw [QAd,QAe,QBi hr];show (thg R a w).getD (ent R r (w.getD 0 0)).toNat 0=_;unfold thg;rw [Jy t e2,<- e1]
theorem al1 (c:Cols n w) {x:Nat} (hx:x<n):((Zx n R a w).getD 1 []).getD x 0=(((toI w).idxOf (x:Int):Nat):Int):=Jy c.turn hx
theorem al2 (ok:OkRows n R) (hl:R.length=n) (c:Cols n w) (ha:a<n) {t:Nat} (ht:t<n):((Zx n R a w).getD 2 []).getD t 0=(((w.map fun x=>ent R a x).idxOf (t:Int):Nat):Int):=Jy (Js ok hl c ha) ht
theorem JT (ok:OkRows n R) (hl:R.length=n) (c:Cols n w) (h1:1<=n) (ha:a<n):Ren n (Zx n R a w):=by
 have t:=Js ok hl c ha;refine Ren.of3 (Turn.of (by rw [QAa,QAq]) (fun i hi=>?_) fun i j hi hj e=>?_) c.turn.inv t.inv
 ·have h:=al0 ok hl c h1 ha hi;obtain ⟨e1,e2⟩:=ZQ ok hl hi (c.zero h1);exact ⟨_,h,by rw [e1]; exact (YK t e2).1⟩
 ·have hi':=al0 ok hl c h1 ha hi;have hj':=al0 ok hl c h1 ha hj;obtain ⟨e1,e2⟩:=ZQ ok hl hi (c.zero h1);obtain ⟨e3,e4⟩:=ZQ ok hl hj (c.zero h1);have e5:((Zx n R a w).getD 0 []).getD i 0=((Zx n R a w).getD 0 []).getD j 0:=e;rw [hi',hj'] at e5;have k1:=(YK t e2).2;have k2:=(YK t e4).2;rw [<- e1] at k1;rw [<- e3] at k2;have:(w.map fun x=>ent R a x).idxOf (ent R i (w.getD 0 0))=(w.map fun x=>ent R a x).idxOf (ent R j (w.getD 0 0)):=by exact Om.e1 ‹_›
  rw [this,k2] at k1;exact J1 ok hl hi hj (c.zero h1) k1.symm
theorem YB (ok:OkRows n R) (hl:R.length=n) {b:Nat} (ha:a<n) (hb:b<n) (hw:w∈Zo n (rgs n R a b)):Cols n w:=⟨(Zdq ok hl ha hb hw).1,(Zdq ok hl ha hb hw).2⟩
theorem ZfQ (ok:OkRows n R) (hl:R.length=n) (c:Cols n w) (h1:1<=n) (ha:a<n) {j:Nat} (hj:j<n):ent (ZY n R (Zx n R a w)) 0 j=(j:Int)/\ent (ZY n R (Zx n R a w)) j 0=(j:Int):=by
 have rn:=JT ok hl c h1 ha;have t:=Js ok hl c ha;have hwl:w.length=n:=c.len;have wj:w.getD j 0<n:=by rw [gDN (by exact Om.a1 ‹_› ‹_›)]; exact (c.all _).mp (QAs _)
 have ixw:∀ k,k<n->(toI w).idxOf ((w.getD k 0:Nat):Int)=k:=fun k hk=>by
  refine Y9 c.turn hk (by rw [gDN (by exact Om.a1 ‹_› ‹_›)]; exact (c.all _).mp (QAs _)) ?_;unfold toI;rw [QAd,QAe,QAb (by exact Om.a1 ‹_› ‹_›),gDN (by exact Om.a1 ‹_› ‹_›)]
  rfl
 have ixt:∀ k,k<n->(w.map fun x=>ent R a x).idxOf (ent R a (w.getD k 0))=k:=fun k hk=>by
  have wk:w.getD k 0<n:=by rw [gDN (by exact Om.a1 ‹_› ‹_›)]; exact (c.all _).mp (QAs _)
  obtain ⟨e1,e2⟩:=ZQ ok hl ha wk;rw [e1];refine Y9 t hk e2 ?_;rw [<- e1,QAd,QAe,QAb (by exact Om.a1 ‹_› ‹_›),gDN (by exact Om.a1 ‹_› ‹_›)]
  rfl
 have cell:∀ r k,r<n->k<n->ent (ZY n R (Zx n R a w)) (rw_ (Zx n R a w) 0 r) (rw_ (Zx n R a w) 1 (w.getD k 0))=((rw_ (Zx n R a w) 2 (ent R r (w.getD k 0)).toNat:Nat):Int):=fun r k hr hk=>J0 rn ok hl hr (by rw [gDN (by exact Om.a1 ‹_› ‹_›)]; exact (c.all _).mp (QAs _))
 have c1:∀ k,k<n->rw_ (Zx n R a w) 1 (w.getD k 0)=k:=fun k hk=>by
  unfold rw_;rw [al1 c (by rw [gDN (by exact Om.a1 ‹_› ‹_›)]; exact (c.all _).mp (QAs _)),ixw k hk,QAf]
 have r0:∀ r,r<n->rw_ (Zx n R a w) 0 r=rw_ (Zx n R a w) 2 (ent R r (w.getD 0 0)).toNat:=fun r hr=>by
  obtain ⟨e1,e2⟩:=ZQ ok hl hr (c.zero h1);unfold rw_;rw [al0 ok hl c h1 ha hr,al2 ok hl c ha e2,<- e1]
 constructor
 ·have h:=cell a j ha hj;obtain ⟨e1,e2⟩:=ZQ ok hl ha (c.zero h1);obtain ⟨e3,e4⟩:=ZQ ok hl ha wj;have z0:rw_ (Zx n R a w) 0 a=0:=by
   unfold rw_;rw [al0 ok hl c h1 ha ha,ixt 0 (by exact Om.f5 ‹_›)]
   rfl
  have z2:rw_ (Zx n R a w) 2 (ent R a (w.getD j 0)).toNat=j:=by
   unfold rw_;rw [al2 ok hl c ha e4,<- e3,ixt j hj,QAf]
  rw [z0,c1 j hj,z2] at h;exact h
 ·have hr:=Z4 (rn.at (k:=0) (by decide)) hj;have h:=cell _ 0 hr (by exact Om.f5 ‹_›);rw [<- r0 _ hr,ZcS rn (by decide) hj,c1 0 (by exact Om.f5 ‹_›)] at h;exact h
end
section
variable {n:Nat} {R Rn:LI}
theorem ZiK {x:Nat} (hx:x<n):thO n Rn x=rw_ Rn 1 x:=by unfold thO; rw [if_pos hx]
theorem Hop.cols {a b:Nat} {w:List Nat} (h:Hop n R a b w) (ok:OkRows n R) (hl:R.length=n):Cols n w:=YB ok hl h.ha h.hb h.hw
theorem Zcx (ok:OkRows n R) (hl:R.length=n) (rn:Ren n Rn):ZY n (ZY n R Rn) (YN Rn)=R:=by
 obtain ⟨ok',hl'⟩:=YR ok hl rn;have h:=Zku (Zbf ok hl) rn;rw [Jf ok hl rn,Jf ok' hl' rn.und] at h;have inj:∀ {A B:LI},(A.map fun r=>r.map V.int)=(B.map fun r=>r.map V.int)->A=B:=by
  intro A
  induction A with
  | nil=>intro B e; cases B with
   | nil=>rfl
   | cons _ _=>cases e
  | cons x A ih=>intro B e; cases B with
   | nil=>cases e
   | cons y B =>
    rw [QAl,QAl,List.cons.injEq] at e;rw [ih e.2];have h2:∀ {p q:List Int},p.map V.int=q.map V.int->p=q:=by
     intro p
     induction p with
     | nil=>intro q e; cases q with
      | nil=>rfl
      | cons _ _=>cases e
     | cons u p ih=>intro q e; cases q with
      | nil=>cases e
      | cons v q =>
       rw [QAl,QAl,List.cons.injEq,V.int.injEq] at e;rw [e.1,ih e.2]
    rw [h2 e.1]
 exact inj h
end
theorem ZaG:∀ (f g:Nat) (C:List (List Nat)),C.length<=f->C.length<=g->Zo f C=Zo g C
 | f,g,[],_,_=>by cases f <;> cases g <;> rfl
 | 0,_,_::_,h,_=>by simp at h
 | _,0,_::_,_,h=>by simp at h
 | f+1,g+1,c::C,hf,hg=>by
  rw [Y1,Y1];have h:∀ i∈List.range (c::C).length,Zo f ((c::C).take i++(c::C).drop (i+1))=Zo g ((c::C).take i++(c::C).drop (i+1)):=fun i hi=>by
   have hi:=QZe.mp hi;have e:((c::C).take i++(c::C).drop (i+1)).length=C.length:=by
    rw [QAo,QAt,QBn]
    simp only [QAu] at hi ⊢;exact O393 hi
   simp only [QAu] at hf hg;exact ZaG f g _ (by exact O392 hf e) (by exact O392 hg e)
  rw [List.flatMap_def,List.flatMap_def]
  congr 1
  refine QBy fun i hi=>?_;rw [h i hi]
termination_by f=>f
def LL (H:Hp) (l:Addr) (C:List (List Nat)):Prop:=∃ ps:List Addr,H l=some (.lst (ps.map V.ref))/\Paired (fun p (r:List Nat)=>H p=some (.lst ((toI r).map V.int))) ps C
theorem LL.same {H H1:Hp} {l:Addr} {C:List (List Nat)} (g:LL H l C) (x:Same H H1):LL H1 l C :=
 let ⟨ps,h,r⟩:=g
 ⟨ps,x _ _ h,Paired.mapP r fun _ _ z=>x _ _ z⟩
theorem Yv (l:List Nat):(toI l).length=l.length:=QAa _
theorem ZjQ {C:List (List Nat)} {m:Nat} (h:m=C.length):(List.range m).filterMap (fun j=>some (V.int (((C.getD j []).length:Nat):Int)))=(toI (C.map List.length)).map V.int:=by
 subst h;rw [filterMap_some];unfold toI;rw [QAw,QAw];refine QDn fun j=>?_;rw [QAe,QAe]
 by_cases hj:j<C.length
 ·rw [QBi hj,QAb hj];show some (V.int (((C.getD j []).length:Nat):Int))=some (V.int ((C[j].length:Nat):Int));rw [gDL hj]
 ·rw [QCv (by rw [QAq]; exact O369 hj),QCv (by exact O369 hj)]
  rfl
theorem Zfu {l:List Nat} {ns:List Int} (p:ns.Perm (toI l)) (h:ns.Pairwise (· <= ·)):ns=toI (l.mergeSort leN):=by
 refine J9 (p.trans ?_) h ?_
 ·unfold toI;exact ((List.mergeSort_perm l leN).map _).symm
 ·unfold toI;rw [QZm];exact (ZbD l).imp fun z=>by exact O391 z
inductive Zde (vs:List V) (H:Hp) (Q:VK):Prop where
 | mk (l:Addr) (C:List (List Nat)) (_:vs=[.ref l]) (_:LL H l C) (_:C.length<=8) (_:∀ t H',H t=none->Same H H'->H' t=some (.lst ((toI ((C.map List.length).mergeSort leN)).map V.int))->Q (.ref t) H'):Zde vs H Q
def Zdy:Sp:=fun vs H Q _=>Zde vs H Q
section
variable {P:Program} {w:World} {K:QZa} {mg:Str->Option Value} {base:Heap}
theorem Zid:Zt ["circles"] ["circles"] (Zi ZaZ):=Fs
theorem ZgI {f:Addr} {fd:FuncData} (F:Fun K "lengths_of" "lengths_of" ZaZ f fd) (T:Blt mg):FnOk P w K mg base CX0 1 f fd ["circles"] Zdy:=by
 refine F.ok Zid (fun vs H Q E h=>?_) (fun cdv A outer s H vs Q E hr h=>?_)
 ·obtain ⟨_,_,rfl,_⟩:=h
  rfl
 ·obtain ⟨l,C,rfl,hL,h8,q⟩:=h
  refine' ⟨_,Zf (Zu (Zl (ZfL K) rfl T.sorted PyProof.Rows.boot_sorted (Za (Yq ["circle"] [none] rfl rfl (Z2 K (pv 0)) (fun _ _ _ _ _=>Yu 0) (fun _ _ _ _ _=>ZA) (fun _ _ _ _ _=>Zl (Zr K) rfl T.len PySem.boot_len (Za (pv 0) Zc))) Zc))),?rd⟩
  case rd =>
   obtain ⟨ps,hps,hP⟩:=hL;have hpl:(ps.map V.ref).length=C.length:=by rw [QAa,hP.length]
   refine ⟨_,rfl,l,rfl,⟨_,SqL.of hps⟩,fun lc hlc=>?_⟩;refine ZB (fun j=>some (V.int (((C.getD j []).length:Nat):Int))) (fun σ=>∃ v,σ=[v]) (Z1 (xs:=ps.map V.ref)) (by rw [hpl]; exact Zq (by exact Om.b1 ‹_› rfl)) hlc (fun H' sm=>SqL.of (sm _ _ hps)) ⟨none,rfl⟩ ?_ ?_
   ·rintro j y σ H' R' hy ⟨v,rfl⟩ sm kk;rw [QAe] at hy
    cases hpj:ps[j]? with
    | none=>rw [hpj] at hy; cases hy
    | some p =>
    rw [hpj] at hy
    cases hy;obtain ⟨c,hc,hp⟩:=Paired.getL hP hpj;have hcj:C.getD j []=c:=by rw [QAd,hc]; rfl
    have kk':=kk _ H' ⟨some (.ref p),rfl⟩ (Same.refl _);refine ⟨_,rfl,p,_,rfl,.inl (SqL.of (sm _ _ hp)),?_⟩;rw [QAa,Yv,<- hcj];exact kk'
   intro H2 s2 h2;rw [ZjQ hpl] at h2;refine ⟨lc,toI (C.map List.length),rfl,SqL.of h2,by rw [Yv,QAa]; exact O390 h8 hpl,fun t ns ht p pw=>?_⟩;rw [Zfu p pw];exact q t _ (s2.free ht) (s2.trans (Same.new ht)) Zb
end
end _M
namespace _L
open PySem PySem.Spec PyProof.Rows PySem.W SeqAt
theorem ZfO (v:Nat->Int):∀ k,argBest (fun i j=>decide (v i<v j)) k<=k/\∀ j,j<=k->v (argBest (fun i j=>decide (v i<v j)) k)<=v j
 | 0=>⟨QAc _,fun j hj=>by
   have:j=0:=by exact O389 hj
   subst this;exact QCq _⟩
 | k+1=>by
  obtain ⟨h1,h2⟩:=ZfO v k;have e:argBest (fun i j=>decide (v i<v j)) (k+1)=if decide (v (k+1)<v (argBest (fun i j=>decide (v i<v j)) k))=true then k+1 else argBest (fun i j=>decide (v i<v j)) k:=rfl
  rw [e]
  by_cases hb:v (k+1)<v (argBest (fun i j=>decide (v i<v j)) k)
  ·rw [if_pos (QZh hb)];refine ⟨QAc _,fun j hj=>?_⟩
   by_cases q:j=k+1
   ·subst q;exact QCq _
   ·have:=h2 j (by exact Om.q1 ‹_› ‹_›);omega
  ·rw [if_neg (by rw [QZg]; exact hb)];refine ⟨by exact O348 h1,fun j hj=>?_⟩
   by_cases q:j=k+1
   ·subst q;exact O388 hb
   ·exact h2 j (by exact Om.q1 ‹_› ‹_›)
def Znm (K:QZa):List V->Hp->VK->Prop:=fun xs H Q=>∃ (l:Addr) (ns:List Int),xs=[.ref l]/\SqL K H l (ns.map V.int)/\0<ns.length/\∀ m:Int,m∈ns->(∀ x∈ns,m<=x)->Q (.int m) H
theorem ZiC {X:Cx} (K:QZa) (hc:X.calm=true) (hK:X.K=K:=by rfl):Y0 X (.builtin "min") (Znm K):=by
 subst hK;intro pins s σ H xs us Q I r h;obtain ⟨l,ns,rfl,hl,hn,q⟩:=h;obtain ⟨u,rfl,ru⟩:=JB r
 cases ru;obtain ⟨its,rv,pl,_⟩:=I.list hl;have hlen:its.length=ns.length:=by rw [<- rv.length,QAa]
 have itv:∀ (i:Nat) (v:Value),its[i]? = some v->∃ t,v = .int (ns.getD i 0) t:=fun i v e=>by
  have hi:i<ns.length:=by rw [<- hlen]; exact (QZb.mp e).1
  obtain ⟨w,g,rw'⟩:=rv.get (show (ns.map V.int)[i]? = some (V.int ns[i]) by rw [QAe,QAb hi]; rfl);rw [e] at g
  cases g;obtain ⟨t,rfl⟩:=rw';exact ⟨t,by rw [QAd,QAb hi]; rfl⟩
 have ext:∀ {h':Heap} {tk:Nat},(∀ b o,s.heap.get? b=some o->h'.get? b=some o)->Inv X pins σ H { s with heap:=h',toks:=tk }:=fun k=>I.kept k
 refine ZhD (lt:=fun i j=>decide (ns.getD i 0<ns.getD j 0)) (I.ok.hd hc) pl.isList (by simp; exact Om.a1 ‹_› ‹_›) (fun i j u v h' tk Q E k hu1 hv1 z=>?_) (fun v h' tk hv k=>?_)
 ·obtain ⟨t1,rfl⟩:=itv i u (by simpa using hu1);obtain ⟨t2,rfl⟩:=itv j v (by simpa using hv1);exact PyProof.Rows.lt_int (a:=ns.getD i 0) (b:=ns.getD j 0) z
 ·obtain ⟨t,rfl⟩:=itv _ v (by rw [<- List.getElem?_toArray]; exact hv);obtain ⟨b1,b2⟩:=ZfO (fun i=>ns.getD i 0) (its.toArray.size - 1);have hsz:its.toArray.size=ns.length:=by simp; exact hlen
  refine ⟨.int _,H,ext k,⟨t,rfl⟩,q _ ?_ fun x hx=>?_⟩
  ·have hb:argBest (fun i j=>decide (ns.getD i 0<ns.getD j 0)) (its.toArray.size - 1)<ns.length:=by exact O387 hn hlen b1 hsz
   rw [QAd,QAb hb];exact QAs _
  ·obtain ⟨j,hj,rfl⟩:=QBd hx;have:=b2 j (by exact O386 hn hlen hsz hj);have e:ns.getD j 0=ns[j]:=by rw [QAd,QAb hj]; rfl
   rw [<- e];exact this
end _L
namespace _M
open PySem _L
theorem Ze0 {X:Cx} (K:QZa) (h:X.K=K:=by rfl):SlR X (Znk K):=by subst h; exact ZaT
noncomputable def bnd:Nat->Nat
 | 0=>1
 | k+1=>(k+1)*(6*bnd k)
theorem Ys {α β:Type} {g:α->List β} {m:Nat}:∀ (l:List α),(∀ x∈l,(g x).length<=m)->(l.flatMap g).length<=l.length*m
 | [],_=>by simp
 | x::l,h=>by
  rw [QDo,QAo,QAu,QCs];have:=Ys l fun y hy=>h y (QAp _ hy)
  have:=h x QAj;omega
theorem Zam:∀ (f:Nat) (C:List (List Nat)),C.length=f->(∀ c∈C,c.length<=6)->(Zo f C).length<=bnd f
 | 0,[],_,_=>by simp [Zo,bnd]
 | 0,_::_,h,_=>by simp at h
 | f+1,[],h,_=>by simp at h
 | f+1,c::C,hf,h6=>by
  rw [Y1];have hm:mnl (c::C)<=6:=by
   obtain ⟨⟨d,hd,e⟩,_⟩:=Zaz c C;rw [<- e];exact h6 d hd
  have h:=Ys (m:=6*bnd f) (g:=fun i=>if ((c::C).getD i []).length=mnl (c::C) then (List.range (mnl (c::C))).flatMap fun st=>(Zo f ((c::C).take i++(c::C).drop (i+1))).map fun w=>rot ((c::C).getD i []) st++w else []) (List.range (c::C).length) fun i hi=>by
   have hi:=QZe.mp hi;show (if ((c::C).getD i []).length=mnl (c::C) then (List.range (mnl (c::C))).flatMap fun st=>(Zo f ((c::C).take i++(c::C).drop (i+1))).map fun w=>rot ((c::C).getD i []) st++w else []).length<=_
   split
   ·have e:((c::C).take i++(c::C).drop (i+1)).length=f:=by
     rw [QAo,QAt,QBn]
     simp only [QAu] at hi hf ⊢;exact O385 hf hi
    have ih:=Zam f _ e fun d hd=>by
     rw [<- QCz] at hd;exact h6 d ((YC hi).mpr (.inr hd))
    have:=Ys (m:=bnd f) (g:=fun st=>(Zo f ((c::C).take i++(c::C).drop (i+1))).map fun w=>rot ((c::C).getD i []) st++w) (List.range (mnl (c::C))) fun st _=>by rw [QAa]; exact ih
    rw [QAq] at this;exact QAr this (QBv hm (QAc _))
   ·exact QAg _
  rw [QAq] at h;rw [hf] at h ⊢;exact h
theorem Zj7:∀ k,k<=3->bnd k<=1296:=by decide
theorem Jb {n:Nat} (h:n<=1000000):n<sizeLine:=QEc h (by decide)
theorem ZkS {C:List (List Nat)} (h:0<C.length):ZgQ C (mnl C):=by
 cases C with
 | nil=>cases h
 | cons c C=>exact Zaz c C
noncomputable def Zer (f:Nat) (C:List (List Nat)) (i:Nat):List (List Nat):=if (C.getD i []).length=mnl C then (List.range (mnl C)).flatMap fun st=>(Zo f (C.take i++C.drop (i+1))).map fun w=>rot (C.getD i []) st++w else []
noncomputable def stW (W:List (List Nat)) (c:List Nat) (st:Nat):List (List Nat):=W.map fun w=>rot c st++w
theorem Zgp {C:List (List Nat)} (h:0<C.length):Zo C.length C=(List.range C.length).flatMap (Zer (C.length - 1) C):=by
 cases C with
 | nil=>cases h
 | cons c C=>exact Y1 C.length c C
theorem Zcf:∀ (f:Nat) (C:List (List Nat)),(∀ c∈C,c.length<=6)->∀ w∈Zo f C,w.length<=6*f
 | f,[],_,w,h=>by
  have e:Zo f []=[[]]:=by cases f <;> rfl
  rw [e,QCy] at h;rw [h];exact QAg _
 | 0,_::_,_,w,h=>by simp [Zo] at h
 | f+1,c::C,h6,w,h=>by
  obtain ⟨i,hi,st,w',_,_,hw',rfl⟩:=mem_walks.mp h;have:=Zcf f _ (fun d hd=>h6 d ((YC hi).mpr (.inr hd))) w' hw';have:=h6 _ (QAs hi);rw [QAo,YQ];omega
inductive ZfS (k:Nat) (vs:List V) (H:Hp) (Q:VK):Prop where
 | mk (l:Addr) (C:List (List Nat)) (_:vs=[.ref l]) (_:LL H l C) (_:C.length+1<=k) (_:C.length<=3) (_:(∀ c∈C,0<c.length/\c.length<=6)) (_:∀ t H',H t=none->Same H H'->LLn H H' t (Zo C.length C)->Q (.ref t) H'):ZfS k vs H Q
def Zel (k:Nat):Sp:=fun vs H Q _=>ZfS k vs H Q
theorem ZiL {c:List Nat} (k:Nat):((toI c).map V.int).take k=(toI (c.take k)).map V.int:=by
 unfold toI;rw [List.map_take,List.map_take]
theorem ZjX {c:List Nat} (k:Nat):((toI c).map V.int).drop k=(toI (c.drop k)).map V.int:=by
 unfold toI;rw [List.map_drop,List.map_drop]
theorem Paired.take5 {α β:Type} {F:α->β->Prop}:∀ {l₁:List α} {l₂:List β} (k:Nat),Paired F l₁ l₂->Paired F (l₁.take k) (l₂.take k)
 | _,_,0,_=>.nil
 | _,_,_+1,.nil=>.nil
 | _,_,k+1,.cons r t=>.cons r (Paired.take5 k t)
theorem Paired.drop5 {α β:Type} {F:α->β->Prop}:∀ {l₁:List α} {l₂:List β} (k:Nat),Paired F l₁ l₂->Paired F (l₁.drop k) (l₂.drop k)
 | _,_,0,r=>r
 | _,_,_+1,.nil=>.nil
 | _,_,k+1,.cons _ t=>Paired.drop5 k t
theorem Zg6:bootBuiltins "min" = some (Value.builtin "min"):=by decide +kernel
section
variable {P:Program} {w:World} {K:QZa} {mg:Str->Option Value} {base:Heap}
theorem scWalks:Zt ["circles","shortest","found","place","circle","onward","start"] ["circles"] (Zi Zen):=Fs
inductive Zf4 (H:Hp) (l:Addr) (C:List (List Nat)) (lf:Addr) (i:Nat) (σ:St) (H3:Hp):Prop where
 | mk (v3 v4 v5 v6:Option V) (zs:List Addr) (_:σ=[some (.ref l),some (.int ((mnl C:Nat):Int)),some (.ref lf),v3,v4,v5,v6]) (_:Same H H3) (_:H3 lf=some (.lst (zs.map V.ref))) (_:Paired (fun p (r:List Nat)=>H3 p=some (.lst ((toI r).map V.int))/\p≠lf/\H p=none) zs ((List.range i).flatMap (Zer (C.length - 1) C))):Zf4 H l C lf i σ H3
inductive Zf3 (H:Hp) (l:Addr) (C:List (List Nat)) (lf:Addr) (i:Nat) (zs:List Addr) (p:Addr) (c:List Nat) (lo:Addr) (HO:Hp) (W:List (List Nat)) (st:Nat) (σ:St) (H6:Hp):Prop where
 | mk (v6:Option V) (us:List Addr) (_:σ=[some (.ref l),some (.int ((mnl C:Nat):Int)),some (.ref lf),some (.int (i:Int)),some (.ref p),some (.ref lo),v6]) (_:Same H H6) (_:(∀ b o,b≠lf->HO b=some o->H6 b=some o)) (_:H6 lf=some (.lst ((zs++us).map V.ref))) (_:Paired (fun p (r:List Nat)=>H6 p=some (.lst ((toI r).map V.int))/\p≠lf/\H p=none) us ((List.range st).flatMap (stW W c))):Zf3 H l C lf i zs p c lo HO W st σ H6
inductive Zf2 (H:Hp) (lf:Addr) (p:Addr) (c:List Nat) (W:List (List Nat)) (st:Nat) (H6:Hp) (lc2:Addr) (j:Nat) (ys:List V) (σ:St) (H7:Hp):Prop where
 | mk (v0:Option V) (ts:List Addr) (_:σ=[v0,some (.ref p),some (.int (st:Int))]) (_:ys=ts.map V.ref) (_:Same H6 H7) (_:H7 lc2=some (.lst ys)) (_:Paired (fun p (r:List Nat)=>H7 p=some (.lst ((toI r).map V.int))/\p≠lf/\p≠lc2/\H p=none) ts ((stW W c st).take j)):Zf2 H lf p c W st H6 lc2 j ys σ H7
set_option maxHeartbeats 1000000 in
theorem Zfd {f:Addr} {fd:FuncData} (D:Dfn K mg "walks" Zen ["circles"] f fd) (T:Blt mg):∀ k:Nat,FnOk P w K mg base CX0 k f fd ["circles"] (Zel k)
 | 0=>⟨fun vs H Q E h=>by obtain ⟨_,_,rfl,_⟩:=h; rfl,fun A outer s H args us vs Q E _ _ _ _ h=>by obtain ⟨_,_,rfl,_,z,_⟩:=h; exact absurd z (Nat.not_succ_le_zero _)⟩
 | k+1=>by
  have GW:FnOk P w K mg base CX0 k f fd ["circles"] (Zel k):=Zfd D T k;refine D.F.ok scWalks (fun vs H Q E h=>?_) (fun cdv A outer s H vs Q E hr h=>?_)
  ·obtain ⟨_,_,rfl,_⟩:=h
   rfl
  ·obtain ⟨l,C,rfl,hL,hk,h3,h6,q⟩:=h
   refine' ⟨_,Zd (YT (Zmg (Zi8 (pv 0) (fun _=>rfl))) (Zf (Zu (Z0 (Za (Z0 Zc) Zc)))) Z8) (Zd ?s1 (Zd (Zj (i:=2) scWalks.nd rfl (Or.inl rfl) (Z0 Zc)) (Zd (Ye PassesOwn.never rfl (Zjc K rfl T.enum (Za (pv 0) Zc)) (ZgC rfl (ZX (ZC (i:=3) scWalks.nd rfl (Or.inl rfl)) (ZX (ZC (i:=4) scWalks.nd rfl (Or.inr rfl)) JD))) (Zf (YT ?c (Zd ?d0 (Zf (Ye PassesOwn.never rfl (Zn rfl T.range (Za (pv 1) Zc)) (ZC (i:=6) scWalks.nd rfl (Or.inr rfl)) (Zf ?e)))) Z8))) (Zf (Zu (pv 2)))))),?rd⟩
   case s1=>exact Zj (i:=1) scWalks.nd rfl (Or.inl rfl) (Zl (ZiC K rfl) rfl T.min Zg6 (Za (Yq ["circle"] [none] rfl rfl (Z2 K (pv 0)) (fun _ _ _ _ _=>Yu 0) (fun _ _ _ _ _=>ZA) (fun _ _ _ _ _=>Zl (Zr K) rfl T.len PySem.boot_len (Za (pv 0) Zc))) Zc))
   case c=>exact ZJ JO (Zl (Zr K) rfl T.len PySem.boot_len (Za (pv 4) Zc)) (pv 1) (Z7 _)
   case d0=>exact Zj (i:=5) scWalks.nd rfl (Or.inl rfl) (Zm GW hr rfl D.m D.F.kp D.b .nil ZK (Za (Zk ZcF (JN ZaT (pv 0) Zav (Zau (pv 3))) (JN ZaT (pv 0) (Zau (Zk Yj (pv 3) Zh)) Zav)) Zc))
   case e=>exact Yx (Jg PySem.F.plainAttrs_list PySem.F.slot_list_extend PySem.F.type_list_extend JP (pv 2) (Za (Yq ["walk","circle","start"] [none,some 4,some 6] rfl rfl (Z2 K (pv 5)) (fun _ _ _ _ _=>Yu 0) (fun _ _ _ _ _=>ZA) (fun _ _ _ _ _=>Zk ZcF (Zk ZcF (JN (Ze0 K) (pv 1) (Zau (pv 2)) Zav) (JN (Ze0 K) (pv 1) Zav (Zau (pv 2)))) (pv 0))) Zc))
   case rd =>
    obtain ⟨ps,hps,hP⟩:=hL;have hpl:(ps.map V.ref).length=C.length:=by rw [QAa,hP.length]
    refine ⟨_,rfl,_,.inl ⟨_,SqL.of hps,rfl⟩,?_⟩
    by_cases hC:C=[]
    ·subst hC;have hp0:ps=[]:=by
      cases ps with
      | nil=>rfl
      | cons _ _=>cases hP
     subst hp0;refine Zbd ⟨QAg _,fun l0 hl0=>⟨(show 1<=sizeLine from Zq (by decide)),fun l1 hl1=>?_⟩⟩;exact q l1 _ ((Same.new hl0).free hl1) ((Same.new hl0).trans (Same.new hl1)) ⟨[l0],Zb,.cons ⟨(Same.new hl1) _ _ Zb,(fun e=>by rw [<- e,Zb] at hl1; cases hl1),hl0⟩ .nil⟩
    have hpos:0<C.length:=List.length_pos_iff.mpr hC;have hne:(ps.map V.ref).isEmpty=false:=by
     cases ps with
     | nil=>simp at hpl; exact (O384 h3 hpos hpl).elim
     | cons _ _=>rfl
    rw [hne];refine Zai ?_;obtain ⟨⟨dm,hdm,edm⟩,lem⟩:ZgQ C (mnl C):=ZkS hpos;refine ⟨_,rfl,l,rfl,⟨_,SqL.of hps⟩,fun lc hlc=>?_⟩;refine ZB (fun j=>some (V.int (((C.getD j []).length:Nat):Int))) (fun σ=>∃ v,σ=[v]) (Z1 (xs:=ps.map V.ref)) (by rw [hpl]; exact Zq (by exact Om.b1 ‹_› rfl)) hlc (fun H' sm=>SqL.of (sm _ _ hps)) ⟨none,rfl⟩ ?_ ?_
    ·rintro j y σ H' R' hy ⟨v,rfl⟩ sm kk;rw [QAe] at hy
     cases hpj:ps[j]? with
     | none=>rw [hpj] at hy; cases hy
     | some p =>
     rw [hpj] at hy
     cases hy;obtain ⟨c,hc,hp⟩:=Paired.getL hP hpj;have hcj:C.getD j []=c:=by rw [QAd,hc]; rfl
     have kk':=kk _ H' ⟨some (.ref p),rfl⟩ (Same.refl _);refine ⟨_,rfl,p,_,rfl,.inl (SqL.of (sm _ _ hp)),?_⟩;rw [QAa,Yv,<- hcj];exact kk'
    intro H2 s2 h2;rw [ZjQ hpl] at h2;refine ⟨lc,toI (C.map List.length),rfl,SqL.of h2,by rw [Yv,QAa]; exact hpos,fun m hm hle=>?_⟩;have em:m=((mnl C:Nat):Int):=by
     unfold toI at hm hle;obtain ⟨x,hx,rfl⟩:=QZd.mp hm;obtain ⟨c,hc,rfl⟩:=QZd.mp hx;have h1:=lem c hc;have h2:=hle _ (QZd.mpr ⟨dm.length,QZd.mpr ⟨dm,hdm,rfl⟩,rfl⟩);omega
    subst em;have hm6:mnl C<=6:=by rw [<- edm]; exact (h6 dm hdm).2
    refine ⟨QAg _,fun lf hlf=>?_⟩;have hlf0:H lf=none:=s2.free hlf;have s3:Same H (upd H2 lf (.lst [])):=s2.trans (Same.new hlf);refine ⟨_,rfl,l,_,rfl,SqL.of (s3 _ _ hps),?_⟩;refine Zk9 (n:=C.length) (Y:=fun i H v H'=>∃ q x,v = .ref q/\H q=none/\(ps.map V.ref)[i]? = some x/\H'=upd H q (.tup [.int (i:Int),x])) (P:=fun H'=>SqL K H' l (ps.map V.ref))
     (fun i H' h hi=>⟨_,(ps.map V.ref)[i]'(by exact Om.a1 ‹_› ‹_›),h,QAb _⟩)
     (fun i H' v H'' h zz0 _=> by obtain ⟨q,x,e1,e2,e3,e4⟩ := zz0; exact ⟨q,x,e1,e2,e3 _ h,e4⟩) (fun i H' h hi=>⟨_,h,by exact Om.l4 ‹_› ‹_›⟩)
     (Zf4 H l C lf)
     ⟨none,none,none,none,[],rfl,s3,Zb,.nil⟩ (fun j σ H3 zz0=> by obtain ⟨_,_,_,_,_,_,s4,_,_⟩ := zz0; exact SqL.of (s4 _ _ hps)) ?_ ?_
    ·rintro i x σ H3 H4 hi ⟨v3,v4,v5,v6,zs,rfl,s4,hf4,hZ⟩ ⟨z,y,rfl,hz,hy,rfl⟩;rw [QAe] at hy
     cases hpi:ps[i]? with
     | none=>rw [hpi] at hy; cases hy
     | some p =>
     rw [hpi] at hy
     cases hy;obtain ⟨c,hci,hp⟩:=Paired.getL hP hpi;have hcg:C.getD i []=c:=by rw [QAd,hci]; rfl
     have hcm:c∈C:=QAx hci;have s5:Same H3 (upd H3 z (.tup [.int (i:Int),.ref p])):=Same.new hz;refine ⟨z,_,rfl,SqT.of Zb,rfl,_,_,rfl,_,_,rfl,rfl,?_⟩;generalize upd H3 z (.tup [.int (i:Int),.ref p])=H4 at s5 ⊢;have s45:=s4.trans s5;have hf5:=s5 _ _ hf4;have hZ5:Paired (fun p (r:List Nat)=>H4 p=some (.lst ((toI r).map V.int))/\p≠lf/\H p=none) zs ((List.range i).flatMap (Zer (C.length - 1) C)):=Paired.mapP hZ fun _ _ e=>⟨s5 _ _ e.1,e.2⟩
     have hp4:=s45 _ _ hp;refine ⟨_,rfl,p,_,rfl,.inl (SqL.of hp4),_,rfl,rfl,_,rfl,?_⟩;rw [QAa,Yv]
     by_cases hcl:c.length=mnl C
     rotate_left
     ·rw [show decide (V.int ((c.length:Nat):Int)=V.int ((mnl C:Nat):Int))=false from QZi fun e=>hcl (by rw [V.int.injEq] at e; exact Om.e1 ‹_›)];refine Zai ⟨_,_,_,_,zs,rfl,s45,hf5,?_⟩;have er:Zer (C.length - 1) C i=[]:=by unfold Zer; rw [hcg,if_neg hcl]
      rw [QDi,QEh,QDo,List.flatMap_nil,er,QBq,QBq];exact hZ5
     rw [show decide (V.int ((c.length:Nat):Int)=V.int ((mnl C:Nat):Int))=true from QZh (by rw [hcl])];refine Zbd ?_;have hpsl:ps.length=C.length:=by rw [QAa] at hpl; exact hpl
     refine ⟨_,rfl,_,rfl,_,rfl,l,_,rfl,SqL.of (s45 _ _ hps),fun l1 hl1=>?_⟩;rw [Zg0 _ (by rw [hpl]; exact Om.d1 ‹_›)];have t1:Same H4 (upd H4 l1 (.lst ((ps.map V.ref).take i))):=Same.new hl1;refine ⟨_,rfl,_,rfl,_,_,rfl,rfl,_,rfl,l,_,rfl,SqL.of (t1 _ _ (s45 _ _ hps)),fun l2 hl2=>?_⟩;rw [show ((i:Int)+1)=((i+1:Nat):Int) from rfl,Zc1 _ (by rw [hpl]; exact Om.f1 ‹_›)];have t2:Same (upd H4 l1 (.lst ((ps.map V.ref).take i))) (upd (upd H4 l1 (.lst ((ps.map V.ref).take i))) l2 (.lst ((ps.map V.ref).drop (i+1)))):=Same.new hl2;refine ⟨l1,l2,_,_,rfl,rfl,t2 _ _ Zb,Zb,?_,fun l3 hl3=>?_⟩
     ·rw [QAt,QBn,hpl];exact Zq (by exact O383 h3 hpl hpos hi hpsl)
     have t3:=(t1.trans t2).trans (Same.new (o:=.lst ((ps.map V.ref).take i++(ps.map V.ref).drop (i+1))) hl3);have hl3':(upd (upd (upd H4 l1 (.lst ((ps.map V.ref).take i))) l2 (.lst ((ps.map V.ref).drop (i+1)))) l3 (.lst ((ps.map V.ref).take i++(ps.map V.ref).drop (i+1)))) l3=some (.lst ((ps.take i++ps.drop (i+1)).map V.ref)):=by rw [Zb,QAm,List.map_take,List.map_drop]
     generalize upd (upd (upd H4 l1 (.lst ((ps.map V.ref).take i))) l2 (.lst ((ps.map V.ref).drop (i+1)))) l3 (.lst ((ps.map V.ref).take i++(ps.map V.ref).drop (i+1)))=H5 at t3 hl3' ⊢;have hCl:(C.take i++C.drop (i+1)).length=C.length - 1:=by
      rw [QAo,QAt,QBn];exact O382 h3 hpl hpos hi hpsl
     have hCm:∀ d∈C.take i++C.drop (i+1),d∈C:=fun d hd=>by
      rw [<- QCz] at hd;exact (YC hi).mpr (.inr hd)
     have sH5:=s45.trans t3;refine ⟨l3,C.take i++C.drop (i+1),rfl,⟨_,hl3',Paired.append (Paired.mapP (Paired.take5 i hP) fun _ _ e=>sH5 _ _ e) (Paired.mapP (Paired.drop5 (i+1) hP) fun _ _ e=>sH5 _ _ e)⟩,by exact O381 hk h3 hpl hpos hpsl hCl,by exact O380 h3 hpl hpos hpsl hCl,fun d hd=>h6 d (hCm d hd),fun lo HO hlo sO hLO=>?_⟩;rw [hCl] at hLO;obtain ⟨os,hos,hO⟩:=hLO;have hO:Paired (fun p (r:List Nat)=>HO p=some (.lst ((toI r).map V.int))/\p≠lo/\H5 p=none) os (Zo (C.length - 1) (C.take i++C.drop (i+1))):=hO;have t3O:=t3.trans sO;have sHO:=s45.trans t3O;have hfO:=t3O _ _ hf5;have hpO:=t3O _ _ hp4;have hZO:Paired (fun p (r:List Nat)=>HO p=some (.lst ((toI r).map V.int))/\p≠lf/\H p=none) zs ((List.range i).flatMap (Zer (C.length - 1) C)):=Paired.mapP hZ5 fun _ _ e=>⟨t3O _ _ e.1,e.2⟩
     have hlolf:lo≠lf:=fun e=>by rw [e] at hlo; rw [t3 _ _ hf5] at hlo; cases hlo
     have hplf:p≠lf:=fun e=>by rw [e,hlf0] at hp; cases hp
     have wfew:=Zam (C.length - 1) (C.take i++C.drop (i+1)) hCl fun d hd=>(h6 d (hCm d hd)).2
     have hb1:=Zj7 (C.length - 1) (by exact O379 h3 hpl hpos hpsl);generalize hW:Zo (C.length - 1) (C.take i++C.drop (i+1))=W at hO wfew;have hosl:os.length=W.length:=hO.length;have erow:Zer (C.length - 1) C i=(List.range (mnl C)).flatMap (stW W c):=by
      unfold Zer stW;rw [hcg,if_pos hcl,hW]
     have hzfew:zs.length<=3*(6*1296):=by
      rw [hZ.length];refine QAr (Ys (m:=6*1296) (List.range i) fun j hj=>?_) (by rw [QAq]; exact QBv (by exact Om.b2 ‹_› ‹_› rfl) (QAc _));have hj:=QZe.mp hj;unfold Zer
      split
      ·have hj2:j<C.length:=by exact O378 hpl hi hpsl hj
       have e:(C.take j++C.drop (j+1)).length=C.length - 1:=by
        rw [QAo,QAt,QBn];exact O377 h3 hpl hpos hpsl hj2
       have:=Zam (C.length - 1) (C.take j++C.drop (j+1)) e fun d hd=>by
        rw [<- QCz] at hd;exact (h6 d ((YC hj2).mpr (.inr hd))).2
       have h2:=Ys (m:=1296) (g:=fun st=>(Zo (C.length - 1) (C.take j++C.drop (j+1))).map fun w=>rot (C.getD j []) st++w) (List.range (mnl C)) fun st _=>by rw [QAa]; exact Om.b3 ‹_› ‹_› rfl
       rw [QAq] at h2;exact QAr h2 (QBv hm6 (QAc _))
      ·exact QAg _
     refine ⟨_,rfl,((mnl C:Nat):Int),rfl,by exact Om.c2,by exact Om.c1 ‹_› rfl,?_⟩;rw [QAf];refine ZT (lo:=0) (n:=mnl C) (Zf3 H l C lf i zs p c lo HO W)
      ⟨_,[],rfl,sHO,fun b o _ e=>e,by rw [QBq]; exact hfO,.nil⟩ ?_ ?_
     ·rintro st σ H6 hst ⟨v6',us,rfl,s6,kp6,hf6,hU⟩;rw [QBp];have hos6:=kp6 _ _ hlolf hos;have hp6:=kp6 _ _ hplf hpO;refine ⟨_,rfl,.inl ⟨rfl,_,SqL.of hf6⟩,_,rfl,lo,rfl,⟨_,SqL.of hos6⟩,fun lc2 hlc2=>?_⟩;have hlc2f:lc2≠lf:=fun e=>by rw [e,hf6] at hlc2; cases hlc2
      refine Z5 (Z1 (xs:=os.map V.ref)) (Zf2 H lf p c W st H6 lc2)
       ⟨none,[],rfl,rfl,Same.new hlc2,Zb,.nil⟩ (fun j ys σ H7 zz0=> by obtain ⟨_,_,_,_,s7,hl,_⟩ := zz0; exact ⟨SqL.of (s7 _ _ hos6),hl⟩) ?_ ?_
      ·rintro j y ys σ H7 hj ⟨v0,ts,rfl,rfl,s7,hl7,hT7⟩;rw [QAe] at hj
       cases hpj:os[j]? with
       | none=>rw [hpj] at hj; cases hj
       | some ow =>
       rw [hpj] at hj
       cases hj;obtain ⟨wj,hwj,how⟩:=Paired.getL hO hpj;have hjW:j<W.length:=(QZb.mp hwj).1;have howlf:ow≠lf:=fun e=>by
        have:=how.2.2;rw [e,t3 _ _ hf5] at this
        cases this
       have how7:=s7 _ _ (kp6 _ _ howlf how.1);have hp7:=s7 _ _ hp6;have hcl6:=(h6 c hcm).2;have hstc:st<c.length:=by exact Om.a1 ‹_› ‹_›
       have hwl:=Zcf (C.length - 1) (C.take i++C.drop (i+1)) (fun d hd=>(h6 d (hCm d hd)).2) wj (by rw [hW]; exact QAx hwj);refine ⟨_,rfl,_,rfl,_,rfl,p,_,rfl,SqL.of hp7,fun a1 ha1=>?_⟩;rw [Zc1 _ (by rw [QAa,Yv]; exact Om.d1 ‹_›),ZjX];have u1:Same H7 (upd H7 a1 (.lst ((toI (c.drop st)).map V.int))):=Same.new ha1;refine ⟨_,rfl,_,rfl,_,rfl,p,_,rfl,SqL.of (u1 _ _ hp7),fun a2 ha2=>?_⟩;rw [Zg0 _ (by rw [QAa,Yv]; exact Om.d1 ‹_›),ZiL];have u2:Same (upd H7 a1 (.lst ((toI (c.drop st)).map V.int))) (upd (upd H7 a1 (.lst ((toI (c.drop st)).map V.int))) a2 (.lst ((toI (c.take st)).map V.int))):=Same.new ha2;refine ⟨a1,a2,_,_,rfl,rfl,u2 _ _ Zb,Zb,?_,fun a3 ha3=>?_⟩
       ·rw [QAa,QAa,Yv,Yv,QBn,QAt];exact Zq (by exact O376 edm hm6 hcl hst)
       have u3:=(u1.trans u2).trans (Same.new (o:=.lst ((toI (c.drop st)).map V.int++(toI (c.take st)).map V.int)) ha3);have g3:(upd (upd (upd H7 a1 (.lst ((toI (c.drop st)).map V.int))) a2 (.lst ((toI (c.take st)).map V.int))) a3 (.lst ((toI (c.drop st)).map V.int++(toI (c.take st)).map V.int))) a3=some (.lst ((toI (rot c st)).map V.int)):=by
        rw [Zb];unfold rot;rw [ZaH,QAm]
       generalize upd (upd (upd H7 a1 (.lst ((toI (c.drop st)).map V.int))) a2 (.lst ((toI (c.take st)).map V.int))) a3 (.lst ((toI (c.drop st)).map V.int++(toI (c.take st)).map V.int))=H8 at u3 g3 ⊢;refine ⟨_,rfl,a3,ow,_,_,rfl,rfl,g3,u3 _ _ how7,?_,fun a4 ha4=>?_⟩
       ·rw [QAa,QAa,Yv,Yv,YQ];exact Zq (by exact O375 h3 hpl hpos edm hm6 hcl hpsl hwl)
       have u4:Same H8 (upd H8 a4 (.lst ((toI (rot c st)).map V.int++(toI wj).map V.int))):=Same.new ha4;have g4:(upd H8 a4 (.lst ((toI (rot c st)).map V.int++(toI wj).map V.int))) a4=some (.lst ((toI (rot c st++wj)).map V.int)):=by rw [Zb,ZaH,QAm]
       generalize upd H8 a4 (.lst ((toI (rot c st)).map V.int++(toI wj).map V.int))=H9 at u4 g4 ⊢;have u34:=u3.trans u4;have hl9:=u34 _ _ hl7;have ha4l:a4≠lc2:=fun e=>by rw [e,u3 _ _ hl7] at ha4; cases ha4
       have ha4f:a4≠lf:=fun e=>by rw [e,u3 _ _ (s7 _ _ hf6)] at ha4; cases ha4
       have ha40:H a4=none:=(s6.trans (s7.trans u3)).free ha4;have htl:ts.length=j:=by
        rw [hT7.length,QAt];unfold stW;rw [QAa];exact Om.m1 ‹_›
       have et:(stW W c st).take (j+1)=(stW W c st).take j++[rot c st++wj]:=by
        unfold stW;rw [QCe,QAe,hwj]
        rfl
       refine ⟨hl9,by rw [QAa,htl]; exact Jb (by exact O374 hb1 wfew hosl hjW htl),_,ts++[a4],rfl,by rw [QAm]; rfl,fun b u e=>?_,Zb,?_⟩
       ·rw [Ze (Zg e hlc2)];exact u34 _ _ (s7 _ _ e)
       ·rw [et];exact Paired.snoc (Paired.mapP hT7 fun x _ e=>⟨by rw [Ze e.2.2.1]; exact u34 _ _ e.1,e.2⟩) ⟨by rw [Ze ha4l]; exact g4,ha4f,ha4l,ha40⟩
      ·rintro ys σ H7 ⟨v0,ts,rfl,rfl,s7,hl7,hT7⟩;rw [QAa,hosl,QBc (by unfold stW; rw [QAa]; exact QAc _)] at hT7;have hf7:=s7 _ _ hf6;have htl:ts.length<=1296:=by
        rw [hT7.length];unfold stW;rw [QAa];exact Om.b3 ‹_› ‹_› rfl
       have hul:us.length<=6*1296:=by
        rw [hU.length];refine QAr (Ys (m:=1296) (List.range st) fun j _=>?_) (by rw [QAq]; exact QBv (by exact Om.b2 ‹_› ‹_› rfl) (QAc _));unfold stW;rw [QAa];exact Om.b3 ‹_› ‹_› rfl
       refine ⟨lf,lc2,_,_,rfl,rfl,hf7,hl7,QCa (Jb (by rw [QAa,QAa,QAo]; exact O373 hzfew htl hul)),_,us++ts,rfl,fun b u e=>?_,fun b o hb e=>?_,?_,?_⟩
       ·rw [Ze (Zg e hlf0)];exact s7 _ _ (s6 _ _ e)
       ·rw [Ze hb];exact s7 _ _ (kp6 b o hb e)
       ·rw [Zb,<- QAm,QBo]
       ·rw [QDi,QEh,QDo,List.flatMap_nil,QBq];exact Paired.append (Paired.mapP hU fun x _ e=>⟨by rw [Ze e.2.1]; exact s7 _ _ e.1,e.2⟩) (Paired.mapP hT7 fun x _ e=>⟨by rw [Ze e.2.1]; exact e.1,e.2.1,e.2.2.2⟩)
     ·rintro σ H6 ⟨v6',us,rfl,s6,kp6,hf6,hU⟩;refine ⟨_,_,_,_,zs++us,rfl,s6,hf6,?_⟩;rw [QDi,QEh,QDo,List.flatMap_nil,QBq,erow];exact Paired.append (Paired.mapP hZO fun x _ e=>⟨kp6 _ _ e.2.1 e.1,e.2⟩) hU
    ·rintro σ H3 ⟨v3,v4,v5,v6,zs,rfl,s4,hf4,hZ⟩;rw [<- Zgp hpos] at hZ;exact ⟨_,rfl,q lf H3 hlf0 s4 ⟨zs,hf4,hZ⟩⟩
end
theorem Zmk {X:Cx} {o e:Expr} {es:List Expr} {to:TE} {t:TA} {name:Str} {apos cpos:Pos} {T id:String} {r:V->List V->Hp->VK->Prop} (K:QZa) (pa:PlainAttrs T) (slot:Slot T name id) (hty:typeOf (.builtin id)=pure (.type "method_descriptor")) (hm:MtR X id r) (ho:PE X o to) (ha:PA X (e::es) t) (hK:X.K=K:=by rfl)
  (hbase:attributeBase o name X.env (eval o X.env)=eval o X.env:=by rfl)
  (hfew:((backTo cpos (starEach (e::es) X.env)).all (fun x=>!x.1)&&(backToKw cpos (keywordEach [] X.env)).all (fun x=>x.1.isSome)&&decide ((e::es).length+([]:List Keyword).length+(if ([]:List Keyword).isEmpty then 0 else 1)<30))=true:=by rfl)
  (hline:(apos.endLine==cpos.line)=true:=by rfl) (hs:starEach (e::es) X.env=(false,eval e X.env)::starEach es X.env:=by rfl) (hplain:(backTo cpos (starEach es X.env)).any (·.1)=false:=by rfl) :
  PE X (.Call (.Attribute o name apos) (e::es) [] cpos) (tBM K T r to t):=by
 subst hK;exact Jg pa slot hty hm ho ha hbase hfew hline hs hplain
noncomputable def JJ (n a j:Nat):List (Nat × Nat):=((List.range j).filter fun b=>decide (b≠a)).map fun b=>(a,b)
noncomputable def Y2 (n:Nat):List (Nat × Nat):=(List.range n).flatMap fun a=>JJ n a n
def TL (H:Hp) (l:Addr) (L:List (Nat × Nat)):Prop:=∃ ps:List Addr,H l=some (.lst (ps.map V.ref))/\Paired (fun p (x:Nat × Nat)=>H p=some (.tup [.int (x.1:Int),.int (x.2:Int)])) ps L
theorem Zch (n a j:Nat):JJ n a (j+1)=if j=a then JJ n a j else JJ n a j++[(a,j)]:=by
 unfold JJ;rw [QDi,List.filter_append,QAm]
 by_cases e:j=a
 ·rw [if_pos e,List.filter_cons,if_neg (by simp [e])]
  simp
 ·rw [if_neg e,List.filter_cons,if_pos (by simp [e])]
  rfl
theorem Zbq (n a j:Nat):(JJ n a j).length<=j:=by
 unfold JJ;rw [QAa];have:=List.length_filter_le (fun b=>decide (b≠a)) (List.range j);rw [QAq] at this;exact this
inductive Zkc (vs:List V) (H:Hp) (Q:VK):Prop where
 | mk (n:Nat) (_:vs=[.int (n:Int)]) (_:n<=6) (_:∀ l H',H l=none->Same H H'->TL H' l (Y2 n)->Q (.ref l) H'):Zkc vs H Q
def Zlt:Sp:=fun vs H Q _=>Zkc vs H Q
inductive Zkd (vs:List V) (H:Hp) (Q:VK):Prop where
 | mk (a:Addr) (n:Nat) (r:List Int) (_:vs=[.ref a]) (_:H a=some (.lst (r.map V.int))) (_:Turn n r) (_:n<=8) (_:∀ t H',Same H H'->H t=none->H' t=some (.tup ((inv r).map V.int))->Q (.ref t) H'):Zkd vs H Q
def Zlu:Sp:=fun vs H Q _=>Zkd vs H Q
inductive Zd8 (vs:List V) (H:Hp) (Q:VK):Prop where
 | mk (g l:Addr) (n a:Nat) (R:LI) (w:List Nat) (_:vs=[.ref g,.int (a:Int),.ref l]) (_:TG H g R) (_:OkRows n R) (_:R.length=n) (_:1<=n) (_:n<=6) (_:a<n) (_:H l=some (.lst ((toI w).map V.int))) (_:Cols n w) (_:∀ t H',H t=none->Same H H'->TG H' t (Zx n R a w)->Q (.ref t) H'):Zd8 vs H Q
def ZeZ:Sp:=fun vs H Q _=>Zd8 vs H Q
section
variable {P:Program} {w:World} {K:QZa} {mg:Str->Option Value} {base:Heap}
theorem scTwo:Zt ["size","found","one"] ["size"] (Zi ZaV):=Fs
inductive Zf1 (H:Hp) (n:Nat) (lf:Addr) (a:Nat) (σ:St) (H2:Hp):Prop where
 | mk (v2:Option V) (zs:List Addr) (_:σ=[some (.int (n:Int)),some (.ref lf),v2]) (_:Same H H2) (_:H2 lf=some (.lst (zs.map V.ref))) (_:zs.length<=a*n) (_:Paired (fun p (x:Nat × Nat)=>H2 p=some (.tup [.int (x.1:Int),.int (x.2:Int)])) zs ((List.range a).flatMap fun a=>JJ n a n)):Zf1 H n lf a σ H2
inductive Zf0 (n:Nat) (a:Nat) (H2:Hp) (lc:Addr) (j:Nat) (ys:List V) (σ:St) (H3:Hp):Prop where
 | mk (v0:Option V) (us:List Addr) (_:σ=[v0,some (.int (a:Int))]) (_:ys=us.map V.ref) (_:Same H2 H3) (_:H3 lc=some (.lst ys)) (_:Paired (fun p (x:Nat × Nat)=>H3 p=some (.tup [.int (x.1:Int),.int (x.2:Int)])) us (JJ n a j)):Zf0 n a H2 lc j ys σ H3
theorem Zmr {f:Addr} {fd:FuncData} (F:Fun K "two_rows" "two_rows" ZaV f fd) (T:Blt mg):FnOk P w K mg base CX0 1 f fd ["size"] Zlt:=by
 refine F.ok scTwo (fun vs H Q E h=>?_) (fun cdv A outer s H vs Q E hr h=>?_)
 ·obtain ⟨_,rfl,_⟩:=h
  rfl
 ·obtain ⟨n,rfl,h6,q⟩:=h
  refine' ⟨_,Zd (Zj (i:=1) scTwo.nd rfl (Or.inl rfl) (Z0 Zc)) (Zd (Ye PassesOwn.never rfl (Zn rfl T.range (Za (pv 0) Zc)) (ZC (i:=2) scTwo.nd rfl (Or.inr rfl)) (Zf ?b)) (Zf (Zu (pv 1)))),?rd⟩
  case b=>exact Yx (Jg PySem.F.plainAttrs_list PySem.F.slot_list_extend PySem.F.type_list_extend JP (pv 1) (Za (Yq ["other","one"] [none,some 2] rfl rfl (Zn rfl T.range (Za (pv 0) Zc)) (fun _ _ _ _ _=>Yu 0) (fun _ _ _ _ _=>Zat (ZJ Zjj (pv 0) (pv 1) (Z7 _))) (fun _ _ _ _ _=>ZaK (Za (pv 1) (Za (pv 0) Zc)))) Zc))
  case rd =>
   refine ⟨QAg _,fun lf hlf=>?_⟩;refine ⟨_,rfl,(n:Int),rfl,by exact Om.c2,by exact Om.c1 ‹_› rfl,?_⟩;rw [QAf];refine ZT (lo:=0) (n:=n) (Zf1 H n lf)
    ⟨none,[],rfl,Same.new hlf,Zb,QAg _,.nil⟩ ?_ ?_
   ·rintro a σ H2 ha ⟨v2,zs,rfl,s2,h2,hzl,hZ⟩;rw [QBp];refine ⟨_,rfl,.inl ⟨rfl,_,SqL.of h2⟩,_,rfl,(n:Int),rfl,by exact Om.c2,by exact Om.c1 ‹_› rfl,fun lc hlc=>?_⟩;rw [QAf];refine Z5 (ZG (n:=n)) (Zf0 n a H2 lc)
     ⟨none,[],rfl,rfl,Same.new hlc,Zb,.nil⟩ (fun j ys σ H3 zz0=> by obtain ⟨_,_,_,_,_,hl,_⟩ := zz0; exact ⟨trivial,hl⟩) ?_ ?_
    ·rintro j x ys σ H3 hj ⟨v0,us,rfl,rfl,s3,hl3,hU⟩;obtain ⟨hjn,rfl⟩:=Z3 hj;refine ⟨_,rfl,_,rfl,rfl,_,rfl,?_⟩
     by_cases e:j=a
     ·rw [show decide (V.int (j:Int)=V.int (a:Int))=true from QZh (by rw [e])];refine Zai ⟨_,us,rfl,rfl,s3,hl3,?_⟩;rw [Zch,if_pos e];exact hU
     ·rw [show decide (V.int (j:Int)=V.int (a:Int))=false from QZi fun z=>e (by rw [V.int.injEq] at z; exact Om.e1 ‹_›)];refine Zbd ⟨_,rfl,_,rfl,(show 2<=sizeLine from Zq (by decide)),fun t ht=>?_⟩;have s4:Same H3 (upd H3 t (.tup [.int (a:Int),.int (j:Int)])):=Same.new ht;have hl4:=s4 _ _ hl3;have hul:us.length<=j:=by rw [hU.length]; exact Zbq n a j
      have up:∀ b row,(upd H3 t (.tup [.int (a:Int),.int (j:Int)])) b=some (.tup row)->(upd (upd H3 t (.tup [.int (a:Int),.int (j:Int)])) lc (.lst (us.map V.ref++[.ref t]))) b=some (.tup row):=fun b row e=>by
       rw [Ze (YE e hl4 (by intro z; cases z))];exact e
      refine ⟨hl4,by rw [QAa]; exact Zy (by exact O372 h6 hjn hul),_,us++[t],rfl,by rw [QAm]; rfl,fun b u e=>?_,Zb,?_⟩
      ·rw [Ze (Zg e hlc)];exact s4 _ _ (s3 _ _ e)
      ·rw [Zch,if_neg e];exact Paired.snoc (Paired.mapP hU fun _ _ z=>up _ _ (s4 _ _ z)) (up _ _ Zb)
    ·rintro ys σ H3 ⟨v0,us,rfl,rfl,s3,hl3,hU⟩;rw [Zs] at hU;have h3:=s3 _ _ h2;have hul:us.length<=n:=by rw [hU.length]; exact Zbq n a n
     have han:a*n<=6*6:=QBv (by exact Om.b2 ‹_› ‹_› rfl) h6;have up:∀ b row,H3 b=some (.tup row)->(upd H3 lf (.lst (zs.map V.ref++us.map V.ref))) b=some (.tup row):=fun b row e=>by
      rw [Ze (YE e h3 (by intro z; cases z))];exact e
     refine ⟨lf,lc,_,_,rfl,rfl,h3,hl3,by rw [QAa,QAa]; exact Zq (by exact O371 h6 hzl hul han),_,zs++us,rfl,fun b u e=>?_,?_,?_,?_⟩
     ·rw [Ze (Zg e hlf)];exact s3 _ _ (s2 _ _ e)
     ·rw [Zb,QAm]
     ·rw [QAo,QCs];exact O370 hzl hul
     ·rw [QDi,QEh,QDo,List.flatMap_nil,QBq];exact Paired.append (Paired.mapP hZ fun _ _ z=>up _ _ (s3 _ _ z)) (Paired.mapP hU fun _ _ z=>up _ _ z)
   ·rintro σ H2 ⟨v2,zs,rfl,s2,h2,_,hZ⟩;exact ⟨_,rfl,q lf H2 hlf s2 ⟨zs,h2,hZ⟩⟩
theorem ZcG {f:Addr} {fd:FuncData} (F:Fun K "turn_undone" "turn_undone" Yo f fd) (T:Blt mg):FnOk P w K mg base CX0 1 f fd ["turn"] Zlu:=by
 refine F.ok Zni (fun vs H Q E h=>?_) (fun cdv A outer s H vs Q E hr h=>?_)
 ·obtain ⟨_,_,_,rfl,_⟩:=h
  rfl
 ·obtain ⟨a,n,r,rfl,ha,tr,h8,q⟩:=h;refine ⟨_,Zf (Zu (Zp (Zv K) rfl T.tuple ZL (Za (Yq ["number","turn"] [none,some 0] rfl rfl (Zn rfl T.range (Za (Zl (Zr K) rfl T.len PySem.boot_len (Za (pv 0) Zc)) Zc)) (fun _ _ _ _ _=>Yu 0) (fun _ _ _ _ _=>ZA) (fun _ _ _ _ _=>Zmk K PySem.F.plainAttrs_list PySem.F.slot_list_index PySem.F.type_list_index ZdK (pv 1) (Za (pv 0) Zc))) Zc))),?_⟩;refine ⟨_,rfl,a,_,rfl,.inl (SqL.of ha),_,rfl,by exact Om.c2,by rw [QAa,tr.len]; exact Om.c1 ‹_› rfl,fun l hl=>?_⟩;rw [QAa,tr.len,QAf];refine ZB (fun i=>some (.int ((r.idxOf (i:Int):Nat):Int))) (fun σ=>∃ v,σ=[v,some (.ref a)]) (ZG (n:=n)) (by rw [Zs]; exact Zq (by exact Om.b1 ‹_› rfl)) hl (fun H' sm=>trivial) ⟨none,rfl⟩ ?_ ?_
  ·rintro j x σ H' R' hj ⟨v,rfl⟩ sm kk;obtain ⟨hjn,rfl⟩:=Z3 hj;have ha':=sm _ _ ha;refine ⟨_,rfl,.inl ⟨rfl,_,SqL.of ha'⟩,_,rfl,a,r,(j:Int),rfl,rfl,ha',YO tr.len tr.nd tr.rg ⟨by exact Om.c6,by exact Om.c5 ‹_›⟩,?_⟩;exact kk [some (.int (j:Int)),some (.ref a)] H' ⟨_,rfl⟩ (Same.refl _)
  ·intro H2 s2 h2;have e0:(List.range (rng n).length).filterMap (fun i:Nat=>some (V.int ((r.idxOf (i:Int):Nat):Int)))=(inv r).map V.int:=by
    rw [YI,Zs];unfold inv;rw [tr.len,QAw]
    rfl
   rw [e0] at h2;exact ⟨l,_,rfl,.inl ⟨SqL.of h2,fun t ht=>q t _ (s2.trans (Same.new ht)) (s2.free ht) Zb⟩⟩
theorem scAlongP:Zt ["square","top","walk","things","rows"] ["square","top","walk"] (Zi Zb6):=Fs
theorem ZmJ {R:LI} {a:Nat} {w:List Nat}:(List.range ((toI w).map V.int).length).filterMap (fun j=>some (V.int (ent R a (w.getD j 0))))=(w.map fun x=>ent R a x).map V.int:=by
 rw [filterMap_some,QAa,Yv,QAw];refine QDn fun j=>?_;rw [QAe,QAe]
 by_cases hj:j<w.length
 ·rw [QBi hj,QAb hj];show some (V.int (ent R a (w.getD j 0)))=some (V.int (ent R a w[j]));rw [gDN hj]
 ·rw [QCv (by rw [QAq]; exact O369 hj),QCv (by exact O369 hj)]
  rfl
theorem Zkk {w:List Nat} {j:Nat} {y:V} (h:((toI w).map V.int)[j]? = some y):j<w.length/\y = .int ((w.getD j 0:Nat):Int):=by
 unfold toI at h;rw [QAe,QAe] at h
 by_cases hj:j<w.length
 ·rw [QAb hj] at h
  cases h;exact ⟨hj,by rw [gDN hj]⟩
 ·rw [QCv (by exact O369 hj)] at h
  cases h
theorem Zio {f fU:Addr} {fd dU:FuncData} (F:Fun K "renaming_along" "renaming_along" Zb6 f fd) (T:Blt mg) (DU:Dfn K mg "turn_undone" Yo ["turn"] fU dU):FnOk P w K mg base CX0 2 f fd ["square","top","walk"] ZeZ:=by
 have GU:FnOk P w K mg base CX0 1 fU dU ["turn"] Zlu:=ZcG DU.F T;refine F.ok scAlongP (fun vs H Q E h=>?_) (fun cdv A outer s H vs Q E hr h=>?_)
 ·obtain ⟨_,_,_,_,_,_,rfl,_⟩:=h
  rfl
 ·obtain ⟨g,l,n,a,R,w,rfl,hT,ok,hRl,h1,h6,ha,hl,hw,q⟩:=h
  refine' ⟨_,Zd ?s0 (Zd ?s1 (Zf (Zu (ZaK (Za (pv 4) (Za (Zm GU hr rfl DU.m DU.F.kp DU.b .nil ZK (Za (pv 2) Zc)) (Za (pv 3) Zc))))))),?rd⟩
  case s0=>exact Zj (i:=3) scAlongP.nd rfl (Or.inr rfl) (Zm GU hr rfl DU.m DU.F.kp DU.b .nil ZK (Za (Yq ["column","square","top"] [none,some 0,some 1] rfl rfl (Z2 K (pv 2)) (fun _ _ _ _ _=>Yu 0) (fun _ _ _ _ _=>ZA) (fun _ _ _ _ _=>ZD (ZM K) (ZD (ZM K) (pv 1) (pv 2) (fun _ _=>rfl)) (pv 0) (fun _ _=>rfl))) Zc))
  case s1=>exact Zj (i:=4) scAlongP.nd rfl (Or.inl rfl) (Zp (Zv K) rfl T.tuple ZL (Za (Yq ["line","things","walk"] [none,some 3,some 2] rfl rfl (Za6 K (pv 0)) (fun _ _ _ _ _=>Yu 0) (fun _ _ _ _ _=>ZA) (fun _ _ _ _ _=>ZD (ZM K) (pv 1) (ZD (ZM K) (pv 0) (ZD (JR K) (pv 2) Zh (fun _ _=>rfl)) (fun _ _=>rfl)) (fun _ _=>rfl))) Zc))
  case rd =>
   have tt:=Js ok hRl hw ha;have hwl:w.length=n:=hw.len;have hwi:((toI w).map V.int).length=n:=by rw [QAa,Yv,hwl]
   obtain ⟨xA,pA,a1,a2,a3,a4⟩:=hT.at (k:=a) (by exact Om.a1 ‹_› ‹_›);have hrowA:=ZF ok hRl ha;refine ⟨_,rfl,l,rfl,⟨_,SqL.of hl⟩,fun lc hlc=>?_⟩;refine ZB (fun j=>some (V.int (ent R a (w.getD j 0)))) (fun σ=>∃ v,σ=[v,some (.ref g),some (.int (a:Int))]) (Z1 (xs:=(toI w).map V.int)) (by rw [hwi]; exact Zq (by exact Om.b1 ‹_› rfl)) hlc (fun H' sm=>SqL.of (sm _ _ hl)) ⟨none,rfl⟩ ?_ ?_
   ·rintro j y σ H' R' hy ⟨v,rfl⟩ sm kk;obtain ⟨hj,rfl⟩:=Zkk hy;have hc:w.getD j 0<n:=by rw [gDN hj]; exact (hw.all _).mp (QAs _)
    exact ⟨_,rfl,_,rfl,g,_,_,.ref pA,rfl,rfl,SqT.of (sm _ _ a1),a3,_,rfl,pA,_,_,.int (ent R a (w.getD j 0)),rfl,rfl,SqT.of (sm _ _ a4),Jz (by rw [hrowA.len]; exact hc),kk _ H' ⟨some (.int ((w.getD j 0:Nat):Int)),rfl⟩ (Same.refl _)⟩
   intro H2 s2 h2;rw [ZmJ] at h2;refine ⟨lc,n,w.map fun x=>ent R a x,rfl,h2,tt,by exact Om.b1 ‹_› rfl,fun th H3 s3 hth0 hth=>?_⟩;have s23:=s2.trans s3;obtain ⟨gs,hg,hG⟩:=id hT;have hgl:(gs.map V.ref).length=n:=by rw [QAa,hG.length,hRl]
   have hw0:w.getD 0 0<n:=hw.zero h1;refine ⟨_,rfl,g,rfl,⟨_,SqT.of (s23 _ _ hg)⟩,fun lr hlr=>?_⟩;refine ZB (fun r=>some (V.int ((thg R a w).getD (ent R r (w.getD 0 0)).toNat 0))) (fun σ=>∃ v,σ=[v,some (.ref th),some (.ref l)]) (Zb0 (xs:=gs.map V.ref)) (by rw [hgl]; exact Zq (by exact Om.b1 ‹_› rfl)) hlr (fun H' sm=>SqT.of (sm _ _ (s23 _ _ hg))) ⟨none,rfl⟩ ?_ ?_
   ·rintro r y σ H' R' hy ⟨v,rfl⟩ sm kk;rw [QAe] at hy
    cases hpr:gs[r]? with
    | none=>rw [hpr] at hy; cases hy
    | some p =>
    rw [hpr] at hy
    cases hy;obtain ⟨Rr,hRr,hp⟩:=Paired.getL hG hpr;have hrn:r<n:=by have:=(QZb.mp hRr).1; exact Om.a2 ‹_› ‹_›
    have hRg:R.getD r []=Rr:=by rw [QAd,hRr]; rfl
    have hrow:=ZF ok hRl hrn;obtain ⟨e1,e2⟩:=ZQ ok hRl hrn hw0;have sm':=s23.trans sm;have hthl:(thg R a w).length=n:=tt.inv.len;rw [<- hRg] at hp;have at1:atI ((toI w).map V.int) (0:Int)=some (.int ((w.getD 0 0:Nat):Int)):=ZR (i:=0) (by
     unfold toI;rw [QAe,QAe,QAb (by exact O368 hRl h1 h6 hwl hwi a2 hgl hthl),gDN (by exact O368 hRl h1 h6 hwl hwi a2 hgl hthl)]
     rfl)
    have at2:atI ((R.getD r []).map V.int) ((w.getD 0 0:Nat):Int)=some (.int (ent R r (w.getD 0 0))):=Jz (by rw [hrow.len]; exact hw0);have at3:atI ((thg R a w).map V.int) (ent R r (w.getD 0 0))=some (.int ((thg R a w).getD (ent R r (w.getD 0 0)).toNat 0)):=by
     rw [e1];rw [QAf];exact Jz (by exact Om.a1 ‹_› ‹_›)
    exact ⟨_,rfl,_,rfl,_,rfl,l,_,_,_,rfl,rfl,SqL.of (sm' _ _ hl),at1,p,_,_,_,rfl,rfl,SqT.of (sm' _ _ hp),at2,th,_,_,_,rfl,rfl,SqT.of (sm _ _ hth),at3,kk _ H' ⟨some (.ref p),rfl⟩ (Same.refl _)⟩
   intro H4 s4 h4;have e4:(List.range (gs.map V.ref).length).filterMap (fun r=>some (V.int ((thg R a w).getD (ent R r (w.getD 0 0)).toNat 0)))=((List.range n).map fun r=>(thg R a w).getD (ent R r (w.getD 0 0)).toNat 0).map V.int:=by
    rw [filterMap_some,hgl,QAw]
    rfl
   rw [e4] at h4;refine ⟨lr,_,rfl,.inl ⟨SqL.of h4,fun tr htr=>?_⟩⟩;have s5:Same H4 (upd H4 tr (.tup (((List.range n).map fun r=>(thg R a w).getD (ent R r (w.getD 0 0)).toNat 0).map V.int))):=Same.new htr;have g5:(upd H4 tr (.tup (((List.range n).map fun r=>(thg R a w).getD (ent R r (w.getD 0 0)).toNat 0).map V.int))) tr=some (.tup (((List.range n).map fun r=>(thg R a w).getD (ent R r (w.getD 0 0)).toNat 0).map V.int)):=Zb;generalize upd H4 tr (.tup (((List.range n).map fun r=>(thg R a w).getD (ent R r (w.getD 0 0)).toNat 0).map V.int))=H5 at s5 g5 ⊢;have s35:=s4.trans s5;have sH5:=s23.trans s35;refine ⟨_,rfl,_,rfl,l,n,toI w,rfl,sH5 _ _ hl,hw.turn,by exact Om.b1 ‹_› rfl,fun tc H6 s6 _ htc=>?_⟩;refine ⟨_,rfl,(show 3<=sizeLine from Zq (by decide)),fun t ht=>?_⟩;have s7:Same H6 (upd H6 t (.tup [.ref tr,.ref tc,.ref th])):=Same.new ht;have sH7:=(sH5.trans s6).trans s7;exact q t _ ((sH5.trans s6).free ht) sH7 ⟨[tr,tc,th],Zb,.cons (s7 _ _ (s6 _ _ g5)) (.cons (s7 _ _ htc) (.cons (s7 _ _ (s6 _ _ (s35 _ _ hth))) .nil))⟩
end
theorem Zlo {s:Nat->Nat} {U:Nat->Prop} {w ls:List Nat} (a:Alg s U w ls):w.length=ls.sum:=by
 induction a with
 | nil _=>rfl
 | step _ _ _ _ ih=>rw [QAo,QDk,ih]
theorem Zhh:∀ l:List Nat,(∀ x∈l,2<=x)->2*l.length<=l.sum
 | [],_=>QAc _
 | x::l,h=>by
  have:=Zhh l fun y hy=>h y (QAp _ hy)
  have:=h x QAj;rw [QAu,QDk];omega
section
variable {n:Nat} {R:LI} {a b:Nat}
theorem Zes (ok:OkRows n R) (hl:R.length=n) (ha:a<n) (hb:b<n) (hne:a≠b):∀ c∈rgs n R a b,2<=c.length/\c.length<=n:=by
 intro c hc;have v:=Yt (YA ok hl ha hb);have cy:=v.cy c hc;have hlt:∀ x∈c,x<n:=fun x hx=>(v.all x).mpr ⟨c,hc,hx⟩
 refine ⟨?_,Zay cy.nd hlt⟩;have hp:=cy.pos
 by_cases e:c.length=1
 ·have h:=cy.nx 0 hp;rw [e] at h;have hx:=hlt _ cy.head;have h2:=Zac ok hl ha hb hx;rw [h] at h2;exact absurd (J1 ok hl ha hb hx h2) hne
 ·omega
theorem Zet (ok:OkRows n R) (hl:R.length=n) (ha:a<n) (hb:b<n) (hne:a≠b):2*(rgs n R a b).length<=n:=by
 have v:=Yt (YA ok hl ha hb);obtain ⟨w,hw⟩:=Zbn (s:=sF R a b) (f:=(rgs n R a b).length) (C:=rgs n R a b) (fun c hc=>(v.cy c hc).pos) (QAc _);obtain ⟨ls,al⟩:=(YL v (QAc _)).mp hw;have hw':w∈Zo n (rgs n R a b):=by rw [show Zo n (rgs n R a b)=Zo (rgs n R a b).length (rgs n R a b) from ZaG _ _ _ (YM _ _ _) (QAc _)]; exact hw
 have hc:=(YB ok hl ha hb hw').len;obtain ⟨p,_⟩:=Zdc al v;have h2:=Zhh ls fun x hx=>by
  obtain ⟨c,hc,rfl⟩:=QZd.mp (p.mem_iff.mp hx);exact (Zes ok hl ha hb hne c hc).1
 have e:=p.length_eq;rw [QAa] at e;have e2:(rgs n R a b).length=ls.length:=e.symm;rw [<- Zlo al,hc] at h2;omega
end
theorem Zae (n:Nat) (R:LI) (a b:Nat):Zo n (rgs n R a b)=Zo (rgs n R a b).length (rgs n R a b):=ZaG _ _ _ (YM _ _ _) (QAc _)
noncomputable def slL (n:Nat) (R:LI):LI:=(Y2 n).map fun x=>sl n R x.1 x.2
noncomputable def Y6 (n:Nat) (R:LI):List Int:=(slL n R).getD (argBest (fun i j=>_H.lexLt ((slL n R).getD i []) ((slL n R).getD j [])) ((slL n R).length - 1)) []
noncomputable def J8 (n:Nat) (R:LI) (x:Nat × Nat):List LI:=if sl n R x.1 x.2=Y6 n R then (Zo (rgs n R x.1 x.2).length (rgs n R x.1 x.2)).map (Zx n R x.1) else []
noncomputable def Zw (n:Nat) (R:LI):List LI:=if n=1 then [JV 1] else (Y2 n).flatMap (J8 n R)
theorem mem_two {n a b:Nat}:(a,b)∈Y2 n↔a<n/\b<n/\a≠b:=by
 unfold Y2 JJ;rw [QZp]
 constructor
 ·rintro ⟨x,hx,h⟩;obtain ⟨y,hy,e⟩:=QZd.mp h
  cases e;obtain ⟨h1,h2⟩:=QZo.mp hy;exact ⟨QZe.mp hx,QZe.mp h1,fun z=>QZj h2 z.symm⟩
 ·rintro ⟨h1,h2,h3⟩;exact ⟨a,QZe.mpr h1,QZd.mpr ⟨b,QZo.mpr ⟨QZe.mpr h2,QZh (Ne.symm h3)⟩,rfl⟩⟩
theorem Zhb (n:Nat):(Y2 n).length<=n*n:=by
 unfold Y2;have:=Ys (m:=n) (g:=fun a=>JJ n a n) (List.range n) fun a _=>Zbq n a n
 rw [QAq] at this;exact this
theorem Zha {n:Nat} (h:2<=n):0<(Y2 n).length:=QDj (mem_two.mpr ⟨show 0<n by exact Om.p1 ‹_›,show 1<n by exact Om.f5 ‹_›,by decide⟩)
theorem Zfv {n:Nat} {R:LI} (h:2<=n):Y6 n R∈slL n R/\∀ x∈slL n R,ZbX x (Y6 n R)=false:=by
 have hp:0<(slL n R).length:=by unfold slL; rw [QAa]; exact Zha h
 have e:(fun i j=>_H.lexLt ((slL n R).getD i []) ((slL n R).getD j []))=fun i j=>ZbX ((slL n R).getD i []) ((slL n R).getD j []):=funext fun i=>funext fun j=>Zfs _ _
 unfold Y6;rw [e];obtain ⟨h1,h2⟩:=Zda ord_lexI (fun i=>(slL n R).getD i []) ((slL n R).length - 1);have g:∀ i,i<(slL n R).length->(slL n R).getD i []∈slL n R:=fun i hi=>by
  rw [QAd,QAb hi];exact QAs _
 refine ⟨g _ (by exact O363 hp h1),fun x hx=>?_⟩;obtain ⟨j,hj,rfl⟩:=QBd hx;have:=h2 j (by exact Om.q2 ‹_›);rw [show (slL n R).getD j []=(slL n R)[j] by rw [QAd,QAb hj]; rfl] at this;exact this
theorem ZcV {n:Nat} {R:LI} (h:2<=n) {r:LI}:r∈Zw n R↔∃ a b w,Hop n R a b w/\r=Zx n R a w:=by
 unfold Zw;rw [if_neg (by exact O367 h),QZp];obtain ⟨l1,l2⟩:=Zfv (R:=R) h
 constructor
 ·rintro ⟨⟨a,b⟩,hab,hr⟩;obtain ⟨h1,h2,h3⟩:=mem_two.mp hab;unfold J8 at hr
  split at hr
  ·next e =>
   obtain ⟨w,hw,rfl⟩:=QZd.mp hr;refine ⟨a,b,w,⟨h1,h2,h3,?_,fun c d hc hd hcd=>?_⟩,rfl⟩
   ·rw [Zae];exact hw
   ·have e':sl n R a b=Y6 n R:=e;rw [e'];exact l2 _ (QZd.mpr ⟨(c,d),mem_two.mpr ⟨hc,hd,hcd⟩,rfl⟩)
  ·cases hr
 ·rintro ⟨a,b,w,hp,rfl⟩;refine ⟨(a,b),mem_two.mpr ⟨hp.ha,hp.hb,hp.hne⟩,?_⟩;have e:sl n R a b=Y6 n R:=by
   obtain ⟨⟨c,d⟩,hcd,e⟩:=QZd.mp l1;obtain ⟨h1,h2,h3⟩:=mem_two.mp hcd;refine ord_lexI.tot _ _ (l2 _ (QZd.mpr ⟨(a,b),mem_two.mpr ⟨hp.ha,hp.hb,hp.hne⟩,rfl⟩)) ?_;rw [<- e];exact hp.hm c d h1 h2 h3
  unfold J8;rw [if_pos e];refine QZd.mpr ⟨w,?_,rfl⟩;have:=hp.hw;rw [Zae] at this;exact this
theorem TG.up {H H':Hp} {p:Addr} {R:LI} (g:TG H p R) (f:∀ b row,H b=some (.tup row)->H' b=some (.tup row)):TG H' p R :=
 let ⟨ps,h,r⟩:=g
 ⟨ps,f _ _ h,Paired.mapP r fun _ _ z=>f _ _ z⟩
def RL (H:Hp) (l:Addr) (L:List LI):Prop:=∃ ps:List Addr,H l=some (.lst (ps.map V.ref))/\Paired (fun p (r:LI)=>TG H p r) ps L
theorem RL.same {H H1:Hp} {l:Addr} {L:List LI} (g:RL H l L) (x:Same H H1):RL H1 l L :=
 let ⟨ps,h,r⟩:=g
 ⟨ps,x _ _ h,Paired.mapP r fun _ _ z=>z.same x⟩
def CcR (H:Hp) (n:Nat) (R:LI) (p:Addr) (x:Nat × Nat):Prop:=∃ q:Addr,H p=some (.tup [.int (x.1:Int),.ref q])/\LL H q (rgs n R x.1 x.2)
def CcX (lc:Addr) (H:Hp) (n:Nat) (R:LI) (p:Addr) (x:Nat × Nat):Prop:=∃ q:Addr,H p=some (.tup [.int (x.1:Int),.ref q])/\p≠lc/\q≠lc/\∃ rs:List Addr,H q=some (.lst (rs.map V.ref))/\Paired (fun p (r:List Nat)=>H p=some (.lst ((toI r).map V.int))/\p≠lc) rs (rgs n R x.1 x.2)
theorem CcX.up {lc:Addr} {H H':Hp} {n:Nat} {R:LI} {p:Addr} {x:Nat × Nat} (c:CcX lc H n R p x) (f:∀ b o,b≠lc->H b=some o->H' b=some o):CcX lc H' n R p x :=
 let ⟨q,h1,h2,h3,rs,h4,h5⟩:=c
 ⟨q,f _ _ h2 h1,h2,h3,rs,f _ _ h3 h4,Paired.mapP h5 fun _ _ z=>⟨f _ _ z.2 z.1,z.2⟩⟩
theorem CcX.cc {lc:Addr} {H:Hp} {n:Nat} {R:LI} {p:Addr} {x:Nat × Nat} (c:CcX lc H n R p x):CcR H n R p x :=
 let ⟨q,h1,_,_,rs,h4,h5⟩:=c
 ⟨q,h1,rs,h4,Paired.mapP h5 fun _ _ z=>z.1⟩
theorem ZhW (lt:Nat->Nat->Bool):∀ k,argBest lt k<=k
 | 0=>QAc _
 | k+1=>by
  have:=ZhW lt k;show (if lt (k+1) (argBest lt k)=true then k+1 else argBest lt k)<=k+1
  split <;> omega
theorem ZaB:∀ l m:List Int,Jn (l.map V.int) (m.map V.int)=decide (l=m)
 | [],[]=>rfl
 | [],_::_=>by simp [Jn]
 | _::_,[]=>by simp [Jn]
 | x::l,y::m=>by
  have ih:=ZaB l m;unfold Jn at ih ⊢;rw [QAl,QAl,List.zip_cons_cons,List.all_cons,QAu,QAu];rw [QBj,QAv,QZg,QZg] at ih;rw [QBj,QAv,QAv,QZg,QZg,List.cons.injEq];show (_/\(x==y)=true/\_)↔_;rw [beq_iff_eq];exact ⟨fun h=>⟨h.2.1,ih.mp ⟨by omega,h.2.2⟩⟩,fun h=>⟨by have:=(ih.mpr h.2).1; omega,h.1,(ih.mpr h.2).2⟩⟩
theorem ZeI {n:Nat} {R:LI} (ok:OkRows n R) (hl:R.length=n) (h6:n<=6) {x:Nat × Nat} (hx:x∈Y2 n):(J8 n R x).length<=1296:=by
 obtain ⟨a,b⟩:=x;obtain ⟨ha,hb,hne⟩:=mem_two.mp hx;unfold J8
 split
 ·rw [QAa];have h1:=Zet ok hl ha hb hne;exact QAr (Zam _ _ rfl fun c hc=>QAr (Zes ok hl ha hb hne c hc).2 h6) (Zj7 _ (by show (rgs n R a b).length<=3; exact O366 hl h6 h1))
 ·exact QAg _
inductive Zh3 (vs:List V) (H:Hp) (Q:VK):Prop where
 | mk (g:Addr) (n:Nat) (R:LI) (_:vs=[.ref g]) (_:TG H g R) (_:OkRows n R) (_:R.length=n) (_:1<=n) (_:n<=6) (_:∀ l H',H l=none->Same H H'->RL H' l (Zw n R)->Q (.ref l) H'):Zh3 vs H Q
def ZiW:Sp:=fun vs H Q _=>Zh3 vs H Q
section
variable {P:Program} {w:World} {K:QZa} {mg:Str->Option Value} {base:Heap}
structure HpD (K:QZa) (mg:Str->Option Value) (fS fU fF fR fL fW fT fA:Addr) (dS dU dF dR dL dW dT dA:FuncData):Prop where
 S:Dfn K mg "still" Zeo ["n"] fS dS
 U:Dfn K mg "turn_undone" Yo ["turn"] fU dU
 F:Dfn K mg "ring_from" JL ["square","one","other","column"] fF dF
 R:Dfn K mg "rings" Zb3 ["square","one","other"] fR dR
 L:Dfn K mg "lengths_of" ZaZ ["circles"] fL dL
 W:Dfn K mg "walks" Zen ["circles"] fW dW
 T:Dfn K mg "two_rows" ZaV ["size"] fT dT
 A:Dfn K mg "renaming_along" Zb6 ["square","top","walk"] fA dA
variable {fS fU fF fR fL fW fT fA:Addr} {dS dU dF dR dL dW dT dA:FuncData}
theorem scHope:Zt ["square","circles","least","found","top","told"] ["square"] (Zi Zab):=Fs
inductive Zef (g:Addr) (n:Nat) (R:LI) (H1:Hp) (lc:Addr) (j:Nat) (ys:List V) (σ:St) (H2:Hp):Prop where
 | mk (v0 v1:Option V) (us:List Addr) (_:σ=[v0,v1,some (.ref g)]) (_:ys=us.map V.ref) (_:Same H1 H2) (_:H2 lc=some (.lst ys)) (_:Paired (fun p x=>CcX lc H2 n R p x) us ((Y2 n).take j)):Zef g n R H1 lc j ys σ H2
inductive Zee (n:Nat) (R:LI) (HA:Hp) (lm:Addr) (j:Nat) (ys:List V) (σ:St) (H2:Hp):Prop where
 | mk (v0 v1:Option V) (ms:List Addr) (_:σ=[v0,v1]) (_:ys=ms.map V.ref) (_:Same HA H2) (_:H2 lm=some (.lst ys)) (_:Paired (fun p (x:List Int)=>H2 p=some (.lst (x.map V.int))/\p≠lm) ms ((slL n R).take j)):Zee n R HA lm j ys σ H2
inductive Zed (H:Hp) (g:Addr) (n:Nat) (R:LI) (lc:Addr) (pm:Addr) (lf:Addr) (HC:Hp) (i:Nat) (σ:St) (H5:Hp):Prop where
 | mk (v4 v5:Option V) (zs:List Addr) (_:σ=[some (.ref g),some (.ref lc),some (.ref pm),some (.ref lf),v4,v5]) (_:Same H H5) (_:(∀ b o,b≠lf->HC b=some o->H5 b=some o)) (_:H5 lf=some (.lst (zs.map V.ref))) (_:Paired (fun p (r:LI)=>TG H5 p r) zs (((Y2 n).take i).flatMap (J8 n R))):Zed H g n R lc pm lf HC i σ H5
inductive Zec (g:Addr) (n:Nat) (R:LI) (a:Nat) (H7:Hp) (W:List (List Nat)) (l2:Addr) (j:Nat) (ys:List V) (σ:St) (H8:Hp):Prop where
 | mk (v0:Option V) (ks:List Addr) (_:σ=[v0,some (.ref g),some (.int (a:Int))]) (_:ys=ks.map V.ref) (_:Same H7 H8) (_:H8 l2=some (.lst ys)) (_:Paired (fun p (r:LI)=>TG H8 p r) ks ((W.map (Zx n R a)).take j)):Zec g n R a H7 W l2 j ys σ H8
set_option maxHeartbeats 1000000 in
theorem ZkO {f:Addr} {fd:FuncData} (F:Fun K "hopeful" "hopeful" Zab f fd) (T:Blt mg) (Z:HpD K mg fS fU fF fR fL fW fT fA dS dU dF dR dL dW dT dA):FnOk P w K mg base CX0 5 f fd ["square"] ZiW:=by
 have GS:FnOk P w K mg base CX0 4 fS dS ["n"] Zhj:=(Zjl Z.S.F T).mono (by decide);have GT:FnOk P w K mg base CX0 4 fT dT ["size"] Zlt:=(Zmr Z.T.F T).mono (by decide);have GR:FnOk P w K mg base CX0 4 fR dR ["square","one","other"] Zhk:=(Zim Z.R.F T Z.F).mono (by decide);have GL:FnOk P w K mg base CX0 4 fL dL ["circles"] Zdy:=(ZgI Z.L.F T).mono (by decide);have GW:FnOk P w K mg base CX0 4 fW dW ["circles"] (Zel 4):=Zfd Z.W T 4;have GA:FnOk P w K mg base CX0 4 fA dA ["square","top","walk"] ZeZ:=(Zio Z.A.F T Z.U).mono (by decide);refine F.ok scHope (fun vs H Q E h=>?_) (fun cdv A outer s H vs Q E hr h=>?_)
 ·obtain ⟨_,_,_,rfl,_⟩:=h
  rfl
 ·obtain ⟨g,n,R,rfl,hT,ok,hRl,h1,h6,q⟩:=h;have hu0:=huZ hr;have hu1:((A.deeper (PyProof.Rows.envOfC "hopeful" (Zi Zab) s.heap.objs.size f cdv))).units+1+0<cLine:=by have:=hr.un; omega
  refine' ⟨_,Zd (YT ?c0 (Zf (Zu ?r0)) Z8) (Zd ?s1 (Zd ?s2 (Zd (Zj (i:=3) scHope.nd rfl (Or.inl rfl) (Z0 Zc)) (Zd (Ye PassesOwn.never rfl (Zb8 (pv 1)) (ZgC rfl (ZX (ZC (i:=4) scHope.nd rfl (Or.inr rfl)) (ZX (ZC (i:=5) scHope.nd rfl (Or.inl rfl)) JD))) (Zf (YT ?c1 (Zf ?e) Z8))) (Zf (Zu (pv 3))))))),?rd⟩
  case c0=>exact ZJ JO (Zl (Zr K) rfl T.len PySem.boot_len (Za (pv 0) Zc)) Zh (Z7 _)
  case r0=>exact Z0 (Za (Zm GS hr rfl Z.S.m Z.S.F.kp Z.S.b .nil ZK (Za Zh Zc)) Zc)
  case s1=>exact ZdD (i:=1) ["one","other","square"] [none,none,some 0] scHope.nd rfl (Or.inl rfl) rfl rfl (Z2 K (Zm GT hr rfl Z.T.m Z.T.F.kp Z.T.b .nil ZK (Za (Zl (Zr K) rfl T.len PySem.boot_len (Za (pv 0) Zc)) Zc))) (fun _ _ _ _ _=>Zaw (n:=2) K rfl (ZX (Yu 0) (ZX (Yu 1) JD))) (fun _ _ _ _ _=>ZA) (fun _ _ _ _ _=>ZaK (Za (pv 0) (Za (Zm GR hr rfl Z.R.m Z.R.F.kp Z.R.b .nil ZK (Za (pv 2) (Za (pv 0) (Za (pv 1) Zc)))) Zc)))
  case s2=>exact Zj (i:=2) scHope.nd rfl (Or.inl rfl) (Zl (ZfM (d:=0) K rfl hu1) rfl T.min Zg6 (Za (Yq ["top","told"] [none,none] rfl rfl (Z2 K (pv 1)) (fun _ _ _ _ _=>Zaw (n:=2) K rfl (ZX (Yu 0) (ZX (Yu 1) JD))) (fun _ _ _ _ _=>ZA) (fun _ _ _ _ _=>Zm GL hr rfl Z.L.m Z.L.F.kp Z.L.b .nil ZK (Za (pv 1) Zc))) Zc))
  case c1=>exact ZJ (Zjk hu0 K) (Zm GL hr rfl Z.L.m Z.L.F.kp Z.L.b .nil ZK (Za (pv 5) Zc)) (pv 2) (Z7 _)
  case e=>exact Yx (Jg PySem.F.plainAttrs_list PySem.F.slot_list_extend PySem.F.type_list_extend JP (pv 3) (Za (Yq ["walk","square","top"] [none,some 0,some 4] rfl rfl (Z2 K (Zm GW hr rfl Z.W.m Z.W.F.kp Z.W.b .nil ZK (Za (pv 5) Zc))) (fun _ _ _ _ _=>Yu 0) (fun _ _ _ _ _=>ZA) (fun _ _ _ _ _=>Zm GA hr rfl Z.A.m Z.A.F.kp Z.A.b .nil ZK (Za (pv 1) (Za (pv 2) (Za (pv 0) Zc))))) Zc))
  case rd =>
   obtain ⟨gs,hg,hG⟩:=id hT;have hgl:(gs.map V.ref).length=n:=by rw [QAa,hG.length,hRl]
   refine ⟨_,rfl,g,_,rfl,.inr (SqT.of hg),rfl,_,rfl,?_⟩;rw [hgl]
   by_cases e1:n=1
   ·rw [show decide (V.int (n:Int)=V.int 1)=true from QZh (by rw [e1]; rfl)];refine Zbd ⟨1,rfl,by decide,by decide,fun t H1 s1 hW=>⟨(show 1<=sizeLine from Zq (by decide)),fun l hl=>?_⟩⟩;refine q l _ (s1.free hl) (s1.trans (Same.new hl)) ⟨[t],Zb,?_⟩;unfold Zw;rw [if_pos e1];exact .cons (hW.same (Same.new hl)) .nil
   rw [show decide (V.int (n:Int)=V.int 1)=false from QZi fun z=>e1 (by rw [V.int.injEq] at z; exact O365 hgl z)];refine Zai ?_;have h2:2<=n:=by exact O364 h1 h6 hgl e1
   have eH:Zw n R=(Y2 n).flatMap (J8 n R):=by unfold Zw; rw [if_neg e1]
   have htl:=Zhb n;have hnn:n*n<=6*6:=QBv h6 h6;refine ⟨_,rfl,g,_,rfl,.inr (SqT.of hg),n,congrArg (fun k:Nat=>[V.int (k:Int)]) hgl,h6,fun lt H1 hlt s1 hTL=>?_⟩;obtain ⟨ts,hts,hTs⟩:=hTL;have htsl:(ts.map V.ref).length=(Y2 n).length:=by rw [QAa,hTs.length]
   refine ⟨lt,rfl,⟨_,SqL.of hts⟩,fun lc hlc=>?_⟩;refine Z5 (Z1 (xs:=ts.map V.ref)) (Zef g n R H1 lc)
    ⟨none,none,[],rfl,rfl,Same.new hlc,Zb,.nil⟩ (fun j ys σ H2 zz0=> by obtain ⟨_,_,_,_,_,s2,hl,_⟩ := zz0; exact ⟨SqL.of (s2 _ _ hts),hl⟩) ?_ ?_
   ·rintro j x ys σ H2 hj ⟨v0,v1,us,rfl,rfl,s2,hl2,hU⟩;rw [QAe] at hj
    cases hpj:ts[j]? with
    | none=>rw [hpj] at hj; cases hj
    | some pt =>
    rw [hpj] at hj
    cases hj;obtain ⟨⟨a,b⟩,hab,hpt⟩:=Paired.getL hTs hpj;obtain ⟨ha,hb,hne⟩:=mem_two.mp (QAx hab);have hpt:H1 pt=some (.tup [.int (a:Int),.int (b:Int)]):=hpt;refine ⟨pt,_,rfl,SqT.of (s2 _ _ hpt),rfl,_,_,rfl,_,_,rfl,rfl,?_⟩;refine ⟨_,rfl,_,rfl,_,rfl,_,rfl,g,n,a,b,R,rfl,hT.same (s1.trans s2),ok,hRl,by exact Om.b1 ‹_› rfl,ha,hb,hne,fun lr H3 s3 hlr hLL=>⟨(show 2<=sizeLine from Zq (by decide)),fun t ht=>?_⟩⟩;have s4:Same H3 (upd H3 t (.tup [.int (a:Int),.ref lr])):=Same.new ht;have g4:(upd H3 t (.tup [.int (a:Int),.ref lr])) t=some (.tup [.int (a:Int),.ref lr]):=Zb;generalize upd H3 t (.tup [.int (a:Int),.ref lr])=H4 at s4 g4 ⊢;have s34:=s3.trans s4;have hl4:=s34 _ _ hl2;have hlrc:lr≠lc:=fun z=>by rw [z,hl2] at hlr; cases hlr
    have htc:t≠lc:=fun z=>by rw [z,s3 _ _ hl2] at ht; cases ht
    have hul:us.length=j:=by
     rw [hU.length,QAt];have:=(QZb.mp hab).1;exact Om.m1 ‹_›
    have hj36:j<=36:=by have:=(QZb.mp hab).1; omega
    obtain ⟨rs,hrs,hRs⟩:=hLL;refine ⟨hl4,by rw [QAa,hul]; exact Zy (by exact Om.b1 ‹_› rfl),_,_,us++[t],rfl,by rw [QAm]; rfl,fun b u e=>?_,Zb,?_⟩
    ·rw [Ze (Zg e hlc)];exact s34 _ _ (s2 _ _ e)
    ·have et:(Y2 n).take (j+1)=(Y2 n).take j++[(a,b)]:=by rw [QCe,hab]; rfl
     rw [et];have up:∀ b o,b≠lc->H4 b=some o->(upd H4 lc (.lst (us.map V.ref++[.ref t]))) b=some o:=fun b o hb e=>by rw [Ze hb]; exact e
     refine Paired.snoc (Paired.mapP hU fun _ _ z=>z.up fun b o hb e=>up b o hb (s34 _ _ e)) (CcX.up (H:=H4) ⟨lr,g4,htc,hlrc,rs,s4 _ _ hrs,?_⟩ up);exact Paired.mapP hRs fun x _ z=>⟨s4 _ _ z.1,fun e=>by rw [e,hl2] at z; cases z.2.2⟩
   rintro ys σ HA ⟨v0,v1,us,rfl,rfl,sA,hlA,hUX⟩;rw [htsl,QBc (QAc _)] at hUX;have hUA:Paired (fun p x=>CcR HA n R p x) us (Y2 n):=Paired.mapP hUX fun _ _ z=>z.cc
   clear hUX;have sHA:=s1.trans sA;have husl:(us.map V.ref).length=(Y2 n).length:=by rw [QAa,hUA.length]
   refine ⟨_,rfl,lc,rfl,⟨_,SqL.of hlA⟩,fun lm hlm=>?_⟩;refine Z5 (Z1 (xs:=us.map V.ref)) (Zee n R HA lm)
    ⟨none,none,[],rfl,rfl,Same.new hlm,Zb,.nil⟩ (fun j ys σ H2 zz0=> by obtain ⟨_,_,_,_,_,s2,hl,_⟩ := zz0; exact ⟨SqL.of (s2 _ _ hlA),hl⟩) ?_ ?_
   ·rintro j x ys σ H2 hj ⟨v0,v1,ms,rfl,rfl,s2,hl2,hM⟩;rw [QAe] at hj
    cases hpj:us[j]? with
    | none=>rw [hpj] at hj; cases hj
    | some p =>
    rw [hpj] at hj
    cases hj;obtain ⟨⟨a,b⟩,hab,qq,hp,hLq⟩:=Paired.getL hUA hpj;obtain ⟨ha,hb,hne⟩:=mem_two.mp (QAx hab);have hp:HA p=some (.tup [.int (a:Int),.ref qq]):=hp;have hLq:LL HA qq (rgs n R a b):=hLq;refine ⟨p,_,rfl,SqT.of (s2 _ _ hp),rfl,_,_,rfl,_,_,rfl,rfl,?_⟩;have hfew:=Zet ok hRl ha hb hne;refine ⟨_,rfl,qq,_,rfl,hLq.same s2,by exact O362 h1 h6 hgl h2 hfew,fun t H3 ht s3 h3=>?_⟩;have h3:H3 t=some (.lst ((sl n R a b).map V.int)):=h3;have htm:t≠lm:=fun z=>by rw [z,hl2] at ht; cases ht
    have hl3:=s3 _ _ hl2;have hj36:j<=36:=by have:=(QZb.mp hab).1; omega
    have hml:ms.length=j:=by
     rw [hM.length,QAt];unfold slL;rw [QAa];have:=(QZb.mp hab).1;exact Om.m1 ‹_›
    refine ⟨hl3,by rw [QAa,hml]; exact Zy (by exact Om.b1 ‹_› rfl),_,_,ms++[t],rfl,by rw [QAm]; rfl,fun b u e=>?_,Zb,?_⟩
    ·rw [Ze (Zg e hlm)];exact s3 _ _ (s2 _ _ e)
    ·have et:(slL n R).take (j+1)=(slL n R).take j++[sl n R a b]:=by
      unfold slL;rw [QCe,QAe,hab]
      rfl
     rw [et];exact Paired.snoc (Paired.mapP hM fun _ _ z=>⟨by rw [Ze z.2]; exact s3 _ _ z.1,z.2⟩) ⟨by rw [Ze htm]; exact h3,htm⟩
   rintro ys σ HB ⟨v0,v1,ms,rfl,rfl,sB,hlB,hM⟩;rw [husl,show (Y2 n).length=(slL n R).length by unfold slL; rw [QAa],QBc (QAc _)] at hM;have hml:ms.length=(slL n R).length:=hM.length;have hmpos:0<(slL n R).length:=by unfold slL; rw [QAa]; exact Zha h2
   have hbl:=ZhW (fun i j=>_H.lexLt ((slL n R).getD i []) ((slL n R).getD j [])) ((slL n R).length - 1);have hbi:argBest (fun i j=>_H.lexLt ((slL n R).getD i []) ((slL n R).getD j [])) (ms.length - 1)<ms.length:=by rw [hml]; exact O363 hmpos hbl
   obtain ⟨xm,hxm,hpm⟩:=Paired.getL hM (QAb hbi);have exm:xm=Y6 n R:=by
    unfold Y6;rw [<- hml,QAd,hxm]
    rfl
   refine ⟨lm,ms,fun i j=>_H.lexLt ((slL n R).getD i []) ((slL n R).getD j []),_,rfl,SqL.of hlB,by exact Om.a1 ‹_› ‹_›,fun i j p p' hi hj=>?_,QAb hbi,?_⟩
   ·obtain ⟨x1,hx1,hq1⟩:=Paired.getL hM hi;obtain ⟨x2,hx2,hq2⟩:=Paired.getL hM hj;show LtD K HB 0 (.ref p) (.ref p') (_H.lexLt ((slL n R).getD i []) ((slL n R).getD j []));rw [QAd,hx1,QAd,hx2];exact LtD.lsts (SqL.of hq1.1) (SqL.of hq2.1)
   rw [exm] at hpm;generalize ms[argBest (fun i j=>_H.lexLt ((slL n R).getD i []) ((slL n R).getD j [])) (ms.length - 1)]=pm at hpm;refine ⟨QAg _,fun lf hlf=>?_⟩;have sHB:=sHA.trans sB;have hlf0:H lf=none:=sHB.free hlf;have sC:Same HB (upd HB lf (.lst [])):=Same.new hlf;have hfC:(upd HB lf (.lst [])) lf=some (.lst []):=Zb;have hlfn:∀ b o,HB b=some o->b≠lf:=fun b o e z=>by rw [z,hlf] at e; cases e
   generalize upd HB lf (.lst [])=HC at sC hfC ⊢;have sHC:=sHB.trans sC;have hlC:=sC _ _ (sB _ _ hlA);have hlcf:lc≠lf:=hlfn _ _ (sB _ _ hlA);refine ⟨_,rfl,lc,rfl,⟨_,SqL.of hlC⟩,ZcY (xs:=us.map V.ref) (Zed H g n R lc pm lf HC)
    ⟨none,none,[],rfl,sHC,fun _ _ _ e=>e,hfC,.nil⟩ (fun i σ H5 _ zz0=> by obtain ⟨_,_,_,_,_,kp,_,_⟩ := zz0; exact SqL.of (kp _ _ hlcf hlC)) ?_ ?_⟩
   ·rintro i x σ H5 hx ⟨v4,v5,zs,rfl,s5,kp5,hf5,hZ⟩;rw [QAe] at hx
    cases hpi:us[i]? with
    | none=>rw [hpi] at hx; cases hx
    | some p =>
    rw [hpi] at hx
    cases hx;obtain ⟨⟨a,b⟩,hab,qq,hp,hLq⟩:=Paired.getL hUA hpi;have hmem:=QAx hab;obtain ⟨ha,hb,hne⟩:=mem_two.mp hmem;have hp:HA p=some (.tup [.int (a:Int),.ref qq]):=hp;have hLq:LL HA qq (rgs n R a b):=hLq;have k5:∀ b o,HA b=some o->H5 b=some o:=fun b o e=>kp5 b o (hlfn _ _ (sB _ _ e)) (sC _ _ (sB _ _ e))
    have hLq5:LL H5 qq (rgs n R a b):=hLq.same k5;have hfew:=Zet ok hRl ha hb hne;have hin:=Zes ok hRl ha hb hne;refine ⟨p,_,rfl,SqT.of (k5 _ _ hp),rfl,_,_,rfl,_,_,rfl,rfl,?_⟩;refine ⟨_,rfl,qq,_,rfl,hLq5,by exact O362 h1 h6 hgl h2 hfew,fun t H6 ht s6 h6'=>?_⟩;have h6':H6 t=some (.lst ((sl n R a b).map V.int)):=h6';have hpm6:=s6 _ _ (kp5 _ _ (hlfn _ _ hpm.1) (sC _ _ hpm.1));refine ⟨_,rfl,t,pm,_,_,rfl,rfl,SqL.of h6',SqL.of hpm6,.inl ⟨ZO _,ZO _⟩,_,rfl,?_⟩;have hf6:=s6 _ _ hf5;have et:(Y2 n).take (i+1)=(Y2 n).take i++[(a,b)]:=by rw [QCe,hab]; rfl
    have ef:((Y2 n).take (i+1)).flatMap (J8 n R)=((Y2 n).take i).flatMap (J8 n R)++J8 n R (a,b):=by rw [et,QEh,QDo,List.flatMap_nil,QBq]
    by_cases hsl:sl n R a b=Y6 n R
    rotate_left
    ·rw [show (if false=true then !Jn ((sl n R a b).map V.int) ((Y6 n R).map V.int) else Jn ((sl n R a b).map V.int) ((Y6 n R).map V.int))=false by rw [if_neg QAn,ZaB]; exact QZi hsl];refine Zai ⟨_,_,zs,rfl,s5.trans s6,fun b o hb e=>s6 _ _ (kp5 b o hb e),hf6,?_⟩;have eh:J8 n R (a,b)=[]:=by unfold J8; exact if_neg hsl
     rw [ef,eh,QBq];exact Paired.mapP hZ fun _ _ z=>z.same s6
    rw [show (if false=true then !Jn ((sl n R a b).map V.int) ((Y6 n R).map V.int) else Jn ((sl n R a b).map V.int) ((Y6 n R).map V.int))=true by rw [if_neg QAn,ZaB]; exact QZh hsl];refine Zbd ?_;refine ⟨_,rfl,.inl ⟨rfl,_,SqL.of hf6⟩,_,rfl,qq,_,rfl,hLq5.same s6,by exact O361 h1 h6 hgl h2 hfew,by exact O360 h1 h6 hgl h2 hfew,fun c hc=>⟨by have:=(hin c hc).1; exact Om.p1 ‹_›,QAr (hin c hc).2 h6⟩,fun lw H7 hlw s7 hLW=>?_⟩;obtain ⟨os,hos,hO⟩:=hLW;have hO:Paired (fun p (r:List Nat)=>H7 p=some (.lst ((toI r).map V.int))/\p≠lw/\H6 p=none) os (Zo (rgs n R a b).length (rgs n R a b)):=hO;have eh:J8 n R (a,b)=(Zo (rgs n R a b).length (rgs n R a b)).map (Zx n R a):=by unfold J8; exact if_pos hsl
    have hcols:∀ w∈Zo (rgs n R a b).length (rgs n R a b),Cols n w:=fun w hw=>YB ok hRl ha hb (by rw [Zae]; exact hw)
    have hWf:(Zo (rgs n R a b).length (rgs n R a b)).length<=1296:=by
     have:=ZeI ok hRl h6 hmem;rw [eh,QAa] at this;exact this
    generalize Zo (rgs n R a b).length (rgs n R a b)=W at hO eh hcols hWf;have hosl:(os.map V.ref).length=W.length:=by rw [QAa,hO.length]
    have s67:=s6.trans s7;have hf7:=s7 _ _ hf6;have hT7:TG H7 g R:=hT.same (s5.trans s67);refine ⟨lw,rfl,⟨_,SqL.of hos⟩,fun l2 hl2=>?_⟩;refine Z5 (Z1 (xs:=os.map V.ref)) (Zec g n R a H7 W l2)
     ⟨none,[],rfl,rfl,Same.new hl2,Zb,.nil⟩ (fun j ys σ H8 zz0=> by obtain ⟨_,_,_,_,s8,hl,_⟩ := zz0; exact ⟨SqL.of (s8 _ _ hos),hl⟩) ?_ ?_
    ·rintro j y ys σ H8 hj ⟨v0,ks,rfl,rfl,s8,hl8,hK⟩;rw [QAe] at hj
     cases hpj:os[j]? with
     | none=>rw [hpj] at hj; cases hj
     | some ow =>
     rw [hpj] at hj
     cases hj;obtain ⟨wj,hwj,how⟩:=Paired.getL hO hpj;refine ⟨_,rfl,_,rfl,_,rfl,g,ow,n,a,R,wj,rfl,hT7.same s8,ok,hRl,h1,h6,ha,s8 _ _ how.1,hcols wj (QAx hwj),fun t2 H9 ht2 s9 hTG=>?_⟩;have hl9:=s9 _ _ hl8;have hjW:j<W.length:=(QZb.mp hwj).1;have hkl:ks.length=j:=by
      rw [hK.length,QAt,QAa];exact Om.m1 ‹_›
     have up:∀ b row,H9 b=some (.tup row)->(upd H9 l2 (.lst (ks.map V.ref++[.ref t2]))) b=some (.tup row):=fun b row e=>by
      rw [Ze (YE e hl9 (by intro z; cases z))];exact e
     refine ⟨hl9,by rw [QAa,hkl]; exact Jb (by exact Om.b2 ‹_› ‹_› rfl),_,ks++[t2],rfl,by rw [QAm]; rfl,fun b u e=>?_,Zb,?_⟩
     ·rw [Ze (Zg e hl2)];exact s9 _ _ (s8 _ _ e)
     ·have ek:(W.map (Zx n R a)).take (j+1)=(W.map (Zx n R a)).take j++[Zx n R a wj]:=by rw [QCe,QAe,hwj]; rfl
      rw [ek];exact Paired.snoc (Paired.mapP hK fun _ _ z=>(z.same s9).up up) (hTG.up up)
    ·rintro ys σ H8 ⟨v0,ks,rfl,rfl,s8,hl8,hK⟩;rw [hosl,QBc (by rw [QAa]; exact QAc _)] at hK;have hf8:=s8 _ _ hf7;have hkl:ks.length<=1296:=by rw [hK.length,QAa]; exact hWf
     have hzl:zs.length<=36*1296:=by
      rw [hZ.length];refine QAr (Ys (m:=1296) ((Y2 n).take i) fun y hy=>ZeI ok hRl h6 (List.mem_of_mem_take hy)) (QBv ?_ (QAc _));rw [QAt];exact O359 htl hnn htsl husl
     have up:∀ b row,H8 b=some (.tup row)->(upd H8 lf (.lst (zs.map V.ref++ks.map V.ref))) b=some (.tup row):=fun b row e=>by
      rw [Ze (YE e hf8 (by intro z; cases z))];exact e
     have s58:=s67.trans s8;refine ⟨lf,l2,_,_,rfl,rfl,hf8,hl8,QCa (Jb (by rw [QAa,QAa]; exact O358 hkl hzl)),_,_,zs++ks,rfl,fun b u e=>?_,fun b o hb e=>?_,?_,?_⟩
     ·rw [Ze (Zg e hlf0)];exact s58 _ _ (s5 _ _ e)
     ·rw [Ze hb];exact s58 _ _ (kp5 b o hb e)
     ·rw [Zb,QAm]
     ·rw [ef,eh];exact Paired.append (Paired.mapP hZ fun _ _ z=>(z.same s58).up up) (Paired.mapP hK fun _ _ z=>z.up up)
   ·rintro σ H5 ⟨v4,v5,zs,rfl,s5,kp5,hf5,hZ⟩;rw [husl,QBc (QAc _),<- eH] at hZ;exact ⟨_,rfl,q lf H5 hlf0 s5 ⟨zs,hf5,hZ⟩⟩
end
structure Zlp (n:Nat) (R F h:LI):Prop where
 mem:∃ i:Nat,(Zw n R)[i]? = some h/\∀ j g,j<i->(Zw n R)[j]? = some g->ZY n R g≠F
 is:ZY n R h=F
 least:∀ g∈Zw n R,ZbY (ZY n R g) F=false
theorem Zbh {n:Nat} {R:LI} (ok:OkRows n R) (hl:R.length=n) (h1:1<=n) {g:LI} (hg:g∈Zw n R):Ren n g:=by
 by_cases e:n=1
 ·subst e;unfold Zw at hg;rw [if_pos rfl,QCy] at hg;rw [hg];exact Zbs 1
 ·obtain ⟨a,b,w,hp,rfl⟩:=(ZcV (by exact O342 h1 e)).mp hg;exact JT ok hl (hp.cols ok hl) h1 hp.ha
theorem ZdV:∀ (F G:List Int) (k i:Nat),F.length=G.length->F.length - i=k->i<=F.length->Ja (fun j=>decide (F.getD j 0=G.getD j 0)) (fun j=>decide (F.getD j 0<G.getD j 0)) k i=ZbX (F.drop i) (G.drop i)
 | F,G,0,i,hl,hk,hi=>by
  rw [QCd (by exact O357 hl hk),QCd (by exact O356 hl hk)]
  rfl
 | F,G,k+1,i,hl,hk,hi=>by
  have h1:i<F.length:=by exact O355 hl hk hi
  have h2:i<G.length:=by exact Om.a2 ‹_› ‹_›
  have g1:F.getD i 0=F[i]:=by rw [QAd,QAb h1]; rfl
  have g2:G.getD i 0=G[i]:=by rw [QAd,QAb h2]; rfl
  rw [Ja,QBk h1,QBk h2];unfold ZbX;rw [Jq,g1,g2]
  by_cases e:F[i]=G[i]
  ·rw [if_pos (QZh e),if_pos e];exact ZdV F G k (i+1) hl (by exact O354 hl hk h1 h2) h1
  ·rw [if_neg (by rw [QZg]; exact e),if_neg e]
   rfl
section
variable {K:QZa}
theorem _root_._L.LtD.cast {H:Hp} {d:Nat} {x y:V} {b b':Bool} (h:LtD K H d x y b) (e:b=b'):LtD K H d x y b':=e ▸ h
theorem Zlc {H:Hp} {d:Nat} (x y:Int):EqD K H d (.int x) (.int y) (decide (x=y)) :=
 (EqD.flat (x:=.int x) (y:=.int y) rfl rfl).cast (by show (x==y)=decide (x=y); rw [QBj,beq_iff_eq,QZg])
theorem ZeL {H:Hp} {d:Nat} {a c:Addr} {xs ys:List Int} (h1:SqT K H a (xs.map V.int)) (h2:SqT K H c (ys.map V.int)):EqD K H (d+1) (.ref a) (.ref c) (decide (xs=ys)) :=
 (Zlb h1 h2 (ZO _) (ZO _)).cast (ZaB xs ys)
theorem Zcc {xs:List Int} {i:Nat} {u:V} (h:(xs.map V.int)[i]? = some u):u = .int (xs.getD i 0):=by
 rw [QAe] at h
 cases e:xs[i]? with
 | none=>rw [e] at h; cases h
 | some x =>
  rw [e] at h
  cases h;rw [QAd,e]
  rfl
theorem ZkX {H:Hp} {d:Nat} {a c:Addr} {xs ys:List Int} (h1:SqT K H a (xs.map V.int)) (h2:SqT K H c (ys.map V.int)) (hl:xs.length=ys.length):LtD K H (d+1) (.ref a) (.ref c) (ZbX xs ys):=by
 refine (LtD.tups (e:=fun j=>decide (xs.getD j 0=ys.getD j 0)) (r:=fun j=>decide (xs.getD j 0<ys.getD j 0)) h1 h2 (by rw [QAa,QAa,hl]) (fun i u v hu hv=>?_) (fun i u v hu hv _=>?_)).cast ?_
 ·rw [Zcc hu,Zcc hv];exact Zlc _ _
 ·rw [Zcc hu,Zcc hv];exact LtD.nums _ _
 ·rw [QAa];exact ZdV xs ys xs.length 0 hl (Nat.sub_zero _) (QAg _)
theorem Zas {H:Hp} {ps:List Addr} {F:LI} (r:Paired (fun p (r:List Int)=>H p=some (.tup (r.map V.int))) ps F) {i:Nat} {u:V} (h:(ps.map V.ref)[i]? = some u):∃ p,u = .ref p/\H p=some (.tup ((F.getD i []).map V.int))/\F[i]? = some (F.getD i []):=by
 rw [QAe] at h
 cases e:ps[i]? with
 | none=>rw [e] at h; cases h
 | some p =>
  rw [e] at h
  cases h;obtain ⟨l,hl,hp⟩:=Paired.getL r e;refine ⟨p,rfl,?_⟩;rw [QAd,hl];exact ⟨hp,rfl⟩
theorem Zmx {H:Hp} {n:Nat} {a c:Addr} {F G:LI} (x:TG H a F) (y:TG H c G) (hF:OkRows n F) (hG:OkRows n G) (l1:F.length=n) (l2:G.length=n):LtD K H 2 (.ref a) (.ref c) (ZbY F G):=by
 obtain ⟨ps,h1,r1⟩:=x;obtain ⟨qs,h2,r2⟩:=y;have e1:(ps.map V.ref).length=F.length:=by rw [QAa,r1.length]
 have e2:(qs.map V.ref).length=G.length:=by rw [QAa,r2.length]
 refine (LtD.tups (d:=1) (e:=fun j=>decide (F.getD j []=G.getD j [])) (r:=fun j=>ZbX (F.getD j []) (G.getD j [])) (SqT.of h1) (SqT.of h2) (by exact O353 l1 l2 e1 e2) (fun i u v hu hv=>?_) (fun i u v hu hv _=>?_)).cast ?_
 ·obtain ⟨p,rfl,hp,_⟩:=Zas r1 hu;obtain ⟨q,rfl,hq,_⟩:=Zas r2 hv;exact ZeL (SqT.of hp) (SqT.of hq)
 ·obtain ⟨p,rfl,hp,m1⟩:=Zas r1 hu;obtain ⟨q,rfl,hq,m2⟩:=Zas r2 hv;exact ZkX (SqT.of hp) (SqT.of hq) (by rw [(hF.row _ (QAx m1)).1,(hG.row _ (QAx m2)).1])
 ·rw [e1];exact ZfA F G F.length 0 (by exact Om.g2 ‹_› ‹_›) (Nat.sub_zero _) (QAg _)
theorem ZjT {H:Hp} {a c:Addr} {F G:LI} (x:TG H a F) (y:TG H c G):EqD K H 2 (.ref a) (.ref c) (decide (F=G)):=by
 obtain ⟨ps,h1,r1⟩:=x;obtain ⟨qs,h2,r2⟩:=y;have e1:(ps.map V.ref).length=F.length:=by rw [QAa,r1.length]
 have e2:(qs.map V.ref).length=G.length:=by rw [QAa,r2.length]
 refine (EqD.tups (d:=1) (e:=fun j=>decide (F.getD j []=G.getD j [])) (SqT.of h1) (SqT.of h2) (fun i u v hu hv=>?_)).cast ?_
 ·obtain ⟨p,rfl,hp,_⟩:=Zas r1 hu;obtain ⟨q,rfl,hq,_⟩:=Zas r2 hv;exact ZeL (SqT.of hp) (SqT.of hq)
 ·rw [e1,e2,QBj,QAv,QZg,QZg,QBh]
  constructor
  ·rintro ⟨hl,h⟩;refine QBs hl fun i i1 i2=>?_;have:=h i (QZe.mpr i1);rw [QAv,QZg,QZg] at this;have h3:=this.2;rw [QAd,QAb i1,QAd,QAb i2] at h3;exact h3
  ·rintro rfl;exact ⟨rfl,fun i hi=>by rw [QAv,QZg,QZg]; exact ⟨QZe.mp hi,rfl⟩⟩
end
theorem Zfx {n:Nat} {R:LI} (ok:OkRows n R) (hl:R.length=n) (h6:n<=6):(Zw n R).length<=36*1296:=by
 unfold Zw
 split
 ·decide
 ·refine QAr (Ys (m:=1296) (Y2 n) fun y hy=>ZeI ok hl h6 hy) (QBv ?_ (QAc _));exact QAr (Zhb n) (QBv h6 h6)
theorem ZjJ {n:Nat} {R:LI} (ok:OkRows n R) (hl:R.length=n) (h1:1<=n):0<(Zw n R).length:=by
 by_cases e:n=1
 ·unfold Zw;rw [if_pos e]
  decide
 ·have h2:2<=n:=by exact O342 h1 e
  obtain ⟨l1,_⟩:=Zfv (R:=R) h2;obtain ⟨⟨a,b⟩,hab,e2⟩:=QZd.mp l1;obtain ⟨ha,hb,hne⟩:=mem_two.mp hab;have v:=Yt (YA ok hl ha hb);obtain ⟨w,hw⟩:=Zbn (s:=sF R a b) (f:=(rgs n R a b).length) (C:=rgs n R a b) (fun c hc=>(v.cy c hc).pos) (QAc _);have:Zx n R a w∈Zw n R:=by
   unfold Zw;rw [if_neg e];refine QZp.mpr ⟨(a,b),hab,?_⟩;unfold J8;rw [if_pos e2];exact QZd.mpr ⟨w,hw,rfl⟩
  exact QDj this
structure LeadOf (n:Nat) (R F:LI) (L:List LI):Prop where
 all:L=(Zw n R).filter fun g=>decide (ZY n R g=F)
 mem:∃ g∈Zw n R,ZY n R g=F
 least:∀ g∈Zw n R,ZbY (ZY n R g) F=false
theorem Zbj {α:Type} (p:α->Bool):∀ (l:List α),(∃ x∈l,p x=true)->∃ (h:α) (i:Nat),(l.filter p)[0]? = some h/\l[i]? = some h/\p h=true/\∀ j g,j<i->l[j]? = some g->p g=false
 | [],h=>by
  obtain ⟨_,hx,_⟩:=h
  cases hx
 | x::l,h=>by
  by_cases e:p x=true
  ·exact ⟨x,0,by rw [QDr e]; rfl,rfl,e,fun j g hj _=>absurd hj (QCc j)⟩
  ·have:∃ y∈l,p y=true:=by
    obtain ⟨y,hy,py⟩:=h
    cases hy with
    | head=>exact absurd py e
    | tail _ hy=>exact ⟨y,hy,py⟩
   obtain ⟨h,i,h1,h2,h3,h4⟩:=Zbj p l this;refine ⟨h,i+1,by rw [QDs e]; exact h1,h2,h3,fun j g hj hg=>?_⟩
   cases j with
   | zero =>
    cases hg;exact Bool.eq_false_iff.mpr e
   | succ j=>exact h4 j g (by exact O352 hj) hg
theorem LeadOf.plain {n:Nat} {R F:LI} {L:List LI} (z:LeadOf n R F L):∃ h,L[0]? = some h/\Zlp n R F h:=by
 obtain ⟨g,hg,e⟩:=z.mem;obtain ⟨h,i,h1,h2,h3,h4⟩:=Zbj (fun g=>decide (ZY n R g=F)) (Zw n R) ⟨g,hg,QZh e⟩;rw [<- z.all] at h1;exact ⟨h,h1,⟨⟨i,h2,fun j g hj hg=>of_decide_eq_false (h4 j g hj hg)⟩,QZj h3,z.least⟩⟩
def PrR (H:Hp) (n:Nat) (R:LI) (p:Addr) (g:LI):Prop:=∃ a b:Addr,H p=some (.tup [.ref a,.ref b])/\TG H a (ZY n R g)/\TG H b g
theorem PrR.up {H H':Hp} {n:Nat} {R:LI} {p:Addr} {g:LI} (c:PrR H n R p g) (f:∀ b row,H b=some (.tup row)->H' b=some (.tup row)):PrR H' n R p g :=
 let ⟨a,b,h1,h2,h3⟩:=c
 ⟨a,b,f _ _ h1,h2.up f,h3.up f⟩
inductive Zh2 (vs:List V) (H:Hp) (Q:VK):Prop where
 | mk (g:Addr) (n:Nat) (R:LI) (_:vs=[.ref g]) (_:TG H g R) (_:OkRows n R) (_:R.length=n) (_:1<=n) (_:n<=6) (_:∀ t p l H' F L,Same H H'->H' t=some (.tup [.ref p,.ref l])->TG H' p F->RL H' l L->LeadOf n R F L->Q (.ref t) H'):Zh2 vs H Q
def ZiV:Sp:=fun vs H Q _=>Zh2 vs H Q
section
variable {P:Program} {w:World} {K:QZa} {mg:Str->Option Value} {base:Heap}
variable {fS fU fF fR fL fW fT fA:Addr} {dS dU dF dR dL dW dT dA:FuncData}
theorem scLead:Zt ["square","told","form"] ["square"] (Zi Zaa):=Fs
inductive Zeb (g:Addr) (n:Nat) (R:LI) (H1:Hp) (lc:Addr) (j:Nat) (ys:List V) (σ:St) (H2:Hp):Prop where
 | mk (v0:Option V) (us:List Addr) (_:σ=[v0,some (.ref g)]) (_:ys=us.map V.ref) (_:Same H1 H2) (_:H2 lc=some (.lst ys)) (_:Paired (fun p x=>PrR H2 n R p x) us ((Zw n R).take j)):Zeb g n R H1 lc j ys σ H2
inductive Zea (n:Nat) (R:LI) (HA:Hp) (lm:Addr) (j:Nat) (ys:List V) (σ:St) (H2:Hp):Prop where
 | mk (v0 v1:Option V) (ms:List Addr) (_:σ=[v0,v1]) (_:ys=ms.map V.ref) (_:Same HA H2) (_:H2 lm=some (.lst ys)) (_:Paired (fun p x=>TG H2 p (ZY n R x)) ms ((Zw n R).take j)):Zea n R HA lm j ys σ H2
inductive Zd9 (n:Nat) (R:LI) (HB:Hp) (pm:Addr) (FF:LI) (lf:Addr) (j:Nat) (ys:List V) (σ:St) (H2:Hp):Prop where
 | mk (v0 v1:Option V) (zs:List Addr) (_:σ=[v0,v1,some (.ref pm)]) (_:ys=zs.map V.ref) (_:Same HB H2) (_:H2 lf=some (.lst ys)) (_:zs.length<=j) (_:Paired (fun p x=>TG H2 p x) zs (((Zw n R).take j).filter fun x=>decide (ZY n R x=FF))):Zd9 n R HB pm FF lf j ys σ H2
set_option maxHeartbeats 1000000 in
theorem ZhB {f fH fM fN fE:Addr} {fd dH dM dN dE:FuncData} (F:Fun K "leading" "leading" Zaa f fd) (T:Blt mg) (Z:HpD K mg fS fU fF fR fL fW fT fA dS dU dF dR dL dW dT dA) (DH:Dfn K mg "hopeful" Zab ["square"] fH dH) (DM:Dfn K mg "renamed" ZaW ["begun","renaming"] fM dM) (DN:Dfn K mg "undone" Zap ["renaming"] fN dN) (DE:Dfn K mg "entry_renamed" Zco ["entry","things"] fE dE):FnOk P w K mg base CX0 6 f fd ["square"] ZiV:=by
 have GH:FnOk P w K mg base CX0 5 fH dH ["square"] ZiW:=ZkO DH.F T Z;have GM:FnOk P w K mg base CX0 5 fM dM ["begun","renaming"] Zao:=(ZgH DM.F T DN Z.U DE).mono (by decide);refine F.ok scLead (fun vs H Q E h=>?_) (fun cdv A outer s H vs Q E hr h=>?_)
 ·obtain ⟨_,_,_,rfl,_⟩:=h
  rfl
 ·obtain ⟨g,n,R,rfl,hT,ok,hRl,h1,h6,q⟩:=h;have hu:=huK hr 2;have hu1:((A.deeper (PyProof.Rows.envOfC "leading" (Zi Zaa) s.heap.objs.size f cdv))).units+1+2<cLine:=by have:=hr.un; omega
  refine' ⟨_,Zd ?s1 (Zd ?s2 (Zf (Zu ?s3))),?rd⟩
  case s1=>exact ZdD (i:=1) ["renaming","square"] [none,some 0] scLead.nd rfl (Or.inl rfl) rfl rfl (Z2 K (Zm GH hr rfl DH.m DH.F.kp DH.b .nil ZK (Za (pv 0) Zc))) (fun _ _ _ _ _=>Yu 0) (fun _ _ _ _ _=>ZA) (fun _ _ _ _ _=>ZaK (Za (Zm GM hr rfl DM.m DM.F.kp DM.b .nil ZK (Za (pv 1) (Za (pv 0) Zc))) (Za (pv 0) Zc)))
  case s2=>exact Zj (i:=2) scLead.nd rfl (Or.inr rfl) (Zl (ZfM (d:=2) K rfl hu1) rfl T.min Zg6 (Za (Yq ["one","renaming"] [none,none] rfl rfl (Z2 K (pv 1)) (fun _ _ _ _ _=>Zaw (n:=2) K rfl (ZX (Yu 0) (ZX (Yu 1) JD))) (fun _ _ _ _ _=>ZA) (fun _ _ _ _ _=>pv 0)) Zc))
  case s3=>exact ZaK (Za (pv 2) (Za (Yq ["one","renaming","form"] [none,none,some 2] rfl rfl (Z2 K (pv 1)) (fun _ _ _ _ _=>Zaw (n:=2) K rfl (ZX (Yu 0) (ZX (Yu 1) JD))) (fun _ _ _ _ _=>Zat (ZJ (Zmp (d:=2) hu K) (pv 0) (pv 2) (Z7 _))) (fun _ _ _ _ _=>pv 1)) Zc))
  case rd =>
   refine ⟨_,rfl,g,n,R,rfl,hT,ok,hRl,h1,h6,fun lh H1 hlh s1 hRL=>?_⟩;obtain ⟨hs,hhs,hHs⟩:=hRL;have hhl:(hs.map V.ref).length=(Zw n R).length:=by rw [QAa,hHs.length]
   have hbd:=Zfx ok hRl h6;have hpos:=ZjJ ok hRl h1;have hT1:=hT.same s1;refine ⟨lh,rfl,⟨_,SqL.of hhs⟩,fun lc hlc=>?_⟩;refine Z5 (Z1 (xs:=hs.map V.ref)) (Zeb g n R H1 lc)
    ⟨none,[],rfl,rfl,Same.new hlc,Zb,.nil⟩ (fun j ys σ H2 zz0=> by obtain ⟨_,_,_,_,s2,hl,_⟩ := zz0; exact ⟨SqL.of (s2 _ _ hhs),hl⟩) ?_ ?_
   ·rintro j x ys σ H2 hj ⟨v0,us,rfl,rfl,s2,hl2,hU⟩;rw [QAe] at hj
    cases hpj:hs[j]? with
    | none=>rw [hpj] at hj; cases hj
    | some pr =>
    rw [hpj] at hj
    cases hj;obtain ⟨rj,hrj,hpr⟩:=Paired.getL hHs hpj;have rn:=Zbh ok hRl h1 (QAx hrj);refine ⟨_,rfl,_,rfl,g,pr,n,_,rj,rfl,(hT1.same s2).grid,Zbf ok hRl,hpr.same s2,rn,h1,by exact Om.b1 ‹_› rfl,fun tm H3 s3 hG3=>?_⟩;rw [Jf ok hRl rn] at hG3;have hTm:=GridT.tg hG3;refine ⟨_,rfl,(show 2<=sizeLine from Zq (by decide)),fun t ht=>?_⟩;have s4:Same H3 (upd H3 t (.tup [.ref tm,.ref pr])):=Same.new ht;have g4:(upd H3 t (.tup [.ref tm,.ref pr])) t=some (.tup [.ref tm,.ref pr]):=Zb;generalize upd H3 t (.tup [.ref tm,.ref pr])=H4 at s4 g4 ⊢;have s34:=s3.trans s4;have hl4:=s34 _ _ hl2;have hjl:=(QZb.mp hrj).1;have hul:us.length=j:=by
     rw [hU.length,QAt];exact Om.m1 ‹_›
    have up:∀ b row,H4 b=some (.tup row)->(upd H4 lc (.lst (us.map V.ref++[.ref t]))) b=some (.tup row):=fun b row e=>by
     rw [Ze (YE e hl4 (by intro z; cases z))];exact e
    refine ⟨hl4,by rw [QAa,hul]; exact Jb (by exact Om.b2 ‹_› ‹_› rfl),_,us++[t],rfl,by rw [QAm]; rfl,fun b u e=>?_,Zb,?_⟩
    ·rw [Ze (Zg e hlc)];exact s34 _ _ (s2 _ _ e)
    ·have et:(Zw n R).take (j+1)=(Zw n R).take j++[rj]:=by rw [QCe,hrj]; rfl
     rw [et];exact Paired.snoc (Paired.mapP hU fun _ _ z=>z.up fun b row e=>up b row (s34 _ _ e)) (PrR.up (H:=H4) ⟨tm,pr,g4,hTm.same s4,(hpr.same s2).same s34⟩ up)
   rintro ys σ HA ⟨v0,us,rfl,rfl,sA,hlA,hU⟩;rw [hhl,QBc (QAc _)] at hU;have sHA:=s1.trans sA;have husl:(us.map V.ref).length=(Zw n R).length:=by rw [QAa,hU.length]
   refine ⟨_,rfl,lc,rfl,⟨_,SqL.of hlA⟩,fun lm hlm=>?_⟩;refine Z5 (Z1 (xs:=us.map V.ref)) (Zea n R HA lm)
    ⟨none,none,[],rfl,rfl,Same.new hlm,Zb,.nil⟩ (fun j ys σ H2 zz0=> by obtain ⟨_,_,_,_,_,s2,hl,_⟩ := zz0; exact ⟨SqL.of (s2 _ _ hlA),hl⟩) ?_ ?_
   ·rintro j x ys σ H2 hj ⟨v0,v1,ms,rfl,rfl,s2,hl2,hM⟩;rw [QAe] at hj
    cases hpj:us[j]? with
    | none=>rw [hpj] at hj; cases hj
    | some p =>
    rw [hpj] at hj
    cases hj;obtain ⟨rj,hrj,ta,tb,hp,hta,htb⟩:=Paired.getL hU hpj;refine ⟨p,_,rfl,SqT.of (s2 _ _ hp),rfl,_,_,rfl,_,_,rfl,rfl,?_⟩;have hjl:=(QZb.mp hrj).1;have hml:ms.length=j:=by
     rw [hM.length,QAt];exact Om.m1 ‹_›
    have up:∀ b row,H2 b=some (.tup row)->(upd H2 lm (.lst (ms.map V.ref++[.ref ta]))) b=some (.tup row):=fun b row e=>by
     rw [Ze (YE e hl2 (by intro z; cases z))];exact e
    refine ⟨_,rfl,hl2,by rw [QAa,hml]; exact Jb (by exact Om.b2 ‹_› ‹_› rfl),_,_,ms++[ta],rfl,by rw [QAm]; rfl,fun b u e=>?_,Zb,?_⟩
    ·rw [Ze (Zg e hlm)];exact s2 _ _ e
    ·have et:(Zw n R).take (j+1)=(Zw n R).take j++[rj]:=by rw [QCe,hrj]; rfl
     rw [et];exact Paired.snoc (Paired.mapP hM fun _ _ z=>z.up up) ((hta.same s2).up up)
   rintro ys σ HB ⟨v0,v1,ms,rfl,rfl,sB,hlB,hM⟩;rw [husl,QBc (QAc _)] at hM;have hml:ms.length=(Zw n R).length:=hM.length;obtain ⟨hbl,hbm⟩:=Zda Zjg (fun i=>ZY n R ((Zw n R).getD i [])) ((Zw n R).length - 1);have hbi:argBest (fun i j=>ZbY (ZY n R ((Zw n R).getD i [])) (ZY n R ((Zw n R).getD j []))) (ms.length - 1)<ms.length:=by rw [hml]; exact O351 hhl hbd hpos husl hml hbl
   obtain ⟨xm,hxm,hpm⟩:=Paired.getL hM (QAb hbi);have hleast:∀ x∈Zw n R,ZbY (ZY n R x) (ZY n R xm)=false:=fun x hx=>by
    obtain ⟨i,hi,rfl⟩:=QBd hx;have h3:=hbm i (by exact Om.q2 ‹_›);rw [<- hml] at h3;have e3:(Zw n R).getD (argBest (fun i j=>ZbY (ZY n R ((Zw n R).getD i [])) (ZY n R ((Zw n R).getD j []))) (ms.length - 1)) []=xm:=by rw [QAd,hxm]; rfl
    have e4:(Zw n R).getD i []=(Zw n R)[i]:=by rw [QAd,QAb hi]; rfl
    rw [e3,e4] at h3;exact h3
   have hxmm:=QAx hxm;refine ⟨lm,ms,fun i j=>ZbY (ZY n R ((Zw n R).getD i [])) (ZY n R ((Zw n R).getD j [])),_,rfl,SqL.of hlB,by exact Om.a1 ‹_› ‹_›,fun i j p p' hi hj=>?_,QAb hbi,?_⟩
   ·obtain ⟨x1,hx1,hq1⟩:=Paired.getL hM hi;obtain ⟨x2,hx2,hq2⟩:=Paired.getL hM hj;obtain ⟨o1,l1⟩:=YR ok hRl (Zbh ok hRl h1 (QAx hx1));obtain ⟨o2,l2⟩:=YR ok hRl (Zbh ok hRl h1 (QAx hx2));show LtD K HB 2 (.ref p) (.ref p') (ZbY (ZY n R ((Zw n R).getD i [])) (ZY n R ((Zw n R).getD j [])));rw [QAd,hx1,QAd,hx2];exact Zmx hq1 hq2 o1 o2 l1 l2
   generalize ms[argBest (fun i j=>ZbY (ZY n R ((Zw n R).getD i [])) (ZY n R ((Zw n R).getD j []))) (ms.length - 1)]=pm at hpm;clear hbm hbi hxm hbl;generalize eF:ZY n R xm=FF at hpm hleast;refine ⟨_,rfl,_,rfl,lc,rfl,⟨_,SqL.of (sB _ _ hlA)⟩,fun lf hlf=>?_⟩;have hlB2:=sB _ _ hlA;refine Z5 (Z1 (xs:=us.map V.ref)) (Zd9 n R HB pm FF lf)
    ⟨none,none,[],rfl,rfl,Same.new hlf,Zb,QAc _,.nil⟩ (fun j ys σ H2 zz0=> by obtain ⟨_,_,_,_,_,s2,hl,_,_⟩ := zz0; exact ⟨SqL.of (s2 _ _ hlB2),hl⟩) ?_ ?_
   ·rintro j x ys σ H2 hj ⟨v0,v1,zs,rfl,rfl,s2,hl2,hzl,hZ⟩;rw [QAe] at hj
    cases hpj:us[j]? with
    | none=>rw [hpj] at hj; cases hj
    | some p =>
    rw [hpj] at hj
    cases hj;obtain ⟨rj,hrj,ta,tb,hp,hta,htb⟩:=Paired.getL hU hpj;have sB2:=sB.trans s2;refine ⟨p,_,rfl,SqT.of (sB2 _ _ hp),rfl,_,_,rfl,_,_,rfl,rfl,?_⟩;have hjl:=(QZb.mp hrj).1;have et:(Zw n R).take (j+1)=(Zw n R).take j++[rj]:=by rw [QCe,hrj]; rfl
    refine ⟨_,rfl,_,rfl,_,ZjT (hta.same sB2) (hpm.same s2),_,rfl,?_⟩
    by_cases e:ZY n R rj=FF
    ·rw [if_neg QAn,QZh e];refine Zbd ?_;have up:∀ b row,H2 b=some (.tup row)->(upd H2 lf (.lst (zs.map V.ref++[.ref tb]))) b=some (.tup row):=fun b row e=>by
      rw [Ze (YE e hl2 (by intro z; cases z))];exact e
     refine ⟨_,rfl,hl2,by rw [QAa]; exact Jb (by exact O350 hhl hbd hpos husl hml hzl hjl),_,_,zs++[tb],rfl,by rw [QAm]; rfl,fun b u e=>?_,Zb,by rw [QAo,QDf]; exact O349 hzl,?_⟩
     ·rw [Ze (Zg e hlf)];exact s2 _ _ e
     ·rw [et,List.filter_append,QDr (by exact QZh e),List.filter_nil];exact Paired.snoc (Paired.mapP hZ fun _ _ z=>z.up up) ((htb.same sB2).up up)
    ·rw [if_neg QAn,QZi e];refine Zai ⟨_,_,zs,rfl,rfl,s2,hl2,by exact O348 hzl,?_⟩;rw [et,List.filter_append,QDs (by rw [QZg]; exact e),List.filter_nil,QBq];exact hZ
   rintro ys σ HC ⟨v0,v1,zs,rfl,rfl,sC,hlC,_,hZ⟩;rw [husl,QBc (QAc _)] at hZ;refine ⟨(show 2<=sizeLine from Zq (by decide)),fun t ht=>?_⟩;have s5:Same HC (upd HC t (.tup [.ref pm,.ref lf])):=Same.new ht;exact q t pm lf _ FF _ (sHA.trans (sB.trans (sC.trans s5))) Zb (hpm.same (sC.trans s5)) ⟨zs,s5 _ _ hlC,Paired.mapP hZ fun _ _ z=>z.same s5⟩ ⟨rfl,⟨xm,hxmm,eF⟩,hleast⟩
end
inductive Zd7 (vs:List V) (H:Hp) (Q:VK):Prop where
 | mk (a b:Addr) (n:Nat) (R S:LI) (_:vs=[.ref a,.ref b]) (_:TG H a R) (_:TG H b S) (_:Ren n R) (_:Ren n S) (_:1<=n) (_:n<=8) (_:∀ t H',Same H H'->TG H' t (YD R S)->Q (.ref t) H'):Zd7 vs H Q
def ZeY:Sp:=fun vs H Q _=>Zd7 vs H Q
inductive ZlJ (vs:List V) (H:Hp) (Q:VK):Prop where
 | mk (a b:Addr) (n:Nat) (r s:List Int) (_:vs=[.ref a,.ref b]) (_:H a=some (.tup (r.map V.int))) (_:H b=some (.tup (s.map V.int))) (_:Turn n r) (_:Turn n s) (_:n<=8) (_:∀ t H',Same H H'->H t=none->H' t=some (.tup ((cmp r s).map V.int))->Q (.ref t) H'):ZlJ vs H Q
def Zng:Sp:=fun vs H Q _=>ZlJ vs H Q
section
variable {P:Program} {w:World} {K:QZa} {mg:Str->Option Value} {base:Heap}
theorem Zn3:Zt ["one","other"] ["one","other"] (Zi JC):=Fs
theorem Zdj {f:Addr} {fd:FuncData} (F:Fun K "turn_behind" "turn_behind" JC f fd) (T:Blt mg):FnOk P w K mg base CX0 1 f fd ["one","other"] Zng:=by
 refine F.ok Zn3 (fun vs H Q E h=>?_) (fun cdv A outer s H vs Q E hr h=>?_)
 ·obtain ⟨_,_,_,_,_,rfl,_⟩:=h
  rfl
 ·obtain ⟨a,b,n,r,s,rfl,ha,hb,tr,ts,h8,q⟩:=h;refine ⟨_,Zf (Zu (Zp (Zv K) rfl T.tuple ZL (Za (Yq ["number","other"] [none,some 1] rfl rfl (Za6 K (pv 0)) (fun _ _ _ _ _=>Yu 0) (fun _ _ _ _ _=>ZA) (fun _ _ _ _ _=>ZD (ZM K) (pv 1) (pv 0) (fun _ _=>rfl))) Zc))),?_⟩;refine ⟨_,rfl,a,rfl,⟨_,SqT.of ha⟩,fun l hl=>ZB (fun i=>some (.int (s.getD (r.getD i 0).toNat 0))) (fun σ=>∃ v,σ=[v,some (.ref b)]) (Zb0 (xs:=r.map V.int)) (by rw [QAa,tr.len]; exact Zq (by exact Om.b1 ‹_› rfl)) hl (fun H' sm=>SqT.of (sm _ _ ha)) ⟨none,rfl⟩ ?_ ?_⟩
  ·rintro j x σ H' R' hj ⟨v,rfl⟩ sm kk;have hjn:j<n:=by
    have:=(QZb.mp hj).1;rw [QAa,tr.len] at this;exact this
   obtain ⟨x',hx',hxn⟩:=tr.val hjn;have ej:x = .int (x':Int):=by
    rw [QAe,QAb (by rw [tr.len]; exact hjn)] at hj;rw [ZE (by rw [tr.len]; exact hjn)] at hx';rw [hx'] at hj
    cases hj
    rfl
   subst ej;refine ⟨_,rfl,_,rfl,b,_,_,_,rfl,rfl,SqT.of (sm _ _ hb),Jz (i:=x') (by rw [ts.len]; exact hxn),?_⟩;have:=kk [some (.int (x':Int)),some (.ref b)] H' ⟨_,rfl⟩ (Same.refl _)
   simp only [hx',QAf] at this;exact this
  ·intro H2 s2 h2;have e0:(List.range (r.map V.int).length).filterMap (fun i:Nat=>some (V.int (s.getD (r.getD i 0).toNat 0)))=(cmp r s).map V.int:=by
    rw [YI,QAa];refine QBs (by rw [QAa,QAq,QAa,Je]) fun i e1 e2=>?_;rw [QAa,QAq] at e1;rw [QBu,QDm,QBu,<- ZE,YV tr (by rw [<- tr.len]; exact e1)]
   rw [e0] at h2;exact ⟨l,_,rfl,.inl ⟨SqL.of h2,fun t ht=>q t _ (s2.trans (Same.new ht)) (s2.free ht) Zb⟩⟩
theorem ZiZ:Zt ["one","other"] ["one","other"] (Zi Zb5):=Fs
inductive Zf5 (H:Hp) (R:LI) (S:LI) (lz:Addr) (i:Nat) (ys:List V) (σ:St) (H4:Hp):Prop where
 | mk (v0 v1:Option V) (zs:List Addr) (_:σ=[v0,v1]) (_:ys=zs.map V.ref) (_:Same H H4) (_:H4 lz=some (.lst ys)) (_:Paired (fun q (r:List Int)=>H4 q=some (.tup (r.map V.int))) zs ((YD R S).take i)):Zf5 H R S lz i ys σ H4
theorem ZdG {f fB:Addr} {fd dB:FuncData} (F:Fun K "behind" "behind" Zb5 f fd) (T:Blt mg) (DB:Dfn K mg "turn_behind" JC ["one","other"] fB dB):FnOk P w K mg base CX0 2 f fd ["one","other"] ZeY:=by
 have GB:FnOk P w K mg base CX0 1 fB dB ["one","other"] Zng:=Zdj DB.F T;refine F.ok ZiZ (fun vs H Q E h=>?_) (fun cdv A outer s H vs Q E hr h=>?_)
 ·obtain ⟨_,_,_,_,_,rfl,_⟩:=h
  rfl
 ·obtain ⟨a,b,n,R,S,rfl,hA,hB,rR,rS,h1,h8,q⟩:=h;refine ⟨_,Zf (Zu (Zp (Zv K) rfl T.tuple ZL (Za (Yq ["first","second"] [none,none] rfl rfl (ZkF K rfl T.zip (Za (pv 0) (Za (pv 1) Zc))) (fun _ _ _ _ _=>Zaw (n:=2) K rfl (ZX (Yu 0) (ZX (Yu 1) JD))) (fun _ _ _ _ _=>ZA) (fun _ _ _ _ _=>Zm GB hr rfl DB.m DB.F.kp DB.b .nil ZK (Za (pv 0) (Za (pv 1) Zc)))) Zc))),?_⟩;obtain ⟨ps,hps,hPs⟩:=id hA;obtain ⟨qs,hqs,hQs⟩:=id hB;have lp:(ps.map V.ref).length=3:=by rw [QAa,hPs.length,rR.len]
  have lq:(qs.map V.ref).length=3:=by rw [QAa,hQs.length,rS.len]
  have lb:(YD R S).length=3:=by unfold YD; rw [QAa,QAq]
  refine ⟨_,rfl,_,rfl,a,b,_,_,rfl,SqT.of hps,SqT.of hqs,fun lz hlz=>?_⟩;refine Zj4 (n:=3) (Y:=fun i H v H'=>∃ p x y,v = .ref p/\H p=none/\(ps.map V.ref)[i]? = some x/\(qs.map V.ref)[i]? = some y/\H'=upd H p (.tup [x,y])) (P:=fun H'=>SqT K H' a (ps.map V.ref)/\SqT K H' b (qs.map V.ref))
   (fun i H' h hi=>⟨_,_,(ps.map V.ref)[i]'(by exact Om.a1 ‹_› ‹_›),(qs.map V.ref)[i]'(by exact Om.a1 ‹_› ‹_›),h.1,h.2,QAb _,QAb _⟩)
   (fun i H' v H'' h zz0 _=> by obtain ⟨p,x,y,e1,e2,e3,e4,e5⟩ := zz0; exact ⟨p,x,y,e1,e2,e3 _ h.1,e4 _ h.2,e5⟩) (fun i H' h hi=>⟨_,_,h.1,h.2,.inl (by exact Om.l4 ‹_› ‹_›)⟩)
   (Zf5 H R S lz)
   ⟨none,none,[],rfl,rfl,Same.new hlz,Zb,.nil⟩ (fun i ys σ H4 zz0=> by obtain ⟨_,_,_,_,_,s4,hl,_⟩ := zz0; exact ⟨⟨SqT.of (s4 _ _ hps),SqT.of (s4 _ _ hqs)⟩,hl⟩) ?_ ?_
  ·rintro i v ys σ H4 H5 hi ⟨v0,v1,zs,rfl,rfl,s4,hl4,hZ⟩ ⟨p,u,y,rfl,hp,hu,hy,rfl⟩;rw [QAe] at hu hy
   cases hpi:ps[i]? with
   | none=>rw [hpi] at hu; cases hu
   | some p1 =>
    cases hqi:qs[i]? with
    | none=>rw [hqi] at hy; cases hy
    | some q1 =>
     rw [hpi] at hu;rw [hqi] at hy
     cases hu
     cases hy;obtain ⟨r,hr1,hp1⟩:=Paired.getL hPs hpi;obtain ⟨t,ht1,hq1⟩:=Paired.getL hQs hqi;have tr:=rR.row r (QAx hr1);have tt:=rS.row t (QAx ht1);have s5:Same H4 (upd H4 p (.tup [.ref p1,.ref q1])):=Same.new hp;refine ⟨p,_,rfl,SqT.of Zb,rfl,_,_,rfl,_,_,rfl,rfl,_,rfl,_,rfl,p1,q1,n,r,t,rfl,s5 _ _ (s4 _ _ hp1),s5 _ _ (s4 _ _ hq1),tr,tt,h8,fun z H6 s6 hz0 hz=>?_⟩;have hl6:=s6 _ _ (s5 _ _ hl4);have up:∀ b row,H6 b=some (.tup row)->(upd H6 lz (.lst (zs.map V.ref++[.ref z]))) b=some (.tup row):=fun b row e=>by
      rw [Ze (YE e hl6 (by intro z; cases z))];exact e
     have hzl:zs.length=i:=by rw [hZ.length,QAt,lb]; exact Om.m1 ‹_›
     refine ⟨hl6,by rw [QAa,hzl]; exact Zy (by exact O347 hi hzl),_,_,zs++[z],rfl,by rw [QAm]; rfl,fun b u e=>?_,Zb,?_⟩
     ·rw [Ze (Zg e hlz)];exact s6 _ _ (s5 _ _ (s4 _ _ e))
     ·have eb:(YD R S)[i]? = some (cmp r t):=by
       unfold YD;rw [QAe,QBi hi,QDu,QAd,QAd,hr1,ht1]
       rfl
      have hib:i<(YD R S).length:=by exact Om.a1 ‹_› ‹_›
      rw [QAb hib] at eb;rw [Yr _ hib,QZl eb];exact Paired.snoc (Paired.mapP hZ fun _ _ e=>up _ _ (s6 _ _ (s5 _ _ e))) (up _ _ hz)
  ·rintro ys σ H4 ⟨v0,v1,zs,rfl,rfl,s4,hl4,hZ⟩;rw [QBc (by exact Om.l1 ‹_›)] at hZ;exact ⟨lz,_,rfl,.inl ⟨SqL.of hl4,fun t ht=>q t _ (s4.trans (Same.new ht)) ⟨zs,Zb,Paired.mapP hZ fun _ _ e=>(Same.new ht) _ _ e⟩⟩⟩
end
theorem Zcb:∀ {p q:List Int},p.map V.int=q.map V.int->p=q
 | [],[],_=>rfl
 | [],_::_,e=>by cases e
 | _::_,[],e=>by cases e
 | u::p,v::q,e=>by
  rw [QAl,QAl,List.cons.injEq,V.int.injEq] at e;rw [e.1,Zcb e.2]
theorem ZcU:∀ {A B:LI},(A.map fun r=>r.map V.int)=(B.map fun r=>r.map V.int)->A=B
 | [],[],_=>rfl
 | [],_::_,e=>by cases e
 | _::_,[],e=>by cases e
 | x::A,y::B,e=>by
  rw [QAl,QAl,List.cons.injEq] at e;rw [Zcb e.1,ZcU e.2]
theorem Za2 {n:Nat} {R Rn S:LI} (ok:OkRows n R) (hl:R.length=n) (rn:Ren n Rn) (rs:Ren n S):ZY n (ZY n R Rn) S=ZY n R (YD Rn S):=by
 obtain ⟨ok',hl'⟩:=YR ok hl rn;have h:=Zhx (Zbf ok hl) rn rs;rw [Jf ok hl rn,Jf ok' hl' rs,Jf ok hl (rn.beh rs)] at h;exact ZcU h
section
variable {n:Nat} {R Rn:LI}
theorem Hop.to (ok:OkRows n R) (hl:R.length=n) (rn:Ren n Rn) {a b:Nat} {w:List Nat} (hp:Hop n R a b w):Hop n (ZY n R Rn) (rw_ Rn 0 a) (rw_ Rn 0 b) (w.map (thO n Rn)):=by
 obtain ⟨ok',hl'⟩:=YR ok hl rn;refine ⟨YY rn (by decide) hp.ha,YY rn (by decide) hp.hb,fun e=>hp.hne (Zcr rn (by decide) hp.ha hp.hb e),?_,fun x y hx hy hxy=>?_⟩
 ·exact Zg2 (ZfH rn ok hl hp.ha hp.hb) (Yt (YA ok hl hp.ha hp.hb)) (Yt (YA ok' hl' (YY rn (by decide) hp.ha) (YY rn (by decide) hp.hb))) (YM _ _ _) (YM _ _ _) hp.hw
 ·have ix:=Z4 (rn.at (k:=0) (by decide)) hx;have iy:=Z4 (rn.at (k:=0) (by decide)) hy;have e1:=ZcS rn (k:=0) (by decide) hx;have e2:=ZcS rn (k:=0) (by decide) hy;have h:=hp.hm _ _ ix iy fun e=>hxy (by rw [<- e1,<- e2,e])
  have s:=Zhp rn ok hl ix iy;rw [e1,e2] at s;rw [s,Zhp rn ok hl hp.ha hp.hb];exact h
theorem Zkv {g h:LI} (rg:Ren n g) (rh:Ren n h) (e:∀ k,k<3->∀ x,x<n->rw_ g k x=rw_ h k x):g=h:=by
 obtain ⟨a,b,c,rfl,ta,tb,tc⟩:=rg.three;obtain ⟨a',b',c',rfl,ta',tb',tc'⟩:=rh.three;have key:∀ k,k<3->([a,b,c].getD k [])=([a',b',c'].getD k []):=fun k hk=>by
  refine J6 (rg.at hk).len (rh.at hk).len fun i hi=>?_;rw [Zcs rg hk hi,Zcs rh hk hi,e k hk i hi]
 have k0:a=a':=key 0 (by decide);have k1:b=b':=key 1 (by decide);have k2:c=c':=key 2 (by decide);rw [k0,k1,k2]
theorem Cols.get {w:List Nat} (c:Cols n w) {j:Nat} (hj:j<n):w.getD j 0<n:=by
 rw [gDN (by rw [c.len]; exact hj)];exact (c.all _).mp (QAs _)
theorem Zej {w:List Nat} {j:Nat} (h:j<w.length):(toI w).getD j 0=((w.getD j 0:Nat):Int):=by
 unfold toI;rw [QAd,QAe,QAb h,gDN h]
 rfl
theorem Zhd {w:List Nat} {a j:Nat} (h:j<w.length):(w.map fun x=>ent R a x).getD j 0=ent R a (w.getD j 0):=by
 rw [QAd,QAe,QAb h,gDN h]
 rfl
theorem Zj8 (ok:OkRows n R) (hl:R.length=n) (h1:1<=n) {g:LI} (rg:Ren n g) {w:List Nat} (c:Cols n w) {a:Nat} (ha:a<n) (h0:rw_ g 0 a=0) (hw:∀ j,j<n->rw_ g 1 (w.getD j 0)=j) (hf:∀ j,j<n->ent (ZY n R g) 0 j=(j:Int)/\ent (ZY n R g) j 0=(j:Int)):Zx n R a w=g:=by
 have t:=Js ok hl c ha;have k2:∀ x,x<n->(w.map fun x=>ent R a x).idxOf (x:Int)=rw_ g 2 x:=fun x hx=>by
  have hj:=YY rg (k:=2) (by decide) hx;have hc:=c.get hj;refine Y9 t hj hx ?_;rw [Zhd (by rw [c.len]; exact hj)];have h:=J0 rg ok hl ha hc;rw [h0,hw _ hj,(hf _ hj).1] at h;obtain ⟨e1,e2⟩:=ZQ ok hl ha hc;have:=Zcr rg (k:=2) (by decide) hx e2 (by exact Om.e1 ‹_›);rw [e1,<- this]
 refine Zkv (JT ok hl c h1 ha) rg fun k hk x hx=>?_
 rcases k with _ | _ | _ | k
 ·obtain ⟨e1,e2⟩:=ZQ ok hl hx (c.zero h1);show (((Zx n R a w).getD 0 []).getD x 0).toNat=_;rw [al0 ok hl c h1 ha hx,e1,k2 _ e2,QAf];have h:=J0 rg ok hl hx (c.zero h1);rw [hw 0 (by exact Om.f5 ‹_›),(hf _ (YY rg (by decide) hx)).2] at h;omega
 ·show (((Zx n R a w).getD 1 []).getD x 0).toNat=_;have hj:=YY rg (k:=1) (by decide) hx;have:(toI w).idxOf (x:Int)=rw_ g 1 x:=by
   refine Y9 c.turn hj hx ?_;rw [Zej (by rw [c.len]; exact hj)];have:=Zcr rg (k:=1) (by decide) (c.get hj) hx (hw _ hj);rw [this]
  rw [al1 c hx,this,QAf]
 ·show (((Zx n R a w).getD 2 []).getD x 0).toNat=_;rw [al2 ok hl c ha hx,k2 x hx,QAf]
 ·exact O346 hk
theorem ZmU (c:Cols n w) (a:Nat) {j:Nat} (hj:j<n):rw_ (Zx n R a w) 1 (w.getD j 0)=j:=by
 show (((Zx n R a w).getD 1 []).getD (w.getD j 0) 0).toNat=_;rw [al1 c (c.get hj),Y9 c.turn hj (c.get hj) (Zej (by rw [c.len]; exact hj)),QAf]
theorem Zg8 (ok:OkRows n R) (hl:R.length=n) (h1:1<=n) {w:List Nat} (c:Cols n w) {a:Nat} (ha:a<n):rw_ (Zx n R a w) 0 a=0:=by
 show (((Zx n R a w).getD 0 []).getD a 0).toNat=_;obtain ⟨e1,e2⟩:=ZQ ok hl ha (c.zero h1);rw [al0 ok hl c h1 ha ha,e1,Y9 (Js ok hl c ha) (show 0<n by exact Om.f5 ‹_›) e2 (by rw [Zhd (by rw [c.len]; exact Om.f5 ‹_›),<- e1]),QAf]
theorem ZiJ {g:LI} (rg:Ren n g) {k x:Nat} (hk:k<3) (hx:x<n):rw_ (YN g) k x=ixo (g.getD k []) x:=by
 obtain ⟨a,b,c,rfl,ta,tb,tc⟩:=rg.three
 rcases k with _ | _ | _ | k
 ·show ((inv a).getD x 0).toNat=ixo a x;rw [Zbc ta hx,QAf]
 ·show ((inv b).getD x 0).toNat=ixo b x;rw [Zbc tb hx,QAf]
 ·show ((inv c).getD x 0).toNat=ixo c x;rw [Zbc tc hx,QAf]
 ·exact O346 hk
theorem ZjF {F g:LI} {L:List LI} (ok:OkRows n R) (hl:R.length=n) (h2:2<=n) (ld:LeadOf n R F L) (rg:Ren n g) (e:ZY n R g=F):g∈Zw n R:=by
 have h1:1<=n:=by exact Om.f4 ‹_›
 obtain ⟨g0,hg0,e0⟩:=ld.mem;obtain ⟨a0,b0,w0,hp,rfl⟩:=(ZcV h2).mp hg0;have c0:=hp.cols ok hl;have rn0:=JT ok hl c0 h1 hp.ha;have hp1:=hp.to ok hl rn0;obtain ⟨okF,hlF⟩:=YR ok hl rn0;rw [e0] at hp1 okF hlF;have ew:w0.map (thO n (Zx n R a0 w0))=List.range n:=by
  refine QBs (by rw [QAa,c0.len,QAq]) fun j i1 i2=>?_;rw [QAq] at i2;have hj:=c0.get i2;rw [QBu,QDm,<- gDN (by rw [c0.len]; exact i2),ZiK hj,ZmU c0 a0 i2]
 rw [ew,Zg8 ok hl h1 c0 hp.ha] at hp1;have hp2:=hp1.to okF hlF rg.und;have eR:ZY n F (YN g)=R:=by rw [<- e]; exact Zcx ok hl rg
 rw [eR] at hp2;refine (ZcV h2).mpr ⟨_,_,_,hp2,(Zj8 ok hl h1 rg (hp2.cols ok hl) hp2.ha ?_ (fun j hj=>?_) fun j hj=>?_).symm⟩
 ·rw [ZiJ rg (by decide) (by exact Om.f5 ‹_›)];exact ZcS rg (by decide) (by exact Om.f5 ‹_›)
 ·have:((List.range n).map (thO n (YN g))).getD j 0=thO n (YN g) j:=by
   rw [QAd,QAe,QBi hj]
   rfl
  rw [this,ZiK hj,ZiJ rg (by decide) hj];exact ZcS rg (by decide) hj
 ·rw [e,<- e0];exact ZfQ ok hl c0 h1 hp.ha hj
theorem Zci {r:List Int} (t:Turn 1 r):r=[0]:=by
 have:=t.len
 match r,this with
 | [x],_ =>
  have:=t.rg x QAj;rw [show x=0 by exact O345 this]
theorem Jw {F g:LI} {L:List LI} (ok:OkRows n R) (hl:R.length=n) (h1:1<=n) (ld:LeadOf n R F L):g∈L↔Ren n g/\ZY n R g=F:=by
 rw [ld.all,QZo,QZg]
 constructor
 ·rintro ⟨hg,e⟩;exact ⟨Zbh ok hl h1 hg,e⟩
 ·rintro ⟨rg,e⟩;refine ⟨?_,e⟩
  by_cases h:n=1
  ·subst h;unfold Zw;rw [if_pos rfl];obtain ⟨a,b,c,rfl,ta,tb,tc⟩:=rg.three;rw [Zci ta,Zci tb,Zci tc];exact QZc.mpr rfl
  ·exact ZjF ok hl (by exact O342 h1 h) ld rg e
theorem ZeU {s:Nat->Nat}:∀ {f:Nat} {C:List (List Nat)} {U:Nat->Prop},Cov s C U->(Zo f C).Nodup
 | f,[],U,v=>by
  have e:Zo f []=[[]]:=by cases f <;> rfl
  rw [e];exact List.nodup_cons.mpr ⟨by simp,QBg⟩
 | 0,_::_,_,_=>QBg
 | f+1,c::C,U,v=>by
  have hd:∀ (d:List Nat),d∈c::C->∀ st,st<d.length->∀ w':List Nat,(rot d st++w').getD 0 0=d.getD st 0:=fun d hd st hst w'=>by
   have hp:=(v.cy d hd).pos;rw [QAd,QCr (by rw [YQ]; exact hp),<- QAd,Zct hst hp,Nat.add_zero,QCo hst]
  rw [Y1];refine List.pairwise_flatMap.mpr ⟨fun i hi=>?_,?_⟩
  ·have hi:=QZe.mp hi;rw [gDL hi]
   split
   ·next q =>
    have hm:=QAs hi;refine List.pairwise_flatMap.mpr ⟨fun st hst=>?_,?_⟩
    ·have v':=v.erase hi (c:=(c::C)[i]) fun x=>Iff.rfl
     rw [<- QCz];exact QZm.mpr ((ZeU v').imp fun ne e=>ne (List.append_cancel_left e))
    ·refine List.Pairwise.imp_of_mem ?_ (QZk.mp QCg);intro a b ha hb hab x hx y hy e;have ha:=QZe.mp ha;have hb:=QZe.mp hb;rw [<- q] at ha hb;obtain ⟨w1,_,rfl⟩:=QZd.mp hx;obtain ⟨w2,_,rfl⟩:=QZd.mp hy;have h1:=hd _ hm a ha w1;rw [e,hd _ hm b hb w2] at h1;exact hab (Zjv (v.cy _ hm).nd ha hb h1.symm)
   ·exact .nil
  ·have key:∀ i,i<(c::C).length->∀ x,(x∈if ((c::C).getD i []).length=mnl (c::C) then (List.range (mnl (c::C))).flatMap fun st=>(Zo f ((c::C).take i++(c::C).drop (i+1))).map fun w=>rot ((c::C).getD i []) st++w else [])->x.getD 0 0∈(c::C).getD i []:=fun i hi x hx=>by
    rw [gDL hi] at hx ⊢
    split at hx
    ·next q =>
     obtain ⟨st,hst,hx⟩:=QZp.mp hx;have hst:=QZe.mp hst;rw [<- q] at hst;obtain ⟨w1,_,rfl⟩:=QZd.mp hx;rw [hd _ (QAs hi) st hst w1,gDN hst];exact QAs _
    ·cases hx
   refine List.Pairwise.imp_of_mem ?_ (QZk.mp QCg);intro a b ha hb hab x hx y hy e;have ha:=QZe.mp ha;have hb:=QZe.mp hb;have k1:=key a ha x hx;have k2:=key b hb y hy;rw [<- e,gDL hb] at k2;rw [gDL ha] at k1;have dj:=List.pairwise_iff_getElem.mp v.dj
   rcases QCm a b with h | h
   ·exact dj a b ha hb h _ k1 k2
   ·exact dj b a hb ha (by exact O344 hab h) _ k2 k1
theorem Zd4 (ok:OkRows n R) (hl:R.length=n) (h1:1<=n) {w w':List Nat} (c:Cols n w) (c':Cols n w') {a a':Nat} (ha:a<n) (ha':a'<n) (e:Zx n R a w=Zx n R a' w'):a=a'/\w=w':=by
 constructor
 ·have z:=Zg8 ok hl h1 c ha;have z':=Zg8 ok hl h1 c' ha';rw [e] at z;exact Zcr (JT ok hl c' h1 ha') (k:=0) (by decide) ha ha' (z.trans z'.symm)
 ·have h:inv (toI w)=inv (toI w'):=congrArg (fun l=>l.getD 1 []) e;have h2:toI w=toI w':=by rw [<- Zbe c.turn,h,Zbe c'.turn]
  refine QBs (by rw [c.len,c'.len]) fun j i1 i2=>?_;have:=Zej i1;rw [h2,Zej i2,gDN i1,gDN i2] at this;omega
theorem ZbP (ok:OkRows n R) (hl:R.length=n) (h2:2<=n) {a b:Nat} (ha:a<n) (hb:b<n) (hne:a≠b) {w:List Nat} (hw:w∈Zo n (rgs n R a b)):sF R a b (w.getD 0 0)=w.getD 1 0:=by
 have v:=Yt (YA ok hl ha hb);obtain ⟨ls,al⟩:=(YL v (YM _ _ _)).mp hw
 cases al with
 | nil h =>
  have:=(YB ok hl ha hb hw).len;rw [List.length_nil] at this;exact (O343 h2 this).elim
 | @step _ c w' ls hc hU hm al =>
  obtain ⟨i,hi,k,hk,e⟩:=v.find hc hU;have hl2:2<=c.length:=by
   rw [e,YQ];exact (Zes ok hl ha hb hne _ (QAs hi)).1
  have h:=hc.nx 0 hc.pos;rw [Nat.zero_add,QCo (by exact Om.f5 ‹_›)] at h;have g0:(c++w').getD 0 0=c.getD 0 0:=by rw [QAd,QCr hc.pos,<- QAd]
  have g1:(c++w').getD 1 0=c.getD 1 0:=by rw [QAd,QCr (by exact Om.f5 ‹_›),<- QAd]
  rw [g0,g1];exact h
theorem ZlW (n:Nat):(Y2 n).Nodup:=by
 unfold Y2;refine List.pairwise_flatMap.mpr ⟨fun a _=>?_,?_⟩
 ·unfold JJ;refine QZm.mpr (List.Pairwise.imp ?_ (List.Pairwise.filter _ (QZk.mp QCg)));intro x y h e;exact h (Prod.mk.inj e).2
 ·refine List.Pairwise.imp ?_ (QZk.mp (QCg (n:=n)));intro a b hab x hx y hy e;unfold JJ at hx hy;obtain ⟨_,_,rfl⟩:=QZd.mp hx;obtain ⟨_,_,rfl⟩:=QZd.mp hy;exact hab (Prod.mk.inj e).1
theorem Zk5 (ok:OkRows n R) (hl:R.length=n) (h1:1<=n):(Zw n R).Nodup:=by
 unfold Zw
 split
 ·exact List.nodup_cons.mpr ⟨by simp,QBg⟩
 ·next hn =>
  have h2:2<=n:=by exact O342 h1 hn
  have cw:∀ {a b:Nat} {g:LI},(a,b)∈Y2 n->g∈J8 n R (a,b)->∃ w,w∈Zo n (rgs n R a b)/\g=Zx n R a w:=fun {a b g} hx hg=>by
   unfold J8 at hg
   split at hg
   ·obtain ⟨w,hw,rfl⟩:=QZd.mp hg
    dsimp only at hw;rw [<- Zae] at hw;exact ⟨w,hw,rfl⟩
   ·cases hg
  refine List.pairwise_flatMap.mpr ⟨fun x hx=>?_,?_⟩
  ·obtain ⟨a,b⟩:=x;obtain ⟨ha,hb,hne⟩:=mem_two.mp hx;unfold J8
   split
   ·dsimp only;rw [<- Zae];refine QZm.mpr (List.Pairwise.imp_of_mem ?_ (ZeU (Yt (YA ok hl ha hb))));intro w w' hw hw' ne e;exact ne (Zd4 ok hl h1 (YB ok hl ha hb hw) (YB ok hl ha hb hw') ha ha e).2
   ·exact .nil
  ·refine List.Pairwise.imp_of_mem ?_ (ZlW n);rintro ⟨a,b⟩ ⟨a',b'⟩ hx hy ne g hg h hh e;obtain ⟨ha,hb,hne⟩:=mem_two.mp hx;obtain ⟨ha',hb',hne'⟩:=mem_two.mp hy;obtain ⟨w,hw,rfl⟩:=cw hx hg;obtain ⟨w',hw',rfl⟩:=cw hy hh;obtain ⟨e1,e2⟩:=Zd4 ok hl h1 (YB ok hl ha hb hw) (YB ok hl ha' hb' hw') ha ha' e;subst e1;subst e2;have c0:=(YB ok hl ha hb hw).zero h1;have s1:=ZbP ok hl h2 ha hb hne hw;have s2:=ZbP ok hl h2 ha hb' hne' hw';have t1:=Zac ok hl ha hb c0;have t2:=Zac ok hl ha hb' c0;rw [s1] at t1;rw [s2,t1] at t2;exact ne (by rw [J1 ok hl hb hb' c0 t2])
end
noncomputable def YU (n:Nat):Nat->List (List Nat)
 | 0=>[[]]
 | k+1=>(YU n k).flatMap fun l=>((List.range n).filter fun x=>decide (x∉l)).map fun x=>l++[x]
theorem ZdL {n:Nat}:∀ (k:Nat) (l:List Nat),l.length=k->l.Nodup->(∀ x∈l,x<n)->l∈YU n k
 | 0,l,h,_,_=>by rw [List.length_eq_zero_iff.mp h]; exact QZc.mpr rfl
 | k+1,l,h,nd,hl=>by
  have hne:l≠[]:=fun z=>by rw [z] at h; cases h
  have e:=List.dropLast_concat_getLast hne;have nd':l.dropLast.Nodup/\l.getLast hne∉l.dropLast:=by
   rw [<- e,List.nodup_append] at nd;exact ⟨nd.1,fun z=>nd.2.2 _ z _ (QZc.mpr rfl) rfl⟩
  have ih:=ZdL k l.dropLast (by rw [List.length_dropLast,h]; rfl) nd'.1 fun x hx=>hl x (by rw [<- e]; exact QBe _ hx)
  rw [<- e];exact QZp.mpr ⟨_,ih,QZd.mpr ⟨_,QZo.mpr ⟨QZe.mpr (hl _ (List.getLast_mem hne)),QZh nd'.2⟩,rfl⟩⟩
theorem Zcz {n:Nat}:∀ (k:Nat) (l:List Nat),l∈YU n k->l.length=k/\l.Nodup/\∀ x∈l,x<n
 | 0,l,h=>by rw [QZc.mp h]; exact ⟨rfl,QBg,fun x hx=>by cases hx⟩
 | k+1,l,h=>by
  obtain ⟨l',h1,h2⟩:=QZp.mp h;obtain ⟨x,hx,rfl⟩:=QZd.mp h2;obtain ⟨hx1,hx2⟩:=QZo.mp hx;obtain ⟨e1,e2,e3⟩:=Zcz k l' h1;refine ⟨by rw [QAo,e1]; rfl,List.nodup_append.mpr ⟨e2,List.nodup_cons.mpr ⟨by simp,QBg⟩,fun a ha b hb e=>?_⟩,fun y hy=>?_⟩
  ·rw [QZc.mp hb] at e;exact QZj hx2 (e ▸ ha)
  ·rcases QZf.mp hy with z | z
   ·exact e3 y z
   ·rw [QZc.mp z];exact QZe.mp hx1
end _M
namespace _L
open PySem PySem.Spec PyProof.Rows PySem.W SeqAt
section
variable {prog:Program} {w:World} {A:Around} {E:Value->Shared->Prop} {s:Shared}
theorem Zdk {a:Addr} {vs:List Value} {n:Nat} {P:PySem.Fin->Shared->Prop} (ho:s.heap.get? a=some (seqObj "list" vs.toArray n)) (h2:vs.length<2)
  (h:∀ h' e,(∀ b o,b≠a->s.heap.get? b=some o->h'.get? b=some o)->h'.get? a=some (seqObj "list" vs.toArray e)->P (.done (.ret .none)) { s with heap:=h' }) :
  wpAny (model prog w) A (Builtin.«list.sort» ⟨[.ref a],[]⟩) P E s:=by
 obtain ⟨e1,ho1⟩:∃ e1,(s.heap.update a (Obj.mapSeq fun _=>(#[]:Array Value))).get? a=some (seqObj "list" #[] e1):=⟨_,get?_update_seq ho fun _=>#[]⟩;have keep:∀ b o,b≠a->s.heap.get? b=some o->(((s.heap.update a (Obj.mapSeq fun _=>(#[]:Array Value))).push (seqObj "tuple" vs.toArray 0)).push (seqObj "list" #[] 0)).get? b=some o:=fun b o hb e=>by
  refine QAk _ (QAk _ ?_);rw [Heap.get?_update_ne _ _ _ _ hb];exact e
 have ho6:(((s.heap.update a (Obj.mapSeq fun _=>(#[]:Array Value))).push (seqObj "tuple" vs.toArray 0)).push (seqObj "list" #[] 0)).get? a=some (seqObj "list" #[] e1):=QAk _ (QAk _ ho1);rw [list_sort_plain];refine QZq (listItems_at ho rfl ?_);refine QZq (listUpdate_at ho rfl ?_ (by rw [QAi,sizeLine_eq]; exact O340 h2) (QAg _));refine QZq (seqEpoch_at ho1 rfl ?_);refine QZq (wpAny_newTuple ?_ (by show vs.length<=_; rw [sizeLine_eq]; exact O340 h2));refine QZq (wpAny_newList ?_ (QAg _));refine wpAny_holding ?_;have hn2:vs.toArray.size<2:=by rw [QAi]; assumption
 rw [if_pos hn2,if_pos hn2];refine QZq (QZr ?_);refine QZq (QZr ?_);have hout:Array.map (fun x:Value × Value=>x.snd) (arrOf (SortSt.mk' general' (vs.toArray.zip vs.toArray) #[] 7 none))=vs.toArray:=by
  show Array.map (fun x:Value × Value=>x.snd) (vs.toArray.zip vs.toArray)=vs.toArray;refine Array.ext (by simp) fun i h1 h2=>?_
  simp
 refine QZq (seqEpoch_at ho6 rfl ?_)
 dsimp only;rw [hout];refine QZq (listUpdate_at ho6 rfl ?_ (QAg _) (by rw [QAi,sizeLine_eq]; exact O341 h2));show wpAny (model prog w) A (if (e1 != e1)=true then _ else ret Value.none) P E _;rw [if_neg (by simp)];obtain ⟨e2,ho7⟩:∃ e2,((((s.heap.update a (Obj.mapSeq fun _=>(#[]:Array Value))).push (seqObj "tuple" vs.toArray 0)).push (seqObj "list" #[] 0)).update a (Obj.mapSeq fun _=>vs.toArray)).get? a=some (seqObj "list" vs.toArray e2):=⟨_,get?_update_seq ho6 fun _=>vs.toArray⟩;refine QZr (h _ e2 (fun b o hb e=>?_) ho7);rw [Heap.get?_update_ne _ _ _ _ hb];exact keep b o hb e
theorem Zgu {d:Addr} {vs:List Value} {Q:Value->Shared->Prop} (hl:s.heap.IsList d vs.toArray) (h2:vs.length<2)
  (h:∀ (l:Addr) (h1 h':Heap) (e:Nat),(∀ b o,s.heap.get? b=some o->h1.get? b=some o)->h1.objs.size<=l->(∀ b o,h1.get? b=some o->h'.get? b=some o)->h'.get? l=some (seqObj "list" vs.toArray e)->Q (.ref l) { s with heap:=h' }) :
  wpAny (model prog w) A (call (.builtin "sorted") [.ref d]) Q E s:=by
 obtain ⟨o,ho,hc,n,hd⟩:=id hl;refine Calls.call_function_entry kind_sorted plain_sorted entry_sorted (args_sorted1 _) ?_;unfold Builtin.«sorted»;refine QZq (m:=checkCount "sorted" 1 1 _) (QZr (QZq ?_));have hz:vs.toArray.size<=sizeLine:=by rw [QAi,sizeLine_eq]; exact O340 h2
 refine wpAny_collect_seq (hsz:=hz) d (.inl rfl) ho hc hd fun h1 k1=>?_;rw [List.toList_toArray];refine QZq (wpAny_newList ?_ (by rw [sizeLine_eq]; exact O340 h2));have g:(h1.push (seqObj "list" vs.toArray 0)).get? h1.objs.size=some (seqObj "list" vs.toArray 0):=QBa _ rfl;refine QZq (wpAny_holding (wpAny_call_entry slot_list_sort ⟨_,g,rfl⟩ entry_list_sort (Zdk g h2 fun h' e kp he=>⟨_,rfl,?_⟩) (args_list_sort _)));refine QZr ⟨_,rfl,h h1.objs.size h1 h' e k1 (QAc _) (fun b o x=>?_) he⟩;have hb:=QAh x;exact kp b o (QAy hb) (QAk _ x)
end
section
variable {n:Nat} (h0:0<n)
include h0
end
section
variable {prog:Program} {w:World} {A:Around} {E:Value->Shared->Prop} {s:Shared}
noncomputable def GrAt (h:Heap):List Value->LI->Prop:=Paired fun v row=>∃ a us,v=Value.ref a/\h.IsTuple a (List.toArray us)/\IntsAre us row
theorem GrAt.keep {h h':Heap} {us:List Value} {r:LI} (x:GrAt h us r) (k:∀ b o,o.cls = .type "tuple" -> h.get? b=some o->h'.get? b=some o):GrAt h' us r :=
 Paired.mapP x fun _ _ ⟨a,u,e,⟨o,g,c,d⟩,i⟩=>⟨a,u,e,⟨o,k _ _ c g,c,d⟩,i⟩
noncomputable def ZcO:LI->LI->Bool
 | x::xs,y::ys=>if x=y then ZcO xs ys else ZcP x y
 | _,_=>false
theorem Zfr {k:Nat} {Q:Bool->Shared->Prop} (hu:A.units<cLine):∀ {us vs:List Value} {p q:LI} {i:Nat},GrAt s.heap us p->GrAt s.heap vs q->(∀ x∈p,x.length=k)->(∀ x∈q,x.length=k)->p.length=q.length->Q (ZcO p q) s->KatLex prog w A false false Q (us.zip vs) i s
 | _,_,_,_,_,.nil,.nil,_,_,_,h=>h
 | _,_,_,_,_,.cons _ _,.nil,_,_,e,_=>by cases e
 | _,_,_,_,_,.nil,.cons _ _,_,_,e,_=>by cases e
 | _,_,x::xs,y::ys,i,.cons ⟨a,u,ea,ta,ia⟩ r,.cons ⟨b,v,eb,tb,ib⟩ r',hx,hy,e,h=>by
  subst ea;subst eb;have l:x.length=y.length:=(hx x QAj).trans (hy y QAj).symm;refine kat_cons (Zld ta tb ia ib l hu prog w _ _ ?_);unfold ZcO at h
  by_cases hxy:x=y
  ·rw [QZh hxy];rw [if_pos hxy] at h;exact kat_yes (Zfr hu r r' (fun z hz=>hx z (QAp _ hz)) (fun z hz=>hy z (QAp _ hz)) (Nat.succ.inj e) h)
  ·rw [QZi hxy];rw [if_neg hxy] at h;exact kat_no (kat_one _ _ (ZkY ta tb ia ib l hu h))
noncomputable def Grs (h:Heap):List Value->List LI->Prop:=Paired fun v r=>∃ a o us n,v=Value.ref a/\h.get? a=some o/\o.cls = .type "tuple" /\ o.data = .seq (List.toArray us) n/\GrAt h us r
theorem ZcW {h:Heap} {M:Model}:∀ {vs:List Value} {S:List LI},Grs h vs S->(∀ r∈S,r≠[])->∃ fs,KatTups h vs fs/\fs.length=vs.length/\∀ v∈fs,Looks M h (typeOf v) (.type "tuple")
 | _,_,.nil,_=>⟨[],.nil,rfl,fun v hv=>by cases hv⟩
 | _,_,.cons ⟨a,o,us,n,e,g,c,d,gr⟩ t,hS=>by
  subst e;obtain ⟨fs,k,hl,hT⟩:=ZcW (M:=M) t fun r hr=>hS r (QAp _ hr)
  have h0:=hS _ QAj
  cases gr with
  | nil=>exact absurd rfl h0
  | cons x r =>
   obtain ⟨a1,u1,e1,⟨o1,g1,c1,d1⟩,_⟩:=x;subst e1;refine ⟨.ref a1::fs,KatTups.cons g c d rfl k,by rw [QAu,QAu,hl],fun v hv=>?_⟩
   rcases QZn.mp hv with e | hv
   ·subst e;exact fun A Q E s k q=>wpAny_typeOf_ref (k _ _ g1) (by rw [c1]; exact q)
   ·exact hT v hv
end
end _L
namespace _S
open PySem PyProof.Rows
noncomputable def ZhL:Bool->Keyed->Array Keyed->Nat->Nat->Nat->StateT SortSt Sem (Option Nat):=sortPriv% PySem.Builtin.gallop
noncomputable def g (a:Array Keyed) (i:Nat):Keyed:=a.getD i (Value.none,Value.none)
theorem g_eq {a:Array Keyed} {i:Nat} (h:i<a.size):a[i]? = some (g a i):=by
 unfold g;rw [QFa,getElem?_pos a i h]
 rfl
theorem Znz {a:Array Keyed} {i:Nat} (h:i<a.size):g a i∈a.toList:=by
 have:=Array.mem_of_getElem? (g_eq h);exact Array.mem_toList_iff.mpr this
noncomputable def byB (rk:Keyed->Int) (left:Bool) (key x:Keyed):Bool:=if left=true then decide (rk x<rk key) else !decide (rk key<rk x)
section
variable {M:Model} {A:Around} {E:Value->Shared->Prop} {s:Shared} {rk:Keyed->Int} {κ:SortKind} {P:Keyed->Prop}
def LtOk (M:Model) (A:Around) (E:Value->Shared->Prop) (s:Shared) (rk:Keyed->Int) (κ:SortKind) (P:Keyed->Prop):Prop :=
 ∀ (x y:Keyed) (st:SortSt) (Q:Option Bool->SortSt->Prop),P x->P y->kindOf st=κ->Q (some (decide (rk x<rk y))) st->wpS M A E s (lt' x y) Q st
theorem ZP {arr:Array Keyed} {i:Nat} {st:SortSt} {Q:Keyed->SortSt->Prop} (h:i<arr.size) (q:Q (g arr i) st):wpS M A E s (elem' arr i) Q st:=by
 rw [elem'_eq,g_eq h];exact QZt q
theorem ZeT (L:LtOk M A E s rk κ P) {left:Bool} {key:Keyed} {arr:Array Keyed} {j:Nat} {st:SortSt} {Q:Option Bool->SortSt->Prop} (h:j<arr.size) (hk:P key) (hx:P (g arr j)) (hst:kindOf st=κ) (q:Q (some (byB rk left key (g arr j))) st) :
  wpS M A E s (elem' arr j >>= fun x=>if left=true then lt' x key else lt' key x >>= fun r=>pure (Option.map (fun x=>!x) r)) Q st:=by
 refine QZs (ZP h ?_);unfold byB at q
 cases left with
 | true=>exact L _ _ _ _ hx hk hst q
 | false=>exact QZs (L _ _ _ _ hk hx hst (QZt q))
theorem Zbo (L:LtOk M A E s rk κ P) {left:Bool} {key:Keyed} {arr:Array Keyed} {base n hint:Nat} {st:SortSt} {Q:Option Nat->SortSt->Prop} (hk:P key) (hP:∀ i,i<n->P (g arr (base+i))) (hz:base+n<=arr.size) (hh:hint<n)
  (hs:∀ i j,i<=j->j<n->rk (g arr (base+i))<=rk (g arr (base+j))) (hst:kindOf st=κ)
  (h:∀ k,k<=n->(∀ i,i<k->byB rk left key (g arr (base+i))=true)->(∀ i,k<=i->i<n->byB rk left key (g arr (base+i))=false)->Q (some k) st):wpS M A E s (ZhL left key arr base n hint) Q st:=by
 have up:∀ i j,i<=j->j<n->byB rk left key (g arr (base+j))=true->byB rk left key (g arr (base+i))=true:=by
  intro i j hij hj hb;have:=hs i j hij hj;unfold byB at hb ⊢
  cases left
  ·simp only [QDh,if_false,Bool.not_eq_true',decide_eq_false_iff_not] at hb ⊢;omega
  ·simp only [if_true,QZg] at hb ⊢;omega
 have dn:∀ i j,i<=j->j<n->byB rk left key (g arr (base+i))=false->byB rk left key (g arr (base+j))=false:=by
  intro i j hij hj hb
  cases e:byB rk left key (g arr (base+j)) with
  | false=>rfl
  | true=>rw [up i j hij hj e] at hb; cases hb
 refine QZs (ZeT L (by exact O188 hz hh) hk (hP _ hh) hst ?_)
 dsimp only
 cases hb:byB rk left key (g arr (base+hint)) with
 | true =>
  rw [if_pos rfl];refine QZs (wpS_mono (wpS_forRange
   (I:=fun x c st'=>st=st'/\∃ la of,c=(none,la,of)/\la<n - hint/\la<of/\x<of/\byB rk left key (g arr (base+(hint+la)))=true)
   (Q:=fun c st'=>st=st'/\∃ la of,c=(none,la,of)/\la<n - hint/\la<of/\byB rk left key (g arr (base+(hint+la)))=true/\(of<n - hint->byB rk left key (g arr (base+(hint+of)))=false)) ?_ ?_ ⟨rfl,0,1,rfl,by exact O339 hh,by exact O330 ,by exact O330 ,hb⟩) ?_)
  ·rintro x c st' _ hx ⟨rfl,la,of,rfl,h1,h2,h3,h4⟩
   dsimp only
   by_cases ho:of>=n - hint
   ·rw [if_pos ho];exact QZt ⟨rfl,la,of,rfl,h1,h2,h4,fun z=>by exact (O338 ho z).elim⟩
   ·rw [if_neg ho];refine QZs (ZeT L (by exact O337 hz hh ho) hk (hP _ (by exact O336 hh ho)) hst ?_)
    cases hc:byB rk left key (g arr (base+(hint+of))) with
    | true=>exact QZt ⟨rfl,of,2*of+1,rfl,by exact O335 ho,by exact O325 ,by exact O324 h2 h3,hc⟩
    | false=>exact QZt ⟨rfl,la,of,rfl,h1,h2,h4,fun _=>hc⟩
  ·rintro c st' ⟨rfl,la,of,rfl,h1,h2,h3,h4⟩;exact ⟨rfl,la,of,rfl,h1,h2,h4,fun z=>by exact (O334 hh h3 z).elim⟩
  ·rintro c st' ⟨rfl,la,of,rfl,h1,h2,h3,h4⟩;refine QZs (wpS_mono (wpS_forRange
    (I:=fun x c st'=>st=st'/\∃ lo hi,c=(none,lo,hi)/\lo<=hi/\hi<=n/\hi - lo<=n - x/\(∀ i,i<lo->byB rk left key (g arr (base+i))=true)/\∀ i,hi<=i->i<n->byB rk left key (g arr (base+i))=false)
    (Q:=fun c st'=>st=st'/\∃ lo hi,c=(none,lo,hi)/\hi<=n/\(∀ i,i<hi->byB rk left key (g arr (base+i))=true)/\∀ i,hi<=i->i<n->byB rk left key (g arr (base+i))=false) ?_ ?_
    ⟨rfl,hint+la+1,hint+min of (n - hint),rfl,by exact O333 h1 h2,by omega,by omega,fun i hi=>up i _ (by exact O332 hi) (by omega) h3,fun i hi hn=>dn (hint+of) i (by omega) hn (h4 (by omega))⟩) ?_)
   ·rintro x c st' _ hx ⟨rfl,lo,hi,rfl,h1,h2,h3,h4,h5⟩
    dsimp only
    by_cases ho:lo>=hi
    ·rw [if_pos ho];exact QZt ⟨rfl,lo,hi,rfl,h2,fun i hi=>h4 i (by exact Om.a3 ‹_› ‹_›),h5⟩
    ·rw [if_neg ho];refine QZs (ZeT L (by exact O316 hz h2 ho) hk (hP _ (by exact O312 h2 ho)) hst ?_)
     dsimp only
     cases hc:byB rk left key (g arr (base+(lo+(hi - lo) / 2))) with
     | true=>exact QZt ⟨rfl,_,hi,rfl,by exact O315 ho,by assumption,by exact O314 hx h3 ho,fun i hi=>up i _ (by exact O313 hi) (by exact O312 h2 ho) hc,h5⟩
     | false=>exact QZt ⟨rfl,lo,_,rfl,by exact O311 ,by exact O310 h2 ho,by exact O309 hx h3 ho,h4,fun i hi hn=>dn _ i hi hn hc⟩
   ·rintro c st' ⟨rfl,lo,hi,rfl,h1,h2,h3,h4,h5⟩;exact ⟨rfl,lo,hi,rfl,h2,fun i hi=>h4 i (by exact O308 h1 h3 hi),h5⟩
   ·rintro c st' ⟨rfl,lo,hi,rfl,h2,h4,h5⟩;exact QZt (h hi h2 h4 h5)
 | false =>
  rw [if_neg (by simp)];refine QZs (wpS_mono (wpS_forRange
   (I:=fun x c st'=>st=st'/\∃ la of,c=(none,la,of)/\la<hint+1/\la<of/\x<of/\byB rk left key (g arr (base+(hint - la)))=false)
   (Q:=fun c st'=>st=st'/\∃ la of,c=(none,la,of)/\la<hint+1/\la<of/\byB rk left key (g arr (base+(hint - la)))=false/\(of<hint+1->byB rk left key (g arr (base+(hint - of)))=true)) ?_ ?_ ⟨rfl,0,1,rfl,by exact O331 ,by exact O330 ,by exact O330 ,hb⟩) ?_)
  ·rintro x c st' _ hx ⟨rfl,la,of,rfl,h1,h2,h3,h4⟩
   by_cases ho:of>=hint+1
   ·rw [if_pos ho];exact QZt ⟨rfl,la,of,rfl,h1,h2,h4,fun z=>by exact (O329 ho z).elim⟩
   ·rw [if_neg ho];refine QZs (ZeT L (by exact O328 hz hh ‹_› hx) hk (hP _ (by exact O327 hh ‹_› hx)) hst ?_)
    dsimp only
    cases hc:byB rk left key (g arr (base+(hint - of))) with
    | false=>exact QZt ⟨rfl,of,2*of+1,rfl,by exact O326 ho,by exact O325 ,by exact O324 h2 h3,hc⟩
    | true=>exact QZt ⟨rfl,la,of,rfl,h1,h2,h4,fun _=>hc⟩
  ·rintro c st' ⟨rfl,la,of,rfl,h1,h2,h3,h4⟩;exact ⟨rfl,la,of,rfl,h1,h2,h4,fun z=>by exact (O323 hh h3 z).elim⟩
  ·rintro c st' ⟨rfl,la,of,rfl,h1,h2,h3,h4⟩;refine QZs (wpS_mono (wpS_forRange
    (I:=fun x c st'=>st=st'/\∃ lo hi,c=(none,lo,hi)/\lo<=hi/\hi<=n/\hi - lo<=n - x/\(∀ i,i<lo->byB rk left key (g arr (base+i))=true)/\∀ i,hi<=i->i<n->byB rk left key (g arr (base+i))=false)
    (Q:=fun c st'=>st=st'/\∃ lo hi,c=(none,lo,hi)/\hi<=n/\(∀ i,i<hi->byB rk left key (g arr (base+i))=true)/\∀ i,hi<=i->i<n->byB rk left key (g arr (base+i))=false) ?_ ?_
    ⟨rfl,hint+1 - min of (hint+1),hint - la,rfl,by exact O322 h1 h2,by exact O321 hh h1,by exact O320 hh,fun i hi=>up i (hint - of) (by exact O319 hi) (by exact O318 hh h1 h2) (h4 (by exact O317 hi)),fun i hi hn=>dn (hint - la) i hi hn h3⟩) ?_)
   ·rintro x c st' _ hx ⟨rfl,lo,hi,rfl,h1,h2,h3,h4,h5⟩
    dsimp only
    by_cases ho:lo>=hi
    ·rw [if_pos ho];exact QZt ⟨rfl,lo,hi,rfl,h2,fun i hi=>h4 i (by exact Om.a3 ‹_› ‹_›),h5⟩
    ·rw [if_neg ho];refine QZs (ZeT L (by exact O316 hz h2 ho) hk (hP _ (by exact O312 h2 ho)) hst ?_)
     dsimp only
     cases hc:byB rk left key (g arr (base+(lo+(hi - lo) / 2))) with
     | true=>exact QZt ⟨rfl,_,hi,rfl,by exact O315 ho,by assumption,by exact O314 hx h3 ho,fun i hi=>up i _ (by exact O313 hi) (by exact O312 h2 ho) hc,h5⟩
     | false=>exact QZt ⟨rfl,lo,_,rfl,by exact O311 ,by exact O310 h2 ho,by exact O309 hx h3 ho,h4,fun i hi hn=>dn _ i hi hn hc⟩
   ·rintro c st' ⟨rfl,lo,hi,rfl,h1,h2,h3,h4,h5⟩;exact ⟨rfl,lo,hi,rfl,h2,fun i hi=>h4 i (by exact O308 h1 h3 hi),h5⟩
   ·rintro c st' ⟨rfl,lo,hi,rfl,h2,h4,h5⟩;exact QZt (h hi h2 h4 h5)
end
def Le (rk:Keyed->Int) (x y:Keyed):Prop:=rk x<=rk y
structure MI (rk:Keyed->Int) (a b out:List Keyed) (ia ib:Nat):Prop where
 perm:(out++(a.drop ia++b.drop ib)).Perm (a++b)
 srt:out.Pairwise (Le rk)
 le:∀ x∈out,∀ y∈a.drop ia++b.drop ib,rk x<=rk y
theorem MI.swap {rk:Keyed->Int} {a b out:List Keyed} {ia ib:Nat} (h:MI rk a b out ia ib):MI rk b a out ib ia :=
 ⟨((List.perm_append_comm.append_left out).trans h.perm).trans List.perm_append_comm,h.srt,fun x hx y hy=>h.le x hx y (QZf.mpr (QZf.mp hy).symm)⟩
theorem MI.take {rk:Keyed->Int} {a b out:List Keyed} {ia ib:Nat} (h:MI rk a b out ia ib) (ha:a.Pairwise (Le rk)) (k:Nat) (hk:∀ x∈(a.drop ia).take k,∀ y∈b.drop ib,rk x<=rk y):MI rk a b (out++(a.drop ia).take k) (ia+k) ib:=by
 have e:a.drop ia=(a.drop ia).take k++a.drop (ia+k):=by rw [<- List.drop_drop]; exact (QCp k _).symm
 have sa:((a.drop ia).take k++a.drop (ia+k)).Pairwise (Le rk):=by rw [<- e]; exact ha.sublist (List.drop_sublist _ _)
 have sp:=List.pairwise_append.mp sa;refine ⟨?_,List.pairwise_append.mpr ⟨h.srt,sp.1,fun x hx y hy=>h.le x hx y (QBe _ (List.mem_of_mem_take hy))⟩,fun x hx y hy=>?_⟩
 ·have:=h.perm;rw [e] at this
  simpa only [QBo] using this
 ·rcases QZf.mp hx with hx | hx
  ·refine h.le x hx y ?_
   rcases QZf.mp hy with hy | hy
   ·rw [e]; exact QBe _ (QBf _ hy)
   ·exact QBf _ hy
  ·rcases QZf.mp hy with hy | hy
   ·exact sp.2.2 x hx y hy
   ·exact hk x hx y hy
def Mrg (rk:Keyed->Int) (a b m:List Keyed):Prop:=m.Perm (a++b)/\m.Pairwise (Le rk)
theorem MI.fin {rk:Keyed->Int} {a b out:List Keyed} {ia ib:Nat} (h:MI rk a b out ia ib) {l:List Keyed} (hl:l.Perm (a.drop ia++b.drop ib)) (hs:l.Pairwise (Le rk)):Mrg rk a b (out++l) :=
 ⟨(hl.append_left out).trans h.perm,List.pairwise_append.mpr ⟨h.srt,hs,fun x hx y hy=>h.le x hx y (hl.mem_iff.mp hy)⟩⟩
theorem MI.done {rk:Keyed->Int} {a b out:List Keyed} {ia ib:Nat} (h:MI rk a b out ia ib) (ha:a.Pairwise (Le rk)) (hb:b.Pairwise (Le rk)) (e:a.length<=ia\/b.length<=ib):Mrg rk a b (out++a.drop ia++b.drop ib):=by
 rw [QBo];refine h.fin (List.Perm.refl _) ?_
 rcases e with e | e
 ·rw [List.drop_eq_nil_of_le e]; exact hb.sublist (List.drop_sublist _ _)
 ·rw [List.drop_eq_nil_of_le e,QBq]; exact ha.sublist (List.drop_sublist _ _)
theorem MI.last {rk:Keyed->Int} {a b out:List Keyed} {ia ib:Nat} (h:MI rk a b out ia ib) (ha:a.Pairwise (Le rk)) (hb:b.Pairwise (Le rk)) (hl:∀ x∈b,∀ y∈a.drop (a.length - 1),rk x<=rk y) (e:ia+1=a.length):Mrg rk a b (out++b.drop ib++a.drop ia):=by
 rw [QBo];have:ia=a.length - 1:=by exact O307 e
 refine h.fin List.perm_append_comm (List.pairwise_append.mpr ⟨hb.sublist (List.drop_sublist _ _),ha.sublist (List.drop_sublist _ _),fun x hx y hy=>hl x (List.mem_of_mem_drop hx) y (by rw [<- this]; exact hy)⟩)
theorem ZmI {a:Array Keyed} {i:Nat} (h:i<a.size):a.toList.drop i=g a i::a.toList.drop (i+1):=by
 have e:=g_eq h;have hl:i<a.toList.length:=by simpa using h
 rw [QBk hl]
 congr 1
 rw [QCh];rw [getElem?_pos a i h] at e;exact QZl e
theorem ZcX {a:Array Keyed} {i:Nat} (h:i<a.size):(a.toList.drop i).take 1=[g a i]:=by
 rw [ZmI h]; rfl
theorem Zaj (a:Array Keyed) (i k:Nat):(a.extract i (i+k)).toList=(a.toList.drop i).take k:=by
 rw [Array.toList_extract,QFc]
 congr 1
 exact O306 
theorem Zbl (a:Array Keyed) (i:Nat):(a.extract i a.size).toList=a.toList.drop i:=by
 rw [Array.toList_extract,QFc];exact QBc (by rw [QBn,QAz]; exact O305 )
theorem JH {a:Array Keyed} {i:Nat} {x:Keyed} (hx:x∈a.toList.drop i):∃ j,i<=j/\j<a.size/\x=g a j:=by
 obtain ⟨j,hj,e⟩:=List.mem_iff_getElem.mp hx;rw [QBn,QAz] at hj;refine ⟨i+j,by exact O149 ,by exact O268 hj,?_⟩;rw [<- e,List.getElem_drop,QCh];have:=g_eq (a:=a) (i:=i+j) (by exact O268 hj);rw [getElem?_pos a (i+j) (by exact O268 hj)] at this;exact QZl this
theorem Zk6 {a:Array Keyed} {i k:Nat} {x:Keyed} (hx:x∈(a.toList.drop i).take k):∃ j,j<k/\i+j<a.size/\x=g a (i+j):=by
 obtain ⟨j,hj,e⟩:=List.mem_iff_getElem.mp hx;rw [QAt,QBn,QAz] at hj;refine ⟨j,by exact O304 hj,by exact O303 hj,?_⟩;rw [<- e,List.getElem_take,List.getElem_drop,QCh];have:=g_eq (a:=a) (i:=i+j) (by exact O303 hj);rw [getElem?_pos a (i+j) (by exact O303 hj)] at this;exact QZl this
theorem ZeK {rk:Keyed->Int} {a:Array Keyed} (ha:a.toList.Pairwise (Le rk)) {i j:Nat} (hij:i<=j) (hj:j<a.size):rk (g a i)<=rk (g a j):=by
 rcases QCm i j with h | h
 ·have h1:=List.pairwise_iff_getElem.mp ha i j (by simpa using (by exact O153 hj h:i<a.size)) (by simpa using hj) h;rw [QCh,QCh] at h1;have e1:=g_eq (a:=a) (i:=i) (by exact O153 hj h);have e2:=g_eq hj;rw [getElem?_pos a i (by exact O153 hj h)] at e1;rw [getElem?_pos a j hj] at e2;rw [<- QZl e1,<- QZl e2];exact h1
 ·have:i=j:=by exact O32 hij h
  rw [this]; exact QCq _
noncomputable def ZjA:Array Keyed->Array Keyed->StateT SortSt Sem (Array Keyed):=sortPriv% PySem.Builtin.mergeLo
def Sim (st st':SortSt):Prop:=kindOf st'=kindOf st/\arrOf st'=arrOf st/\pendingOf st'=pendingOf st/\failedOf st'=failedOf st
theorem Sim.rfl' (st:SortSt):Sim st st:=⟨rfl,rfl,rfl,rfl⟩
theorem by_no {rk:Keyed->Int} {key x:Keyed}:byB rk false key x=true↔rk x<=rk key:=by
 unfold byB
 simp
theorem by_no' {rk:Keyed->Int} {key x:Keyed}:byB rk false key x=false↔rk key<rk x:=by
 unfold byB
 simp
theorem by_yes {rk:Keyed->Int} {key x:Keyed}:byB rk true key x=true↔rk x<rk key:=by
 unfold byB
 simp
theorem by_yes' {rk:Keyed->Int} {key x:Keyed}:byB rk true key x=false↔rk key<=rk x:=by
 unfold byB
 simp
section
variable {M:Model} {A:Around} {E:Value->Shared->Prop} {s:Shared} {rk:Keyed->Int} {κ:SortKind} {P:Keyed->Prop}
theorem JU (L:LtOk M A E s rk κ P) {left:Bool} {key:Keyed} {arr:Array Keyed} {base n hint:Nat} {st:SortSt} {Q:Option Nat->SortSt->Prop} (hk:P key) (hP:∀ i,i<arr.size->P (g arr i)) (hz:base+n<=arr.size) (hh:hint<n)
  (hs:arr.toList.Pairwise (Le rk)) (hst:kindOf st=κ)
  (h:∀ k,k<=n->(∀ i,i<k->byB rk left key (g arr (base+i))=true)->(∀ i,k<=i->i<n->byB rk left key (g arr (base+i))=false)->Q (some k) st):wpS M A E s (ZhL left key arr base n hint) Q st :=
 Zbo L hk (fun i hi=>hP _ (by exact O188 hz hi)) hz hh (fun i j hij hj=>ZeK hs (by exact O148 hij) (by exact O188 hz hj)) hst h
theorem Zgn (L:LtOk M A E s rk κ P) {a b:Array Keyed} {st:SortSt} {Q:Array Keyed->SortSt->Prop} (hPa:∀ i,i<a.size->P (g a i)) (hPb:∀ i,i<b.size->P (g b i)) (ha:a.toList.Pairwise (Le rk)) (hb:b.toList.Pairwise (Le rk)) (ha0:0<a.size) (hb0:0<b.size)
  (h0:∀ y∈a.toList,rk (g b 0)<=rk y) (hl:∀ x∈b.toList,∀ y∈a.toList.drop (a.toList.length - 1),rk x<=rk y) (hst:kindOf st=κ)
  (h:∀ m st',Sim st st'->Mrg rk a.toList b.toList m.toList->Q m st'):wpS M A E s (ZjA a b) Q st:=by
 have la:a.toList.length=a.size:=QAz;have lb:b.toList.length=b.size:=QAz;have fd:∀ {out:Array Keyed} {ia ib:Nat},MI rk a.toList b.toList out.toList ia ib->a.size<=ia\/b.size<=ib->Mrg rk a.toList b.toList (out++a.extract ia a.size++b.extract ib b.size).toList:=fun i e=>by
  rw [QBz,QBz,Zbl,Zbl];exact i.done ha hb (by rw [la,lb]; exact e)
 have fl:∀ {out:Array Keyed} {ia ib:Nat},MI rk a.toList b.toList out.toList ia ib->ia+1=a.size->Mrg rk a.toList b.toList (out++b.extract ib b.size++a.extract ia a.size).toList:=fun i e=>by
  rw [QBz,QBz,Zbl,Zbl];exact i.last ha hb hl (by rw [la]; exact e)
 have pa:∀ {out:Array Keyed} {ia ib:Nat},MI rk a.toList b.toList out.toList ia ib->ia<a.size->(∀ y∈b.toList.drop ib,rk (g a ia)<=rk y)->MI rk a.toList b.toList (out.push (g a ia)).toList (ia+1) ib:=fun i e hy=>by
  rw [Array.toList_push];have:=i.take ha 1 (by rw [ZcX e]; intro x hx; rw [QZc.mp hx]; exact hy);rw [ZcX e] at this;exact this
 have pb:∀ {out:Array Keyed} {ia ib:Nat},MI rk a.toList b.toList out.toList ia ib->ib<b.size->(∀ y∈a.toList.drop ia,rk (g b ib)<=rk y)->MI rk a.toList b.toList (out.push (g b ib)).toList ia (ib+1):=fun i e hy=>by
  rw [Array.toList_push];have:=i.swap.take hb 1 (by rw [ZcX e]; intro x hx; rw [QZc.mp hx]; exact hy);rw [ZcX e] at this;exact this.swap
 refine QZs (wpS_lift (wpAny_rule ⟨rfl,?_⟩));refine QZs (ZP hb0 ?_);have i1:MI rk a.toList b.toList #[g b 0].toList 0 1:=by
  have:=pb (out:=#[]) (ia:=0) (ib:=0) ⟨List.Perm.refl _,.nil,fun x hx=>by cases hx⟩ hb0 (by rw [List.drop_zero]; exact h0);exact this
 by_cases e1:1=b.size
 ·rw [if_pos (by simpa using e1)];exact QZt (h _ _ (Sim.rfl' _) (fd i1 (.inr (by exact O302 lb e1))))
 rw [if_neg (by simpa using e1)]
 by_cases e2:0+1=a.size
 ·rw [if_pos (by simpa using e2)];exact QZt (h _ _ (Sim.rfl' _) (fl i1 e2))
 rw [if_neg (by simpa using e2)];refine QZs (wpS_get ?_);refine QZs (wpS_mono (wpS_forRange
  (I:=fun x c st'=>∃ out ia ib mg,c=(none,out,ia,ib,mg)/\Sim st st'/\MI rk a.toList b.toList out.toList ia ib/\ia+1<a.size/\ib<b.size/\x<ia+ib)
  (Q:=fun c st'=>∃ m,c.1=some m/\Sim st st'/\Mrg rk a.toList b.toList m.toList) ?step ?fin ⟨_,0,1,_,rfl,Sim.rfl' _,i1,by exact O301 ha0 la e2,by exact O300 ha0 hb0 la lb e1 e2,by exact O299 ⟩) ?post)
 case post =>
  rintro ⟨r,c⟩ st' ⟨m,e,hs',hm⟩
  dsimp only at e;subst e;exact QZt (h m st' hs' hm)
 case fin =>
  rintro c st' ⟨out,ia,ib,mg,rfl,hs',hi,h1,h2,h3⟩;exact (O298 ha0 hb0 la lb h1 h2 h3).elim
 case step =>
  rintro x c st1 _ hx ⟨out,ia,ib,mg,rfl,hs1,hi,h1,h2,h3⟩;refine QZs (wpS_mono (wpS_forRange
   (I:=fun y c st'=>st1=st'/\∃ out ia ib ac bc,c=(none,out,ia,ib,ac,bc)/\MI rk a.toList b.toList out.toList ia ib/\ia+1<a.size/\ib<b.size/\x+y<ia+ib)
   (Q:=fun c st'=>st1=st'/\((∃ m,c.1=some m/\Mrg rk a.toList b.toList m.toList)\/∃ out ia ib ac bc,c=(none,out,ia,ib,ac,bc)/\MI rk a.toList b.toList out.toList ia ib/\ia+1<a.size/\ib<b.size/\x+1<ia+ib)) ?step1 ?fin1 ⟨rfl,out,ia,ib,_,_,rfl,hi,h1,h2,h3⟩) ?post1)
  case fin1 =>
   rintro c st' ⟨rfl,out,ia,ib,ac,bc,rfl,hi,h1,h2,h3⟩;exact ⟨rfl,.inr ⟨out,ia,ib,ac,bc,rfl,hi,h1,h2,by omega⟩⟩
  case step1 =>
   rintro y c st' _ hy ⟨rfl,out,ia,ib,ac,bc,rfl,hi,h1,h2,h3⟩
   try dsimp only
   refine QZs (ZP h2 (QZs (ZP (by exact O275 la h1) (QZs (L _ _ _ _ (hPb _ h2) (hPa _ (by exact O275 la h1)) (hs1.1.trans hst) ?_)))))
   by_cases hw:rk (g b ib)<rk (g a ia)
   ·rw [QZh hw]
    try dsimp only
    rw [if_pos rfl];refine QZs (ZP h2 ?_);have i2:=pb hi h2 fun y hy=>by
     obtain ⟨j,h5,h6,rfl⟩:=JH hy;exact QBm (QBw hw) (ZeK ha h5 h6)
    try dsimp only
    by_cases e3:ib+1=b.size
    ·rw [if_pos (by simpa using e3)];exact QZt ⟨rfl,.inl ⟨_,rfl,fd i2 (.inr (by exact O287 lb e3))⟩⟩
    rw [if_neg (by simpa using e3)]
    split
    ·exact QZt ⟨rfl,.inr ⟨_,_,_,_,_,rfl,i2,h1,by exact O276 lb h2 e3,by exact O297 ‹_› h3⟩⟩
    ·exact QZt ⟨rfl,_,_,_,_,_,rfl,i2,h1,by exact O276 lb h2 e3,by exact O296 h3⟩
   ·rw [QZi hw]
    try dsimp only
    rw [if_neg (by simp)];refine QZs (ZP (by exact O275 la h1) ?_);have i2:=pa hi (by exact O275 la h1) fun y hy=>by
     obtain ⟨j,h5,h6,rfl⟩:=JH hy;exact QBm (Int.not_lt.mp hw) (ZeK hb h5 h6)
    try dsimp only
    by_cases e3:ia+1+1=a.size
    ·rw [if_pos (by simpa using e3)];exact QZt ⟨rfl,.inl ⟨_,rfl,fl i2 e3⟩⟩
    rw [if_neg (by simpa using e3)]
    split
    ·exact QZt ⟨rfl,.inr ⟨_,_,_,_,_,rfl,i2,by exact O274 la h1 e3,h2,by exact O295 ‹_› h3⟩⟩
    ·exact QZt ⟨rfl,_,_,_,_,_,rfl,i2,by exact O274 la h1 e3,h2,by exact O294 h3⟩
  case post1 =>
   rintro ⟨r,c⟩ st' ⟨rfl,⟨m,e,hm⟩ | ⟨out,ia,ib,ac,bc,e,hi,h1,h2,h3⟩⟩
   ·dsimp only at e;subst e;exact QZt ⟨m,rfl,hs1,hm⟩
   ·obtain ⟨rfl,rfl⟩:=Prod.mk.inj e;refine QZs (wpS_lift (wpAny_rule ⟨rfl,?_⟩));refine QZs (wpS_mono (wpS_forRange
     (I:=fun y c st'=>Sim st st'/\∃ out ia ib mg ac bc,c=(none,out,ia,ib,mg,ac,bc)/\MI rk a.toList b.toList out.toList ia ib/\ia+1<a.size/\ib<b.size/\x+1<ia+ib)
     (Q:=fun c st'=>Sim st st'/\((∃ m,c.1=some m/\Mrg rk a.toList b.toList m.toList)\/∃ out ia ib mg ac bc,c=(none,out,ia,ib,mg,ac,bc)/\MI rk a.toList b.toList out.toList ia ib/\ia+1<a.size/\ib<b.size/\x+1<ia+ib)) ?step2 ?fin2 ⟨hs1,out,ia,ib,_,_,_,rfl,hi,h1,h2,h3⟩) ?post2)
    case fin2 =>
     rintro c st' ⟨hs2,r⟩;exact ⟨hs2,.inr r⟩
    case post2 =>
     rintro ⟨r,c⟩ st' ⟨hs2,⟨m,e,hm⟩ | ⟨out,ia,ib,mg,ac,bc,e,hi,h1,h2,h3⟩⟩
     ·dsimp only at e;subst e;exact QZt ⟨m,rfl,hs2,hm⟩
     ·obtain ⟨rfl,rfl⟩:=Prod.mk.inj e;exact QZs (wpS_modify (QZt ⟨_,_,_,_,rfl,hs2,hi,h1,h2,h3⟩))
    case step2 =>
     rintro y c st2 _ hy ⟨hs2,out,ia,ib,mg,ac,bc,rfl,hi,h1,h2,h3⟩;clear i1 e1 e2
     try dsimp only
     by_cases hm:mg>1
     rw [if_pos hm];generalize mg - 1=z;clear hm;revert z;refine ?key
     rotate_left
     rw [if_neg hm];clear hm;exact ?key mg;intro z;refine QZs (wpS_modify ?_);refine QZs (ZP h2 (QZs (JU L (hPb _ h2) hPa (by exact O293 la h1) (by exact O292 la h1) ha (hs2.1.trans hst) fun k hk1 hk2 hk3=>?_)));have hge:∀ y∈a.toList.drop (ia+k),rk (g b ib)<=rk y:=fun y hy=>by
      obtain ⟨j,h5,h6,rfl⟩:=JH hy;have:=by_no'.mp (hk3 (j - ia) (by exact O138 h5) (by exact O291 la h1 h5 h6));rw [show ia+(j - ia)=j by exact O136 h5] at this;exact QBw this
     have i2:MI rk a.toList b.toList (out++a.extract ia (ia+k)).toList (ia+k) ib:=by
      rw [QBz,Zaj];refine hi.take ha k fun x hx y hy=>?_;obtain ⟨j,h5,h6,rfl⟩:=Zk6 hx;obtain ⟨j',h7,h8,rfl⟩:=JH hy;exact QBm (by_no.mp (hk2 j h5)) (ZeK hb h7 h8)
     try dsimp only
     by_cases hk0:k>0
     rw [if_pos hk0]
     by_cases e3:ia+k+1=a.size
     ·rw [if_pos (by simpa using e3)];exact QZt ⟨hs2,.inl ⟨_,rfl,fl i2 e3⟩⟩
     rw [if_neg (by simpa using e3)]
     by_cases e4:ia+k=a.size
     ·rw [if_pos (by simpa using e4)];exact QZt ⟨hs2,.inl ⟨_,rfl,fd i2 (.inl (by exact O290 la e4))⟩⟩
     rw [if_neg (by simpa using e4)];have q1:ia+k+1<a.size:=by exact O289 la h1 hk1 e3 e4
     have q2:x+1<ia+k+ib:=by exact O288 h3 hk0
     revert i2 q1 q2 hge;generalize out++a.extract ia (ia+k)=out2;generalize ia+k=ia2;clear hk0 e3 e4;revert out2 ia2;refine ?key2
     rotate_left
     ·rw [if_neg hk0];have:k=0:=by exact O278 hk0
      exact ?key2 out ia (by rw [this] at hge; exact hge) hi h1 h3
     clear hi h1 h3 hk1 hk2 hk3;intro out ia hge hi h1 h3;refine QZs (ZP h2 ?_);have i2:=pb hi h2 hge
     try dsimp only
     by_cases e3:ib+1=b.size
     ·rw [if_pos (by simpa using e3)];exact QZt ⟨hs2,.inl ⟨_,rfl,fd i2 (.inr (by exact O287 lb e3))⟩⟩
     rw [if_neg (by simpa using e3)];refine QZs (ZP (by exact O275 la h1) (QZs (JU L (hPa _ (by exact O275 la h1)) hPb (by exact O286 lb h2) (by exact O285 lb h2 e3) hb (hs2.1.trans hst) fun k' hk1 hk2 hk3=>?_)));have hge':∀ y∈b.toList.drop (ib+1+k'),rk (g a ia)<=rk y:=fun y hy=>by
      obtain ⟨j,h5,h6,rfl⟩:=JH hy;have:=by_yes'.mp (hk3 (j - (ib+1)) (by exact O284 h5) (by exact O283 lb h2 h5 h6));rw [show ib+1+(j - (ib+1))=j by exact O282 h5] at this;exact this
     have i3:MI rk a.toList b.toList (out.push (g b ib)++b.extract (ib+1) (ib+1+k')).toList ia (ib+1+k'):=by
      rw [QBz,Zaj];refine (i2.swap.take hb k' fun x hx y hy=>?_).swap;obtain ⟨j,h5,h6,rfl⟩:=Zk6 hx;obtain ⟨j',h7,h8,rfl⟩:=JH hy;exact QBm (QBw (by_yes.mp (hk2 j h5))) (ZeK ha h7 h8)
     have q2:x+1<ia+(ib+1+k'):=by exact O281 h3
     try dsimp only
     by_cases hk0:k'>0
     rw [if_pos hk0]
     by_cases e5:ib+1+k'=b.size
     ·rw [if_pos (by simpa using e5)];exact QZt ⟨hs2,.inl ⟨_,rfl,fd i3 (.inr (by exact O280 lb e5))⟩⟩
     rw [if_neg (by simpa using e5)];have q1:ib+1+k'<b.size:=by exact O279 lb h2 hk1 e5
     revert i3 q1 q2 hge';generalize out.push (g b ib)++b.extract (ib+1) (ib+1+k')=out2;generalize ib+1+k'=ib2;clear hk0 e5;revert out2 ib2;refine ?key3
     rotate_left
     ·rw [if_neg hk0];have:k'=0:=by exact O278 hk0
      exact ?key3 (out.push (g b ib)) (ib+1) (by rw [this] at hge'; exact hge') i2 (by exact O277 h3) (by exact O276 lb h2 e3)
     clear i2 hge hi h2 h3 hk1 hk2 hk3 e3;intro out ib hge i2 h3 h2;refine QZs (ZP (by exact O275 la h1) ?_);have i3:=pa i2 (by exact O275 la h1) hge
     try dsimp only
     by_cases e3:ia+1+1=a.size
     ·rw [if_pos (by simpa using e3)];exact QZt ⟨hs2,.inl ⟨_,rfl,fl i3 e3⟩⟩
     rw [if_neg (by simpa using e3)]
     split
     ·exact QZt ⟨hs2,.inr ⟨_,_,_,_,_,_,rfl,i3,by exact O274 la h1 e3,h2,by exact O273 h3⟩⟩
     ·exact QZt ⟨hs2,_,_,_,_,_,_,rfl,i3,by exact O274 la h1 e3,h2,by exact O273 h3⟩
end
noncomputable def ZjB:Array Keyed->Array Keyed->StateT SortSt Sem (Array Keyed):=sortPriv% PySem.Builtin.mergeHi
noncomputable def ng (rk:Keyed->Int) (x:Keyed):Int:=- rk x
theorem ng_rev {rk:Keyed->Int} {l:List Keyed}:l.reverse.Pairwise (Le (ng rk))↔l.Pairwise (Le rk):=by
 rw [List.pairwise_reverse];have:(fun a b=>Le (ng rk) b a)=Le rk:=by
  funext x y
  unfold Le ng;exact propext ⟨fun h=>by exact O272 h,fun h=>by exact O271 h⟩
 rw [this]
theorem Mrg.back {rk:Keyed->Int} {a b m:List Keyed} (h:Mrg (ng rk) b.reverse a.reverse m.reverse):Mrg rk a b m:=by
 refine ⟨?_,ng_rev.mp h.2⟩;have:=h.1;rw [<- QEk] at this;exact (List.reverse_perm m).symm.trans (this.trans (List.reverse_perm _))
theorem Ze7 {a:Array Keyed} {n:Nat} (h:n<=a.size):a.toList.reverse.drop (a.size - n)=(a.toList.take n).reverse:=by
 rw [List.drop_reverse,QAz]
 congr 2
 exact O270 h
theorem Zcw {a:Array Keyed} {n k:Nat} (h:n<=a.size) (hk:k<=n):(a.toList.reverse.drop (a.size - n)).take (n - k)=(a.extract k n).toList.reverse:=by
 rw [Ze7 h,List.take_reverse,Array.toList_extract,QFc,List.drop_take,QAt,QAz]
 congr 3
 ·exact O269 h hk
 ·exact O269 h hk
theorem Zeu {a:Array Keyed} {n:Nat} (h:n<=a.size) {y:Keyed} (hy:y∈a.toList.reverse.drop (a.size - n)):∃ j,j<n/\y=g a j:=by
 rw [Ze7 h,List.mem_reverse] at hy;have hy:y∈(a.toList.drop 0).take n:=by rw [List.drop_zero]; exact hy
 obtain ⟨j,h1,_,h2⟩:=Zk6 hy;exact ⟨j,h1,by rw [h2,Nat.zero_add]⟩
theorem Zhw {a:Array Keyed} {n k:Nat} (h:n<=a.size) {y:Keyed} (hy:y∈(a.extract k n).toList.reverse):∃ j,k<=j/\j<n/\y=g a j:=by
 rw [List.mem_reverse,Array.toList_extract,QFc] at hy;obtain ⟨j,h1,h3,h2⟩:=Zk6 hy;exact ⟨k+j,by exact O149 ,by exact O268 h1,h2⟩
theorem Zkt {a:Array Keyed} {n:Nat} (h:n<=a.size) (h0:0<n):(a.extract (n - 1) n).toList.reverse=[g a (n - 1)]:=by
 have e:n=n - 1+1:=by exact O267 h0
 have:=Zaj a (n - 1) 1;rw [<- e,ZcX (by exact O266 h e)] at this;rw [this]
 rfl
section
variable {M:Model} {A:Around} {E:Value->Shared->Prop} {s:Shared} {rk:Keyed->Int} {κ:SortKind} {P:Keyed->Prop}
def MH (rk:Keyed->Int) (a b out:Array Keyed) (na nb:Nat):Prop:=MI (ng rk) b.toList.reverse a.toList.reverse out.toList (b.size - nb) (a.size - na)/\na<=a.size/\nb<=b.size
section
variable {a b out:Array Keyed} {na nb:Nat}
theorem MH.ta (ha:a.toList.Pairwise (Le rk)) (i:MH rk a b out na nb) (k:Nat) (hk:k<=na) (hy:∀ j,k<=j->j<na->∀ j',j'<nb->rk (g b j')<=rk (g a j)):MH rk a b (out++(a.extract k na).reverse) k nb:=by
 obtain ⟨i,z1,z2⟩:=i;refine ⟨?_,by exact O73 hk z1,z2⟩;rw [QBz,QEl,<- Zcw z1 hk];have e:a.size - k=a.size - na+(na - k):=by exact O265 hk z1
 rw [e];refine (i.swap.take (ng_rev.mpr ha) (na - k) fun x hx y hy'=>?_).swap;rw [Zcw z1 hk] at hx;obtain ⟨j,h1,h2,rfl⟩:=Zhw z1 hx;obtain ⟨j',h3,rfl⟩:=Zeu z2 hy';have:=hy j h1 h2 j' h3;unfold ng;omega
theorem MH.tb (hb:b.toList.Pairwise (Le rk)) (i:MH rk a b out na nb) (k:Nat) (hk:k<=nb) (hy:∀ j,k<=j->j<nb->∀ j',j'<na->rk (g a j')<=rk (g b j)):MH rk a b (out++(b.extract k nb).reverse) na k:=by
 obtain ⟨i,z1,z2⟩:=i;refine ⟨?_,z1,by exact O73 hk z2⟩;rw [QBz,QEl,<- Zcw z2 hk];have e:b.size - k=b.size - nb+(nb - k):=by exact O265 hk z2
 rw [e];refine i.take (ng_rev.mpr hb) (nb - k) fun x hx y hy'=>?_;rw [Zcw z2 hk] at hx;obtain ⟨j,h1,h2,rfl⟩:=Zhw z2 hx;obtain ⟨j',h3,rfl⟩:=Zeu z1 hy';have:=hy j h1 h2 j' h3;unfold ng;omega
theorem Zfa {a out:Array Keyed} {n:Nat} (h:n<=a.size) (h0:0<n):out++(a.extract (n - 1) n).reverse=out.push (g a (n - 1)):=by
 apply Array.ext'
 rw [QBz,QEl,Zkt h h0,Array.toList_push]
theorem MH.pa (ha:a.toList.Pairwise (Le rk)) (i:MH rk a b out na nb) (h0:0<na) (hy:∀ j,j<nb->rk (g b j)<=rk (g a (na - 1))):MH rk a b (out.push (g a (na - 1))) (na - 1) nb:=by
 rw [<- Zfa i.2.1 h0];exact i.ta ha _ (by exact O264 h0) fun j h1 h2 j' h3=>by rw [show j=na - 1 by exact O263 h0 h1 h2]; exact hy j' h3
theorem MH.pb (hb:b.toList.Pairwise (Le rk)) (i:MH rk a b out na nb) (h0:0<nb) (hy:∀ j,j<na->rk (g a j)<=rk (g b (nb - 1))):MH rk a b (out.push (g b (nb - 1))) na (nb - 1):=by
 rw [<- Zfa i.2.2 h0];exact i.tb hb _ (by exact O264 h0) fun j h1 h2 j' h3=>by rw [show j=nb - 1 by exact O263 h0 h1 h2]; exact hy j' h3
theorem Zbk (a:Array Keyed) {n:Nat} (h:n<=a.size):(a.extract 0 n).toList.reverse=a.toList.reverse.drop (a.size - n):=by
 rw [<- Zcw h (QAg _)];exact QBc (by rw [QBn,QEm,QAz]; exact O262 h)
theorem MH.done (ha:a.toList.Pairwise (Le rk)) (hb:b.toList.Pairwise (Le rk)) (i:MH rk a b out na nb) (e:na=0\/nb=0):Mrg rk a.toList b.toList (a.extract 0 na++b.extract 0 nb++out.reverse).toList:=by
 obtain ⟨i,z1,z2⟩:=i
 apply Mrg.back
 rw [QBz,QBz,QEk,QEk,QEl,List.reverse_reverse,Zbk a z1,Zbk b z2,<- QBo];exact i.done (ng_rev.mpr hb) (ng_rev.mpr ha) (by rw [QEm,QEm,QAz,QAz]; exact O261 e z1 z2)
theorem MH.first (ha:a.toList.Pairwise (Le rk)) (hb:b.toList.Pairwise (Le rk)) (h0:∀ y∈a.toList,rk (g b 0)<=rk y) (i:MH rk a b out na nb) (e:nb=1):Mrg rk a.toList b.toList (b.extract 0 nb++a.extract 0 na++out.reverse).toList:=by
 obtain ⟨i,z1,z2⟩:=i
 apply Mrg.back
 rw [QBz,QBz,QEk,QEk,QEl,List.reverse_reverse,Zbk a z1,Zbk b z2,<- QBo];refine i.last (ng_rev.mpr hb) (ng_rev.mpr ha) (fun x hx y hy=>?_) (by rw [QEm,QAz]; exact O260 e z2);rw [QEm,QAz] at hy;obtain ⟨j,h1,rfl⟩:=Zeu (n:=1) (by exact O259 e z2) hy;have:=h0 x (List.mem_reverse.mp hx);rw [show j=0 by exact O258 h1];unfold ng;omega
end
theorem Zgo (L:LtOk M A E s rk κ P) {a b:Array Keyed} {st:SortSt} {Q:Array Keyed->SortSt->Prop} (hPa:∀ i,i<a.size->P (g a i)) (hPb:∀ i,i<b.size->P (g b i)) (ha:a.toList.Pairwise (Le rk)) (hb:b.toList.Pairwise (Le rk)) (ha0:0<a.size) (hb0:0<b.size)
  (h0:∀ y∈a.toList,rk (g b 0)<=rk y) (hl:∀ j,j<b.size->rk (g b j)<=rk (g a (a.size - 1))) (hst:kindOf st=κ)
  (h:∀ m st',Sim st st'->Mrg rk a.toList b.toList m.toList->Q m st'):wpS M A E s (ZjB a b) Q st:=by
 refine QZs (wpS_lift (wpAny_rule ⟨rfl,?_⟩));refine QZs (ZP (by exact O132 ha0) ?_);have i1:MH rk a b #[g a (a.size - 1)] (a.size - 1) b.size :=
  MH.pa (out:=#[]) ha ⟨⟨by
   rw [Nat.sub_self,Nat.sub_self];exact List.Perm.refl _,.nil,fun x hx=>by cases hx⟩,QAc _,QAc _⟩ ha0 hl
 by_cases e1:a.size - 1=0
 ·rw [if_pos (by simpa using e1)];exact QZt (h _ _ (Sim.rfl' _) (i1.done ha hb (.inl e1)))
 rw [if_neg (by simpa using e1)]
 by_cases e2:b.size=1
 ·rw [if_pos (by simpa using e2)];exact QZt (h _ _ (Sim.rfl' _) (i1.first ha hb h0 e2))
 rw [if_neg (by simpa using e2)];refine QZs (wpS_get ?_);refine QZs (wpS_mono (wpS_forRange
  (I:=fun x c st'=>∃ na nb out mg,c=(none,na,nb,out,mg)/\Sim st st'/\MH rk a b out na nb/\0<na/\1<nb/\x+na+nb<a.size+b.size)
  (Q:=fun c st'=>∃ m,c.1=some m/\Sim st st'/\Mrg rk a.toList b.toList m.toList) ?step ?fin ⟨_,_,_,_,rfl,Sim.rfl' _,i1,by exact O257 ha0 hb0 e1 e2,by exact O256 hb0 e2,by exact O255 ha0⟩) ?post)
 case post =>
  rintro ⟨r,c⟩ st' ⟨m,e,hs',hm⟩
  dsimp only at e;subst e;exact QZt (h m st' hs' hm)
 case fin =>
  rintro c st' ⟨na,nb,out,mg,rfl,hs',hi,h1,h2,h3⟩;exact (O254 h1 h2 h3).elim
 case step =>
  rintro x c st1 _ hx ⟨na,nb,out,mg,rfl,hs1,hi,h1,h2,h3⟩;refine QZs (wpS_mono (wpS_forRange
   (I:=fun y c st'=>st1=st'/\∃ na nb out ac bc,c=(none,na,nb,out,ac,bc)/\MH rk a b out na nb/\0<na/\1<nb/\x+y+na+nb<a.size+b.size)
   (Q:=fun c st'=>st1=st'/\((∃ m,c.1=some m/\Mrg rk a.toList b.toList m.toList)\/∃ na nb out ac bc,c=(none,na,nb,out,ac,bc)/\MH rk a b out na nb/\0<na/\1<nb/\x+1+na+nb<a.size+b.size)) ?step1 ?fin1 ⟨rfl,na,nb,out,_,_,rfl,hi,h1,h2,h3⟩) ?post1)
  case fin1 =>
   rintro c st' ⟨rfl,na,nb,out,ac,bc,rfl,hi,h1,h2,h3⟩;exact ⟨rfl,.inr ⟨na,nb,out,ac,bc,rfl,hi,h1,h2,by omega⟩⟩
  case step1 =>
   rintro y c st' _ hy ⟨rfl,na,nb,out,ac,bc,rfl,hi,h1,h2,h3⟩;have z1:=hi.2.1;have z2:=hi.2.2
   try dsimp only
   refine QZs (ZP (by exact O244 h2 z2) (QZs (ZP (by exact O235 h1 z1) (QZs (L _ _ _ _ (hPb _ (by exact O244 h2 z2)) (hPa _ (by exact O235 h1 z1)) (hs1.1.trans hst) ?_)))))
   by_cases hw:rk (g b (nb - 1))<rk (g a (na - 1))
   ·rw [QZh hw]
    dsimp only;rw [if_pos rfl];refine QZs (ZP (by exact O235 h1 z1) ?_);have i2:=hi.pa ha h1 fun j hj=>QBm (ZeK hb (by exact Om.q2 ‹_›:j<=nb - 1) (by exact O244 h2 z2)) (QBw hw)
    try dsimp only
    by_cases e3:na - 1=0
    ·rw [if_pos (by simpa using e3)];exact QZt ⟨rfl,.inl ⟨_,rfl,i2.done ha hb (.inl e3)⟩⟩
    rw [if_neg (by simpa using e3)]
    split
    ·exact QZt ⟨rfl,.inr ⟨_,_,_,_,_,rfl,i2,by exact O234 h1 e3,h2,by exact O253 ‹_› h1 h3⟩⟩
    ·exact QZt ⟨rfl,_,_,_,_,_,rfl,i2,by exact O234 h1 e3,h2,by exact O252 h1 h3⟩
   ·rw [QZi hw]
    dsimp only;rw [if_neg (by simp)];refine QZs (ZP (by exact O244 h2 z2) ?_);have i2:=hi.pb hb (by exact O243 h2) fun j hj=>QBm (ZeK ha (by exact Om.q2 ‹_›:j<=na - 1) (by exact O235 h1 z1)) (Int.not_lt.mp hw)
    try dsimp only
    by_cases e3:nb - 1=1
    ·rw [if_pos (by simpa using e3)];exact QZt ⟨rfl,.inl ⟨_,rfl,i2.first ha hb h0 e3⟩⟩
    rw [if_neg (by simpa using e3)]
    split
    ·exact QZt ⟨rfl,.inr ⟨_,_,_,_,_,rfl,i2,h1,by exact O250 h2 e3,by exact O251 ‹_› h2 h3⟩⟩
    ·exact QZt ⟨rfl,_,_,_,_,_,rfl,i2,h1,by exact O250 h2 e3,by exact O249 h2 h3⟩
  case post1 =>
   rintro ⟨r,c⟩ st' ⟨rfl,⟨m,e,hm⟩ | ⟨na,nb,out,ac,bc,e,hi,h1,h2,h3⟩⟩
   ·dsimp only at e;subst e;exact QZt ⟨m,rfl,hs1,hm⟩
   ·obtain ⟨rfl,rfl⟩:=Prod.mk.inj e;refine QZs (wpS_lift (wpAny_rule ⟨rfl,?_⟩));refine QZs (wpS_mono (wpS_forRange
     (I:=fun y c st'=>Sim st st'/\∃ na nb out mg ac bc,c=(none,na,nb,out,mg,ac,bc)/\MH rk a b out na nb/\0<na/\1<nb/\x+1+na+nb<a.size+b.size)
     (Q:=fun c st'=>Sim st st'/\((∃ m,c.1=some m/\Mrg rk a.toList b.toList m.toList)\/∃ na nb out mg ac bc,c=(none,na,nb,out,mg,ac,bc)/\MH rk a b out na nb/\0<na/\1<nb/\x+1+na+nb<a.size+b.size)) ?step2 ?fin2 ⟨hs1,na,nb,out,_,_,_,rfl,hi,h1,h2,h3⟩) ?post2)
    case fin2 =>
     rintro c st' ⟨hs2,r⟩;exact ⟨hs2,.inr r⟩
    case post2 =>
     rintro ⟨r,c⟩ st' ⟨hs2,⟨m,e,hm⟩ | ⟨na,nb,out,mg,ac,bc,e,hi,h1,h2,h3⟩⟩
     ·dsimp only at e;subst e;exact QZt ⟨m,rfl,hs2,hm⟩
     ·obtain ⟨rfl,rfl⟩:=Prod.mk.inj e;exact QZs (wpS_modify (QZt ⟨_,_,_,_,rfl,hs2,hi,h1,h2,h3⟩))
    case step2 =>
     rintro y c st2 _ hy ⟨hs2,na,nb,out,mg,ac,bc,rfl,hi,h1,h2,h3⟩;clear i1 e1 e2
     dsimp only
     by_cases hm:mg>1
     rw [if_pos hm];generalize mg - 1=z;clear hm;revert z;refine ?key
     rotate_left
     rw [if_neg hm];clear hm;exact ?key mg;intro z;have z1:=hi.2.1;have z2:=hi.2.2;refine QZs (wpS_modify ?_);refine QZs (ZP (by exact O244 h2 z2) (QZs (JU L (hPb _ (by exact O244 h2 z2)) hPa (by exact O248 z1) (by exact O132 h1) ha (hs2.1.trans hst) fun k hk1 hk2 hk3=>?_)));have hle:∀ j,j<k->rk (g a j)<=rk (g b (nb - 1)):=fun j hj=>by
      have:=by_no.mp (hk2 j hj)
      rwa [Nat.zero_add] at this
     have i2:MH rk a b (out++(a.extract k na).reverse) k nb:=hi.ta ha k hk1 fun j h5 h6 j' h7=>by
      have:=by_no'.mp (hk3 j h5 h6);rw [Nat.zero_add] at this;exact QBm (ZeK hb (by exact Om.q2 ‹_›:j'<=nb - 1) (by exact O244 h2 z2)) (QBw this)
     try dsimp only
     generalize hq:na - k=q
     by_cases hk0:q>0
     rw [if_pos hk0]
     by_cases e3:k=0
     ·rw [if_pos (by simpa using e3)];exact QZt ⟨hs2,.inl ⟨_,rfl,i2.done ha hb (.inl e3)⟩⟩
     rw [if_neg (by simpa using e3)];have q1:0<k:=by exact O247 e3
     have q2:x+1+k+nb<a.size+b.size:=by exact O246 h3 hk1
     revert i2 q1 q2 hle;generalize out++(a.extract k na).reverse=out2;generalize k=na2;clear hk0 e3;revert out2 na2;refine ?key2
     rotate_left
     ·rw [if_neg hk0];have e0:k=na:=by exact O245 hk1 hq hk0
      exact ?key2 out na (by rw [e0] at hle; exact hle) hi h1 h3
     clear hi h1 h3 hk1 hk2 hk3 hq z1;intro out na hle hi h1 h3;have z1:=hi.2.1;refine QZs (ZP (by exact O244 h2 z2) ?_);have i2:=hi.pb hb (by exact O243 h2) hle
     try dsimp only
     by_cases e3:nb - 1=1
     ·rw [if_pos (by simpa using e3)];exact QZt ⟨hs2,.inl ⟨_,rfl,i2.first ha hb h0 e3⟩⟩
     rw [if_neg (by simpa using e3)];refine QZs (ZP (by exact O235 h1 z1) (QZs (JU L (hPa _ (by exact O235 h1 z1)) hPb (by exact O242 h2 z2) (by exact O241 h2) hb (hs2.1.trans hst) fun k' hk1 hk2 hk3=>?_)));have hle':∀ j,j<k'->rk (g b j)<=rk (g a (na - 1)):=fun j hj=>by
      have:=by_yes.mp (hk2 j hj);rw [Nat.zero_add] at this;exact QBw this
     have i3:MH rk a b (out.push (g b (nb - 1))++(b.extract k' (nb - 1)).reverse) na k':=i2.tb hb k' hk1 fun j h5 h6 j' h7=>by
      have:=by_yes'.mp (hk3 j h5 h6);rw [Nat.zero_add] at this;exact QBm (ZeK ha (by exact Om.q2 ‹_›:j'<=na - 1) (by exact O235 h1 z1)) this
     try dsimp only
     generalize hq':nb - 1 - k'=q'
     by_cases hk0:q'>0
     rw [if_pos hk0]
     by_cases e4:k'=1
     ·rw [if_pos (by simpa using e4)];exact QZt ⟨hs2,.inl ⟨_,rfl,i3.first ha hb h0 e4⟩⟩
     rw [if_neg (by simpa using e4)]
     by_cases e5:k'=0
     ·rw [if_pos (by simpa using e5)];exact QZt ⟨hs2,.inl ⟨_,rfl,i3.done ha hb (.inr e5)⟩⟩
     rw [if_neg (by simpa using e5)];have q1:1<k':=by exact O240 e4 e5
     have q2:x+1+na+k'<a.size+b.size:=by exact O239 h3 hq' hk0 e4 e5 q1
     revert i3 q1 q2 hle';generalize out.push (g b (nb - 1))++(b.extract k' (nb - 1)).reverse=out2;generalize k'=nb2;clear hk0 e4 e5;revert out2 nb2;refine ?key3
     rotate_left
     ·rw [if_neg hk0];have e0:k'=nb - 1:=by exact O238 h2 hk1 hq' hk0
      exact ?key3 (out.push (g b (nb - 1))) (nb - 1) (by rw [e0] at hle'; exact hle') i2 (by exact O237 h2 e3 hq' hk0 e0) (by exact O236 h2 h3 hq' hk0 e0)
     clear i2 hle hi h2 h3 hk1 hk2 hk3 e3 hq' z2;intro out nb hle i2 h2 h3;refine QZs (ZP (by exact O235 h1 z1) ?_);have i3:=i2.pa ha h1 hle
     try dsimp only
     by_cases e3:na - 1=0
     ·rw [if_pos (by simpa using e3)];exact QZt ⟨hs2,.inl ⟨_,rfl,i3.done ha hb (.inl e3)⟩⟩
     rw [if_neg (by simpa using e3)]
     split
     ·exact QZt ⟨hs2,.inr ⟨_,_,_,_,_,_,rfl,i3,by exact O234 h1 e3,h2,by exact O233 h1 h3⟩⟩
     ·exact QZt ⟨hs2,_,_,_,_,_,_,rfl,i3,by exact O234 h1 e3,h2,by exact O233 h1 h3⟩
end
def Srt (rk:Keyed->Int) (a:Array Keyed) (lo hi:Nat):Prop:=∀ i j,lo<=i->i<=j->j<hi->rk (g a i)<=rk (g a j)
structure SB (κ:SortKind) (a₀:Array Keyed) (st:SortSt):Prop where
 perm:(arrOf st).Perm a₀
 kind:kindOf st=κ
 failed:failedOf st=none
def Kept (st st':SortSt) (lo hi:Nat):Prop:=pendingOf st'=pendingOf st/\∀ i,i<lo\/hi<=i->g (arrOf st') i=g (arrOf st) i
section
variable {κ:SortKind} {a₀:Array Keyed} {rk:Keyed->Int} {st st' st'':SortSt} {lo hi:Nat}
theorem Kept.refl:Kept st st lo hi:=⟨rfl,fun _ _=>rfl⟩
theorem Kept.trans (x:Kept st st' lo hi) (y:Kept st' st'' lo hi):Kept st st'' lo hi:=⟨y.1.trans x.1,fun i h=>(y.2 i h).trans (x.2 i h)⟩
theorem SB.size (h:SB κ a₀ st):(arrOf st).size=a₀.size:=h.perm.size_eq
theorem SB.mem (h:SB κ a₀ st) {i:Nat} (hi:i<a₀.size):g (arrOf st) i∈a₀.toList :=
 (Array.perm_iff_toList_perm.mp h.perm).mem_iff.mp (Znz (by rw [h.size]; exact hi))
theorem SB.inj (h:SB κ a₀ st) (hd:(a₀.toList.map rk).Nodup) {i j:Nat} (hij:i<j) (hj:j<a₀.size):rk (g (arrOf st) i)≠rk (g (arrOf st) j):=by
 have hn:((arrOf st).toList.map rk).Nodup:=((Array.perm_iff_toList_perm.mp h.perm).map rk).nodup_iff.mpr hd;have hz:=h.size;have:=List.pairwise_iff_getElem.mp hn i j (by rw [QAa,QAz]; exact O232 hij hj hz) (by rw [QAa,QAz]; exact Om.a1 ‹_› ‹_›) hij;rw [QBu,QBu,QCh,QCh] at this;have e1:=g_eq (a:=arrOf st) (i:=i) (by exact O232 hij hj hz);have e2:=g_eq (a:=arrOf st) (i:=j) (by exact Om.a1 ‹_› ‹_›);rw [getElem?_pos (arrOf st) i (by exact O232 hij hj hz)] at e1;rw [getElem?_pos (arrOf st) j (by exact Om.a1 ‹_› ‹_›)] at e2;rw [<- QZl e1,<- QZl e2];exact this
theorem SB.set (h:SB κ a₀ st) {xs:Array Keyed} (hp:xs.Perm (arrOf st)):SB κ a₀ (setArr st xs):=⟨hp.trans h.perm,h.kind,h.failed⟩
theorem ZaA {xs ys:Array Keyed} {i j:Nat} (h:xs[i]? = ys[j]?):g xs i=g ys j:=by
 unfold g;rw [QFa,QFa,h]
theorem ZjN {xs:Array Keyed} {i j:Nat} (hj:j<=xs.size) (k:Nat):g (mirror xs i j ((j - i) / 2)) k=if i<=k/\k<j then g xs (i+j - 1 - k) else g xs k:=by
 have e:=getElem?_mirror_all (i:=i) hj k
 by_cases h:i<=k/\k<j
 ·rw [if_pos h] at e ⊢; exact ZaA e
 ·rw [if_neg h] at e ⊢; exact ZaA e
theorem ZjO {xs:Array Keyed} {src d:Nat} (hs:src<xs.size) (hd:d<=src) (k:Nat):g (bubble xs src d) k=if k=src - d then g xs src else if src - d<k/\k<=src then g xs (k - 1) else g xs k:=by
 have e:=getElem?_bubble hs d hd k
 by_cases h:k=src - d
 ·rw [if_pos h] at e ⊢; exact ZaA e
 ·rw [if_neg h] at e ⊢
  by_cases h':src - d<k/\k<=src
  ·rw [if_pos h'] at e ⊢; exact ZaA e
  ·rw [if_neg h'] at e ⊢; exact ZaA e
end
section
variable {M:Model} {A:Around} {E:Value->Shared->Prop} {s:Shared} {rk:Keyed->Int} {κ:SortKind} {a₀:Array Keyed}
theorem Zdp (L:LtOk M A E s rk κ (· ∈ a₀.toList)) {st:SortSt} {i j:Nat} {Q:Option Bool->SortSt->Prop} (B:SB κ a₀ st) (hi:i<a₀.size) (hj:j<a₀.size) (q:Q (some (decide (rk (g (arrOf st) i)<rk (g (arrOf st) j)))) st):wpS M A E s (ltAt' i j) Q st:=by
 rw [ltAt'_eq];exact QZs (wpS_get (QZs (ZP (by rw [B.size]; exact hi) (QZs (ZP (by rw [B.size]; exact hj) (L _ _ _ _ (B.mem hi) (B.mem hj) B.kind q))))))
theorem ZiH (L:LtOk M A E s rk κ (· ∈ a₀.toList)) (hd:(a₀.toList.map rk).Nodup) {st:SortSt} {lo nr:Nat} {Q:Option Nat->SortSt->Prop} (B:SB κ a₀ st) (h1:1<=nr) (hz:lo+nr<=a₀.size)
  (h:∀ m st',SB κ a₀ st'->Kept st st' lo (lo+nr)->1<=m->m<=nr->Srt rk (arrOf st') lo (lo+m)->Q (some m) st'):wpS M A E s (countRun' lo nr) Q st:=by
 have up:∀ (st:SortSt),SB κ a₀ st->∀ n,1<=n->n<nr->Srt rk (arrOf st) lo (lo+n)->¬ rk (g (arrOf st) (lo+n))<rk (g (arrOf st) (lo+n - 1))->Srt rk (arrOf st) lo (lo+(n+1)):=by
  intro st B n hn hn' hs hw i j h1 h2 h3
  by_cases hj:j<lo+n
  ·exact hs i j h1 h2 hj
  ·by_cases hi:i=j
   ·rw [hi]; exact QCq _
   ·rw [show j=lo+n by exact O215 h3 hj];exact QBm (hs i (lo+n - 1) h1 (by exact O231 hn h2 h3 hj hi) (by exact O230 hn h3 hj)) (Int.not_lt.mp hw)
 refine QZs (wpS_mono (wpS_forRange (I:=fun x c st'=>st=st'/\c=(none,x)/\Srt rk (arrOf st) lo (lo+x))
  (Q:=fun c st'=>st=st'/\∃ n,c=(none,n)/\1<=n/\n<=nr/\Srt rk (arrOf st) lo (lo+n)/\(n=nr\/rk (g (arrOf st) (lo+n))<rk (g (arrOf st) (lo+n - 1)))) ?s1 ?f1 ⟨rfl,rfl,fun i j h1 h2 h3=>by rw [show i=j by exact O229 h1 h2 h3]; exact QCq _⟩) ?p1)
 case f1 =>
  rintro c st' ⟨rfl,rfl,hs⟩;rw [show max 1 nr=nr by exact O228 h1] at hs ⊢;exact ⟨rfl,nr,rfl,h1,QAc _,hs,.inl rfl⟩
 case s1 =>
  rintro x c st' hx hx' ⟨rfl,rfl,hs⟩;refine QZs (Zdp L B (by exact O188 hz hx') (by exact O227 hz hx hx') ?_)
  by_cases hw:rk (g (arrOf st) (lo+x))<rk (g (arrOf st) (lo+x - 1))
  ·rw [QZh hw];exact QZt ⟨rfl,x,rfl,hx,by exact Om.d1 ‹_›,hs,.inr hw⟩
  ·rw [QZi hw];exact QZt ⟨rfl,rfl,up st B x hx hx' hs hw⟩
 case p1 =>
  rintro c st' ⟨rfl,n,rfl,hn,hn',hs,ho⟩
  try dsimp only
  by_cases e:n=nr
  ·rw [if_pos (by simpa using e)];exact QZt (h n st B Kept.refl hn hn' hs)
  rw [if_neg (by simpa using e)];have ho:=ho.resolve_left e
  by_cases e2:n>1
  ·rw [if_pos e2];refine QZs (Zdp L B (by exact O226 h1 hz) (by exact O222 hz hn' e2) ?_);have hw:rk (g (arrOf st) lo)<rk (g (arrOf st) (lo+n - 1)):=by
    have a1:=hs lo (lo+n - 1) (by exact O195 ) (by exact O225 e2) (by exact O224 e2);have a2:=B.inj hd (i:=lo) (j:=lo+n - 1) (by exact O223 e2) (by exact O222 hz hn' e2);omega
   rw [QZh hw];exact QZt (h n st B Kept.refl hn hn' hs)
  rw [if_neg e2];have e3:n=1:=by exact O221 hn e2
  subst e3;refine QZs (wpS_lift (wpAny_rule ⟨rfl,?_⟩))
  try dsimp only
  refine QZs (wpS_mono (wpS_forRange (I:=fun x c st'=>st=st'/\c=(none,x,0)/\1<=x/\x<=nr/\∀ i j,lo<=i->i<=j->j<lo+x->rk (g (arrOf st) j)<=rk (g (arrOf st) i))
   (Q:=fun c st'=>st=st'/\∃ x,c=(none,x,0)/\1<=x/\x<=nr/\∀ i j,lo<=i->i<=j->j<lo+x->rk (g (arrOf st) j)<=rk (g (arrOf st) i)) ?s2 ?f2 ⟨rfl,rfl,by exact O220 ,by exact O219 h1 e,fun i j h1 h2 h3=>?i2⟩) ?p2)
  case i2 =>
   by_cases hi:i=j
   ·rw [hi]; exact QCq _
   ·rw [show i=lo+1 - 1 by exact O218 h1 h2 h3 hi,show j=lo+1 by exact O217 h1 h2 h3 hi];exact QBw ho
  case f2 =>
   rintro c st' ⟨rfl,rfl,r⟩;exact ⟨rfl,_,rfl,r⟩
  case s2 =>
   rintro x c st' hx hx' ⟨rfl,rfl,h3,h4,h5⟩
   dsimp only;refine QZs (Zdp L B (by exact O188 hz hx') (by exact O212 hz hx hx') ?_)
   by_cases hw:rk (g (arrOf st) (lo+x))<rk (g (arrOf st) (lo+x - 1))
   ·rw [QZh hw];refine QZt ⟨rfl,rfl,by exact O216 hx,by exact Om.f1 ‹_›,fun i j h6 h7 h8=>?_⟩
    by_cases hj:j<lo+x
    ·exact h5 i j h6 h7 hj
    ·by_cases hi:i=j
     ·rw [hi]; exact QCq _
     ·rw [show j=lo+x by exact O215 h8 hj];exact QBm (QBw hw) (h5 i (lo+x - 1) h6 (by exact O214 hx h7 h8 hj hi) (by exact O213 hx h8 hj))
   ·rw [QZi hw];refine QZs (Zdp L B (by exact O212 hz hx hx') (by exact O188 hz hx') ?_);have a2:=B.inj hd (i:=lo+x - 1) (j:=lo+x) (by exact O211 hx) (by exact O188 hz hx');rw [QZh (by exact O210 hw a2)];exact QZt ⟨rfl,x,rfl,h3,h4,h5⟩
  case p2 =>
   rintro c st' ⟨rfl,x,rfl,h3,h4,h5⟩
   try dsimp only
   rw [if_neg (by exact O209 )];refine QZs ?_;show wpS M A E s (reverseSlice' lo (lo+x)) _ st;rw [reverseSlice'_eq];refine wpS_modify ?_;have B':SB κ a₀ (setArr st (mirror (arrOf st) lo (lo+x) ((lo+x - lo) / 2))):=B.set (mirror_perm _ _ _ _);have hz':=B.size;have gm:=ZjN (xs:=arrOf st) (i:=lo) (j:=lo+x) (by exact O208 hz h4 hz');have K':Kept st (setArr st (mirror (arrOf st) lo (lo+x) ((lo+x - lo) / 2))) lo (lo+nr):=⟨rfl,fun i hi=>by
    show g (mirror (arrOf st) lo (lo+x) ((lo+x - lo) / 2)) i=_;rw [gm,if_neg (by exact O207 h4 hi)]⟩
   have S':Srt rk (arrOf (setArr st (mirror (arrOf st) lo (lo+x) ((lo+x - lo) / 2)))) lo (lo+x):=fun i j h6 h7 h8=>by
    show rk (g (mirror (arrOf st) lo (lo+x) ((lo+x - lo) / 2)) i)<=rk (g (mirror (arrOf st) lo (lo+x) ((lo+x - lo) / 2)) j);rw [gm,gm,if_pos (by exact O206 h6 h7 h8),if_pos (by exact O205 h6 h7 h8)];exact h5 _ _ (by exact O204 h8) (by exact O203 h7 h8) (by exact O202 h6 h8)
   revert B' K' S';generalize setArr st (mirror (arrOf st) lo (lo+x) ((lo+x - lo) / 2))=st2;intro B' K' S';refine QZs (wpS_mono (wpS_forRange (I:=fun y c st'=>st2=st'/\c=(none,y)/\1<=y/\y<=nr/\Srt rk (arrOf st2) lo (lo+y))
    (Q:=fun c st'=>st2=st'/\∃ y,c=(none,y)/\1<=y/\y<=nr/\Srt rk (arrOf st2) lo (lo+y)) ?s3 ?f3 ⟨rfl,rfl,h3,h4,S'⟩) ?p3)
   case f3 =>
    rintro c st' ⟨rfl,rfl,r⟩;exact ⟨rfl,_,rfl,r⟩
   case s3 =>
    rintro y c st' hy hy' ⟨rfl,rfl,h6,h7,hs⟩
    try dsimp only
    refine QZs (Zdp L B' (by exact O201 hz hz' hy') (by exact O200 hz hz' hy' h6) ?_)
    by_cases hw:rk (g (arrOf st2) (lo+y))<rk (g (arrOf st2) (lo+y - 1))
    ·rw [QZh hw];exact QZt ⟨rfl,y,rfl,h6,h7,hs⟩
    ·rw [QZi hw];exact QZt ⟨rfl,rfl,by exact O199 h6,by exact Om.f1 ‹_›,up st2 B' y h6 hy' hs hw⟩
   case p3 =>
    rintro c st' ⟨rfl,y,rfl,h6,h7,hs⟩;exact QZt (h y st2 B' K' h6 h7 hs)
theorem Zh8 (L:LtOk M A E s rk κ (· ∈ a₀.toList)) {st:SortSt} {lo n ok:Nat} {Q:Bool->SortSt->Prop} (B:SB κ a₀ st) (h1:1<=ok) (hok:ok<=n) (hz:lo+n<=a₀.size) (hs:Srt rk (arrOf st) lo (lo+ok))
  (h:∀ st',SB κ a₀ st'->Kept st st' lo (lo+n)->Srt rk (arrOf st') lo (lo+n)->Q true st'):wpS M A E s (binarySort' lo n ok) Q st:=by
 refine QZs (wpS_mono (wpS_forRange (I:=fun k c st'=>c=(none,())/\SB κ a₀ st'/\Kept st st' lo (lo+n)/\Srt rk (arrOf st') lo (lo+k))
  (Q:=fun c st'=>c=(none,())/\SB κ a₀ st'/\Kept st st' lo (lo+n)/\Srt rk (arrOf st') lo (lo+n)) ?s1 ?f1 ⟨rfl,B,Kept.refl,by rw [show max ok 1=ok by exact O198 h1]; exact hs⟩) ?p1)
 case p1 =>
  rintro c st' ⟨rfl,B',K',S'⟩;exact QZt (h st' B' K' S')
 case f1 =>
  rintro c st' ⟨rfl,B',K',S'⟩;rw [show max (max ok 1) n=n by exact O197 h1 hok] at S';exact ⟨rfl,B',K',S'⟩
 case s1 =>
  rintro k c st' hk hk' ⟨rfl,B',K',S'⟩;refine QZs (wpS_mono (wpS_forRange (I:=fun x c st2=>st'=st2/\∃ l r,c=(none,l,r)/\l<=r/\r<=k/\r - l<=k - x/\(∀ i,i<l->rk (g (arrOf st') (lo+i))<=rk (g (arrOf st') (lo+k)))/\∀ i,r<=i->i<k->rk (g (arrOf st') (lo+k))<=rk (g (arrOf st') (lo+i)))
   (Q:=fun c st2=>st'=st2/\∃ l r,c=(none,l,r)/\l<=k/\(∀ i,i<l->rk (g (arrOf st') (lo+i))<=rk (g (arrOf st') (lo+k)))/\∀ i,l<=i->i<k->rk (g (arrOf st') (lo+k))<=rk (g (arrOf st') (lo+i))) ?s2 ?f2
   ⟨rfl,0,k,rfl,by exact O196 ,by exact O195 ,by exact O194 ,fun i hi=>by exact O193 hi,fun i h5 h6=>by exact O192 h5 h6⟩) ?p2)
  case f2 =>
   rintro c st2 ⟨rfl,l,r,rfl,h3,h4,h5,h6,h7⟩;exact ⟨rfl,l,r,rfl,by exact O73 h3 h4,h6,fun i h8 h9=>h7 i (by exact O191 h3 h5 h8) h9⟩
  case s2 =>
   rintro x c st2 _ hx ⟨rfl,l,r,rfl,h3,h4,h5,h6,h7⟩
   try dsimp only
   by_cases hlr:l>=r
   ·rw [if_pos hlr];exact QZt ⟨rfl,l,r,rfl,by exact O190 h3 h4 hlr,h6,fun i h8 h9=>h7 i (by exact O189 h3 hlr h8) h9⟩
   rw [if_neg hlr];refine QZs (Zdp L B' (by exact O188 hz hk') (by exact O187 hz hk' h4 hlr) ?_)
   by_cases hw:rk (g (arrOf st') (lo+k))<rk (g (arrOf st') (lo+(l+r) / 2))
   ·rw [QZh hw];exact QZt ⟨rfl,l,(l+r) / 2,rfl,by exact O186 hlr,by exact O185 h4 hlr,by exact O184 hx h5 hlr,h6,fun i h8 h9=>QBm (QBw hw) (S' _ _ (by exact O183 hlr) (by exact O182 h8) (by exact O147 h9))⟩
   ·rw [QZi hw];exact QZt ⟨rfl,(l+r) / 2+1,r,rfl,by exact O181 hlr,by assumption,by exact O180 hx h5 hlr,fun i h8=>QBm (S' _ (lo+(l+r) / 2) (by exact O149 ) (by exact O179 h8) (by exact O178 h4 hlr)) (Int.not_lt.mp hw),h7⟩
  case p2 =>
   rintro c st2 ⟨rfl,l,r,rfl,h3,h6,h7⟩;refine QZs ?_;show wpS M A E s (moveDown' (lo+k) (lo+l)) _ st';rw [moveDown'_eq];have hz':=B'.size;have gb:=ZjO (xs:=arrOf st') (src:=lo+k) (d:=lo+k - (lo+l)) (by exact O177 hz hk' hz') (by exact O176 h3);refine wpS_modify (QZt ⟨rfl,B'.set (bubble_perm _ _ _),K'.trans ⟨rfl,fun i hi=>?_⟩,fun i j h8 h9 h10=>?_⟩)
   ·show g (bubble (arrOf st') (lo+k) (lo+k - (lo+l))) i=_;rw [gb,if_neg (by exact O175 hk' h3 hi),if_neg (by exact O174 hk' h3 hi)]
   ·show rk (g (bubble (arrOf st') (lo+k) (lo+k - (lo+l))) i)<=rk (g (bubble (arrOf st') (lo+k) (lo+k - (lo+l))) j);have h6:∀ i,lo<=i->i<lo+l->rk (g (arrOf st') i)<=rk (g (arrOf st') (lo+k)):=fun i p q=>by
     have:=h6 (i - lo) (by exact O140 p q)
     rwa [show lo+(i - lo)=i by exact O139 p] at this
    have h7:∀ i,lo+l<=i->i<lo+k->rk (g (arrOf st') (lo+k))<=rk (g (arrOf st') i):=fun i p q=>by
     have:=h7 (i - lo) (by exact O138 p) (by exact O137 p q)
     rwa [show lo+(i - lo)=i by exact O136 p] at this
    rw [gb,gb]
    repeat' split
    all_goals first
     | (exfalso; lia)
     | exact QCq _
     | exact h6 _ (by lia) (by lia)
     | exact h7 _ (by lia) (by lia)
     | exact S' _ _ (by lia) (by lia) (by lia)
end
theorem Ze9 (base:Nat):∀ (l:List Keyed) (j:Nat) (arr:Array Keyed),base+j+l.length<=arr.size->((l.zipIdx j).foldl (fun a x=>a.setIfInBounds (base+x.2) x.1) arr).toList=arr.toList.take (base+j)++(l++arr.toList.drop (base+j+l.length))
 | [],j,arr,_=>by
  simp
 | p::l,j,arr,h=>by
  rw [QAu] at h;rw [List.zipIdx_cons,List.foldl_cons,Ze9 base l (j+1) _ (by rw [Array.size_setIfInBounds]; exact O173 h),Array.toList_setIfInBounds];have hl:base+j<arr.toList.length:=by rw [QAz]; exact O172 h
  have e1:(arr.toList.set (base+j) p).take (base+(j+1))=arr.toList.take (base+j)++[p]:=by
   rw [<- Nat.add_assoc,List.take_succ_eq_append_getElem (by rw [QCx]; exact hl),List.getElem_set_self,List.take_set_of_le (QAc _)]
  have e2:(arr.toList.set (base+j) p).drop (base+(j+1)+l.length)=arr.toList.drop (base+j+(p::l).length):=by
   rw [List.drop_set_of_lt (by exact O171 ),QAu]
   congr 1
   exact O170 
  rw [e1,e2,QBo]
  rfl
theorem ZgT (a:Array Keyed) (i:Nat):g a i=a.toList.getD i (Value.none,Value.none):=by
 unfold g;rw [QFa,QAd,QDg]
theorem ZkC {a a':Array Keyed} {b:Nat} {l:List Keyed} (hz:b+l.length<=a.size) (e:a'.toList=a.toList.take b++(l++a.toList.drop (b+l.length))) {i:Nat} (hi:i<b\/b+l.length<=i):g a' i=g a i:=by
 have ht:(a.toList.take b).length=b:=by rw [QAt,QAz]; exact O166 hz
 rw [ZgT,ZgT,e,QAd,QAd]
 congr 1
 rcases hi with hi | hi
 ·rw [QCr (by exact Om.a1 ‹_› ‹_›),List.getElem?_take_of_lt hi]
 ·rw [QCw (by exact O169 ht hi),QCw (by exact O168 ht hi),List.getElem?_drop,ht]
  congr 1
  exact O167 ht hi
theorem Zme {a a':Array Keyed} {b:Nat} {l:List Keyed} (hz:b+l.length<=a.size) (e:a'.toList=a.toList.take b++(l++a.toList.drop (b+l.length))) {i:Nat} (h1:b<=i) (h2:i<b+l.length):g a' i=l.getD (i - b) (Value.none,Value.none):=by
 have ht:(a.toList.take b).length=b:=by rw [QAt,QAz]; exact O166 hz
 rw [ZgT,e,QAd,QAd]
 congr 1
 rw [QCw (by exact Om.l4 ‹_› ‹_›),ht,QCr (by exact O165 h1 h2 ht)]
noncomputable def Runs (rk:Keyed->Int) (a:Array Keyed):List (Nat × Nat × Nat)->Nat->Nat->Prop
 | [],lo,hi=>lo=hi
 | p::ps,lo,hi=>p.1=lo/\0<p.2.1/\Srt rk a lo (lo+p.2.1)/\Runs rk a ps (lo+p.2.1) hi
section
variable {rk:Keyed->Int} {a a':Array Keyed}
theorem Runs.le:∀ {ps:List (Nat × Nat × Nat)} {lo hi:Nat},Runs rk a ps lo hi->lo+ps.length<=hi
 | [],_,_,h=>Nat.le_of_eq h
 | p::ps,lo,hi,h=>by
  have:=Runs.le h.2.2.2;have:=h.2.1;rw [QAu];omega
theorem Runs.app:∀ {ps qs:List (Nat × Nat × Nat)} {lo hi:Nat},Runs rk a (ps++qs) lo hi↔∃ m,Runs rk a ps lo m/\Runs rk a qs m hi
 | [],qs,lo,hi=>⟨fun h=>⟨lo,rfl,h⟩,fun zz0=> by obtain ⟨m,e,h⟩ := zz0; exact by cases e; exact h⟩
 | p::ps,qs,lo,hi=>⟨fun zz0=> by obtain ⟨h1,h2,h3,h4⟩ := zz0; exact let ⟨m,h5,h6⟩:=Runs.app.mp h4; ⟨m,⟨h1,h2,h3,h5⟩,h6⟩,fun zz0=> by obtain ⟨m,⟨h1,h2,h3,h5⟩,h6⟩ := zz0; exact ⟨h1,h2,h3,Runs.app.mpr ⟨m,h5,h6⟩⟩⟩
theorem Runs.cong:∀ {ps:List (Nat × Nat × Nat)} {lo hi:Nat},Runs rk a ps lo hi->(∀ i,lo<=i->i<hi->g a' i=g a i)->Runs rk a' ps lo hi
 | [],_,_,h,_=>h
 | p::ps,lo,hi,⟨h1,h2,h3,h4⟩,e=>by
  have:=Runs.le h4;refine ⟨h1,h2,fun i j p q r=>?_,Runs.cong h4 fun i p q=>e i (by exact O164 h2 p) q⟩;rw [e i (by assumption) (by exact O163 this q r),e j (by exact O73 p q) (by exact O162 this r)];exact h3 i j p q r
end
theorem Zdx {α:Type} {l:List α} {i:Nat} {x y:α} (hx:l[i]? = some x) (hy:l[i+1]? = some y):l=l.take i++x::y::l.drop (i+2):=by
 obtain ⟨h1,e1⟩:=QZb.mp hx;obtain ⟨h2,e2⟩:=QZb.mp hy;have d1:=QBk h1;have d2:=QBk h2;rw [e1,d2,e2] at d1;rw [<- d1];exact (QCp i l).symm
theorem ZmE {α:Type} (p:Array α) {i:Nat} {x y z:α} (hx:p[i]? = some x) (hy:p[i+1]? = some y):((p.setIfInBounds i z).eraseIdxIfInBounds (i+1)).toList=p.toList.take i++z::p.toList.drop (i+2):=by
 have hx':p.toList[i]? = some x:=by rw [QDg]; exact hx
 have hy':p.toList[i+1]? = some y:=by rw [QDg]; exact hy
 have hl:i+1<p.size:=(Array.getElem?_eq_some_iff.mp hy).1;have e:=Zdx hx' hy';have ht:(p.toList.take i).length=i:=by rw [QAt,QAz]; exact O161 hl
 rw [Array.toList_eraseIdxIfInBounds,Array.toList_setIfInBounds];generalize p.toList.take i=t at *;generalize p.toList.drop (i+2)=d at *;rw [e,List.set_append_right _ _ (by exact Om.l1 ‹_›),List.eraseIdx_append_of_length_le (by exact O160 ht),ht,Nat.sub_self,show i+1 - i=1 by exact O159 ]
 rfl
section
variable {M:Model} {A:Around} {E:Value->Shared->Prop} {s:Shared} {rk:Keyed->Int} {κ:SortKind} {a₀:Array Keyed}
theorem ZlT {σ:Type} {x:σ} {Q:PUnit->σ->Prop} {st:σ} (h:Q ⟨⟩ x):wpS M A E s (set x:StateT σ Sem PUnit) Q st:=by
 unfold wpS;rw [StateT.run_set];exact QZr ⟨rfl,h⟩
theorem ZhM {a:Array Keyed} {b k j:Nat} (h:b+j<k) (hk:k<=a.size):g (a.extract b k) j=g a (b+j):=by
 apply ZaA
 rw [Array.getElem?_extract];rw [if_pos (by exact O158 h hk)]
theorem Zhi {a:Array Keyed} {b k:Nat} (hk:k<=a.size) (h:Srt rk a b k):(a.extract b k).toList.Pairwise (Le rk):=by
 rw [List.pairwise_iff_getElem];intro i j hi hj hij;have hz:(a.extract b k).size=k - b:=by rw [Array.size_extract]; exact O157 hk
 rw [QAz,hz] at hi hj;rw [QCh,QCh];have e1:=g_eq (a:=a.extract b k) (i:=i) (by exact Om.a1 ‹_› ‹_›);have e2:=g_eq (a:=a.extract b k) (i:=j) (by exact Om.a1 ‹_› ‹_›);rw [getElem?_pos _ i (by exact Om.a1 ‹_› ‹_›)] at e1;rw [getElem?_pos _ j (by exact Om.a1 ‹_› ‹_›)] at e2;rw [QZl e1,QZl e2,ZhM (by exact O156 hi hj hij hz) hk,ZhM (by exact O154 hi hj hz) hk];exact h _ _ (by exact O149 ) (by exact O155 hij) (by exact O154 hi hj hz)
theorem ZkB {l:List Keyed} (h:l.Pairwise (Le rk)) {i j:Nat} (hij:i<=j) (hj:j<l.length):rk (l.getD i (Value.none,Value.none))<=rk (l.getD j (Value.none,Value.none)):=by
 rcases QCm i j with h' | h'
 ·rw [QAd,QAd,QAb (by exact O153 hj h':i<l.length),QAb hj];exact List.pairwise_iff_getElem.mp h i j (by exact O153 hj h') hj h'
 ·rw [show i=j by exact O32 hij h'];exact QCq _
theorem Zce (L:LtOk M A E s rk κ (· ∈ a₀.toList)) {st:SortSt} {i hi:Nat} {Q:Bool->SortSt->Prop} (B:SB κ a₀ st) (hz:hi<=a₀.size) (R:Runs rk (arrOf st) (pendingOf st).toList 0 hi) (hn:i+1<(pendingOf st).size)
  (h:∀ st',SB κ a₀ st'->(∀ j,hi<=j->g (arrOf st') j=g (arrOf st) j)->Runs rk (arrOf st') (pendingOf st').toList 0 hi->(pendingOf st').size+1=(pendingOf st).size->Q true st'):wpS M A E s (mergeAt' i) Q st:=by
 refine QZs (wpS_get ?_);obtain ⟨⟨sa,na,pa⟩,hx⟩:∃ x,(pendingOf st)[i]? = some x:=⟨_,getElem?_pos _ i (by exact O152 hn)⟩;obtain ⟨⟨sb,nb,pb⟩,hy⟩:∃ x,(pendingOf st)[i+1]? = some x:=⟨_,getElem?_pos _ (i+1) hn⟩;rw [hx,hy]
 try dsimp only
 have hj:=ZmE (pendingOf st) (z:=(sa,na+nb,pa)) hx hy;have hsp:=Zdx (l:=(pendingOf st).toList) (i:=i) (by rw [QDg]; exact hx) (by rw [QDg]; exact hy);have hsz:(((pendingOf st).setIfInBounds i (sa,na+nb,pa)).eraseIdxIfInBounds (i+1)).size+1=(pendingOf st).size:=by
  rw [<- QAz,hj,QAo,QAt,QAu,QBn,QAz];exact O151 hn
 rw [hsp] at R;obtain ⟨m,R1,e1,p1,s1,e2,p2,s2,R2⟩:=Runs.app.mp R
 dsimp only at e1 p1 s1 e2 p2 s2 R2;subst e1;subst e2;have hle:=R2.le;have hzz:=B.size;generalize hp:((pendingOf st).setIfInBounds i (sa,na+nb,pa)).eraseIdxIfInBounds (i+1)=pd at *;have fin:∀ st',SB κ a₀ st'->pendingOf st'=pd->(∀ j,j<sa\/sa+na+nb<=j->g (arrOf st') j=g (arrOf st) j)->Srt rk (arrOf st') sa (sa+na+nb)->Q true st':=fun st' B' ep kp ss=>by
  refine h st' B' (fun j h5=>kp j (.inr (by exact O150 hle h5))) ?_ (by rw [ep]; exact hsz);rw [ep,hj];refine Runs.app.mpr ⟨sa,R1.cong fun j _ h6=>kp j (.inl h6),rfl,Nat.add_pos_left p1 _,?_,?_⟩
  ·rw [<- Nat.add_assoc]; exact ss
  ·rw [<- Nat.add_assoc]; exact R2.cong fun j h6 _=>kp j (.inr h6)
 have kA:∀ i j,i<=j->j<na->rk (g (arrOf st) (sa+i))<=rk (g (arrOf st) (sa+j)):=fun i j h5 h6=>s1 _ _ (by exact O149 ) (by exact O148 h5) (by exact O147 h6)
 have kB:∀ i j,i<=j->j<nb->rk (g (arrOf st) (sa+na+i))<=rk (g (arrOf st) (sa+na+j)):=fun i j h5 h6=>s2 _ _ (by exact O113 ) (by exact O146 h5) (by exact O145 h6)
 refine QZs (ZlT ?_);have b1:sa+na<(arrOf st).size:=by exact O144 hz p2 hle hzz
 have b2:sa+na+nb<=(arrOf st).size:=by exact O143 hz hle hzz
 have b3:sa+na - 1<(arrOf st).size:=by exact O142 p1 b1
 refine QZs (ZP b1 (QZs (Zbo L (B.mem (by exact Om.a2 ‹_› ‹_›)) (fun i hi=>B.mem (by exact O141 hzz b1 hi)) (QCa b1) p1 kA B.kind fun k hk1 hk2 hk3=>?_)));have B1:SB κ a₀ (setPending st pd):=⟨B.perm,B.kind,B.failed⟩
 try dsimp only
 have hk2:∀ i,sa<=i->i<sa+k->rk (g (arrOf st) i)<=rk (g (arrOf st) (sa+na)):=fun i h5 h6=>by
  have:=by_no.mp (hk2 (i - sa) (by exact O140 h5 h6))
  rwa [show sa+(i - sa)=i by exact O139 h5] at this
 have hk3:∀ i,sa+k<=i->i<sa+na->rk (g (arrOf st) (sa+na))<rk (g (arrOf st) i):=fun i h5 h6=>by
  have:=by_no'.mp (hk3 (i - sa) (by exact O138 h5) (by exact O137 h5 h6))
  rwa [show sa+(i - sa)=i by exact O136 h5] at this
 by_cases e1:na - k=0
 ·rw [if_pos (by simpa using e1)];refine QZt (fin _ B1 rfl (fun _ _=>rfl) fun i j h5 h6 h7=>?_)
  by_cases hj:j<sa+na
  ·exact s1 i j h5 h6 hj
  ·by_cases hi:i<sa+na
   ·exact QBm (hk2 i h5 (by exact O135 hk1 e1 hi)) (s2 _ _ (by exact O95 ) (by exact O88 hj) h7)
   ·exact s2 i j (by exact O88 hi) h6 h7
 rw [if_neg (by simpa using e1)];have e0:sa+k+(na - k) - 1=sa+na - 1:=by exact O134 p1 hk1 e1
 rw [e0];refine QZs (ZP b3 (QZs (Zbo L (B.mem (by exact Om.a2 ‹_› ‹_›)) (fun i hi=>B.mem (by exact O133 hzz b2 hi)) b2 (by exact O132 p2) kB B.kind fun n2 hn1 hn2 hn3=>?_)));have hn2:∀ i,sa+na<=i->i<sa+na+n2->rk (g (arrOf st) i)<rk (g (arrOf st) (sa+na - 1)):=fun i h5 h6=>by
  have:=by_yes.mp (hn2 (i - (sa+na)) (by exact O104 h5 h6))
  rwa [show sa+na+(i - (sa+na))=i by exact O131 h5] at this
 have hn3:∀ i,sa+na+n2<=i->i<sa+na+nb->rk (g (arrOf st) (sa+na - 1))<=rk (g (arrOf st) i):=fun i h5 h6=>by
  have:=by_yes'.mp (hn3 (i - (sa+na)) (by exact O130 h5) (by exact O129 h5 h6))
  rwa [show sa+na+(i - (sa+na))=i by exact O128 h5] at this
 try dsimp only
 by_cases e2:n2=0
 ·rw [if_pos (by simpa using e2)];refine QZt (fin _ B1 rfl (fun _ _=>rfl) fun i j h5 h6 h7=>?_)
  by_cases hj:j<sa+na
  ·exact s1 i j h5 h6 hj
  ·by_cases hi:i<sa+na
   ·exact QBm (s1 _ _ h5 (by exact Om.q2 ‹_›:i<=sa+na - 1) (by exact O127 hk1 e0 hi)) (hn3 _ (by exact O126 e2 hj) h7)
   ·exact s2 i j (by exact O88 hi) h6 h7
 rw [if_neg (by simpa using e2)];generalize hx':(arrOf st).extract (sa+k) (sa+na)=x;generalize hy':(arrOf st).extract (sa+na) (sa+na+n2)=y;have zx:x.size=na - k:=by rw [<- hx',Array.size_extract]; exact O125 b1 hk1
 have zy:y.size=n2:=by rw [<- hy',Array.size_extract]; exact O124 b1 b2 hn1
 have gx:∀ j,j<na - k->g x j=g (arrOf st) (sa+k+j):=fun j hj=>by rw [<- hx',ZhM (by exact O123 hk1 hj) (by exact Om.d1 ‹_›)]
 have gy:∀ j,j<n2->g y j=g (arrOf st) (sa+na+j):=fun j hj=>by rw [<- hy',ZhM (by exact O122 zy hj) (by exact O121 b2 hn1 zy)]
 have sx:x.toList.Pairwise (Le rk):=by rw [<- hx']; exact Zhi (by exact Om.d1 ‹_›) fun i j h5 h6 h7=>s1 i j (by exact O91 h5) h6 h7
 have sy:y.toList.Pairwise (Le rk):=by rw [<- hy']; exact Zhi (by exact O121 b2 hn1 zy) fun i j h5 h6 h7=>s2 i j h5 h6 (by exact O96 hn1 zy h7)
 have mx:∀ j,j<x.size->g x j∈a₀.toList:=fun j hj=>by rw [gx j (by exact Om.a2 ‹_› ‹_›)]; exact B.mem (by exact O120 hzz b2 hk1 hn1 zx zy hj)
 have my:∀ j,j<y.size->g y j∈a₀.toList:=fun j hj=>by rw [gy j (by exact Om.a2 ‹_› ‹_›)]; exact B.mem (by exact O119 hzz b2 hn1 zy hj)
 have ox:∀ z∈x.toList,∃ j,sa+k<=j/\j<sa+na/\z=g (arrOf st) j:=fun z hz=>by
  obtain ⟨j,_,h5,rfl⟩:=JH (i:=0) (by rw [List.drop_zero]; exact hz);exact ⟨sa+k+j,by exact O117 ‹_›,by exact O118 hk1 zx h5,gx j (by exact Om.a2 ‹_› ‹_›)⟩
 have oy:∀ z∈y.toList,∃ j,sa+na<=j/\j<sa+na+n2/\z=g (arrOf st) j:=fun z hz=>by
  obtain ⟨j,_,h5,rfl⟩:=JH (i:=0) (by rw [List.drop_zero]; exact hz);exact ⟨sa+na+j,by exact O117 ‹_›,by exact O112 zy h5,gy j (by exact Om.a2 ‹_› ‹_›)⟩
 have h0:∀ z∈x.toList,rk (g y 0)<=rk z:=fun z hz=>by
  obtain ⟨j,h5,h6,rfl⟩:=ox z hz;rw [gy 0 (by exact O116 hk1 e2 zy)];exact QBw (hk3 j h5 h6)
 have hl:∀ j,j<y.size->rk (g y j)<=rk (g x (x.size - 1)):=fun j hj=>by
  rw [gy j (by exact Om.a2 ‹_› ‹_›),gx _ (by exact O115 p1 hk1 e1 e2 zx zy),show sa+k+(x.size - 1)=sa+na - 1 by exact O114 p1 hk1 e1 e0 e2 zx zy];exact QBw (hn2 _ (by exact O113 ) (by exact O112 zy hj))
 by_cases hc:na - k<=n2
 rw [if_pos hc];clear hc;refine QZs (Zgn L mx my sx sy (by exact O110 p1 hk1 e1 e2 zx zy) (by exact O109 hk1 e2 zy) h0 (fun z hz z' hz'=>?_) B1.kind ?key)
 ·obtain ⟨j,_,h5,rfl⟩:=JH (i:=0) (by rw [List.drop_zero]; exact hz);obtain ⟨j',h6,h7,rfl⟩:=JH hz';rw [QAz] at h6;rw [show j'=x.size - 1 by exact O111 zx h6 h7];exact hl j h5
 rotate_left
 rw [if_neg hc];clear hc;exact QZs (Zgo L mx my sx sy (by exact O110 p1 hk1 e1 e2 zx zy) (by exact O109 hk1 e2 zy) h0 hl B1.kind ?key);intro m st2 hs hm
 try dsimp only
 have ea:arrOf st2=arrOf st:=hs.2.1;have hml:m.toList.length=na - k+n2:=by rw [hm.1.length_eq,QAo,QAz,QAz]; exact O108 zx zy
 have el:=Ze9 (sa+k) m.toList 0 (arrOf st2) (by rw [ea]; exact O107 b2 hk1 hn1 zy hml);refine QZs (wpS_modify (QZs (wpS_get ?_)));generalize ha2:(m.toList.zipIdx 0).foldl (fun a x=>a.setIfInBounds (sa+k+x.2) x.1) (arrOf st2)=a2 at *;rw [ea,Nat.add_zero] at el;have ef:failedOf st2=none:=hs.2.2.2.trans B.failed;show wpS M A E s (pure (failedOf st2).isNone) Q (setArr st2 a2);rw [ef];have hout:=fun i hi=>ZkC (i:=i) (by exact O106 b2 hk1 hn1 zy hml hi) el hi
 have hin:=fun i h1 h2=>Zme (i:=i) (by exact O105 b2 hk1 hn1 zy hml) el h1 h2
 have hmm:∀ i,sa+k<=i->i<sa+k+m.toList.length->∃ j,sa+k<=j/\j<sa+na+n2/\g a2 i=g (arrOf st) j:=fun i h5 h6=>by
  have:g a2 i∈m.toList:=by
   rw [hin i h5 h6,QAd,QAb (by exact O104 h5 h6)];exact QAs _
  rcases QZf.mp (hm.1.mem_iff.mp this) with hx | hx
  ·obtain ⟨j,h7,h8,e⟩:=ox _ hx;exact ⟨j,h7,by exact O103 zy h8,e⟩
  ·obtain ⟨j,h7,h8,e⟩:=oy _ hx;exact ⟨j,by exact O102 hk1 h7,h8,e⟩
 refine QZt (fin (setArr st2 a2) ⟨?_,hs.1.trans B.kind,ef⟩ hs.2.2.1 (fun j h5=>hout j (by exact O101 hk1 hn1 zy hml h5)) ?_)
 ·refine Array.Perm.trans (Array.perm_iff_toList_perm.mpr ?_) B.perm;show a2.toList.Perm (arrOf st).toList;have d1:=(QCp (na - k) ((arrOf st).toList.drop (sa+k))).symm;have d2:=(QCp n2 ((arrOf st).toList.drop (sa+na))).symm;rw [List.drop_drop,show sa+k+(na - k)=sa+na by exact O100 hk1 zy hml,<- Zaj,show sa+k+(na - k)=sa+na by exact O100 hk1 zy hml,hx'] at d1;rw [List.drop_drop,<- Zaj,hy'] at d2;rw [el,hml,show sa+k+(na - k+n2)=sa+na+n2 by exact O99 hk1 zy hml];refine List.Perm.trans ?_ (List.Perm.of_eq (QCp (sa+k) (arrOf st).toList));rw [d1,d2,<- QBo x.toList];exact (hm.1.append_right _).append_left _
 ·show Srt rk a2 sa (sa+na+nb);intro i j h5 h6 h7
  by_cases hi:i<sa+k
  ·rw [hout i (.inl hi)]
   by_cases hj:j<sa+k
   ·rw [hout j (.inl hj)];exact s1 i j h5 h6 (by exact O98 hk1 hj)
   ·by_cases hj2:j<sa+k+m.toList.length
    ·obtain ⟨j',h8,h9,e⟩:=hmm j (by exact O88 hj) hj2;rw [e]
     by_cases hj3:j'<sa+na
     ·exact s1 i j' h5 (by exact O97 hi h8) hj3
     ·exact QBm (hk2 i h5 hi) (s2 _ _ (by exact O95 ) (by exact O88 hj3) (by exact O96 hn1 zy h9))
    ·rw [hout j (.inr (by exact O86 hj2))];exact QBm (hk2 i h5 hi) (s2 _ _ (by exact O95 ) (by exact O84 hk1 zy hml hj2) h7)
  ·by_cases hi2:i<sa+k+m.toList.length
   ·by_cases hj2:j<sa+k+m.toList.length
    ·rw [hin i (by exact O88 hi) hi2,hin j (by exact O94 h6 hi) hj2];exact ZkB hm.2 (by exact O93 h6 hi) (by exact O92 h6 hi hj2)
    ·obtain ⟨i',h8,h9,e⟩:=hmm i (by exact O88 hi) hi2;rw [e,hout j (.inr (by exact O86 hj2))]
     by_cases hi3:i'<sa+na
     ·exact QBm (s1 i' (sa+na - 1) (by exact O91 h8) (by exact Om.q2 ‹_›) (by exact O90 hk1 e0 e2 zy hml hi3)) (hn3 j (by exact O89 hk1 zy hml hj2) h7)
     ·exact s2 i' j (by exact O88 hi3) (by exact O87 hk1 zy hml hj2 h9) h7
   ·rw [hout i (.inr (by exact O86 hi2)),hout j (.inr (by exact O85 h6 hi2))];exact s2 i j (by exact O84 hk1 zy hml hi2) h6 h7
end
theorem Runs.third {rk:Keyed->Int} {a:Array Keyed}:∀ {ps qs:List (Nat × Nat × Nat)} {lo hi:Nat},Runs rk a ps lo hi->qs.map (fun p=>(p.1,p.2.1))=ps.map (fun p=>(p.1,p.2.1))->Runs rk a qs lo hi
 | [],[],_,_,h,_=>h
 | [],_::_,_,_,_,e=>by cases e
 | _::_,[],_,_,_,e=>by cases e
 | p::ps,q::qs,lo,hi,⟨h1,h2,h3,h4⟩,e=>by
  rw [QAl,QAl] at e;obtain ⟨e1,e2⟩:=List.cons.inj e;obtain ⟨e3,e4⟩:=Prod.mk.inj e1;refine ⟨e3.trans h1,by rw [e4]; exact h2,by rw [e4]; exact h3,?_⟩;rw [e4];exact Runs.third h4 e2
theorem ZmF {c:Prop} [Decidable c] {a b n:Nat} (h1:a+1<n) (h2:b+1<n):(if c then a else b)+1<n:=by
 split
 ·exact h1
 ·exact h2
section
variable {M:Model} {A:Around} {E:Value->Shared->Prop} {s:Shared} {rk:Keyed->Int} {κ:SortKind} {a₀:Array Keyed}
theorem wp_sort (L:LtOk M A E s rk κ (· ∈ a₀.toList)) (hd:(a₀.toList.map rk).Nodup) {st:SortSt} {Q:Unit->SortSt->Prop} (B:SB κ a₀ st) (hp:pendingOf st = #[]) (h1:1<=a₀.size)
  (h:∀ st',SB κ a₀ st'->Srt rk (arrOf st') 0 a₀.size->Q () st'):wpS M A E s sortRuns' Q st:=by
 refine QZs (wpS_get ?_);have hz:(arrOf st).size=a₀.size:=B.size
 dsimp only;rw [hz];generalize (sortPriv% PySem.Builtin.minRun) a₀.size a₀.size 0=mr;refine QZs (wpS_mono (wpS_forRange (I:=fun x c st'=>∃ lo,c=(none,lo)/\SB κ a₀ st'/\lo<=a₀.size/\(x<=lo\/a₀.size<=lo)/\Runs rk (arrOf st') (pendingOf st').toList 0 lo)
  (Q:=fun c st'=>c=(none,a₀.size)/\SB κ a₀ st'/\Runs rk (arrOf st') (pendingOf st').toList 0 a₀.size) ?s1 ?f1 ⟨0,rfl,B,QAg _,.inl (QAg _),by rw [hp]; rfl⟩) ?p1)
 case f1 =>
  rintro c st' ⟨lo,rfl,B',h2,h3,R⟩;have:lo=a₀.size:=by exact O83 h1 hz h2 h3
  subst this;exact ⟨rfl,B',R⟩
 case s1 =>
  rintro x c st1 _ hx ⟨lo,rfl,B1,h2,h3,R⟩
  try dsimp only
  by_cases h4:lo>=a₀.size
  ·rw [if_pos h4];have:lo=a₀.size:=by exact O82 hz h2 h4
   subst this;exact QZt ⟨rfl,B1,R⟩
  rw [if_neg h4];refine QZs (ZiH L hd B1 (by exact O81 hz h4) (by exact O80 hz h4) fun m st2 B2 K2 m1 m2 S2=>?_);have R2:Runs rk (arrOf st2) (pendingOf st2).toList 0 lo:=by
   rw [K2.1];exact R.cong fun i _ h6=>K2.2 i (.inl h6)
  try dsimp only
  by_cases h5:m<mr
  rw [if_pos h5];refine QZs (wpS_lift (wpAny_rule ⟨rfl,?_⟩));refine QZs (Zh8 L B2 m1 (by exact O79 m2 h5) (by exact O77 hz h4) S2 fun st3 B3 K3 S3=>?_);rw [if_neg (by simp)];have R3:Runs rk (arrOf st3) (pendingOf st3).toList 0 lo:=by
   rw [K3.1];exact R2.cong fun i _ h6=>K3.2 i (.inl h6)
  have q1:1<=min (a₀.size - lo) mr:=by exact O78 m1 m2 h5
  have q2:lo+min (a₀.size - lo) mr<=a₀.size:=by exact O77 hz h4
  clear h5 K3;revert st3 q1 q2;generalize min (a₀.size - lo) mr=n;revert n;refine ?key
  rotate_left
  rw [if_neg h5];clear h5;exact ?key m st2 B2 S2 R2 m1 (by exact O76 hz h4 m2);clear S2 B2 K2 m1 m2 R2;intro n st3 B3 S3 R3 q1 q2;have push:∀ st4,SB κ a₀ st4->Runs rk (arrOf st4) (pendingOf st4).toList 0 lo->Srt rk (arrOf st4) lo (lo+n)->Runs rk (arrOf (setPending st4 ((pendingOf st4).push (lo,n,0)))) (pendingOf (setPending st4 ((pendingOf st4).push (lo,n,0)))).toList 0 (lo+n):=fun st4 B4 R4 S4=>by
   show Runs rk (arrOf st4) ((pendingOf st4).push (lo,n,0)).toList 0 (lo+n);rw [Array.toList_push];exact Runs.app.mpr ⟨lo,R4,rfl,q1,S4,rfl⟩
  refine QZs (wpS_get ?_)
  cases hb:(pendingOf st3).back? with
  | none=>exact QZs (wpS_modify (QZt ⟨lo+n,rfl,⟨B3.perm,B3.kind,B3.failed⟩,q2,by exact O72 hz h3 h4 q1,push st3 B3 R3 S3⟩))
  | some t =>
   obtain ⟨s1,n1,p1⟩:=t
   try dsimp only
   generalize (sortPriv% PySem.Builtin.power) a₀.size (2*s1+n1) (2*s1+n1+n1+n) a₀.size=pw;refine QZs (wpS_mono (wpS_forRange (I:=fun y c st'=>c=(none,())/\SB κ a₀ st'/\Runs rk (arrOf st') (pendingOf st').toList 0 lo/\Srt rk (arrOf st') lo (lo+n))
    (Q:=fun c st'=>c=(none,())/\SB κ a₀ st'/\Runs rk (arrOf st') (pendingOf st').toList 0 lo/\Srt rk (arrOf st') lo (lo+n)) ?s2 (fun _ _ r=>r) ⟨rfl,B3,R3,S3⟩) ?p2)
   case s2 =>
    rintro y c st4 _ hy ⟨rfl,B4,R4,S4⟩;refine QZs (wpS_get ?_)
    by_cases h5:(pendingOf st4).size>1
    ·rw [if_pos h5];obtain ⟨⟨u,v,older⟩,ho⟩:∃ x,(pendingOf st4)[(pendingOf st4).size - 2]? = some x:=⟨_,getElem?_pos _ _ (by exact O75 h5)⟩;rw [ho]
     try dsimp only
     split
     ·exact QZt ⟨rfl,B4,R4,S4⟩
     ·refine QZs (Zce L B4 (by assumption) R4 (show (pendingOf st4).size - 2+1<(pendingOf st4).size by exact O74 h5) fun st5 B5 K5 R5 _=>?_);rw [if_neg (by simp)];refine QZt ⟨rfl,B5,R5,fun i j h6 h7 h8=>?_⟩;rw [K5 i (by assumption),K5 j (by exact O73 h6 h7)];exact S4 i j h6 h7 h8
    ·rw [if_neg h5];exact QZt ⟨rfl,B4,R4,S4⟩
   case p2 =>
    rintro c st4 ⟨rfl,B4,R4,S4⟩;refine QZs (wpS_modify (QZs (wpS_modify (QZt ?_))));have R5:Runs rk (arrOf st4) ((pendingOf st4).modify ((pendingOf st4).size - 1) fun x=>(x.1,x.2.1,pw)).toList 0 lo:=by
     refine R4.third ?_;rw [Array.toList_modify];refine QDn fun i=>?_;rw [QAe,QAe,List.getElem?_modify]
     cases (pendingOf st4).toList[i]? with
     | none=>rfl
     | some t =>
      simp only [QDu,Option.map_eq_map]
      split <;> rfl
    exact ⟨lo+n,rfl,⟨B4.perm,B4.kind,B4.failed⟩,q2,by exact O72 hz h3 h4 q1,push (setPending st4 ((pendingOf st4).modify ((pendingOf st4).size - 1) fun x=>(x.1,x.2.1,pw))) ⟨B4.perm,B4.kind,B4.failed⟩ R5 S4⟩
 case p1 =>
  rintro c st1 ⟨rfl,B1,R1⟩;refine QZs (wpS_mono (wpS_forRange (I:=fun x c st'=>c=(none,())/\SB κ a₀ st'/\Runs rk (arrOf st') (pendingOf st').toList 0 a₀.size/\(pendingOf st').size+x<=a₀.size+1)
   (Q:=fun c st'=>c=(none,())/\SB κ a₀ st'/\Runs rk (arrOf st') (pendingOf st').toList 0 a₀.size/\(pendingOf st').size<=1) ?s3 ?f3 ⟨rfl,B1,R1,?i3⟩) ?p3)
  case i3 =>
   have:=R1.le;rw [QAz] at this;omega
  case f3 =>
   rintro c st2 ⟨rfl,B2,R2,h2⟩;exact ⟨rfl,B2,R2,by exact O71 h1 hz h2⟩
  case s3 =>
   rintro x c st2 _ hx ⟨rfl,B2,R2,h2⟩;refine QZs (wpS_get ?_)
   by_cases h5:(pendingOf st2).size<=1
   ·rw [if_pos h5];exact QZt ⟨rfl,B2,R2,h5⟩
   rw [if_neg h5]
   try dsimp only
   have fin:∀ i,i+1<(pendingOf st2).size->wpS M A E s (mergeAt' i) (fun b st3=>b=true/\SB κ a₀ st3/\Runs rk (arrOf st3) (pendingOf st3).toList 0 a₀.size/\(pendingOf st3).size+(x+1)<=a₀.size+1) st2:=fun i hi =>
    Zce L B2 (QAc _) R2 hi fun st3 B3 _ R3 h3=>⟨rfl,B3,R3,by exact O70 hz h2 h3⟩
   refine QZs (wpS_mono (fin _ ?_) ?_)
   ·exact ZmF (show (pendingOf st2).size - 2 - 1+1<(pendingOf st2).size by exact O69 h5) (show (pendingOf st2).size - 2+1<(pendingOf st2).size by exact O68 h5)
   ·rintro b st3 ⟨rfl,B3,R3,h3⟩;rw [if_neg (by simp)];exact QZt ⟨rfl,B3,R3,h3⟩
  case p3 =>
   rintro c st2 ⟨rfl,B2,R2,h2⟩;refine QZt (h st2 B2 ?_);rw [<- QAz] at h2;generalize (pendingOf st2).toList=ps at R2 h2
   match ps,R2,h2 with
   | [],R2,_ =>
    have:0=a₀.size:=R2;exact (O67 h1 hz this).elim
   | [p],⟨_,_,h5,h6⟩,_ =>
    have:0+p.2.1=a₀.size:=h6;rw [this] at h5;exact h5
   | _::_::_,_,h =>
    rw [QAu,QAu] at h;exact (O66 h).elim
end
end _S
namespace _L
open PySem PySem.Spec PyProof.Rows PySem.W SeqAt
noncomputable def Zhy (h:Heap):Value->List Int
 | .ref a=>match h.get? a with
  | some o=>match o.data with
   | .seq xs _=>xs.toList.map numOf
   | _=>[]
  | none=>[]
 | _=>[]
noncomputable def Ya (h:Heap):Value->LI
 | .ref a=>match h.get? a with
  | some o=>match o.data with
   | .seq xs _=>xs.toList.map (Zhy h)
   | _=>[]
  | none=>[]
 | _=>[]
theorem Zi6 {h:Heap} {a:Addr} {us:List Value} {r:List Int} (t:h.IsTuple a (List.toArray us)) (i:IntsAre us r):Zhy h (.ref a)=r:=by
 obtain ⟨o,g,c,n,d⟩:=t;unfold Zhy
 simp only [g,d];exact i.nums
theorem ZdC {h:Heap}:∀ {us:List Value} {r:LI},GrAt h us r->us.map (Zhy h)=r
 | _,_,.nil=>rfl
 | _,_,.cons ⟨a,u,e,t,i⟩ x=>by
  subst e;rw [QAl,Zi6 t i,ZdC x]
theorem Za3 {h:Heap} {a:Addr} {o:Obj} {us:List Value} {n:Nat} {r:LI} (g:h.get? a=some o) (d:o.data = .seq (List.toArray us) n) (x:GrAt h us r):Ya h (.ref a)=r:=by
 unfold Ya
 simp only [g,d];exact ZdC x
theorem Y3 {h:Heap}:∀ {vs:List Value} {S:List LI},Grs h vs S->vs.map (Ya h)=S
 | _,_,.nil=>rfl
 | _,_,.cons ⟨a,o,us,n,e,g,c,d,x⟩ t=>by
  subst e;rw [QAl,Za3 g d x,Y3 t]
section
variable {prog:Program} {w:World} {A:Around} {E:Value->Shared->Prop} {s:Shared}
theorem Zmy {vs:List Value} {S:List LI} {m k:Nat} {rk:LI->Int} (ht:Grs s.heap vs S) (hk:∀ r∈S,r.length=m/\∀ x∈r,x.length=k) (hu:A.units<cLine) (hrk:∀ p∈S,∀ q∈S,ZcO p q=decide (rk p<rk q)) :
  _S.LtOk (model prog w) A E s (fun x=>rk (Ya s.heap x.1)) (tuples' false) (fun x=>x∈(pairsOf vs).toList):=by
 intro x y st Q hx hy hst q;rw [pairsOf_toList] at hx hy;have hx:=(mem_zip_self hx).2;have hy:=(mem_zip_self hy).2;obtain ⟨i,hi,ei⟩:=QBd hx;obtain ⟨j,hj,ej⟩:=QBd hy;obtain ⟨ri,hri,bi,oi,ui,mi,e1,gi,ci,di,ii⟩:=Paired.getL ht (QAb hi);obtain ⟨rj,hrj,bj,oj,uj,mj,e2,gj,cj,dj,ij⟩:=Paired.getL ht (QAb hj);have l1:=hk ri (QAx hri);have l2:=hk rj (QAx hrj);have e3:x.1 = .ref bi:=by rw [<- ei,e1]
 have e4:y.1 = .ref bj:=by rw [<- ej,e2]
 have q:Q (some (decide (rk (Ya s.heap x.1)<rk (Ya s.heap y.1)))) st:=q;have eq:decide (rk (Ya s.heap x.1)<rk (Ya s.heap y.1))=ZcO ri rj:=by
  rw [e3,e4,Za3 gi di ii,Za3 gj dj ij,hrk ri (QAx hri) rj (QAx hrj)]
 rw [eq] at q;rw [lt'_eq];refine QZs (wpS_get ?_);rw [hst,e3,e4];refine QZs (wpS_lift (wpAny_attempt (kat_lt gi di gj dj ?_)));have hsz:decide ((List.toArray ui).size<(List.toArray uj).size)=false:=by
  rw [QAi,QAi,Paired.length ii,Paired.length ij,l1.1,l2.1]
  simp
 rw [hsz];exact Zfr (k:=k) hu ii ij l1.2 l2.2 (l1.1.trans l2.1.symm) ⟨rfl,QZt q⟩
theorem Zdl {a:Addr} {vs:List Value} {S:List LI} {n m k:Nat} {rk:LI->Int} {P:PySem.Fin->Shared->Prop} (ho:s.heap.get? a=some (seqObj "list" vs.toArray n)) (ht:Grs s.heap vs S) (hk:∀ r∈S,r.length=m/\∀ x∈r,x.length=k) (hm0:0<m) (hu:A.units+3<cLine)
  (h2:2<=vs.length) (hz:vs.length<=100000) (hrk:∀ p∈S,∀ q∈S,ZcO p q=decide (rk p<rk q)) (hd:(S.map rk).Nodup)
  (h:∀ out:List Value,out.Perm vs->(out.map fun v=>rk (Ya s.heap v)).Pairwise (· <= ·)->P (.done (.ret .none)) { s with heap:=sortedHeap s.heap a vs (List.toArray out) }) :
  wpAny (model prog w) A (Builtin.«list.sort» ⟨[.ref a],[]⟩) P E s:=by
 have ha:a<s.heap.objs.size:=QAh ho;obtain ⟨e1,ho1⟩:∃ e1,(s.heap.update a (Obj.mapSeq fun _=>(#[]:Array Value))).get? a=some (seqObj "list" #[] e1):=⟨_,get?_update_seq ho fun _=>#[]⟩;have keep:∀ b o,b≠a->s.heap.get? b=some o->(((s.heap.update a (Obj.mapSeq fun _=>(#[]:Array Value))).push (seqObj "tuple" vs.toArray 0)).push (seqObj "list" #[] 0)).get? b=some o:=fun b o hb e=>by
  refine QAk _ (QAk _ ?_);rw [Heap.get?_update_ne _ _ _ _ hb];exact e
 have ho6:(((s.heap.update a (Obj.mapSeq fun _=>(#[]:Array Value))).push (seqObj "tuple" vs.toArray 0)).push (seqObj "list" #[] 0)).get? a=some (seqObj "list" #[] e1):=QAk _ (QAk _ ho1);have ht3:Grs (((s.heap.update a (Obj.mapSeq fun _=>(#[]:Array Value))).push (seqObj "tuple" vs.toArray 0)).push (seqObj "list" #[] 0)) vs S:=Paired.mapP ht fun v r ⟨b,o,us,m,e,g,c,d,iu⟩=>by
  have kt:∀ b o,o.cls = .type "tuple" -> s.heap.get? b=some o->(((s.heap.update a (Obj.mapSeq fun _=>(#[]:Array Value))).push (seqObj "tuple" vs.toArray 0)).push (seqObj "list" #[] 0)).get? b=some o:=fun b o c g=>keep b o (fun z=>by
   rw [z,ho] at g
   cases g;exact absurd c (by simp [seqObj])) g
  exact ⟨b,o,us,m,e,kt b o c g,c,d,GrAt.keep iu kt⟩
 rw [list_sort_plain];refine QZq (listItems_at ho rfl ?_);refine QZq (listUpdate_at ho rfl ?_ (by rw [QAi,sizeLine_eq]; exact Om.b1 ‹_› rfl) (QAg _));refine QZq (seqEpoch_at ho1 rfl ?_);refine QZq (wpAny_newTuple ?_ (by show vs.length<=_; rw [sizeLine_eq]; exact Om.b1 ‹_› rfl));refine QZq (wpAny_newList ?_ (QAg _));refine wpAny_holding ?_;have er:∀ v∈vs,Ya (((s.heap.update a (Obj.mapSeq fun _=>(#[]:Array Value))).push (seqObj "tuple" vs.toArray 0)).push (seqObj "list" #[] 0)) v=Ya s.heap v:=by
  have:=(Y3 ht3).trans (Y3 ht).symm;exact List.map_inj_left.mp this
 show wpAny (model prog w) A _ P E { s with heap:=((s.heap.update a (Obj.mapSeq fun _=>(#[]:Array Value))).push (seqObj "tuple" vs.toArray 0)).push (seqObj "list" #[] 0) };have hn2:¬ vs.toArray.size<2:=by rw [QAi]; exact O65 h2 hz
 rw [if_neg hn2,if_neg hn2];obtain ⟨fs,kt,hfl,hT⟩:=ZcW (M:=model prog w) ht3 (fun r hr z=>by have:=(hk r hr).1; rw [z] at this; simp at this; exact (O64 hm0 this).elim);refine QZq (kat_kind kt (by exact O63 h2 hz hfl) hT rfl ?_);have hps:(pairsOf vs).size=vs.length:=pairsOf_size vs;have LO:=Zmy (prog:=prog) (w:=w) (A:=A) (E:=E) (s:={ s with heap:=((s.heap.update a (Obj.mapSeq fun _=>(#[]:Array Value))).push (seqObj "tuple" vs.toArray 0)).push (seqObj "list" #[] 0) }) (rk:=rk) ht3 hk (by exact O62 hu) hrk;generalize hh:((s.heap.update a (Obj.mapSeq fun _=>(#[]:Array Value))).push (seqObj "tuple" vs.toArray 0)).push (seqObj "list" #[] 0)=h6 at *;have hnd:((pairsOf vs).toList.map fun x=>rk (Ya h6 x.1)).Nodup:=by
  have e:(pairsOf vs).toList.map (fun x=>rk (Ya h6 x.1))=S.map rk:=by
   rw [pairsOf_toList,<- Y3 ht3,QAw];have:(vs.zip vs).map (fun x=>rk (Ya h6 x.1))=((vs.zip vs).map Prod.fst).map fun v=>rk (Ya h6 v):=by rw [QAw]; rfl
   rw [this,List.map_fst_zip (QAc _)]
   rfl
  rw [e];exact hd
 refine QZq (wpAny_mono (_S.wp_sort (a₀:=pairsOf vs) (st:=SortSt.mk' (tuples' false) (vs.toArray.zip vs.toArray) #[] 7 none)
  (Q:=fun _ st'=>_S.SB (tuples' false) (pairsOf vs) st'/\_S.Srt (fun x=>rk (Ya h6 x.1)) (arrOf st') 0 (pairsOf vs).size)
  LO hnd ⟨Array.Perm.refl _,rfl,rfl⟩ rfl (by exact O61 h2 hz hfl hps) fun st' b1 b2=>⟨b1,b2⟩) ?_ fun _ _ e=>e)
 rintro ⟨⟨⟩,st'⟩ s' ⟨rfl,B,hS⟩;have hsz:((arrOf st').map (·.2)).size=vs.length:=by rw [Array.size_map,B.size,hps]
 refine QZq (seqEpoch_at ho6 rfl ?_);refine QZq (listUpdate_at ho6 rfl ?_ (QAg _) (QAr (Nat.le_of_eq hsz) (by rw [sizeLine_eq]; exact Om.b1 ‹_› rfl)));rw [B.failed]
 simp only [bne_self_eq_false,QDh,if_false];have hpl:(arrOf st').toList.Perm (vs.zip vs):=by
  rw [<- pairsOf_toList];exact Array.perm_iff_toList_perm.mp B.perm
 have hz2:(arrOf st').size=vs.length:=by rw [B.size,hps]
 refine QZr ?_;have hq:=h ((arrOf st').toList.map (·.2)) ?_ ?_
 ·unfold sortedHeap at hq;rw [hh] at hq;have ea:(arrOf st').map (·.2)=List.toArray ((arrOf st').toList.map (·.2)):=by
   apply Array.ext'
   rw [Array.toList_map]
  rw [ea];exact hq
 ·have:=hpl.map Prod.snd;rw [List.map_snd_zip (QAc _)] at this;exact this
 ·rw [QAw,List.pairwise_iff_getElem];intro i j hi hj hij;rw [QAa,QAz] at hi hj;rw [QBu,QBu,QCh,QCh];have hs:=hS i j (QAg _) (QCa hij) (by exact O60 hfl hps hsz hz2 hj);have g1:=_S.g_eq hi;have g2:=_S.g_eq hj;rw [getElem?_pos (arrOf st') i hi] at g1;rw [getElem?_pos (arrOf st') j hj] at g2;rw [<- QZl g1,<- QZl g2] at hs;have m1:=mem_zip_self (hpl.mem_iff.mp (Array.getElem_mem_toList hi));have m2:=mem_zip_self (hpl.mem_iff.mp (Array.getElem_mem_toList hj));show rk (Ya s.heap ((arrOf st')[i]).2)<=rk (Ya s.heap ((arrOf st')[j]).2);rw [<- m1.1,<- m2.1,<- er _ m1.2,<- er _ m2.2];exact hs
theorem Zgv {d:Addr} {vs:List Value} {S:List LI} {m k:Nat} {rk:LI->Int} {Q:Value->Shared->Prop} (hl:s.heap.IsList d vs.toArray) (ht:Grs s.heap vs S) (hk:∀ r∈S,r.length=m/\∀ x∈r,x.length=k) (hm0:0<m) (hu:A.units+6<cLine)
  (h2:2<=vs.length) (hz:vs.length<=100000) (hrk:∀ p∈S,∀ q∈S,ZcO p q=decide (rk p<rk q)) (hd:(S.map rk).Nodup)
  (h:∀ (out:List Value) (l:Addr) (h1 h':Heap) (e:Nat),out.Perm vs->(out.map fun v=>rk (Ya s.heap v)).Pairwise (· <= ·)->(∀ b o,s.heap.get? b=some o->h1.get? b=some o)->h1.objs.size<=l->(∀ b o,h1.get? b=some o->h'.get? b=some o)->h'.get? l=some (seqObj "list" (List.toArray out) e)->Q (.ref l) { s with heap:=h' }) :
  wpAny (model prog w) A (call (.builtin "sorted") [.ref d]) Q E s:=by
 obtain ⟨o,ho,hc,n,hd'⟩:=id hl;refine Calls.call_function_entry kind_sorted plain_sorted entry_sorted (args_sorted1 _) ?_;unfold Builtin.«sorted»;refine QZq (m:=checkCount "sorted" 1 1 _) (QZr (QZq ?_));have hz':vs.toArray.size<=sizeLine:=by rw [QAi,sizeLine_eq]; exact Om.b1 ‹_› rfl
 refine wpAny_collect_seq (hsz:=hz') d (.inl rfl) ho hc hd' fun h1 k1=>?_;rw [List.toList_toArray];refine QZq (wpAny_newList ?_ (by rw [sizeLine_eq]; exact Om.b1 ‹_› rfl));have g:(h1.push (seqObj "list" vs.toArray 0)).get? h1.objs.size=some (seqObj "list" vs.toArray 0):=QBa _ rfl;have ht1:Grs (h1.push (seqObj "list" vs.toArray 0)) vs S:=Paired.mapP ht fun v r ⟨b,o,us,m,e,g,c,d,iu⟩=>⟨b,o,us,m,e,QAk _ (k1 _ _ g),c,d,GrAt.keep iu fun b o _ g=>QAk _ (k1 _ _ g)⟩
 have er:∀ v∈vs,Ya (h1.push (seqObj "list" vs.toArray 0)) v=Ya s.heap v:=List.map_inj_left.mp ((Y3 ht1).trans (Y3 ht).symm);refine QZq (wpAny_holding (wpAny_call_entry slot_list_sort ⟨_,g,rfl⟩ entry_list_sort (Zdl (rk:=rk) g ht1 hk hm0 (by show A.units+1+1+3<cLine; exact O59 hu) h2 hz hrk hd fun out hp hs=>⟨_,rfl,?_⟩) (args_list_sort _)));obtain ⟨e,he⟩:=sortedHeap_at (out:=List.toArray out) g;refine QZr ⟨_,rfl,h out h1.objs.size h1 _ e hp ?_ k1 (QAc _) (fun b o x=>?_) he⟩
 ·have:(out.map fun v=>rk (Ya s.heap v))=out.map fun v=>rk (Ya (h1.push (seqObj "list" vs.toArray 0)) v):=QBy fun v hv=>by rw [er v (hp.mem_iff.mp hv)]
  rw [this];exact hs
 ·have hb:=QAh x;rw [sortedHeap_old (QAy hb) (by rw [size_push']; exact QDb hb)];exact QAk _ x
end
noncomputable def J2:Value->Addr
 | .ref a=>a
 | _=>0
theorem Zan:∀ {ps:List Addr} {us:List Value},Vals (ps.map V.ref) us->us=ps.map Value.ref
 | [],_,h=>by cases h; rfl
 | p::ps,_,h=>by
  rw [QAl] at h
  cases h with
  | cons r1 r2 =>
   cases r1;rw [QAl,Zan r2]
theorem ZdB:∀ ps:List Addr,Vals (ps.map V.ref) (ps.map Value.ref)
 | []=>.nil
 | p::ps=>.cons rfl (ZdB ps)
def TGL (H:Hp) (q:Addr) (r:LI):Prop:=∃ rs:List Addr,H q=some (.tup (rs.map V.ref))/\Paired (fun a (x:List Int)=>H a=some (.tup (x.map V.int))) rs r
def ZgA:List V->Hp->VK->Prop:=fun xs H Q=>∃ (d:Addr) (ps:List Addr) (S:List LI) (m k:Nat) (rk:LI->Int),xs=[.ref d]/\H d=some (.lst (ps.map V.ref))/\Paired (TGL H) ps S/\(∀ r∈S,r.length=m/\∀ x∈r,x.length=k)/\0<m/\S.length<=100000/\(∀ p∈S,∀ q∈S,ZcO p q=decide (rk p<rk q))/\(S.map rk).Nodup /\
 ∀ (l:Addr) (qs:List Addr) (S':List LI),H l=none->Paired (TGL H) qs S'->S'.Perm S->(S'.map rk).Pairwise (· <= ·)->Q (.ref l) (upd H l (.lst (qs.map V.ref)))
theorem Zak {X:Cx} (hu:X.A.units+6<cLine):Y0 X (.builtin "sorted") ZgA:=by
 intro pins s σ H xs us Q I r h;obtain ⟨d,ps,S,m,k,rk,rfl,hd,hP,hk,hm0,hz,hrk,hnd,q⟩:=h;obtain ⟨u,rfl,rx⟩:=JB r
 cases rx;obtain ⟨z,its,n,rv,hl,e⟩:=I.lstM hd;have row:∀ {rs:List Addr} {R:LI} {us:List Value},Paired (fun a (x:List Int)=>H a=some (.tup (x.map V.int))) rs R->Vals (rs.map V.ref) us->GrAt s.heap us R:=by
  intro rs R us hP
  induction hP generalizing us with
  | nil=>intro rv; cases rv; exact .nil
  | @cons a x rs R ha _ ih =>
   intro rv;rw [QAl] at rv
   cases rv with
   | cons r1 r2 =>
    cases r1;obtain ⟨_,u1,ru1,p1⟩:=I.hok a _ ha;have p1:IsTupN s.heap a u1.toArray:=p1;exact .cons ⟨a,u1,rfl,p1.is,Y8 ru1⟩ (ih r2)
 have tup:∀ {ps:List Addr} {S:List LI} {its:List Value},Paired (TGL H) ps S->Vals (ps.map V.ref) its->Grs s.heap its S:=by
  intro ps S its hP
  induction hP generalizing its with
  | nil=>intro rv; cases rv; exact .nil
  | @cons q r ps S hq _ ih =>
   intro rv;rw [QAl] at rv
   cases rv with
   | cons r1 r2 =>
    cases r1;obtain ⟨rs,hq,hr⟩:=hq;obtain ⟨_,us,ru,o,g,c,m,e⟩:=I.hok q _ hq;exact .cons ⟨q,o,us,m,rfl,g,c,congrArg Prod.fst e,row hr ru⟩ (ih r2)
 have ht:=tup hP rv;have hlen:its.length=S.length:=Paired.length ht;have hpl:ps.length=S.length:=hP.length;have hits:=Zan rv
 by_cases h2:its.length<2
 ·refine Zgu (d:=d) (vs:=its) ⟨_,e,rfl,n,rfl⟩ h2 fun l h1 h' e' k1 hl1 k2 he=>?_;have I1:Inv X pins σ H { s with heap:=h1 }:=I.kept (t':=s.toks) k1;refine ⟨.ref l,_,I1.laid (t':=s.toks) (o:=.lst (ps.map V.ref)) k2 hl1 ?_,rfl,q _ ps S (I1.hok.fresh hl1) hP (List.Perm.refl _) ?_⟩
  ·exact ⟨by rw [QAa,hpl,sizeLine_eq]; exact Om.b1 ‹_› rfl,its,e',rv,by simpa using he⟩
  ·match S,hlen with
   | [],_=>exact .nil
   | [x],_=>exact List.pairwise_singleton _ _
   | _::_::_,hlen=>rw [QAu,QAu] at hlen; exact (O58 hl ‹_› h2 hlen).elim
 ·refine Zgv (d:=d) (vs:=its) (rk:=rk) ⟨_,e,rfl,n,rfl⟩ ht hk hm0 hu (by exact O57 hz hlen hpl h2) (by exact Om.b4 ‹_› ‹_› rfl) hrk hnd fun out l h1 h' e' hp hs k1 hl1 k2 he=>?_;have I1:Inv X pins σ H { s with heap:=h1 }:=I.kept (t':=s.toks) k1;have hqs:out=(out.map J2).map Value.ref:=by
   rw [QAw];have:out.map id=out.map (Value.ref ∘ J2):=QBy fun v hv=>by
    have:=hp.mem_iff.mp hv;rw [hits] at this;obtain ⟨p,_,rfl⟩:=QZd.mp this
    rfl
   rw [<- this,List.map_id]
  have hqp:(out.map J2).Perm ps:=by
   have:=hp.map J2;rw [hits,QAw] at this;have e2:ps.map (J2 ∘ Value.ref)=ps:=by
    have:(J2 ∘ Value.ref)=id:=rfl;rw [this,List.map_id]
   rw [e2] at this;exact this
  have hS':(out.map (Ya s.heap)).Perm S:=by
   have:=hp.map (Ya s.heap);rw [Y3 ht] at this;exact this
  refine ⟨.ref l,_,I1.laid (t':=s.toks) (o:=.lst ((out.map J2).map V.ref)) k2 hl1 ?_,rfl,q _ (out.map J2) (out.map (Ya s.heap)) (I1.hok.fresh hl1) ?_ hS' ?_⟩
  ·exact ⟨by rw [QAa,hqp.length_eq,hpl,sizeLine_eq]; exact Om.b1 ‹_› rfl,out,e',by have:=ZdB (out.map J2); rw [<- hqs] at this; exact this,by simpa using he⟩
  ·have key:∀ v∈out,TGL H (J2 v) (Ya s.heap v):=fun v hv=>by
    have hv:=hp.mem_iff.mp hv;obtain ⟨i,hi,ev⟩:=QBd hv;obtain ⟨ri,hri,bi,oi,ui,mi,e1,gi,ci,di,ii⟩:=Paired.getL ht (QAb hi);have hip:i<ps.length:=by exact O56 hlen hpl hi
    obtain ⟨r2,hr2,tg⟩:=Paired.getL hP (QAb hip);have e3:its[i]=Value.ref ps[i]:=by
     have:its[i]? = (ps.map Value.ref)[i]?:=by rw [<- hits]
     rw [QAb hi,QAe,QAb hip] at this;exact QZl this
    rw [hri] at hr2
    cases hr2;have e4:Ya s.heap v=ri:=by rw [<- ev,e1]; exact Za3 gi di ii
    have e5:J2 v=ps[i]:=by rw [<- ev,e3]; rfl
    rw [e4,e5];exact tg
   have go:∀ l:List Value,(∀ v∈l,v∈out)->Paired (TGL H) (l.map J2) (l.map (Ya s.heap)):=by
    intro l
    induction l with
    | nil=>intro _; exact .nil
    | cons v l ih=>exact fun hl=>.cons (key v (hl v QAj)) (ih fun u hu=>hl u (QAp _ hu))
   exact go out fun _ h=>h
  ·rw [QAw];exact hs
end _L
namespace _M
open PySem _L
section
variable {n:Nat} {R F:LI} {L:List LI}
def Own (n:Nat) (R h:LI):Prop:=Ren n h/\ZY n R h=R
noncomputable def ZcC (L:List LI) (g0:LI):List LI:=L.map fun g=>YD g (YN g0)
theorem Zml (ok:OkRows n R) (hl:R.length=n) (h1:1<=n) (ld:LeadOf n R F L) {g0:LI} (rg:Ren n g0):(ZcC L g0).Nodup:=by
 have nd:L.Nodup:=by
  rw [ld.all];exact List.Pairwise.filter _ (Zk5 ok hl h1)
 refine QZm.mpr (List.Pairwise.imp_of_mem ?_ nd);intro x y hx hy ne e;have rx:=((Jw ok hl h1 ld).mp hx).1;have ry:=((Jw ok hl h1 ld).mp hy).1;have e2:YD (YD x (YN g0)) g0=YD (YD y (YN g0)) g0:=congrArg (fun z=>YD z g0) e;rw [Jr rx rg.und rg,Jr ry rg.und rg,(YX rg).2.1,(YX rx).2.2.2.1,(YX ry).2.2.2.1] at e2;exact ne e2
theorem ZkI (ok:OkRows n R) (hl:R.length=n) (h1:1<=n) (ld:LeadOf n R F L) {g0:LI} (hg:g0∈L) {h:LI}:h∈ZcC L g0↔Own n R h:=by
 obtain ⟨r0,e0⟩:=(Jw ok hl h1 ld).mp hg
 constructor
 ·intro hh;obtain ⟨g,hg',rfl⟩:=QZd.mp hh;obtain ⟨rg,eg⟩:=(Jw ok hl h1 ld).mp hg';refine ⟨rg.beh r0.und,?_⟩;rw [<- Za2 ok hl rg r0.und,eg,<- e0,Zcx ok hl r0]
 ·rintro ⟨rh,eh⟩;refine QZd.mpr ⟨YD h g0,(Jw ok hl h1 ld).mpr ⟨rh.beh r0,by rw [<- Za2 ok hl rh r0,eh,e0]⟩,?_⟩;rw [Jr rh r0 r0.und,(YX r0).1,(YX rh).2.2.2.1]
end
section
variable {α:Type}
noncomputable def Jl (B:Int) (v:α->Int):List α->Int
 | []=>0
 | x::xs=>v x*B ^ xs.length+Jl B v xs
theorem Zba {B:Int} {v:α->Int} (hB:0<B):∀ (l:List α),(∀ x∈l,0<=v x/\v x<B)->0<=Jl B v l/\Jl B v l<B ^ l.length
 | [],_=>⟨QCq _,by simp [Jl]⟩
 | x::l,h=>by
  obtain ⟨i1,i2⟩:=Zba hB l fun y hy=>h y (QAp _ hy)
  obtain ⟨h1,h2⟩:=h x QAj;have hp:0<B ^ l.length:=Int.pow_pos hB;have m1:=Int.mul_nonneg h1 (QBw hp);have m2:=Int.mul_le_mul_of_nonneg_right (show v x+1<=B by exact O55 h2) (QBw hp);rw [Int.add_mul,Int.one_mul] at m2;unfold Jl;rw [QAu,Int.pow_succ,Int.mul_comm _ B]
  constructor <;> omega
theorem ZbC {B:Int} {v:α->Int} (hB:0<B) {x y:α} {xs ys:List α} (hl:xs.length=ys.length) (hx:∀ z∈x::xs,0<=v z/\v z<B) (hy:∀ z∈y::ys,0<=v z/\v z<B) (h:v x<v y):Jl B v (x::xs)<Jl B v (y::ys):=by
 obtain ⟨i1,i2⟩:=Zba hB xs fun y hy=>hx y (QAp _ hy)
 obtain ⟨i3,i4⟩:=Zba hB ys fun z hz=>hy z (QAp _ hz)
 have hp:0<B ^ ys.length:=Int.pow_pos hB;have m2:=Int.mul_le_mul_of_nonneg_right (show v x+1<=v y by exact O55 h) (QBw hp);rw [Int.add_mul,Int.one_mul] at m2;unfold Jl;rw [hl] at i2 ⊢;omega
theorem ZeD {B:Int} {v:α->Int} (hB:0<B):∀ (l m:List α),l.length=m.length->(∀ x∈l,0<=v x/\v x<B)->(∀ x∈m,0<=v x/\v x<B)->(∀ x∈l,∀ y∈m,v x=v y->x=y)->Jl B v l=Jl B v m->l=m
 | [],[],_,_,_,_,_=>rfl
 | [],_::_,h,_,_,_,_=>by cases h
 | _::_,[],h,_,_,_,_=>by cases h
 | x::l,y::m,h,h1,h2,hi,e=>by
  have hl:l.length=m.length:=Nat.succ.inj h;have hv:v x=v y:=by
   rcases Int.lt_trichotomy (v x) (v y) with z | z | z
   ·have:=ZbC hB hl h1 h2 z;exact (O54 e this).elim
   ·exact z
   ·have:=ZbC hB hl.symm h2 h1 z;exact (O53 e this).elim
  have ex:=hi x QAj y QAj hv;have e2:Jl B v l=Jl B v m:=by
   have:v x*B ^ l.length+Jl B v l=v y*B ^ m.length+Jl B v m:=e;rw [hv,hl] at this;omega
  rw [ex,ZeD hB l m hl (fun z hz=>h1 z (QAp _ hz)) (fun z hz=>h2 z (QAp _ hz)) (fun a ha b hb=>hi a (QAp _ ha) b (QAp _ hb)) e2]
end
noncomputable def v1 (x:Int):Int:=x
noncomputable def rkT (l:List Int):Int:=Jl 6 v1 l
noncomputable def rkG (n:Nat) (g:LI):Int:=Jl (6 ^ n) rkT g
theorem Zft:∀ (l m:List Int),l.length=m.length->(∀ x∈l,0<=x/\x<6)->(∀ x∈m,0<=x/\x<6)->ZcP l m=decide (rkT l<rkT m)
 | [],[],_,_,_=>rfl
 | [],_::_,h,_,_=>by cases h
 | _::_,[],h,_,_=>by cases h
 | x::l,y::m,h,h1,h2=>by
  have hl:l.length=m.length:=Nat.succ.inj h;unfold ZcP
  by_cases e:x=y
  ·subst e;rw [if_pos rfl,Zft l m hl (fun z hz=>h1 z (QAp _ hz)) (fun z hz=>h2 z (QAp _ hz))];have:rkT (x::l)<rkT (x::m)↔rkT l<rkT m:=by
    show v1 x*6 ^ l.length+Jl 6 v1 l<v1 x*6 ^ m.length+Jl 6 v1 m↔Jl 6 v1 l<Jl 6 v1 m;rw [hl];exact O52
   rw [QBj,QZg,QZg,this]
  ·rw [if_neg e];rw [QBj,QZg,QZg]
   constructor
   ·intro z;exact ZbC (by decide) hl h1 h2 z
   ·intro z
    rcases Int.lt_trichotomy x y with q | q | q
    ·exact q
    ·exact absurd q e
    ·have:rkT (y::m)<rkT (x::l):=ZbC (by decide) hl.symm h2 h1 q;exact (O51 z this).elim
structure Dig (n:Nat) (g:LI):Prop where
 len:g.length=3
 row:∀ r∈g,r.length=n/\∀ x∈r,0<=x/\x<6
theorem Ren.dig {n:Nat} {g:LI} (rg:Ren n g) (h6:n<=6):Dig n g:=⟨rg.len,fun r hr=>⟨(rg.row r hr).len,fun x hx=>by have:=(rg.row r hr).rg x hx; omega⟩⟩
theorem Zb7 {n:Nat} {r:List Int} (hl:r.length=n) (h:∀ x∈r,0<=x/\x<6):0<=rkT r/\rkT r<6 ^ n:=by
 have:=Zba (B:=6) (v:=v1) (by decide) r h;rw [hl] at this;exact this
theorem Zhv {l m:List Int} (hl:l.length=m.length) (h1:∀ x∈l,0<=x/\x<6) (h2:∀ x∈m,0<=x/\x<6) (e:rkT l=rkT m):l=m:=ZeD (by decide) l m hl h1 h2 (fun _ _ _ _ e=>e) e
theorem Zfq {n:Nat}:∀ (g h:LI),g.length=h.length->(∀ r∈g,r.length=n/\∀ x∈r,0<=x/\x<6)->(∀ r∈h,r.length=n/\∀ x∈r,0<=x/\x<6)->ZcO g h=decide (rkG n g<rkG n h)
 | [],[],_,_,_=>rfl
 | [],_::_,h,_,_=>by cases h
 | _::_,[],h,_,_=>by cases h
 | x::l,y::m,h,h1,h2=>by
  have hl:l.length=m.length:=Nat.succ.inj h;have hB:(0:Int)<6 ^ n:=Int.pow_pos (by decide);have r1:∀ z∈x::l,0<=rkT z/\rkT z<6 ^ n:=fun z hz=>Zb7 (h1 z hz).1 (h1 z hz).2
  have r2:∀ z∈y::m,0<=rkT z/\rkT z<6 ^ n:=fun z hz=>Zb7 (h2 z hz).1 (h2 z hz).2
  have hxy:x.length=y.length:=by rw [(h1 x QAj).1,(h2 y QAj).1]
  unfold ZcO
  by_cases e:x=y
  ·subst e;rw [if_pos rfl,Zfq l m hl (fun z hz=>h1 z (QAp _ hz)) (fun z hz=>h2 z (QAp _ hz))];have:rkG n (x::l)<rkG n (x::m)↔rkG n l<rkG n m:=by
    show rkT x*(6 ^ n) ^ l.length+Jl (6 ^ n) rkT l<rkT x*(6 ^ n) ^ m.length+Jl (6 ^ n) rkT m↔Jl (6 ^ n) rkT l<Jl (6 ^ n) rkT m;rw [hl];exact O52
   rw [QBj,QZg,QZg,this]
  ·rw [if_neg e,Zft x y hxy (h1 x QAj).2 (h2 y QAj).2];rw [QBj,QZg,QZg]
   constructor
   ·intro z;exact ZbC hB hl r1 r2 z
   ·intro z
    rcases Int.lt_trichotomy (rkT x) (rkT y) with q | q | q
    ·exact q
    ·exact absurd (Zhv hxy (h1 x QAj).2 (h2 y QAj).2 q) e
    ·have:rkG n (y::m)<rkG n (x::l):=ZbC hB hl.symm r2 r1 q;exact (O51 z this).elim
theorem Dig.lt {n:Nat} {g h:LI} (dg:Dig n g) (dh:Dig n h):ZcO g h=decide (rkG n g<rkG n h):=Zfq g h (dg.len.trans dh.len.symm) dg.row dh.row
theorem Dig.inj {n:Nat} {g h:LI} (dg:Dig n g) (dh:Dig n h) (e:rkG n g=rkG n h):g=h :=
 ZeD (Int.pow_pos (by decide)) g h (dg.len.trans dh.len.symm) (fun r hr=>Zb7 (dg.row r hr).1 (dg.row r hr).2) (fun r hr=>Zb7 (dh.row r hr).1 (dh.row r hr).2) (fun x hx y hy e=>Zhv ((dg.row x hx).1.trans (dh.row y hy).1.symm) (dg.row x hx).2 (dh.row y hy).2 e) e
theorem Zlw {n:Nat} {S:List LI} (nd:S.Nodup) (hd:∀ g∈S,Dig n g):(S.map (rkG n)).Nodup:=by
 refine QZm.mpr (List.Pairwise.imp_of_mem ?_ nd);intro x y hx hy ne e;exact ne ((hd x hx).inj (hd y hy) e)
theorem Zhu {n:Nat}:∀ {A B:List LI},(∀ g∈A,Dig n g)->(∀ g∈B,Dig n g)->A.map (rkG n)=B.map (rkG n)->A=B
 | [],[],_,_,_=>rfl
 | [],_::_,_,_,e=>by cases e
 | _::_,[],_,_,e=>by cases e
 | a::A,b::B,h1,h2,e=>by
  rw [QAl,QAl] at e;obtain ⟨e1,e2⟩:=List.cons.inj e;rw [(h1 a QAj).inj (h2 b QAj) e1,Zhu (fun g hg=>h1 g (QAp _ hg)) (fun g hg=>h2 g (QAp _ hg)) e2]
theorem Zij {n:Nat} {R:LI} (h6:n<=6) {A B A' B':List LI} (hA:A.Nodup) (hB:B.Nodup) (mA:∀ h,h∈A↔Own n R h) (mB:∀ h,h∈B↔Own n R h) (pA:A'.Perm A) (pB:B'.Perm B) (sA:(A'.map (rkG n)).Pairwise (· <= ·)) (sB:(B'.map (rkG n)).Pairwise (· <= ·)):A'=B':=by
 have p:A.Perm B:=(List.perm_ext_iff_of_nodup hA hB).mpr fun h=>(mA h).trans (mB h).symm
 have p':A'.Perm B':=pA.trans (p.trans pB.symm);refine Zhu (n:=n) (fun g hg=>?_) (fun g hg=>?_) (J9 (p'.map _) sA sB)
 ·exact ((mA g).mp (pA.mem_iff.mp hg)).1.dig h6
 ·exact ((mB g).mp (pB.mem_iff.mp hg)).1.dig h6
section
variable {n:Nat} {R:LI}
theorem Zb1:∀ {a b:List Nat},toI a=toI b->a=b
 | [],[],_=>rfl
 | [],_::_,e=>by cases e
 | _::_,[],e=>by cases e
 | x::a,y::b,e=>by
  have e:(x:Int)::toI a=(y:Int)::toI b:=e;obtain ⟨e1,e2⟩:=List.cons.inj e;rw [Zb1 e2,show x=y by exact Om.e1 ‹_›]
theorem JK {a:List Int} (t:Turn n a):∃ r∈YU n n,a=toI r:=by
 have e:a=toI (a.map Int.toNat):=by
  unfold toI;rw [QAw];have:a.map id=a.map (fun x=>((x.toNat:Nat):Int)):=QBy fun x hx=>by
   have:=t.rg x hx;show x=((x.toNat:Nat):Int);exact O50 this
  rw [List.map_id] at this;exact this
 refine ⟨a.map Int.toNat,ZdL n _ (by rw [QAa,t.len]) ?_ fun x hx=>?_,e⟩
 ·refine QZm.mpr (List.Pairwise.imp_of_mem ?_ t.nd);intro x y hx hy ne e;have:=t.rg x hx;have:=t.rg y hy;exact ne (by exact O49 e ‹_› this)
 ·obtain ⟨y,hy,rfl⟩:=QZd.mp hx;have:=t.rg y hy;omega
theorem Za7 (n:Nat):∀ k,(YU n k).Nodup
 | 0=>List.nodup_cons.mpr ⟨by simp,QBg⟩
 | k+1=>by
  refine List.pairwise_flatMap.mpr ⟨fun l _=>?_,?_⟩
  ·refine QZm.mpr (List.Pairwise.imp ?_ (List.Pairwise.filter _ (QZk.mp QCg)));intro x y ne e;exact ne (List.cons.inj (List.append_cancel_left e)).1
  ·refine List.Pairwise.imp_of_mem ?_ (Za7 n k);intro a b ha hb ne x hx y hy e;obtain ⟨_,_,rfl⟩:=QZd.mp hx;obtain ⟨_,_,rfl⟩:=QZd.mp hy;exact ne (List.append_inj_left' e rfl)
end
theorem ZfB {α:Type} (p:α->Bool):∀ L:List α,L.length=(L.filter p).length+(L.filter fun y=>!p y).length
 | []=>rfl
 | x::L=>by
  have ih:=ZfB p L
  cases h:p x
  ·rw [QDs (by rw [h]; simp),QDr (by rw [h]; rfl),QAu,QAu];omega
  ·rw [QDr h,QDs (by rw [h]; simp),QAu,QAu];omega
theorem ZfC {α β:Type} [DecidableEq β] (f:α->β) (m:Nat):∀ (k:Nat) (L:List α),L.length=k->(∀ x∈L,(L.filter fun y=>decide (f y=f x)).length=m)->m ∣ L.length:=by
 intro k
 induction k using Nat.strongRecOn with
 | _ k ih =>
  intro L hL h
  match L,hL,h with
  | [],_,_=>exact Nat.dvd_zero m
  | x::L,hL,h =>
   have hx:=h x QAj;generalize hM:x::L=M at hL h hx;have hxM:x∈M:=by rw [<- hM]; exact QAj
   have e:M.length=(M.filter fun y=>decide (f y=f x)).length+(M.filter fun y=>!decide (f y=f x)).length:=by
    exact ZfB (fun y=>decide (f y=f x)) M
   have hm:0<m:=by
    rw [<- hx];exact QDj (QZo.mpr ⟨hxM,QZh rfl⟩)
   have hd:m ∣ (M.filter fun y=>!decide (f y=f x)).length:=by
    refine ih _ (by exact O48 hL hx e hm) _ rfl fun y hy=>?_;obtain ⟨hy1,hy2⟩:=QZo.mp hy;have hne:f y≠f x:=fun z=>by rw [z,QZh rfl] at hy2; cases hy2
    rw [List.filter_filter,<- h y hy1]
    congr 1
    refine List.filter_congr fun z _=>?_
    by_cases hz:f z=f y
    ·rw [QZh hz,QZi (fun q=>hne (hz.symm.trans q))]
     rfl
    ·rw [QZi hz]
     rfl
   rw [e,hx];exact Nat.dvd_add (Nat.dvd_refl m) hd
noncomputable def ZiF (n:Nat):List LI:=(YU n n).flatMap fun a=>(YU n n).flatMap fun b=>(YU n n).map fun c=>[toI a,toI b,toI c]
theorem ZbJ {α β:Type} {g:α->List β} {m:Nat}:∀ (l:List α),(∀ x∈l,(g x).length=m)->(l.flatMap g).length=l.length*m
 | [],_=>by simp
 | x::l,h=>by rw [QDo,QAo,QAu,QCs,h x QAj,ZbJ l fun y hy=>h y (QAp _ hy),Nat.add_comm]
theorem ZfR (n:Nat):(ZiF n).length=(YU n n).length*((YU n n).length*(YU n n).length) :=
 ZbJ _ fun a _=>ZbJ _ fun b _=>QAa _
theorem Zby {n:Nat} {r:List Nat} (h:r∈YU n n):Turn n (toI r):=by
 obtain ⟨rl,rnd,rrg⟩:=Zcz n r h;refine ⟨by rw [Yv,rl],?_,fun x hx=>?_⟩
 ·exact QZm.mpr (rnd.imp fun q e=>q (by exact Om.e1 ‹_›))
 ·obtain ⟨y,hy,rfl⟩:=QZd.mp hx;have:=rrg y hy;omega
theorem allR_mem {n:Nat} {g:LI}:g∈ZiF n↔Ren n g:=by
 constructor
 ·intro h;obtain ⟨a,ha,h⟩:=QZp.mp h;obtain ⟨b,hb,h⟩:=QZp.mp h;obtain ⟨c,hc,rfl⟩:=QZd.mp h;exact Ren.of3 (Zby ha) (Zby hb) (Zby hc)
 ·intro h;obtain ⟨a,b,c,rfl,ta,tb,tc⟩:=h.three;obtain ⟨a,ha,rfl⟩:=JK ta;obtain ⟨b,hb,rfl⟩:=JK tb;obtain ⟨c,hc,rfl⟩:=JK tc;exact QZp.mpr ⟨a,ha,QZp.mpr ⟨b,hb,QZd.mpr ⟨c,hc,rfl⟩⟩⟩
theorem Zln (n:Nat):(ZiF n).Nodup:=by
 refine List.pairwise_flatMap.mpr ⟨fun a _=>List.pairwise_flatMap.mpr ⟨fun b _=>?_,?_⟩,?_⟩
 ·refine QZm.mpr (List.Pairwise.imp ?_ (Za7 n n));intro x y ne e;exact ne (Zb1 (List.cons.inj (List.cons.inj (List.cons.inj e).2).2).1)
 ·refine List.Pairwise.imp ?_ (Za7 n n);intro x y ne g hg h hh e;obtain ⟨_,_,rfl⟩:=QZd.mp hg;obtain ⟨_,_,rfl⟩:=QZd.mp hh;exact ne (Zb1 (List.cons.inj (List.cons.inj e).2).1)
 ·refine List.Pairwise.imp ?_ (Za7 n n);intro x y ne g hg h hh e;obtain ⟨_,_,hg⟩:=QZp.mp hg;obtain ⟨_,_,hh⟩:=QZp.mp hh;obtain ⟨_,_,rfl⟩:=QZd.mp hg;obtain ⟨_,_,rfl⟩:=QZd.mp hh;exact ne (Zb1 (List.cons.inj e).1)
theorem ZhA {n:Nat} {R:LI} (ok:OkRows n R) (hl:R.length=n) {B:List LI} (nd:B.Nodup) (mm:∀ h,h∈B↔Own n R h):B.length ∣ (ZiF n).length:=by
 refine ZfC (fun g=>ZY n R g) B.length _ (ZiF n) rfl fun g0 h0=>?_;have r0:=allR_mem.mp h0;have p:((ZiF n).filter fun y=>decide (ZY n R y=ZY n R g0)).Perm (B.map fun h=>YD h g0):=by
  refine (List.perm_ext_iff_of_nodup ((Zln n).filter _) ?_).mpr fun g=>?_
  ·refine QZm.mpr (List.Pairwise.imp_of_mem ?_ nd);intro x y hx hy ne e;have rx:=((mm x).mp hx).1;have ry:=((mm y).mp hy).1;have e2:YD (YD x g0) (YN g0)=YD (YD y g0) (YN g0):=congrArg (fun z=>YD z (YN g0)) e;rw [Jr rx r0 r0.und,Jr ry r0 r0.und,(YX r0).1,(YX rx).2.2.2.1,(YX ry).2.2.2.1] at e2;exact ne e2
  ·rw [QZo,QZg,allR_mem,QZd]
   constructor
   ·rintro ⟨rg,e⟩;refine ⟨YD g (YN g0),(mm _).mpr ⟨rg.beh r0.und,?_⟩,?_⟩
    ·rw [<- Za2 ok hl rg r0.und,e,Zcx ok hl r0]
    ·rw [Jr rg r0.und r0,(YX r0).2.1,(YX rg).2.2.2.1]
   ·rintro ⟨h,hh,rfl⟩;obtain ⟨rh,eh⟩:=(mm h).mp hh;exact ⟨rh.beh r0,by rw [<- Za2 ok hl rh r0,eh]⟩
 rw [p.length_eq,QAa]
noncomputable def fac:Nat->Nat
 | 0=>1
 | n+1=>fac n*(n+1)
theorem Zbx:∀ n,n<7->(YU n n).length=fac n:=by decide +kernel
theorem ZkJ {n:Nat} {R:LI} (ok:OkRows n R) (hl:R.length=n) (h6:n<=6) {B:List LI} (nd:B.Nodup) (mm:∀ h,h∈B↔Own n R h):fac n ^ 3 / B.length*B.length=fac n ^ 3:=by
 have h:=ZhA ok hl nd mm;rw [ZfR,Zbx n (by exact Om.f3 ‹_›)] at h;have e:fac n ^ 3=fac n*(fac n*fac n):=by rw [Nat.pow_succ,Nat.pow_succ,Nat.pow_one,Nat.mul_assoc]
 rw [e];exact Nat.div_mul_cancel h
theorem Zih {n:Nat} {R:LI} (ok:OkRows n R) (hl:R.length=n):Own n R (JV n):=by
 refine ⟨Zbs n,?_⟩;have h:=ZdA (Zbf ok hl);rw [Jf ok hl (Zbs n)] at h;exact ZcU h
def OwnS (n:Nat) (R:LI) (A:List LI):Prop:=∃ B:List LI,B.Nodup/\(∀ h,h∈B↔Own n R h)/\A.Perm B/\(A.map (rkG n)).Pairwise (· <= ·)
theorem OwnS.one {n:Nat} {R:LI} (h6:n<=6) {A A':List LI} (a:OwnS n R A) (b:OwnS n R A'):A=A':=by
 obtain ⟨B,h1,h2,h3,h4⟩:=a;obtain ⟨B',h1',h2',h3',h4'⟩:=b;exact Zij h6 h1 h1' h2 h2' h3 h3' h4 h4'
inductive Zkf (vs:List V) (H:Hp) (Q:VK):Prop where
 | mk (g:Addr) (n:Nat) (R:LI) (_:vs=[.ref g]) (_:TG H g R) (_:OkRows n R) (_:R.length=n) (_:1<=n) (_:n<=6) (_:∀ l H' A,Same H H'->RL H' l A->OwnS n R A->A.length<=46656->Q (.ref l) H'):Zkf vs H Q
def ZiT:Sp:=fun vs H Q _=>Zkf vs H Q
section
variable {P:Program} {w:World} {K:QZa} {mg:Str->Option Value} {base:Heap}
theorem scOwn:Zt ["square","ways","back"] ["square"] (Zi Zi1):=Fs
inductive Zeg (L:List LI) (h:LI) (b:Addr) (H2:Hp) (lc:Addr) (j:Nat) (ys:List V) (σ:St) (H3:Hp):Prop where
 | mk (v0:Option V) (us:List Addr) (_:σ=[v0,some (.ref b)]) (_:ys=us.map V.ref) (_:Same H2 H3) (_:H3 lc=some (.lst ys)) (_:Paired (fun p x=>TG H3 p x) us (ZcC (L.take j) h)):Zeg L h b H2 lc j ys σ H3
theorem Zjo {f fG fN fB:Addr} {fd dG dN dB:FuncData} (F:Fun K "own" "own" Zi1 f fd) (T:Blt mg) (DG:Dfn K mg "leading" Zaa ["square"] fG dG) (DN:Dfn K mg "undone" Zap ["renaming"] fN dN) (DB:Dfn K mg "behind" Zb5 ["one","other"] fB dB) (GG:FnOk P w K mg base CX0 6 fG dG ["square"] ZiV) (GN:FnOk P w K mg base CX0 6 fN dN ["renaming"] Zcm) (GB:FnOk P w K mg base CX0 6 fB dB ["one","other"] ZeY):FnOk P w K mg base CX0 7 f fd ["square"] ZiT:=by
 refine F.ok scOwn (fun vs H Q E h=>?_) (fun cdv A outer s H vs Q E hr h=>?_)
 ·obtain ⟨_,_,_,rfl,_⟩:=h
  rfl
 ·obtain ⟨g,n,R,rfl,hT,ok,hRl,h1,h6,q⟩:=h;have hu:=huK hr 6
  refine' ⟨_,Zd ?s1 (Zd ?s2 (Zf (Zu ?s3))),?rd⟩
  case s1=>exact Zj (i:=1) scOwn.nd rfl (Or.inl rfl) (ZD (ZM K) (Zm GG hr rfl DG.m DG.F.kp DG.b .nil ZK (Za (pv 0) Zc)) Zh (fun _ _=>rfl))
  case s2=>exact Zj (i:=2) scOwn.nd rfl (Or.inr rfl) (Zm GN hr rfl DN.m DN.F.kp DN.b .nil ZK (Za (ZD (JR K) (pv 1) Zh (fun _ _=>rfl)) Zc))
  case s3=>exact Zl (Zak hu) rfl T.sorted PyProof.Rows.boot_sorted (Za (Yq ["way","back"] [none,some 2] rfl rfl (Z2 K (pv 1)) (fun _ _ _ _ _=>Yu 0) (fun _ _ _ _ _=>ZA) (fun _ _ _ _ _=>Zm GB hr rfl DB.m DB.F.kp DB.b .nil ZK (Za (pv 0) (Za (pv 1) Zc)))) Zc)
  case rd =>
   have h8:n<=8:=by exact Om.b1 ‹_› rfl
   refine ⟨_,rfl,g,n,R,rfl,hT,ok,hRl,h1,h6,fun t p l H1 FF L s1 ht hF hL ld=>?_⟩;obtain ⟨h,hh,_⟩:=ld.plain;obtain ⟨zs,hz,hZ⟩:=hL;have hzl:0<zs.length:=by
    rw [hZ.length];exact (QZb.mp hh).1
   obtain ⟨h',hh',hp⟩:=Paired.getL hZ (QAb hzl);rw [hh] at hh'
   cases hh';have hhL:=QAx hh;have rh:=((Jw ok hRl h1 ld).mp hhL).1;have hlen:L.length<=36*1296:=by
    rw [ld.all];exact QAr (List.length_filter_le _ _) (Zfx ok hRl h6)
   refine ⟨t,_,_,.ref l,rfl,rfl,SqT.of ht,rfl,?_⟩;refine ⟨_,rfl,l,_,_,.ref zs[0],rfl,rfl,SqL.of hz,ZR (i:=0) (by rw [QAe,QAb hzl]; rfl),?_⟩;refine ⟨zs[0],n,h,rfl,hp,rh,h1,h8,fun b H2 s2 hB=>?_⟩;have hz2:=s2 _ _ hz;refine ⟨_,rfl,l,rfl,⟨_,SqL.of hz2⟩,fun lc hlc=>?_⟩;have hzs:(zs.map V.ref).length=L.length:=by rw [QAa,hZ.length]
   refine Z5 (Z1 (xs:=zs.map V.ref)) (Zeg L h b H2 lc)
    ⟨none,[],rfl,rfl,Same.new hlc,Zb,.nil⟩ (fun j ys σ H3 zz0=> by obtain ⟨_,_,_,_,s3,hl,_⟩ := zz0; exact ⟨SqL.of (s3 _ _ hz2),hl⟩) ?_ ?_
   ·rintro j x ys σ H3 hj ⟨v0,us,rfl,rfl,s3,hl3,hU⟩;rw [QAe] at hj
    cases hpj:zs[j]? with
    | none=>rw [hpj] at hj; cases hj
    | some pr =>
    rw [hpj] at hj
    cases hj;obtain ⟨rj,hrj,hpr⟩:=Paired.getL hZ hpj;have rn:=((Jw ok hRl h1 ld).mp (QAx hrj)).1;refine ⟨_,rfl,_,rfl,pr,b,n,rj,YN h,rfl,hpr.same (s2.trans s3),hB.same s3,rn,rh.und,h1,h8,fun tm H4 s4 hM=>?_⟩;have hl4:=s4 _ _ hl3;have hjl:=(QZb.mp hrj).1;have hul:us.length=j:=by
     rw [hU.length];unfold ZcC;rw [QAa,QAt];exact Om.m1 ‹_›
    have up:∀ b row,H4 b=some (.tup row)->(upd H4 lc (.lst (us.map V.ref++[.ref tm]))) b=some (.tup row):=fun b row e=>by
     rw [Ze (YE e hl4 (by intro z; cases z))];exact e
    refine ⟨hl4,by rw [QAa,hul]; exact Jb (by exact Om.b2 ‹_› ‹_› rfl),_,us++[tm],rfl,by rw [QAm]; rfl,fun b u e=>?_,Zb,?_⟩
    ·rw [Ze (Zg e hlc)];exact s4 _ _ (s3 _ _ e)
    ·have et:ZcC (L.take (j+1)) h=ZcC (L.take j) h++[YD rj (YN h)]:=by
      unfold ZcC;rw [QCe,hrj,QAm]
      rfl
     rw [et];exact Paired.snoc (Paired.mapP hU fun _ _ z=>z.up fun b row e=>up b row (s4 _ _ e)) (hM.up up)
   rintro ys σ HA ⟨v0,us,rfl,rfl,sA,hlA,hU⟩;rw [hzs,QBc (QAc _)] at hU;have nd:=Zml ok hRl h1 ld rh;have mm:=fun x=>ZkI ok hRl h1 ld hhL (h:=x)
   refine ⟨lc,us,ZcC L h,3,n,rkG n,rfl,hlA,hU,fun r hr=>?_,by decide,?_,fun p hp q hq=>?_,?_,fun l qs S' hl hQ hp hs=>?_⟩
   ·have d:=((mm r).mp hr).1.dig h6;exact ⟨d.len,fun x hx=>(d.row x hx).1⟩
   ·unfold ZcC;rw [QAa];exact Om.b1 ‹_› rfl
   ·exact Dig.lt (((mm p).mp hp).1.dig h6) (((mm q).mp hq).1.dig h6)
   ·exact Zlw nd fun g hg=>((mm g).mp hg).1.dig h6
   ·have s5:Same HA (upd HA l (.lst (qs.map V.ref))):=Same.new hl;exact q l _ S' (s1.trans (s2.trans (sA.trans s5))) ⟨qs,Zb,Paired.mapP hQ fun _ _ z=>TG.same (show TG HA _ _ from z) s5⟩ ⟨ZcC L h,nd,mm,hp,hs⟩ (by rw [hp.length_eq]; unfold ZcC; rw [QAa]; assumption)
end
inductive Zh0 (vs:List V) (H:Hp) (Q:VK):Prop where
 | mk (n:Nat) (_:vs=[.int (n:Int)]) (_:n<=6) (_:Q (.int ((fac n:Nat):Int)) H):Zh0 vs H Q
def ZiS:Sp:=fun vs H Q _=>Zh0 vs H Q
inductive Zh1 (vs:List V) (H:Hp) (Q:VK):Prop where
 | mk (g:Addr) (n:Nat) (R:LI) (_:vs=[.ref g]) (_:TG H g R) (_:OkRows n R) (_:R.length=n) (_:1<=n) (_:n<=6) (_:∀ H' A,Same H H'->OwnS n R A->Q (.int (((fac n ^ 3 / A.length:Nat)):Int)) H'):Zh1 vs H Q
def ZiU:Sp:=fun vs H Q _=>Zh1 vs H Q
theorem ZgV:∀ n,n<7->fac n<=720:=by decide
theorem OwnS.len {n:Nat} {R:LI} {A:List LI} (h:OwnS n R A) (ok:OkRows n R) (hl:R.length=n) (h6:n<=6):0<A.length/\A.length<=720*(720*720)/\fac n ^ 3 / A.length*A.length=fac n ^ 3:=by
 obtain ⟨B,nd,mm,p,_⟩:=h;rw [p.length_eq];have h0:0<B.length:=QDj ((mm _).mpr (Zih ok hl));have hd:=ZhA ok hl nd mm;rw [ZfR,Zbx n (by exact Om.f3 ‹_›)] at hd;have hf:=ZgV n (by exact Om.f3 ‹_›);have hp:0<fac n:=by
  rcases Nat.eq_zero_or_pos (fac n) with z | z
  ·exfalso;have:∀ n,n<7->0<fac n:=by decide
   have:=this n (by exact Om.f3 ‹_›);exact (O47 z this).elim
  ·exact z
 refine ⟨h0,QAr (Nat.le_of_dvd (Nat.mul_pos hp (Nat.mul_pos hp hp)) hd) (QBv hf (QBv hf hf)),ZkJ ok hl h6 nd mm⟩
section
variable {P:Program} {w:World} {K:QZa} {mg:Str->Option Value} {base:Heap}
theorem scProd:Zt ["n","product","number"] ["n"] (Zi ZaX):=Fs
inductive Zeh (H:Hp) (n:Nat) (i:Nat) (σ:St) (H2:Hp):Prop where
 | mk (v2:Option V) (_:σ=[some (.int (n:Int)),some (.int ((fac i:Nat):Int)),v2]) (_:H2=H):Zeh H n i σ H2
theorem ZkM {f:Addr} {fd:FuncData} (F:Fun K "product_to" "product_to" ZaX f fd) (T:Blt mg):FnOk P w K mg base CX0 1 f fd ["n"] ZiS:=by
 refine F.ok scProd (fun vs H Q E h=>?_) (fun cdv A outer s H vs Q E hr h=>?_)
 ·obtain ⟨_,rfl,_⟩:=h
  rfl
 ·obtain ⟨n,rfl,h6,q⟩:=h
  refine' ⟨_,Zd (Zj (i:=1) scProd.nd rfl (Or.inl rfl) Zh) (Zd (Ye PassesOwn.never rfl (Zig rfl T.range (Za Zh (Za (Zk Yj (pv 0) Zh) Zc))) (ZC (i:=2) scProd.nd rfl (Or.inl rfl)) (Zf (Zmh (i:=1) scProd.nd rfl (Or.inl rfl) (pv 2) Zk4))) (Zf (Zu (pv 1)))),?rd⟩
  case rd =>
   refine ⟨_,rfl,_,_,rfl,rfl,1,((n+1:Nat):Int),by rw [Int.natCast_add]; rfl,⟨by decide,by decide,by exact Om.c2,by exact O46 h6⟩,?_⟩;rw [show (((n+1:Nat):Int) - 1).toNat=n by exact O45 h6];refine ZT (lo:=1) (n:=n) (Zeh H n) ⟨none,rfl,rfl⟩ ?_ ?_
   ·rintro i σ H2 hi ⟨v2,rfl,rfl⟩;refine ⟨_,rfl,_,rfl,_,_,rfl,rfl,.inr ⟨by exact O44 ,by exact O43 h6 hi⟩,some (.int (1+(i:Int))),?_,rfl⟩;show [some (V.int (n:Int)),some (V.int (((fac i:Nat):Int)*(1+(i:Int)))),some (V.int (1+(i:Int)))]=_;have:((fac (i+1):Nat):Int)=((fac i:Nat):Int)*(1+(i:Int)):=by
     show ((fac i*(i+1):Nat):Int)=_;rw [Int.natCast_mul,Int.natCast_add,Int.add_comm]
     rfl
    rw [<- this]
   ·rintro σ H2 ⟨v2,rfl,rfl⟩;exact ⟨_,rfl,q⟩
theorem Zl4:Zt ["square"] ["square"] (Zi Zhr):=Fs
theorem ZkN {f fP fO:Addr} {fd dP dO:FuncData} (F:Fun K "alike_many" "alike_many" Zhr f fd) (T:Blt mg) (DP:Dfn K mg "product_to" ZaX ["n"] fP dP) (DO:Dfn K mg "own" Zi1 ["square"] fO dO) (GO:FnOk P w K mg base CX0 7 fO dO ["square"] ZiT):FnOk P w K mg base CX0 8 f fd ["square"] ZiU:=by
 have GP:FnOk P w K mg base CX0 7 fP dP ["n"] ZiS:=(ZkM DP.F T).mono (by decide);refine F.ok Zl4 (fun vs H Q E h=>?_) (fun cdv A outer s H vs Q E hr h=>?_)
 ·obtain ⟨_,_,_,rfl,_⟩:=h
  rfl
 ·obtain ⟨g,n,R,rfl,hT,ok,hRl,h1,h6,q⟩:=h
  refine' ⟨_,Zf (Zu (Zk Yy (Zk ZaM (Zm GP hr rfl DP.m DP.F.kp DP.b .nil ZK (Za (Zl (Zr K) rfl T.len PySem.boot_len (Za (pv 0) Zc)) Zc)) Zh) (Zl (Zr K) rfl T.len PySem.boot_len (Za (Zm GO hr rfl DO.m DO.F.kp DO.b .nil ZK (Za (pv 0) Zc)) Zc)))),?rd⟩
  case rd =>
   obtain ⟨gs,hgs,hGs⟩:=id hT;have hgl:(gs.map V.ref).length=n:=by rw [QAa,hGs.length,hRl]
   have hf:=ZgV n (by exact Om.f3 ‹_›);refine ⟨_,rfl,g,_,rfl,.inr (SqT.of hgs),n,by rw [hgl]; rfl,h6,?_⟩;refine ⟨_,_,rfl,rfl,⟨by decide,by decide,by rw [Int.natAbs_natCast]; exact QEc hf (by decide)⟩,?_⟩;refine ⟨_,rfl,g,n,R,rfl,hT,ok,hRl,h1,h6,fun l H' A s' hA ow _=>?_⟩;obtain ⟨ps,hps,hP⟩:=hA;obtain ⟨l0,l1,l2⟩:=ow.len ok hRl h6;have hpl:(ps.map V.ref).length=A.length:=by rw [QAa,hP.length]
   refine ⟨l,_,rfl,.inl (SqL.of hps),_,_,rfl,rfl,⟨by rw [hpl]; exact O42 ‹_› l0 hpl,by rw [hpl]; exact O41 ‹_› l0 hpl⟩,?_⟩;have e:((fac n:Nat):Int) ^ (3:Int).toNat / (((ps.map V.ref).length:Nat):Int)=((fac n ^ 3 / A.length:Nat):Int):=by
    rw [hpl];show ((fac n:Nat):Int) ^ 3 / _=_;rw [<- Int.natCast_pow,Int.natCast_ediv]
   show Q (V.int (((fac n:Nat):Int) ^ (3:Int).toNat / (((ps.map V.ref).length:Nat):Int))) _;rw [e];exact q H' A s' ow
end
noncomputable def cv (c:List Int) (x:Nat):Nat:=(c.getD x 0).toNat
section
variable {n:Nat} {c:List Int} {S T:Nat->Nat} {M:List (Nat × Nat)}
theorem JE (t:Turn n c) {x:Nat} (hx:x<n):c.getD x 0=((cv c x:Nat):Int)/\cv c x<n:=by
 obtain ⟨y,e,hy⟩:=t.val hx;unfold cv;rw [e,QAf];exact ⟨rfl,hy⟩
theorem ZgZ (t:Turn n c) {x y:Nat} (hx:x<n) (hy:y<n) (e:cv c x=cv c y):x=y:=t.inj hx hy (by rw [(JE t hx).1,(JE t hy).1,e])
def ZbV (n:Nat) (S T:Nat->Nat) (c:List Int):Prop:=Turn n c/\∀ x,x<n->cv c (S x)=T (cv c x)
def Zgm (c:List Int) (M:List (Nat × Nat)):Prop:=∀ p∈M,cv c p.1=p.2
structure Zkh (n:Nat) (M:List (Nat × Nat)):Prop where
 k:(M.map (·.1)).Nodup
 v:(M.map (·.2)).Nodup
 rg:∀ p∈M,p.1<n/\p.2<n
def Cl (S T:Nat->Nat) (M:List (Nat × Nat)):Prop:=∀ p∈M,(S p.1,T p.2)∈M
def Zdg (n:Nat) (S T:Nat->Nat) (M:List (Nat × Nat)) (C:LI):Prop:=C.Nodup/\∀ c,c∈C↔ZbV n S T c/\Zgm c M
noncomputable def Yz (M:List (Nat × Nat)) (k:Nat):Option Nat:=(M.find? fun p=>decide (p.1=k)).map (·.2)
theorem JQ {k x:Nat} (h:Yz M k=some x):(k,x)∈M:=by
 unfold Yz at h;obtain ⟨p,hp,rfl⟩:=Option.map_eq_some_iff.mp h;have e:p.1=k:=by
  have:=List.find?_some hp;exact QZj this
 rw [<- e];exact List.mem_of_find?_eq_some hp
theorem ZhE {k x:Nat} (h:Yz M k=none):(k,x)∉M:=by
 intro z;unfold Yz at h;have:=List.find?_eq_none.mp (Option.map_eq_none_iff.mp h) _ z;exact this (QZh rfl)
theorem Zcd {k x y:Nat}:∀ {M:List (Nat × Nat)},(M.map (·.1)).Nodup->(k,x)∈M->(k,y)∈M->x=y
 | p::M,nd,h1,h2=>by
  obtain ⟨n1,n2⟩:=List.nodup_cons.mp nd
  rcases QZn.mp h1 with e1 | e1 <;> rcases QZn.mp h2 with e2 | e2
  ·rw [<- e1] at e2;exact (Prod.mk.inj e2).2.symm
  ·rw [<- e1] at n1;exact absurd (QZd.mpr ⟨_,e2,rfl⟩) n1
  ·rw [<- e2] at n1;exact absurd (QZd.mpr ⟨_,e1,rfl⟩) n1
  ·exact Zcd n2 e1 e2
theorem ZkV {k x:Nat} (nd:(M.map (·.1)).Nodup) (h:(k,x)∈M):Yz M k=some x:=by
 cases e:Yz M k with
 | none=>exact absurd h (ZhE e)
 | some y=>rw [Zcd nd (JQ e) h]
theorem ZiA (pm:Zkh n M) (cl:Cl S T M) (full:∀ x,x<n->∃ y,Yz M x=some y):Zdg n S T M [(List.range n).map fun x=>(((Yz M x).getD 0:Nat):Int)]:=by
 have at_:∀ x,x<n->((List.range n).map fun x=>(((Yz M x).getD 0:Nat):Int)).getD x 0=(((Yz M x).getD 0:Nat):Int):=fun x hx=>by
  rw [QAd,QAe,QBi hx]
  rfl
 generalize hc:((List.range n).map fun x=>(((Yz M x).getD 0:Nat):Int))=c0 at at_;have hl:c0.length=n:=by rw [<- hc,QAa,QAq]
 have hv:∀ x,x<n->(x,cv c0 x)∈M/\c0.getD x 0=((cv c0 x:Nat):Int):=fun x hx=>by
  obtain ⟨y,e⟩:=full x hx;have:=at_ x hx;rw [e] at this;have e2:cv c0 x=y:=by
   unfold cv;rw [this]
   rfl
  rw [e2];exact ⟨JQ e,this⟩
 have tn:Turn n c0:=Turn.of hl (fun i hi=>⟨_,(hv i hi).2,(pm.rg _ (hv i hi).1).2⟩) fun i j hi hj e=>by
  rw [(hv i hi).2,(hv j hj).2] at e;have e:cv c0 i=cv c0 j:=by exact Om.e1 ‹_›
  have h1:=(hv i hi).1;have h2:=(hv j hj).1;rw [e] at h1;have sw:∀ {L:List (Nat × Nat)},(L.map (·.2)).Nodup->(i,cv c0 j)∈L->(j,cv c0 j)∈L->i=j:=fun {L} nd a b=>by
   have nd':((L.map fun p=>(p.2,p.1)).map (·.1)).Nodup:=by
    rw [QAw];exact nd
   exact Zcd nd' (QZd.mpr ⟨_,a,rfl⟩) (QZd.mpr ⟨_,b,rfl⟩)
  exact sw pm.v h1 h2
 have ex:Zgm c0 M:=fun p hp=>Zcd pm.k (hv p.1 (pm.rg p hp).1).1 hp
 refine ⟨List.nodup_cons.mpr ⟨by simp,QBg⟩,fun c=>?_⟩;rw [QCy]
 constructor
 ·rintro rfl;exact ⟨⟨tn,fun x hx=>ex _ (cl _ (hv x hx).1)⟩,ex⟩
 ·rintro ⟨⟨t,_⟩,e⟩;refine J6 t.len hl fun x hx=>?_;rw [(hv x hx).2,(JE t hx).1,e _ (hv x hx).1]
structure WC (n:Nat) (S T:Nat->Nat) (M:List (Nat × Nat)) (b g:Nat) (M':List (Nat × Nat)) (h t:Nat):Prop where
 pm:Zkh n M'
 sub:∀ p∈M,p∈M'
 hh:h<n
 ht:t<n
 cl:∀ p∈M',(S p.1,T p.2)∈M'\/(S p.1=h/\T p.2=t)
 all:∀ c,ZbV n S T c->Zgm c M->cv c b=g->Zgm c M'/\cv c h=t
 st:(b,g)∈M'\/(h=b/\t=g/\M'=M)
variable {b g h t:Nat} {M':List (Nat × Nat)}
theorem WC.start (pm:Zkh n M) (cl:Cl S T M) (hb:b<n) (hg:g<n):WC n S T M b g M b g :=
 ⟨pm,fun _ z=>z,hb,hg,fun p hp=>.inl (cl p hp),fun _ _ e q=>⟨e,q⟩,.inr ⟨rfl,rfl,rfl⟩⟩
theorem Zjw {α:Type} {l:List α} {x:α} (nd:l.Nodup) (h:x∉l):(l++[x]).Nodup :=
 List.nodup_append.mpr ⟨nd,List.nodup_cons.mpr ⟨by simp,QBg⟩,fun a ha b hb e=>by
  rw [QZc.mp hb] at e;exact h (e ▸ ha)⟩
theorem WC.step (w:WC n S T M b g M' h t) (hS:∀ x,x<n->S x<n) (hT:∀ x,x<n->T x<n) (hk:h∉M'.map (·.1)) (hv:t∉M'.map (·.2)):WC n S T M b g (M'++[(h,t)]) (S h) (T t):=by
 obtain ⟨pm,sub,hh,ht,cl,all,st⟩:=w;refine ⟨⟨?_,?_,fun p hp=>?_⟩,fun p hp=>QBe _ (sub p hp),hS _ hh,hT _ ht,fun p hp=>?_,fun c gc e q=>?_,.inl ?_⟩
 ·rw [QAm];exact Zjw pm.k hk
 ·rw [QAm];exact Zjw pm.v hv
 ·rcases QZf.mp hp with z | z
  ·exact pm.rg p z
  ·rw [QZc.mp z];exact ⟨hh,ht⟩
 ·rcases QZf.mp hp with z | z
  ·rcases cl p z with y | ⟨y1,y2⟩
   ·exact .inl (QBe _ y)
   ·rw [y1,y2];exact .inl (QBf _ (QZc.mpr rfl))
  ·rw [QZc.mp z];exact .inr ⟨rfl,rfl⟩
 ·obtain ⟨a1,a2⟩:=all c gc e q;refine ⟨fun p hp=>?_,by rw [gc.2 h hh,a2]⟩
  rcases QZf.mp hp with z | z
  ·exact a1 p z
  ·rw [QZc.mp z];exact a2
 ·rcases st with z | ⟨z1,z2,_⟩
  ·exact QBe _ z
  ·rw [z1,z2];exact QBf _ (QZc.mpr rfl)
theorem WC.few (w:WC n S T M b g M' h t) (hk:h∉M'.map (·.1)):M'.length<n:=by
 have:=Zay (l:=h::M'.map (·.1)) (n:=n) (List.nodup_cons.mpr ⟨hk,w.pm.k⟩) fun x hx=>by
  rcases QZn.mp hx with z | z
  ·rw [z];exact w.hh
  ·obtain ⟨p,hp,rfl⟩:=QZd.mp z;exact (w.pm.rg p hp).1
 rw [QAu,QAa] at this;exact this
theorem WC.good (w:WC n S T M b g M' h t) (hb:b∉M.map (·.1)) (e:Yz M' h=some t):Cl S T M'/\(b,g)∈M':=by
 refine ⟨fun p hp=>?_,?_⟩
 ·rcases w.cl p hp with z | ⟨z1,z2⟩
  ·exact z
  ·rw [z1,z2];exact JQ e
 ·rcases w.st with z | ⟨z1,z2,z3⟩
  ·exact z
  ·rw [z1,z3] at e;exact absurd (QZd.mpr ⟨_,JQ e,rfl⟩) hb
theorem WC.bad (w:WC n S T M b g M' h t) (e:Yz M' h≠some t) (hs:h∈M'.map (·.1)\/t∈M'.map (·.2)):¬ (ZbV n S T c/\Zgm c M/\cv c b=g):=by
 rintro ⟨gc,ec,q⟩;obtain ⟨a1,a2⟩:=w.all c gc ec q;have fin:(h,t)∈M':=by
  rcases hs with z | z
  ·obtain ⟨p,hp,e1⟩:=QZd.mp z;have e2:=a1 p hp;rw [e1,a2] at e2;have:p=(h,t):=Prod.ext e1 e2.symm;rw [<- this];exact hp
  ·obtain ⟨p,hp,e1⟩:=QZd.mp z;have e2:=a1 p hp;rw [e1,<- a2] at e2;have e3:=ZgZ gc.1 (w.pm.rg p hp).1 w.hh e2;have:p=(h,t):=Prod.ext e3 e1;rw [<- this];exact hp
 exact e (ZkV w.pm.k fin)
def FoundOk (n:Nat) (S T:Nat->Nat) (M:List (Nat × Nat)) (b i:Nat) (C:LI):Prop:=C.Nodup/\∀ c,c∈C↔ZbV n S T c/\Zgm c M/\cv c b<i
variable {i:Nat} {C C':LI}
theorem FoundOk.nil:FoundOk n S T M b 0 []:=⟨QBg,fun c=>⟨fun z=>(by cases z),fun z=>absurd z.2.2 (QCc _)⟩⟩
theorem FoundOk.skip (f:FoundOk n S T M b i C) (no:∀ c,¬ (ZbV n S T c/\Zgm c M/\cv c b=i)):FoundOk n S T M b (i+1) C :=
 ⟨f.1,fun c=>(f.2 c).trans ⟨fun z=>⟨z.1,z.2.1,QDb z.2.2⟩,fun z=>⟨z.1,z.2.1,(Nat.lt_succ_iff_lt_or_eq.mp z.2.2).resolve_right fun q=>no c ⟨z.1,z.2.1,q⟩⟩⟩⟩
theorem FoundOk.more (f:FoundOk n S T M b i C) (w:WC n S T M b i M' h t) (hb:b∉M.map (·.1)) (e:Yz M' h=some t) (k:Zdg n S T M' C'):FoundOk n S T M b (i+1) (C++C'):=by
 obtain ⟨_,hg⟩:=w.good hb e;have m2:∀ c,c∈C'↔ZbV n S T c/\Zgm c M/\cv c b=i:=fun c=>(k.2 c).trans ⟨fun z=>⟨z.1,fun p hp=>z.2 p (w.sub p hp),z.2 _ hg⟩,fun z=>⟨z.1,(w.all c z.1 z.2.1 z.2.2).1⟩⟩
 refine ⟨List.nodup_append.mpr ⟨f.1,k.1,fun x hx y hy e=>?_⟩,fun c=>?_⟩
 ·subst e;have h1:=((f.2 x).mp hx).2.2;have h2:=((m2 x).mp hy).2.2;exact (O40 h1 h2).elim
 ·rw [QCn,f.2 c,m2 c,Nat.lt_succ_iff_lt_or_eq];exact ⟨fun z=>z.elim (fun y=>⟨y.1,y.2.1,.inl y.2.2⟩) fun y=>⟨y.1,y.2.1,.inr y.2.2⟩,fun z=>z.2.2.elim (fun y=>.inl ⟨z.1,z.2.1,y⟩) fun y=>.inr ⟨z.1,z.2.1,y⟩⟩
theorem FoundOk.done (f:FoundOk n S T M b n C) (hb:b<n):Zdg n S T M C:=⟨f.1,fun c=>(f.2 c).trans ⟨fun z=>⟨z.1,z.2.1⟩,fun z=>⟨z.1,z.2,(JE z.1.1 hb).2⟩⟩⟩
theorem ZgM {α:Type} [DecidableEq α]:∀ {A B:List α},A.Nodup->(∀ x∈A,x∈B)->A.length<=B.length
 | [],_,_,_=>QAg _
 | x::A,B,nd,h=>by
  obtain ⟨n1,n2⟩:=List.nodup_cons.mp nd;have hx:=h x QAj;have:=ZgM (B:=B.erase x) n2 fun y hy=>(List.mem_erase_of_ne fun (z:y=x)=>n1 (z ▸ hy)).mpr (h y (QAp _ hy))
  rw [List.length_erase_of_mem hx] at this;have:=QDj hx;rw [QAu];omega
theorem Zds (h6:n<=6) (nd:C.Nodup) (h:∀ c∈C,Turn n c):C.length<=720:=by
 have hb:=ZgM (A:=C.map fun c=>c.map Int.toNat) (B:=YU n n) (QZm.mpr (List.Pairwise.imp_of_mem (fun {x y} hx hy ne e=>by
  obtain ⟨p,_,e1⟩:=JK (h x hx);obtain ⟨q,_,e2⟩:=JK (h y hy);have back:∀ p:List Nat,(toI p).map Int.toNat=p:=fun p=>by
   unfold toI;rw [QAw];exact List.map_id _
  have e:x.map Int.toNat=y.map Int.toNat:=e;rw [e1,e2,back,back] at e;exact ne (by rw [e1,e2,e])) nd)) fun x hx=>by
   obtain ⟨c,hc,rfl⟩:=QZd.mp hx;obtain ⟨p,hp,e1⟩:=JK (h c hc);rw [e1];unfold toI;rw [QAw];exact (List.map_id p).symm ▸ hp
 rw [QAa,Zbx n (by exact Om.f3 ‹_›)] at hb;exact QAr hb (ZgV n (by exact Om.f3 ‹_›))
end
noncomputable def Zbv (n:Nat) (f:Nat->Nat) (v:Nat->Int):Nat->List Int
 | 0=>List.replicate n 0
 | i+1=>(Zbv n f v i).set (f i) (v i)
section
variable {n:Nat} {f:Nat->Nat} {v:Nat->Int}
theorem YH:∀ i,(Zbv n f v i).length=n
 | 0=>List.length_replicate
 | i+1=>by rw [Zbv,QCx,YH i]
theorem Zex (o:One n f):∀ i,i<=n->∀ x,x<i->(Zbv n f v i).getD (f x) 0=v x
 | 0,_,x,hx=>absurd hx (QCc _)
 | i+1,hi,x,hx=>by
  rw [Zbv,QAd,QCu]
  by_cases e:x=i
  ·subst e;rw [if_pos rfl,if_pos (by rw [YH]; exact o.lt x (by exact Om.a3 ‹_› ‹_›))]
   rfl
  ·rw [if_neg (fun z=>e (o.inj _ _ (by exact Om.a3 ‹_› ‹_›) (by exact Om.f5 ‹_›) z.symm)),<- QAd];exact Zex o i (by exact Om.f4 ‹_›) x (by exact O39 hx e)
noncomputable def Jh (n:Nat) (R:LI) (a:Nat) (c:List Int):List Int:=Zbv n (fun x=>(ent R 0 x).toNat) (fun x=>ent R a (cv c x)) n
noncomputable def Ji (n:Nat) (R:LI) (a:Nat) (c:List Int) (k:Nat):List Int:=Zbv n (cv c) (fun x=>(Jh n R a c).getD (ent R k x).toNat 0) n
noncomputable def Yw (n:Nat) (R:LI) (a:Nat) (c:List Int) (i:Nat):List Int:=(List.range i).map fun k=>((R.idxOf (Ji n R a c k):Nat):Int)
open Classical in
noncomputable def Zag (n:Nat) (R:LI) (a:Nat) (c:List Int):Option (LI):=if ∀ k,k<n->Ji n R a c k∈R then some [Yw n R a c n,c,Jh n R a c] else none
variable {R:LI} {a b:Nat} {c:List Int}
theorem ZmO (t:Turn n c):One n (cv c):=⟨fun x hx=>(JE t hx).2,fun x y hx hy e=>ZgZ t hx hy e⟩
theorem Zj3 (t:Turn n c) {y:Nat} (hy:y<n):∃ x,x<n/\cv c x=y:=by
 obtain ⟨h1,h2⟩:=YK t hy;exact ⟨_,h1,by unfold cv; rw [h2]; rfl⟩
theorem Zle (ok:OkRows n R) (hl:R.length=n) {k:Nat} (hk:k<n):One n fun x=>(ent R k x).toNat :=
 ⟨fun x hx=>(ZQ ok hl hk hx).2,fun x y hx hy e=>(ZF ok hl hk).inj hx hy (by
  have h1:=(ZQ ok hl hk hx).1;have h2:=(ZQ ok hl hk hy).1;have e:(ent R k x).toNat=(ent R k y).toNat:=e;rw [e] at h1;exact h1.trans h2.symm)⟩
theorem ZhP (ok:OkRows n R) (hl:R.length=n) {k y:Nat} (hk:k<n) (hy:y<n):∃ x,x<n/\ent R k x=(y:Int):=by
 obtain ⟨h1,h2⟩:=(ZF ok hl hk).has (x:=(y:Int)) ⟨by exact Om.c6,by exact Om.c5 ‹_›⟩;exact ⟨_,h1,h2⟩
theorem Zhe (ok:OkRows n R) (hl:R.length=n) {x:Nat} (hx:x<n):(Jh n R a c).getD (ent R 0 x).toNat 0=ent R a (cv c x):=Zex (Zle ok hl (by exact O38 hl hx)) n (QAc _) x hx
theorem ZdM (t:Turn n c) {k x:Nat} (hx:x<n):(Ji n R a c k).getD (cv c x) 0=(Jh n R a c).getD (ent R k x).toNat 0:=Zex (ZmO t) n (QAc _) x hx
theorem Zkm (ok:OkRows n R) (hl:R.length=n) (ha:a<n) (t:Turn n c):Turn n (Jh n R a c):=by
 have at_:∀ i,i<n->∃ x,x<n/\ent R 0 x=(i:Int)/\(Jh n R a c).getD i 0=ent R a (cv c x):=fun i hi=>by
  obtain ⟨x,hx,e⟩:=ZhP ok hl (show 0<n by exact O38 hl ha) hi;have:=Zhe (a:=a) (c:=c) ok hl hx;rw [e,QAf] at this;exact ⟨x,hx,e,this⟩
 refine Turn.of (YH n) (fun i hi=>?_) fun i j hi hj e=>?_
 ·obtain ⟨x,hx,_,e⟩:=at_ i hi;obtain ⟨e1,e2⟩:=ZQ ok hl ha (JE t hx).2;exact ⟨_,e.trans e1,e2⟩
 ·obtain ⟨x,hx,e1,e2⟩:=at_ i hi;obtain ⟨y,hy,e3,e4⟩:=at_ j hj;rw [e2,e4] at e;have:=ZgZ t hx hy ((ZF ok hl ha).inj (JE t hx).2 (JE t hy).2 e);subst this;omega
theorem Zeq {r s:List Int} (t:Turn n c) (hr:r.length=n) (hs:s.length=n) (h:∀ x,x<n->r.getD (cv c x) 0=s.getD (cv c x) 0):r=s:=J6 hr hs fun i hi=>by
 obtain ⟨x,hx,rfl⟩:=Zj3 t hi;exact h x hx
theorem Zhs (hl:R.length=n) {k:Nat} (hk:k<n):R.getD k []∈R:=by
 rw [QAd,QAb (by exact Om.a1 ‹_› ‹_›)];exact QAs _
theorem Zht (hl:R.length=n) {r:List Int} (h:r∈R):R.idxOf r<n/\R.getD (R.idxOf r) []=r:=by
 have h1:=QEv h;refine ⟨by exact Om.a2 ‹_› ‹_›,?_⟩;rw [QAd,QAb h1];exact QDt h1
theorem Zks (ok:OkRows n R) (hl:R.length=n) {k l:Nat} (hk:k<n) (hl':l<n) (e:R.getD k []=R.getD l []):k=l:=J1 ok hl hk hl' (show 0<n by exact O38 hl hk) (by unfold ent; rw [e])
theorem ZeH (ok:OkRows n R) (hl:R.length=n) {k:Nat} (hk:k<n):R.idxOf (R.getD k [])=k:=by
 obtain ⟨h1,h2⟩:=Zht hl (Zhs hl hk);exact Zks ok hl h1 hk h2
theorem Zl3 {A B:LI} (ok:OkRows n A) (ok':OkRows n B) (hl:A.length=n) (hl':B.length=n) (h:∀ i j,i<n->j<n->ent A i j=ent B i j):A=B:=by
 refine QBs (hl.trans hl'.symm) fun i h1 h2=>?_;have e1:A.getD i []=A[i]:=by rw [QAd,QAb h1]; rfl
 have e2:B.getD i []=B[i]:=by rw [QAd,QAb h2]; rfl
 rw [<- e1,<- e2];exact J6 (ZF ok hl (by exact Om.a2 ‹_› ‹_›)).len (ZF ok' hl' (by exact Om.a2 ‹_› ‹_›)).len fun j hj=>h i j (by exact Om.a2 ‹_› ‹_›) hj
theorem Zad {k:Nat} (hk:k<n):(Yw n R a c n).getD k 0=((R.idxOf (Ji n R a c k):Nat):Int):=by
 unfold Yw;rw [QAd,QAe,QBi hk]
 rfl
theorem ZcD (ok:OkRows n R) (hl:R.length=n) (h2:2<=n) (ha:a<n) (hb:b<n) (gc:ZbV n (sF R 1 0) (sF R b a) c) {h:LI} (e:Zag n R a c=some h):Own n R h/\rw_ h 0 0=a/\rw_ h 0 1=b/\h.getD 1 []=c:=by
 unfold Zag at e
 split at e
 ·next hm =>
  cases e;have t:=gc.1;have tt:=Zkm ok hl ha t;have mi:=fun k hk=>Zht hl (hm k hk)
  have tr:Turn n (Yw n R a c n):=by
   refine Turn.of (by unfold Yw; rw [QAa,QAq]) (fun k hk=>⟨_,Zad hk,(mi k hk).1⟩) fun i j hi hj e=>?_;rw [Zad hi,Zad hj] at e;have e:R.idxOf (Ji n R a c i)=R.idxOf (Ji n R a c j):=by exact Om.e1 ‹_›
   have e2:Ji n R a c i=Ji n R a c j:=by rw [<- (mi i hi).2,e,(mi j hj).2]
   have m1:=ZdM (R:=R) (a:=a) t (k:=i) (show 0<n by exact Om.p1 ‹_›);have m2:=ZdM (R:=R) (a:=a) t (k:=j) (show 0<n by exact Om.p1 ‹_›);rw [e2,m2] at m1;obtain ⟨e3,l3⟩:=ZQ ok hl hi (show 0<n by exact Om.p1 ‹_›);obtain ⟨e4,l4⟩:=ZQ ok hl hj (show 0<n by exact Om.p1 ‹_›);have:=tt.inj l4 l3 m1;exact J1 ok hl hi hj (show 0<n by exact Om.p1 ‹_›) (by rw [e3,e4,this])
  have rn:Ren n [Yw n R a c n,c,Jh n R a c]:=Ren.of3 tr t tt;have r0:∀ k,k<n->rw_ [Yw n R a c n,c,Jh n R a c] 0 k=R.idxOf (Ji n R a c k):=fun k hk=>by
   show ((Yw n R a c n).getD k 0).toNat=_;rw [Zad hk,QAf]
  have r2:∀ y,y<n->(Jh n R a c).getD y 0=((rw_ [Yw n R a c n,c,Jh n R a c] 2 y:Nat):Int):=fun y hy=>Zcs rn (k:=2) (by decide) hy
  refine ⟨⟨rn,?_⟩,?_,?_,rfl⟩
  ·obtain ⟨ok',hl'⟩:=YR ok hl rn;refine Zl3 ok' ok hl' hl fun i j hi hj=>?_;have ei:=ZcS rn (k:=0) (by decide) hi;have li:ixo ([Yw n R a c n,c,Jh n R a c].getD 0 []) i<n:=Z4 (rn.at (by decide)) hi;obtain ⟨x,hx,rfl⟩:=Zj3 t hj;generalize ixo ([Yw n R a c n,c,Jh n R a c].getD 0 []) i=k at ei li;subst ei;have e1:=J0 rn ok hl li hx;have e0:rw_ [Yw n R a c n,c,Jh n R a c] 1 x=cv c x:=rfl;rw [e0] at e1;rw [e1,<- r2 _ (ZQ ok hl li hx).2,<- ZdM t hx,r0 k li];show _=(R.getD (R.idxOf (Ji n R a c k)) []).getD (cv c x) 0;rw [(mi k li).2]
  ·rw [r0 0 (by exact Om.p1 ‹_›)];have:Ji n R a c 0=R.getD a []:=Zeq t (YH n) (ZF ok hl ha).len fun x hx=>by
    rw [ZdM t hx,Zhe ok hl hx]
    rfl
   rw [this,ZeH ok hl ha]
  ·rw [r0 1 (by exact Om.f5 ‹_›)];have:Ji n R a c 1=R.getD b []:=Zeq t (YH n) (ZF ok hl hb).len fun x hx=>by
    have h0:0<n:=by exact Om.p1 ‹_›
    have h1:1<n:=by exact Om.f5 ‹_›
    have hy:=(YA ok hl h0 h1).lt x hx;have ey:=Zac ok hl h0 h1 hx;have es:=Zi2 ok hl h1 h0 hy hx ey.symm;have g:=gc.2 _ hy;rw [es] at g;rw [ZdM t hx,<- ey,Zhe ok hl hy,g];exact (Zac ok hl hb ha (JE t hy).2).symm
   rw [this,ZeH ok hl hb]
 ·cases e
theorem Za9 (ok:OkRows n R) (hl:R.length=n) (h2:2<=n) {h:LI} (o:Own n R h):rw_ h 0 0≠rw_ h 0 1/\rw_ h 0 0<n/\rw_ h 0 1<n/\ZbV n (sF R 1 0) (sF R (rw_ h 0 1) (rw_ h 0 0)) (h.getD 1 [])/\Zag n R (rw_ h 0 0) (h.getD 1 [])=some h:=by
 obtain ⟨rn,er⟩:=o;have en:∀ k x,k<n->x<n->ent R (rw_ h 0 k) (rw_ h 1 x)=((rw_ h 2 (ent R k x).toNat:Nat):Int):=fun k x hk hx=>by
  have:=J0 rn ok hl hk hx;rw [er] at this;exact this
 have h0:0<n:=by exact Om.p1 ‹_›
 have h1:1<n:=by exact Om.f5 ‹_›
 have l0:=YY rn (k:=0) (by decide) h0;have l1:=YY rn (k:=0) (by decide) h1;have tc:=rn.at (k:=1) (by decide);have cr:∀ x,cv (h.getD 1 []) x=rw_ h 1 x:=fun x=>rfl
 refine ⟨fun z=>absurd (Zcr rn (by decide) h0 h1 z) (by decide),l0,l1,⟨tc,fun x hx=>?_⟩,?_⟩
 ·have hs:=(YA ok hl h1 h0).lt x hx;refine (Zi2 ok hl l1 l0 (JE tc hx).2 (JE tc hs).2 ?_).symm;rw [cr,cr,en 1 _ h1 hs,en 0 x h0 hx,Zac ok hl h1 h0 hx]
 ·have tt:=rn.at (k:=2) (by decide);have e3:Jh n R (rw_ h 0 0) (h.getD 1 [])=h.getD 2 []:=J6 (YH n) tt.len fun y hy=>by
   obtain ⟨x,hx,e⟩:=ZhP ok hl h0 hy;have t1:=Zhe (a:=rw_ h 0 0) (c:=h.getD 1 []) ok hl hx;rw [cr,en 0 x h0 hx,e,QAf] at t1;rw [t1,Zcs rn (by decide) hy]
  have em:∀ k,k<n->Ji n R (rw_ h 0 0) (h.getD 1 []) k=R.getD (rw_ h 0 k) []:=fun k hk=>Zeq tc (YH n) (ZF ok hl (YY rn (by decide) hk)).len fun x hx=>by
   rw [ZdM tc hx,e3,Zcs rn (by decide) (ZQ ok hl hk hx).2,<- en k x hk hx]
   rfl
  have e1:Yw n R (rw_ h 0 0) (h.getD 1 []) n=h.getD 0 []:=J6 (by unfold Yw; rw [QAa,QAq]) (rn.at (by decide)).len fun k hk=>by
   rw [Zad hk,em k hk,ZeH ok hl (YY rn (by decide) hk),Zcs rn (by decide) hk]
  unfold Zag;rw [if_pos fun k hk=>by rw [em k hk]; exact Zhs hl (YY rn (by decide) hk),e1,e3];obtain ⟨x,y,z,rfl,_⟩:=rn.three
  rfl
def DueOk (n:Nat) (R:LI) (P:Nat->Nat->Prop) (D:List (Option (LI))):Prop:=(D.filterMap id).Nodup/\∀ h,h∈D.filterMap id↔Own n R h/\P (rw_ h 0 0) (rw_ h 0 1)
variable {P P':Nat->Nat->Prop} {D:List (Option (LI))} {C:LI}
theorem DueOk.imp (d:DueOk n R P D) (hp:∀ h,Own n R h->(P (rw_ h 0 0) (rw_ h 0 1)↔P' (rw_ h 0 0) (rw_ h 0 1))):DueOk n R P' D:=⟨d.1,fun h=>(d.2 h).trans ⟨fun z=>⟨z.1,(hp h z.1).mp z.2⟩,fun z=>⟨z.1,(hp h z.1).mpr z.2⟩⟩⟩
theorem ZlC:∀ C:LI,(C.map (Zag n R a)).filterMap id=C.filterMap (Zag n R a)
 | []=>rfl
 | c::C=>by
  rw [QAl,QCi,QCi,ZlC C]
  rfl
theorem DueOk.more (d:DueOk n R P D) (ok:OkRows n R) (hl:R.length=n) (h2:2<=n) (ha:a<n) (hb:b<n) (co:Zdg n (sF R 1 0) (sF R b a) [] C) (np:¬ P a b):DueOk n R (fun x y=>P x y\/(x=a/\y=b)) (D++C.map (Zag n R a)):=by
 have mm:∀ h,h∈C.filterMap (Zag n R a)↔Own n R h/\rw_ h 0 0=a/\rw_ h 0 1=b:=fun h=>by
  rw [List.mem_filterMap]
  constructor
  ·rintro ⟨c,hc,e⟩;obtain ⟨o,e1,e2,_⟩:=ZcD ok hl h2 ha hb ((co.2 c).mp hc).1 e;exact ⟨o,e1,e2⟩
  ·rintro ⟨o,e1,e2⟩;obtain ⟨_,_,_,g,e⟩:=Za9 ok hl h2 o;rw [e1,e2] at g;rw [e1] at e;exact ⟨_,(co.2 _).mpr ⟨g,fun p hp=>(by cases hp)⟩,e⟩
 unfold DueOk;rw [List.filterMap_append,ZlC];refine ⟨List.nodup_append.mpr ⟨d.1,?_,fun x hx y hy e=>?_⟩,fun h=>?_⟩
 ·refine List.pairwise_filterMap.mpr (List.Pairwise.imp_of_mem ?_ co.1);intro c c' hc hc' ne x hx y hy e;have e1:=(ZcD ok hl h2 ha hb ((co.2 c).mp hc).1 hx).2.2.2;have e2:=(ZcD ok hl h2 ha hb ((co.2 c').mp hc').1 hy).2.2.2;rw [e] at e1;exact ne (e1.symm.trans e2)
 ·subst e;obtain ⟨_,p⟩:=(d.2 x).mp hx;obtain ⟨_,e1,e2⟩:=(mm x).mp hy;rw [e1,e2] at p;exact np p
 ·rw [QCn,d.2 h,mm h];exact ⟨fun z=>z.elim (fun y=>⟨y.1,.inl y.2⟩) fun y=>⟨y.1,.inr y.2⟩,fun z=>z.2.elim (fun y=>.inl ⟨z.1,y⟩) fun y=>.inr ⟨z.1,y⟩⟩
end
end _M
namespace _M
open PySem PySem.Spec PyProof.Rows _L
theorem ZlD {K:QZa} {H:Hp} {p q:Addr} {r r':List Int} (h1:H p=some (.tup (r.map V.int))) (h2:H q=some (.tup (r'.map V.int))):EqD K H 1 (.ref p) (.ref q) (decide (r=r')):=ZeL (SqT.of h1) (SqT.of h2)
def Zkx (K:QZa):R2:=fun x y H Q=>∃ (g p:Addr) (R:LI) (r:List Int),x = .ref p/\y = .ref g/\TG H g R/\H p=some (.tup (r.map V.int))/\Q (.bl (decide (r∉R))) H
open Classical in
theorem Zik {X:Cx} (hu:X.A.units+2<cLine) (K:QZa) (hK:X.K=K:=by rfl):OpR X (compareOp .NotIn) (Zkx K):=by
 subst hK;intro pins s σ H x y v u Q I rx ry h;obtain ⟨g,p,R,r,rfl,rfl,⟨ps,hps,hP⟩,hr,q⟩:=h
 cases rx
 cases ry;obtain ⟨its,rv,pl,hz⟩:=I.tuple (SqT.of hps);have hits:=Zan rv;refine SeqAt.notIn_tupleAt (fun u=>decide (∃ p',u = .ref p'/\H p'=some (.tup (r.map V.int)))) pl (fun w hw=>?_) ⟨.bl _,H,I,rfl,?_⟩
 ·have hw:w∈its:=by simpa using hw
  rw [hits] at hw;obtain ⟨p',hp',rfl⟩:=QZd.mp hw;obtain ⟨i,hi,rfl⟩:=QBd hp';obtain ⟨r',hr',e⟩:=Paired.getL hP (QAb hi);have ed:decide (∃ p',Value.ref ps[i] = .ref p'/\H p'=some (.tup (r.map V.int)))=decide (r'=r):=by
   rw [decide_eq_decide]
   constructor
   ·rintro ⟨p',e1,e2⟩
    cases e1;rw [e] at e2
    injection e2 with e2
    injection e2 with e2
    exact Zcb e2
   ·rintro rfl;exact ⟨_,rfl,e⟩
  rw [ed];exact ((ZlD e hr).all I rfl rfl (by show X.A.units+1+1<cLine; assumption)).1
 ·have e:(!its.toArray.any fun u=>decide (∃ p',u = .ref p'/\H p'=some (.tup (r.map V.int))))=decide (r∉R):=by
   rw [QBj,QZg,Bool.not_eq_true',<- Bool.not_eq_true];refine not_congr ?_;rw [List.any_toArray,List.any_eq_true]
   constructor
   ·rintro ⟨u,hu,e0⟩;obtain ⟨p',rfl,e⟩:=QZj e0;clear e0;rw [hits] at hu;obtain ⟨p2,hp2,e2⟩:=QZd.mp hu
    cases e2;obtain ⟨i,hi,rfl⟩:=QBd hp2;obtain ⟨r',hr',e'⟩:=Paired.getL hP (QAb hi);rw [e'] at e
    injection e with e
    injection e with e
    rw [<- Zcb e];exact QAx hr'
   ·intro hm;obtain ⟨i,hi,rfl⟩:=QBd hm;obtain ⟨p',hp',e'⟩:=Paired.getR hP (QAb hi);exact ⟨.ref p',by rw [hits]; exact QZd.mpr ⟨_,QAx hp',rfl⟩,QZh ⟨_,rfl,e'⟩⟩
  rw [e];exact q
section
variable {prog:Program} {w:World} {A:Around} {E:Value->Shared->Prop} {s:Shared}
theorem Zcj {t:Addr} {items:Array Value} {x:Value} {k:Nat} {P:Fin->Shared->Prop} (ht:IsTup s.heap t items) (hk:k<items.size) (he:∀ j (h:j<items.size),j<=k->SeqAt.EqAt A s items[j] x (decide (j=k)))
  (h:P (.done (.ret (.int (k:Int) s.toks))) { s with toks:=s.toks+1 }):wpAny (model prog w) A (Builtin.«tuple.index» ⟨[.ref t,x],[]⟩) P E s:=by
 show wpAny _ _ (Builtin.Tuple.tupleItemsOf (.ref t) >>= _) _ _ s;refine QZq (tupleItemsOf_ ht ?_);show wpAny _ _ (forIn [0:min items.size items.size] _ _ >>= _) _ _ s;rw [Std.Legacy.Range.forIn_eq_forIn_range']
 simp only [Std.Legacy.Range.size,Nat.sub_zero,Nat.add_sub_cancel,Nat.div_one,Nat.min_self];refine QZq (wpAny_forIn_list _
   (fun rest b s'=>b.1=none/\s'=s/\∃ i,rest=List.range' i (items.size - i)/\i<=k)
   _ ?_ ?_ _ _ ⟨rfl,rfl,0,by simp,QAg _⟩)
 ·rintro y rest b s' ⟨hb,rfl,i,hr,hle⟩;have e:items.size - i=(items.size - (i+1))+1:=by exact O37 hk hle
  rw [e,List.range'_succ] at hr
  injection hr with h1 h2
  subst h1;have hy:items[y]? = some (items[y]'(by exact O36 hk hle)):=by simp
  simp only [hy];refine QZq (he y (by exact O36 hk hle) hle prog w _ _ ?_)
  by_cases hyk:y=k
  ·subst hyk;rw [QZh rfl];exact QZq (QZq (wpAny_mkInt (QZr (QZr (QZr h)))))
  ·rw [QZi hyk];exact QZr ⟨rfl,rfl,y+1,h2,by exact O35 hle hyk⟩
 ·rintro ⟨b1,b2⟩ s' ⟨hb,rfl,i,hr,hle⟩;have:items.size - i=0:=by
   cases hz:items.size - i with
   | zero=>rfl
   | succ m=>rw [hz,List.range'_succ] at hr; cases hr
  exact (O34 hk hle this).elim
end
inductive Zkb (p:Addr) (xs:List V) (H:Hp) (Q:VK):Prop where
 | mk (q:Addr) (R:LI) (r:List Int) (_:xs=[.ref q]) (_:TG H p R) (_:H q=some (.tup (r.map V.int))) (_:r∈R) (_:Q (.int ((R.idxOf r:Nat):Int)) H):Zkb p xs H Q
def Zm9 (to:TE) (t:TA):TE:=fun σ H Q=>to σ H fun x H1=>∃ (p:Addr) (R:LI),x = .ref p/\TG H1 p R/\t σ H1 fun xs H2=>Zkb p xs H2 Q
theorem ZgE {X:Cx} {o e:Expr} {to:TE} {t:TA} {apos cpos:Pos} (hu:X.A.units+2<cLine) (ho:PE X o to) (ha:PA X [e] t)
  (hbase:attributeBase o "index" X.env (eval o X.env)=eval o X.env:=by rfl)
  (hfew:((backTo cpos (starEach [e] X.env)).all (fun x=>!x.1)&&(backToKw cpos (keywordEach [] X.env)).all (fun x=>x.1.isSome)
   && decide ([e].length+([]:List Keyword).length+(if ([]:List Keyword).isEmpty then 0 else 1)<30))=true:=by rfl)
  (hline:(apos.endLine==cpos.line)=true:=by rfl) (hs:starEach [e] X.env=(false,eval e X.env)::starEach [] X.env:=by rfl) (hplain:(backTo cpos (starEach [] X.env)).any (·.1)=false:=by rfl) :
  PE X (.Call (.Attribute o "index" apos) [e] [] cpos) (Zm9 to t):=by
 intro pins s σ H Q I h;refine wpAny_Call_method_late hbase hfew hline rfl (thn (ho pins s σ H _ I h) fun v s1 zz0=>?_);obtain ⟨x,H1,I1,r1,q1⟩:=zz0;obtain ⟨p,R,rfl,⟨gs,hp,_⟩,q1⟩:=q1
 cases r1;obtain ⟨_,its,_,pl⟩:=I1.hok p _ hp;have pl:IsTupN s1.heap p its.toArray:=pl;refine ⟨"tuple","tuple.index",F.plainAttrs_tuple,F.slot_tuple_index,F.type_tuple_index,pl.is.typeIs,fun a e=>(by cases e; exact pl.bare),?_⟩;have hA:=ha cpos pins s1 σ H1 _ I1 q1;rw [hs] at hA ⊢;refine Calls.callWith_builtin (by show (false||(backTo cpos (starEach [] X.env)).any (·.1))=false; rw [hplain] <;> rfl) (Calls.evalArgs_plain ?_);refine thn hA fun us s2 zz0=>?_;obtain ⟨vs,H2,I2,r2,q2⟩:=zz0;obtain ⟨k,R,r,rfl,⟨gs,hp2,hP⟩,hk,hm,q⟩:=q2;obtain ⟨u,rfl,ru⟩:=JB r2
 cases ru;obtain ⟨_,its2,rv,pl2⟩:=I2.hok p _ hp2;have pl2:IsTupN s2.heap p its2.toArray:=pl2;have hits:=Zan rv;have hkl:=QEv hm;have hgl:gs.length=R.length:=hP.length;refine wpAny_call_entry F.slot_tuple_index pl2.is.typeIs F.entry_tuple_index (Zcj (k:=R.idxOf r) pl2.is (by rw [hits]; simp; exact Om.a1 ‹_› ‹_›) (fun j hj hle=>?_) ⟨_,rfl,.int _,H2,I2.tok _,⟨_,rfl⟩,q⟩) (F.args_tuple_index_2 _ _);have hjg:j<gs.length:=by exact O33 hkl hgl hle
 have ej:its2.toArray[j]=Value.ref gs[j]:=by simp [hits]
 obtain ⟨r',hr',e'⟩:=Paired.getL hP (QAb hjg);obtain ⟨hjR,er⟩:=QZb.mp hr';have ed:decide (r'=r)=decide (j=R.idxOf r):=by
  rw [decide_eq_decide]
  constructor
  ·intro z
   rcases QCm j (R.idxOf r) with y | y
   ·have:=List.not_of_lt_findIdx (p:=(· == r)) (xs:=R) y;rw [er,z] at this
    simp at this
   ·exact O32 hle y
  ·intro z;subst z;rw [<- er];exact QDt hkl
 rw [ej,<- ed];exact ((ZlD e' hk).all I2 rfl rfl (by show X.A.units+1+1<cLine; assumption)).1
end _M
namespace _L
open PySem PySem.Spec PyProof.Rows
theorem Jv:typeLookup (.type "dict_values") "__contains__" = pure none:=am_miss_of_fast (by decide +kernel)
theorem Jk:entryFor table "proto.contains_iter" = some Builtin.«proto.contains_iter»:=entryFor_of_tree (by kernel_rfl)
theorem YF:plainId "proto.contains_iter" = true:=by decide +kernel
section
variable {prog:Program} {w:World} {A:Around} {R:Result->Shared->Prop} {κ:Type} [DecidableEq κ] {knd:PySem.KeyKind prog w κ}
theorem ZeV {it d:Addr} {kvs:List (κ × Value)} {ep:Nat} {x:Int} {u:Tok} {zs:List Int} (hdi:d≠it) (hh:A.in1.handled=none) (hl:zs.length=kvs.length)
  (hz:∀ (i:Nat) (z:Int),zs[i]? = some z->∃ k t,kvs[i]? = some (k,.int z t)) :
  ∀ (m i:Nat) (s:Shared),kvs.length - i=m->i<=kvs.length->s.heap.IsValIter it d i kvs.length ep->s.heap.DictAt knd d kvs ep ->
   (∀ h' tk,(∀ b o,b≠it->s.heap.get? b=some o->h'.get? b=some o)->R (.ok (.ret (.bool (decide (x∈zs.drop i))))) { s with heap:=h',toks:=tk }) ->
   codeAny (model prog w) A (.builtin "proto.contains_iter" ⟨[.ref it,.int x u],[]⟩) R s:=by
 intro m
 induction m with
 | zero =>
  intro i s hm hi st hd hR;have hin:i=kvs.length:=by exact O31 hm hi
  refine codeAny_builtin Jk ?_;rw [Around.under_plainId YF _];show wpAny _ A.in1 (pyNext (.ref it) >>= _) _ _ s;refine QZq (wpAny_pyNext_values_end hh st hd (by rw [List.getElem?_eq_none_iff]; exact O30 hin) fun h' eb=>?_);refine QZq (wpAny_rule (QZr ?_));have:=hR h' s.toks fun b o h2 e=>eb b o h2 e
  rw [QCd (by exact O29 hl hin)] at this;exact this
 | succ m ih =>
  intro i s hm hi st hd hR;have hlt:i<kvs.length:=by exact O28 hm hi
  have hzi:zs[i]? = some zs[i]:=QAb (by exact Om.a1 ‹_› ‹_›);obtain ⟨k,t,hkv⟩:=hz i _ hzi;have hdr:zs.drop i=zs[i]::zs.drop (i+1):=QBk (by exact Om.a1 ‹_› ‹_›);refine codeAny_builtin Jk ?_;rw [Around.under_plainId YF _];show wpAny _ A.in1 (pyNext (.ref it) >>= _) _ _ s;refine QZq (wpAny_pyNext_values_item st hd hkv fun h1 st1 sb1=>?_);refine QZq (wpAny_eqBool_int ?_)
  by_cases e:zs[i]=x
  ·have e':(zs[i]==x)=true:=beq_iff_eq.mpr e;rw [e'];refine QZq (wpAny_rule (QZr ?_));have:=hR h1 s.toks fun b o h2 e=>(sb1.2 b h2).trans e
   rw [hdr,QZh (by rw [e]; exact QAj)] at this;exact this
  ·have e':(zs[i]==x)=false:=beq_eq_false_iff_ne.mpr e;rw [e'];refine QZr ⟨plainId_quiet YF _,?_⟩;refine ih (i+1) _ (by exact O27 hl hm hlt e) hlt st1 (hd.extBut sb1.extBut hdi) fun h' tk kk=>?_;have:=hR h' tk fun b o h2 e=>kk b o h2 ((sb1.2 b h2).trans e)
   rw [hdr,show (decide (x∈zs[i]::zs.drop (i+1)))=decide (x∈zs.drop (i+1)) by rw [decide_eq_decide,QBr]; exact ⟨fun z=>z.resolve_left fun q=>e q.symm,.inr⟩] at this;exact this
end
inductive Zhg (a:Addr) (y:V) (H:Hp) (Q:VK):Prop where
 | mk (kvs:List (Key × V)) (zs:List Int) (z:Int) (_:H a=some (.dK kvs)) (_:kvs.map (·.2)=zs.map V.int) (_:y = .int z) (_:Q (.bl (!decide (z∈zs))) H):Zhg a y H Q
def ZiM (ty td:TE):TE:=fun σ H Q=>ty σ H fun y H1=>td σ H1 fun x H2=>∃ a,x = .ref a/\Zhg a y H2 Q
theorem ZgG {X:Cx} {i l:Expr} {apos pos:Pos} {ty td:TE} (hc:X.calm=true) (hi:PE X i ty) (hl:PE X l td) (hb:attributeBase l "values" X.env (eval l X.env)=eval l X.env:=by rfl) (hline:(apos.endLine==pos.line)=true:=by rfl) :
  PC X .NotIn i (.Call (.Attribute l "values" apos) [] [] pos) (ZiM ty td):=by
 intro pins s σ H Q I h;refine thn (hi pins s σ H _ I h) fun iv s0 zz0=>?_;obtain ⟨y,H0,I0,ry,q0⟩:=zz0;refine wpAny_Call_method (T:="dict") (id:="dict.values") hb rfl hline PySem.F.plainAttrs_dict PySem.F.slot_dict_values PySem.F.type_dict_values (thn (hl pins s0 σ H0 _ I0 q0) fun v s1 zz0=>?_);obtain ⟨x,H1,I1,r1,q1⟩:=zz0;obtain ⟨a,e,kvs,zs,z,hq,hzs,hy,q⟩:=q1;subst e;subst hy
 cases r1;obtain ⟨tz,rfl⟩:=(show ∃ t,iv=Value.int z t from ry);obtain ⟨hz,hS,vs,rel,dd⟩:=ZlF I1.hok hq;obtain ⟨ep,da⟩:=dd.dictAt;refine ⟨dd.typeIs,dd.mapOf.noDict,?_⟩;show wpAny _ _ (callWith pos (.builtin "dict.values") [.ref a] [] []) _ _ s1;refine method_meetsIn PySem.F.slot_dict_values PySem.F.entry_dict_values rfl (PySem.evalArgs_none ⟨rfl,dd.typeIs,PySem.F.args_dict_values_1 _,_,meets_dict_values (ZZ X.prog X.w) a hS,⟨vs,dd⟩,?_⟩);have hv:(s1.heap.push { cls:=.type "dict_values",data:=.fields #[.ref a] }).IsValuesView s1.heap.objs.size a:=⟨_,QBa _ rfl,rfl,rfl⟩;have da1:(s1.heap.push { cls:=.type "dict_values",data:=.fields #[.ref a] }).DictAt (ZZ X.prog X.w) a vs ep:=da.push _;have k1:∀ b o,s1.heap.get? b=some o->(s1.heap.push { cls:=.type "dict_values",data:=.fields #[.ref a] }).get? b=some o:=fun b o e=>QAk _ e
 generalize (s1.heap.push { cls:=.type "dict_values",data:=.fields #[.ref a] })=h1 at hv da1 k1 ⊢;have hT:Shared.TypeIs { s1 with heap:=h1 } (.ref s1.heap.objs.size) "dict_values":=hv.typeIs (s:={ s1 with heap:=h1 });show wpAny _ _ (do return Value.bool (!(<- contains (.ref s1.heap.objs.size) (.int z tz)))) (EP X pins σ Q) X.xe { s1 with heap:=h1 };refine QZq ?_;unfold contains;refine wpAny_holding ?_;rw [stdlibNamesSay?_of_typeIs hT];refine QZq (wpAny_specialOf hT Jv ?_);show wpAny _ _ (if ((none:Option Value)==some Value.none)=true then _ else _) _ _ _;rw [if_neg (by decide)];refine QZq ?_;unfold callSpecialUnlessNone?;refine QZq (wpAny_specialOf hT Jv (QZr ?_));refine QZq (wpAny_rule ?_);refine QZq (wpAny_tryCatch (wpAny_pyIter_values (s:={ s1 with heap:=h1 }) (knd:=ZZ X.prog X.w) hv da1 ?_));refine QZq (wpAny_runValue ?_);have hlen:kvs.length=vs.length:=KV.length rel;have hzl:zs.length=kvs.length:=by have:=congrArg List.length hzs; rw [QAa,QAa] at this; exact this.symm
 refine ZeV (knd:=ZZ X.prog X.w) (kvs:=vs) (zs:=zs) (QAy da1.lt_size) (by simpa using I1.ok.hd hc) (hzl.trans hlen) (fun j zz hj=>?_) vs.length 0 _ rfl (QAg _) ⟨_,QBa _ rfl,rfl,rfl⟩ (da1.push _) fun h' tk kk=>?_
 ·have hjl:j<kvs.length:=by rw [<- hzl]; exact (QZb.mp hj).1
  obtain ⟨p,u,hp,hu,ru⟩:=Zmz rel hjl;have e:(kvs.map (·.2))[j]? = some (V.int zz):=by rw [hzs,QAe,hj]; rfl
  rw [QAe,hp] at e;have e2:p.2=V.int zz:=QZl e;rw [e2] at ru;obtain ⟨t,rfl⟩:=(show ∃ t,u=Value.int zz t from ru);exact ⟨_,t,hu⟩
 ·refine QZr (QZr ⟨.bl (!decide (z∈zs)),H1,I1.kept (t':=tk) fun b o e=>?_,rfl,q⟩);exact kk b o (QAy (QAh (k1 b o e))) (QAk _ (k1 b o e))
end _L
namespace _M
open PySem _L
theorem Zlk:bootBuiltins "dict" = some (Value.type "dict"):=by decide +kernel
theorem Zg5 {X:Cx}:Y0 X (.type "dict") (fun xs H Q=>∃ a kvs,xs=[V.ref a]/\H a=some (.dK kvs)/\∀ p,H p=none->Q (.ref p) (upd H p (.dK kvs))):=by
 intro pins s σ H xs us Q I r h;obtain ⟨a,kvs,rfl,ha,q⟩:=h;obtain ⟨u,rfl,ru⟩:=JB r
 cases ru;exact Zj1 I (.inl ha) fun p s' hp I'=>⟨.ref p,_,I',rfl,q p hp⟩
noncomputable def dkM (M:List (Nat × Nat)):List (Key × V):=M.map fun p=>(Sum.inl (p.1:Int),V.int (p.2:Int))
theorem ZbK (k:Nat):∀ M:List (Nat × Nat),ZaD (dkM M) (.inl (k:Int))=(Yz M k).map fun x=>V.int (x:Int)
 | []=>rfl
 | p::M=>by
  have ih:=ZbK k M;unfold dkM Yz at ih ⊢;rw [QAl,QCt]
  by_cases e:p.1=k
  ·rw [ZaQ (by rw [e]),QZh e]
   rfl
  ·rw [ZaR (by intro z; injection z with z; exact e (by exact Om.e1 ‹_›)),ih,QZi e]
theorem Zlg (M:List (Nat × Nat)):(dkM M).map (·.2)=((M.map (·.2)).map fun (x:Nat)=>(x:Int)).map V.int:=by
 unfold dkM;rw [QAw,QAw,QAw]
 rfl
theorem ZiI {M:List (Nat × Nat)} {t:Nat}:(t:Int)∈((M.map (·.2)).map fun (x:Nat)=>(x:Int))↔t∈M.map (·.2):=by
 rw [QZd];exact ⟨fun ⟨x,hx,e⟩=>(show x=t by exact Om.e1 ‹_›) ▸ hx,fun h=>⟨t,h,rfl⟩⟩
theorem key_mem {M:List (Nat × Nat)} {k:Nat}:Yz M k=none↔k∉M.map (·.1):=by
 constructor
 ·intro h z;obtain ⟨p,hp,rfl⟩:=QZd.mp z;exact ZhE h hp
 ·intro h
  cases e:Yz M k with
  | none=>rfl
  | some x=>exact absurd (QZd.mpr ⟨_,JQ e,rfl⟩) h
theorem ZlY {u1 u2:TT} {σ:St} {H:Hp} {Q:Bool->Hp->Prop} {b1 b2:Bool} (h1:∀ Q:Bool->Hp->Prop,Q b1 H->u1 σ H Q) (h2:∀ Q:Bool->Hp->Prop,Q b2 H->u2 σ H Q) (q:Q (b1&&b2) H):Zne u1 u2 σ H Q:=by
 refine h1 _ ?_
 cases b1 with
 | true=>exact Zbd (h2 _ q)
 | false=>exact Zai q
theorem TG.rowAt {H:Hp} {n:Nat} {R:LI} {gs:List Addr} (hP:Paired (fun p (r:List Int)=>H p=some (.tup (r.map V.int))) gs R) (ok:OkRows n R) (hl:R.length=n) {k:Nat} (hk:k<n):∃ p,(gs.map V.ref)[k]? = some (.ref p)/\H p=some (.tup ((R.getD k []).map V.int))/\∀ j,j<n->((R.getD k []).map V.int)[j]? = some (.int (ent R k j)):=by
 have hg:k<gs.length:=by rw [hP.length]; exact Om.a1 ‹_› ‹_›
 obtain ⟨r,hr,hp⟩:=Paired.getL hP (QAb hg);have e:R.getD k []=r:=by rw [QAd,hr]; rfl
 refine ⟨gs[k],by rw [QAe,QAb hg]; rfl,by rw [e]; exact hp,fun j hj=>?_⟩;have rl:=(ZF ok hl hk).len;rw [QAe,QAb (by exact Om.a1 ‹_› ‹_›)];unfold ent;rw [ZE (by exact Om.a1 ‹_› ‹_›)]
 rfl
def CL (H:Hp) (l:Addr) (C:LI):Prop:=∃ ps:List Addr,H l=some (.lst (ps.map V.ref))/\Paired (fun p (c:List Int)=>H p=some (.tup (c.map V.int))) ps C
inductive Zdf (k:Nat) (vs:List V) (H:Hp) (Q:VK):Prop where
 | mk (g d:Addr) (n a b:Nat) (R:LI) (M:List (Nat × Nat)) (_:vs=[.ref g,.int (a:Int),.int (b:Int),.ref d]) (_:TG H g R) (_:OkRows n R) (_:R.length=n) (_:2<=n) (_:n<=6) (_:a<n) (_:b<n) (_:H d=some (.dK (dkM M))) (_:Zkh n M) (_:Cl (sF R 1 0) (sF R b a) M) (_:n - M.length<k)
  (_:∀ l H' C,H l=none->Same H H'->CL H' l C->Zdg n (sF R 1 0) (sF R b a) M C->Q (.ref l) H'):Zdf k vs H Q
def Zdz (k:Nat):Sp:=fun vs H Q _=>Zdf k vs H Q
theorem filterMap_some {α β:Type} {f:α->β}:∀ l:List α,(l.filterMap fun x=>some (f x))=l.map f
 | []=>rfl
 | x::l=>by rw [QCi,QAl,filterMap_some l]
noncomputable def ZfP (n:Nat) (M:List (Nat × Nat)):List Nat:=(List.range n).filter fun x=>(Yz M x).isNone
theorem Zll (n:Nat) (M:List (Nat × Nat)):(List.range n).filterMap (fun x:Nat=>if (Yz M x).isNone=true then some (V.int (x:Int)) else none)=(toI (ZfP n M)).map V.int:=by
 unfold ZfP toI;rw [QAw];generalize List.range n=l
 induction l with
 | nil=>rfl
 | cons x l ih =>
  rw [QCi,List.filter_cons,ih]
  cases h:(Yz M x).isNone with
  | true =>
   rw [if_pos rfl,if_pos rfl,QAl]
   rfl
  | false=>rw [if_neg QAn,if_neg QAn]
inductive ZmV (g:Addr) (n a b:Nat) (d lb lf:Addr) (R:LI) (M:List (Nat × Nat)) (b0 i:Nat) (dm:Addr) (C:LI) (H:Hp) (m:Nat) (σ:St) (H2:Hp):Prop where
 | mk (vA:Option V) (M':List (Nat × Nat)) (h t:Nat) (_:σ=[some (.ref g),some (.int (a:Int)),some (.int (b:Int)),some (.ref d),some (.ref lb),some (.ref lf),some (.int (i:Int)),some (.ref dm),some (.int (h:Int)),some (.int (t:Int)),vA]) (_:∀ x o,x≠dm->H x=some o->H2 x=some o) (_:H2 dm=some (.dK (dkM M'))) (_:WC n (sF R 1 0) (sF R b a) M b0 i M' h t) (_:m=n - M'.length):ZmV g n a b d lb lf R M b0 i dm C H m σ H2
section
variable {P:Program} {w:World} {K:QZa} {mg:Str->Option Value} {base:Heap}
theorem scColumns:Zt ["_law_square_here","_law_one","_law_other","_law_known","_law_bare","_law_found","_law_goal","_law_more","_law_here","_law_there","_law_thing"] ["_law_square_here","_law_one","_law_other","_law_known"] (Zi Za0):=Fs
inductive ZlR (g:Addr) (n a b:Nat) (d lb lf:Addr) (R:LI) (M:List (Nat × Nat)) (b0:Nat) (H:Hp) (i:Nat) (σ:St) (H2:Hp):Prop where
 | mk (v6 v7 v8 v9 vA:Option V) (C:LI) (ps:List Addr) (_:σ=[some (.ref g),some (.int (a:Int)),some (.int (b:Int)),some (.ref d),some (.ref lb),some (.ref lf),v6,v7,v8,v9,vA]) (_:∀ x o,x≠lf->H x=some o->H2 x=some o) (_:H2 lf=some (.lst (ps.map V.ref))) (_:Paired (fun p (c:List Int)=>H2 p=some (.tup (c.map V.int))) ps C) (_:FoundOk n (sF R 1 0) (sF R b a) M b0 i C):ZlR g n a b d lb lf R M b0 H i σ H2
set_option maxHeartbeats 1000000 in
theorem ZcH {f:Addr} {fd:FuncData} (D:Dfn K mg "_law_columns" Za0 ["_law_square_here","_law_one","_law_other","_law_known"] f fd) (T:Blt mg):∀ k:Nat,FnOk P w K mg base CX0 k f fd ["_law_square_here","_law_one","_law_other","_law_known"] (Zdz k)
 | 0=>⟨fun vs H Q E h=>by obtain ⟨_,_,_,_,_,_,_,rfl,_⟩:=h; rfl,fun A outer s H args us vs Q E _ _ _ _ h=>by obtain ⟨_,_,_,_,_,_,_,rfl,_,_,_,_,_,_,_,_,_,_,z,_⟩:=h; exact absurd z (QCc _)⟩
 | k+1=>by
  have G:=ZcH D T k;refine D.F.ok scColumns (fun vs H Q E h=>?_) (fun cdv A0 outer s H vs Q E hr h=>?_)
  ·obtain ⟨_,_,_,_,_,_,_,rfl,_⟩:=h
   rfl
  ·obtain ⟨g,d,n,a,b,R,M,rfl,hT,ok,hRl,h2,h6,ha,hb,hd,pm,cl,hk,q⟩:=h;have hu0:=huZ hr;have hu:=huK hr 1
   refine' ⟨_,W.h (ZV ?s0 (ZV ?s1 (ZV ?s2 (ZV ?s3 (Zei ?s4))))),?rd⟩
   case s0=>exact ⟨ZdD (i:=4) ["_law_column","_law_known"] [none,some 3] scColumns.nd rfl (Or.inl rfl) rfl rfl (Zn rfl T.range (Za (Zl (Zr K) rfl T.len PySem.boot_len (Za (pv 0) Zc)) Zc)) (fun _ _ _ _ _=>Yu 0) (fun _ _ _ _ _=>Zat (ZaJ (ZdE hu (pv 0) (pv 1)))) (fun _ _ _ _ _=>pv 0)⟩
   case s1=>exact ⟨YT (ZJ (Zjk hu0 K) (pv 4) (Z0 Zc) (Z7 _)) (Zf (Zu (Z0 (Za (Zp (Zv K) rfl T.tuple ZL (Za (Yq ["_law_column","_law_known"] [none,some 3] rfl rfl (Zn rfl T.range (Za (Zl (Zr K) rfl T.len PySem.boot_len (Za (pv 0) Zc)) Zc)) (fun _ _ _ _ _=>Yu 0) (fun _ _ _ _ _=>ZA) (fun _ _ _ _ _=>ZkG hu (pv 1) (pv 0) (fun _ _=>rfl))) Zc)) Zc)))) Z8⟩
   case s2=>exact ⟨Zj (i:=5) scColumns.nd rfl (Or.inl rfl) (Z0 Zc)⟩
   case s3 =>
    refine' W.mk (Ye PassesOwn.never rfl ?i ?g (Zd ?b0 (Zd ?b1 (Zd ?b2 (Zd ?b3 (Zf ?b4))))))
    case i=>exact Zn rfl T.range (Za (Zl (Zr K) rfl T.len PySem.boot_len (Za (pv 0) Zc)) Zc)
    case g=>exact ZC (i:=6) scColumns.nd rfl (Or.inl rfl)
    case b0=>exact Zj (i:=7) scColumns.nd rfl (Or.inl rfl) (Zp Zg5 rfl T.dict Zlk (Za (pv 3) Zc))
    case b1=>exact Zj (i:=8) scColumns.nd rfl (Or.inl rfl) (ZD (JR K) (pv 4) Zh (fun _ _=>rfl))
    case b2=>exact Zj (i:=9) scColumns.nd rfl (Or.inl rfl) (pv 6)
    case b3 =>
     refine' Za5 PassesOwn.never (PW.pt (ZgB (ZaJ (ZdE hu (pv 8) (pv 7))) (Zew (ZaJ (ZgG rfl (pv 9) (pv 7)))))) (Zd ?w0 (Zd ?w1 (Zd ?w2 (Zf ?w3))))
     case w0=>exact ZkD hu (pv 7) (pv 8) (pv 9) rfl
     case w1=>exact Zj (i:=10) scColumns.nd rfl (Or.inl rfl) (ZD (ZM K) (ZD (ZM K) (pv 0) (pv 1) (fun _ _=>rfl)) (pv 9) (fun _ _=>rfl))
     case w2=>exact Zj (i:=8) scColumns.nd rfl (Or.inl rfl) (Jp (ZD (ZM K) (pv 0) Zh (fun _ _=>rfl)) (Za (ZD (ZM K) (ZD (ZM K) (pv 0) Zh (fun _ _=>rfl)) (pv 8) (fun _ _=>rfl)) Zc))
     case w3=>exact Zj (i:=9) scColumns.nd rfl (Or.inl rfl) (Jp (ZD (ZM K) (pv 0) (pv 2) (fun _ _=>rfl)) (Za (pv 10) Zc))
    case b4=>exact YT (ZJ JO (Zje hu (pv 7) (pv 8) (Znq ZlU Zh) ⟨rfl,rfl,rfl,rfl⟩) (pv 9) (Z7 _)) (Zf (Yx (Jg PySem.F.plainAttrs_list PySem.F.slot_list_extend PySem.F.type_list_extend JP (pv 5) (Za (Zm G hr rfl D.m D.F.kp D.b .nil ZK (Za (pv 0) (Za (pv 1) (Za (pv 2) (Za (pv 7) Zc))))) Zc)))) Z8
   case s4=>exact ⟨Zu (pv 5)⟩
   case rd =>
    obtain ⟨gs,hgs,hGs⟩:=id hT;have hgl:(gs.map V.ref).length=n:=by rw [QAa,hGs.length,hRl]
    refine ⟨_,rfl,g,_,rfl,.inr (SqT.of hgs),_,rfl,by exact Om.c2,by rw [hgl]; exact Om.c1 ‹_› rfl,fun lb hlb=>?_⟩;rw [hgl,QAf];refine ZB (fun j=>if (Yz M j).isNone=true then some (V.int ((j:Nat):Int)) else none) (fun σ=>∃ v,σ=[v,some (.ref d)]) (ZG (n:=n)) (by rw [Zs]; exact Zq (by exact Om.b1 ‹_› rfl)) hlb (fun _ _=>trivial) ⟨none,rfl⟩ ?_ ?_
    ·rintro i x σ H' R' hi ⟨v,rfl⟩ sm kk;obtain ⟨hin,rfl⟩:=Z3 hi;have kk':=fun v'=>kk [v',some (.ref d)] H' ⟨v',rfl⟩ (Same.refl _)
     have eo:(ZaD (dkM M) (.inl (i:Int))).isSome = !(Yz M i).isNone:=by rw [ZbK]; cases Yz M i <;> rfl
     refine ⟨_,rfl,_,rfl,d,_,rfl,DGet.k (k:=.inl (i:Int)) (sm _ _ hd),_,rfl,?_⟩;rw [eo,Bool.not_not];refine JG (fun hc3=>?_) (fun hc3=>?_)
     ·rw [if_pos hc3] at kk';exact ⟨_,rfl,kk' _⟩
     ·rw [if_neg hc3] at kk';exact kk' _
    intro H1 s1 h1;rw [Zs,Zll] at h1;have hd1:=s1 _ _ hd;have hT1:=hT.same s1;refine ⟨_,rfl,QAg _,fun le hle=>⟨lb,le,_,[],rfl,rfl,SqL.of ((Same.new hle) _ _ h1),SqL.of Zb,.inl ⟨ZO _,rfl⟩,_,rfl,?_⟩⟩;have s2:Same H1 (upd H1 le (.lst [])):=Same.new hle;have h2b:=s2 _ _ h1;have hd2:=s2 _ _ hd1;have hT2:=hT1.same s2;have s12:=s1.trans s2;generalize upd H1 le (.lst [])=H2 at s2 h2b hd2 hT2 s12 ⊢;have hgs2:=s12 _ _ hgs
    cases hbn:ZfP n M with
    | nil =>
     have full:∀ x,x<n->∃ y,Yz M x=some y:=fun x hx=>by
      cases e:Yz M x with
      | some y=>exact ⟨y,rfl⟩
      | none =>
       have:x∈ZfP n M:=QZo.mpr ⟨QZe.mpr hx,by rw [e]; rfl⟩;rw [hbn] at this
       cases this
     refine Zbd ⟨_,rfl,g,_,rfl,.inr (SqT.of hgs2),_,rfl,by exact Om.c2,by rw [hgl]; exact Om.c1 ‹_› rfl,fun l3 hl3=>?_⟩;rw [hgl,QAf];refine ZB (fun j=>some (V.int (((Yz M j).getD 0:Nat):Int))) (fun σ=>∃ v,σ=[v,some (.ref d)]) (ZG (n:=n)) (by rw [Zs]; exact Zq (by exact Om.b1 ‹_› rfl)) hl3 (fun _ _=>trivial) ⟨none,rfl⟩ ?_ ?_
     ·rintro j x σ H6 R6 hj ⟨v,rfl⟩ sm6 kk;obtain ⟨hjn,rfl⟩:=Z3 hj;obtain ⟨y,ey⟩:=full j hjn;have kk':=kk [some (.int (j:Int)),some (.ref d)] H6 ⟨_,rfl⟩ (Same.refl _);rw [ey] at kk';refine ⟨_,rfl,_,rfl,d,_,rfl,(by have:=DGet.k (k:=.inl (j:Int)) (sm6 _ _ hd2); rw [ZbK,ey] at this; exact this),kk'⟩
     ·intro H3 s3 h3;rw [filterMap_some,Zs] at h3;have e3:((List.range n).map fun j=>V.int (((Yz M j).getD 0:Nat):Int))=((List.range n).map fun x=>(((Yz M x).getD 0:Nat):Int)).map V.int:=by
       rw [QAw]
       rfl
      rw [e3] at h3;have cf:=ZiA pm cl full;generalize ((List.range n).map fun x=>(((Yz M x).getD 0:Nat):Int))=c0 at h3 cf;refine ⟨l3,_,rfl,.inl ⟨SqL.of h3,fun t ht=>⟨?_,fun l hl=>?_⟩⟩⟩
      ·exact (show 1<=sizeLine from Zq (by decide))
      ·have s4:Same H3 (upd H3 t (.tup (c0.map V.int))):=Same.new ht;have s5:Same (upd H3 t (.tup (c0.map V.int))) (upd (upd H3 t (.tup (c0.map V.int))) l (.lst [.ref t])):=Same.new hl;exact q l _ [c0] ((s12.trans (s3.trans s4)).free hl) (s12.trans (s3.trans (s4.trans s5))) ⟨[t],Zb,.cons (s5 _ _ Zb) .nil⟩ cf
    | cons b0 bs =>
     rw [hbn] at h2b;have hb0m:b0∈ZfP n M:=by rw [hbn]; exact QAj
     have hb0:b0<n:=QZe.mp (QZo.mp hb0m).1;have hb0k:=key_mem.mp (Option.isNone_iff_eq_none.mp (QZo.mp hb0m).2);have oS:=YA ok hRl (show 1<n by exact Om.f5 ‹_›) (show 0<n by exact Om.p1 ‹_›);have oT:=YA ok hRl hb ha;have r1:=ZF ok hRl (show 1<n by exact Om.f5 ‹_›);have rb:=ZF ok hRl hb;refine Zai ⟨QAg _,fun lf hlf=>?_⟩;have nfd:d≠lf:=fun z=>by rw [z,hlf] at hd2; cases hd2
     have nfb:lb≠lf:=fun z=>by rw [z,hlf] at h2b; cases h2b
     have s3:Same H2 (upd H2 lf (.lst [])):=Same.new hlf;have h3f:(upd H2 lf (.lst [])) lf=some (.lst (([]:List Addr).map V.ref)):=Zb;have h3b:=s3 _ _ h2b;have hd3:=s3 _ _ hd2;have s13:=s12.trans s3;have ffH:H lf=none:=s12.free hlf;generalize upd H2 lf (.lst [])=H3 at s3 h3f h3b hd3 s13 ⊢;have hgs3:=s13 _ _ hgs;refine ⟨_,rfl,g,_,rfl,.inr (SqT.of hgs3),_,rfl,by exact Om.c2,by rw [hgl]; exact Om.c1 ‹_› rfl,?_⟩;rw [hgl,QAf];refine ZT (lo:=0) (n:=n) (ZlR g n a b d lb lf R M b0 H3) ⟨none,none,none,none,none,[],[],rfl,fun _ _ _ e=>e,h3f,.nil,FoundOk.nil⟩ ?_ ?_
     ·rintro i σ H4 hi ⟨v6,v7,v8,v9,vA,C,ps,rfl,k4,h4f,hP4,fo⟩;rw [QBp];have tup4:∀ x row,H3 x=some (.tup row)->H4 x=some (.tup row):=fun x row e=>k4 _ _ (YE e h3f (by intro z; cases z)) e
      have hd4:=k4 _ _ nfd hd3;refine ⟨_,rfl,d,_,rfl,hd4,fun dm hdm=>?_⟩;have s5:Same H4 (upd H4 dm (.dK (dkM M))):=Same.new hdm;have h5m:(upd H4 dm (.dK (dkM M))) dm=some (.dK (dkM M)):=Zb;generalize upd H4 dm (.dK (dkM M))=H5 at s5 h5m ⊢;have hb5:=s5 _ _ (k4 _ _ nfb h3b);have h5f:=s5 _ _ h4f;have nmf:dm≠lf:=fun z=>by rw [z,h4f] at hdm; cases hdm
      refine ⟨_,rfl,lb,_,_,.int (b0:Int),rfl,rfl,SqL.of hb5,ZR (i:=0) rfl,?_⟩;refine ⟨_,rfl,?_⟩;refine ⟨ZmV g n a b d lb lf R M b0 i dm C H5,⟨_,vA,M,b0,i,rfl,fun _ _ _ e=>e,h5m,WC.start pm cl hb0 hi,rfl⟩,?_⟩;rintro m σ H6 ⟨vA,M',h,t,rfl,k6,hm6,wc,rfl⟩;have hh:=wc.hh;have ht:=wc.ht;have tup6:∀ x row,H3 x=some (.tup row)->H6 x=some (.tup row):=fun x row e=>k6 _ _ (YE (s5 _ _ (tup4 _ _ e)) h5m (by intro z; cases z)) (s5 _ _ (tup4 _ _ e))
      have hgs6:=tup6 _ _ hgs3;have hP6:Paired (fun p (r:List Int)=>H6 p=some (.tup (r.map V.int))) gs R:=Paired.mapP hGs fun _ _ e=>tup6 _ _ (s13 _ _ e)
      refine ZlY (b1:=(Yz M' h).isNone) (b2:=decide (t∉M'.map (·.2))) (fun Q' hq=>?_) (fun Q' hq=>?_) ?_
      ·refine ⟨_,rfl,_,rfl,dm,_,rfl,DGet.k (k:=.inl (h:Int)) hm6,_,rfl,?_⟩;have eo:(!(ZaD (dkM M') (.inl (h:Int))).isSome)=(Yz M' h).isNone:=by rw [ZbK]; cases Yz M' h <;> rfl
       rw [eo];exact hq
      ·refine ⟨_,rfl,_,rfl,dm,rfl,⟨_,_,(t:Int),hm6,Zlg M',rfl,_,rfl,?_⟩⟩;have eo:(!decide ((t:Int)∈((M'.map (·.2)).map fun (x:Nat)=>(x:Int))))=decide (t∉M'.map (·.2)):=by
        rw [<- decide_not,decide_eq_decide,ZiI]
       rw [eo];exact hq
      refine JG (fun hc=>?_) (fun hc=>?_)
      ·rw [QAv] at hc;have hkn:=Option.isNone_iff_eq_none.mp hc.1;have hk':=key_mem.mp hkn;have hv':=QZj hc.2;have few:=wc.few hk';have wc2:=wc.step oS.lt oT.lt hk' hv';refine ⟨fun σ' H'=>∃ m',m'<n - M'.length/\ZmV g n a b d lb lf R M b0 i dm C H5 m' σ' H',fun _ _ z=>z,?_⟩;have hput:Za4 (dkM M') (.inl (h:Int)) (.int (t:Int))=dkM (M'++[(h,t)]):=by
        rw [Zi7 _ (by rw [ZbK,hkn]; rfl)];unfold dkM;rw [QAm]
        rfl
       refine ⟨_,rfl,_,rfl,_,rfl,dm,_,rfl,DPut.k (k:=.inl (h:Int)) hm6 (by unfold dkM; rw [QAa]; exact Zq (by exact O26 h2 h6 hgl few)),?_⟩;rw [hput];have k7:∀ x o,x≠dm->H6 x=some o->(upd H6 dm (.dK (dkM (M'++[(h,t)])))) x=some o:=fun x o hx e=>by rw [Ze hx]; exact e
       have h7m:(upd H6 dm (.dK (dkM (M'++[(h,t)])))) dm=some (.dK (dkM (M'++[(h,t)]))):=Zb;generalize upd H6 dm (.dK (dkM (M'++[(h,t)])))=H7 at k7 h7m ⊢;have tup7:∀ x row,H6 x=some (.tup row)->H7 x=some (.tup row):=fun x row e=>k7 _ _ (YE e hm6 (by intro z; cases z)) e
       have hgs7:=tup7 _ _ hgs6;have hP7:Paired (fun p (r:List Int)=>H7 p=some (.tup (r.map V.int))) gs R:=Paired.mapP hP6 fun _ _ e=>tup7 _ _ e
       obtain ⟨pa,ea,hpa,va⟩:=TG.rowAt hP7 ok hRl ha;obtain ⟨p0,e0,hp0,v0⟩:=TG.rowAt hP7 ok hRl (show 0<n by exact Om.p1 ‹_›);obtain ⟨p1,e1,hp1,v1⟩:=TG.rowAt hP7 ok hRl (show 1<n by exact Om.f5 ‹_›);obtain ⟨pb,eb,hpb,vb⟩:=TG.rowAt hP7 ok hRl hb;refine ⟨_,rfl,_,rfl,g,_,_,_,rfl,rfl,SqT.of hgs7,ZR ea,_,rfl,pa,_,_,_,rfl,rfl,SqT.of hpa,ZR (va t ht),?_⟩;refine ⟨_,rfl,g,_,_,_,rfl,rfl,SqT.of hgs7,ZR (i:=1) e1,p1,R.getD 1 [],rfl,hp1,_,rfl,g,_,_,_,rfl,rfl,SqT.of hgs7,ZR (i:=0) e0,_,rfl,p0,_,_,_,rfl,rfl,SqT.of hp0,ZR (v0 h hh),ent R 0 h,rfl,hp1,?_,?_⟩
       ·exact YO r1.len r1.nd r1.rg (ZaC ok hRl (by exact Om.p1 ‹_›) hh)
       refine ⟨_,rfl,_,rfl,g,_,_,_,rfl,rfl,SqT.of hgs7,ZR eb,pb,R.getD b [],rfl,hpb,_,rfl,ent R a t,rfl,hpb,?_,?_⟩
       ·exact YO rb.len rb.nd rb.rg (ZaC ok hRl ha ht)
       exact ⟨n - (M'++[(h,t)]).length,by rw [QAo,QDf]; exact O25 hgl few,some (.int (ent R a t)),M'++[(h,t)],sF R 1 0 h,sF R b a t,rfl,fun x o hx e=>k7 x o hx (k6 x o hx e),h7m,wc2,rfl⟩
      ·have hs:h∈M'.map (·.1)\/t∈M'.map (·.2):=by
        by_cases z:h∈M'.map (·.1)
        ·exact .inl z
        ·refine .inr ?_
         by_cases y:t∈M'.map (·.2)
         ·exact y
         ·exact absurd (by rw [QAv]; exact ⟨Option.isNone_iff_eq_none.mpr (key_mem.mpr z),QZh y⟩) hc
       obtain ⟨z,hz,hzt⟩:∃ z:Int,(ZaD (dkM M') (.inl (h:Int))).getD (.int (-1))=V.int z/\(z=(t:Int)↔Yz M' h=some t):=by
        rw [ZbK]
        cases Yz M' h with
        | none=>exact ⟨-1,rfl,⟨fun e=>(by exact (O24 e).elim),fun e=>(by cases e)⟩⟩
        | some y=>exact ⟨(y:Int),rfl,⟨fun e=>by rw [show y=t by exact Om.e1 ‹_›],fun e=>by cases e; rfl⟩⟩
       refine ⟨_,rfl,dm,rfl,.inl ⟨_,.inl hm6⟩,_,rfl,1,rfl,_,DGet.k (k:=.inl (h:Int)) hm6,_,rfl,?_⟩;rw [hz];refine ⟨rfl,_,rfl,JG (fun hc2=>?_) (fun hc2=>?_)⟩
       ·have e:=QZj hc2
        injection e with e
        have eg:=hzt.mp e;obtain ⟨cl',hg'⟩:=wc.good hb0k eg;have m1:=(WC.start pm cl hb0 hi).few hb0k;have m2:M.length<M'.length:=by
         have:=ZgM (A:=b0::M.map (·.1)) (B:=M'.map (·.1)) (List.nodup_cons.mpr ⟨hb0k,pm.k⟩) fun x hx=>by
          rcases QZn.mp hx with z | z
          ·rw [z];exact QZd.mpr ⟨_,hg',rfl⟩
          ·obtain ⟨p,hp,rfl⟩:=QZd.mp z;exact QZd.mpr ⟨p,wc.sub p hp,rfl⟩
         rw [QAu,QAa,QAa] at this;exact this
        have h6f:=k6 _ _ (Ne.symm nmf) h5f;refine ⟨_,rfl,.inl ⟨rfl,_,SqL.of h6f⟩,_,rfl,_,rfl,_,rfl,_,rfl,g,dm,n,a,b,R,M',rfl,⟨gs,hgs6,hP6⟩,ok,hRl,h2,h6,ha,hb,hm6,wc.pm,cl',by omega,fun l H7 C' _ s7 hC co=>?_⟩;obtain ⟨qs,hq7,hQ7⟩:=hC;have h7f:=s7 _ _ h6f;have fo2:=fo.more wc hb0k eg co;have hlen:=Zds h6 fo2.1 fun c hc=>((fo2.2 c).mp hc).1.1
        rw [QAo] at hlen;refine ⟨lf,l,_,_,rfl,rfl,h7f,hq7,by rw [QAa,QAa,hP4.length,hQ7.length]; exact Zq (by exact Om.b1 ‹_› rfl),?_⟩;have k8:∀ x o,x≠lf->H7 x=some o->(upd H7 lf (.lst (ps.map V.ref++qs.map V.ref))) x=some o:=fun x o hx e=>by rw [Ze hx]; exact e
        have t8:∀ x row,H7 x=some (.tup row)->(upd H7 lf (.lst (ps.map V.ref++qs.map V.ref))) x=some (.tup row):=fun x row e=>k8 _ _ (YE e h7f (by intro z; cases z)) e
        have k47:∀ x o,H4 x=some o->H7 x=some o:=fun x o e=>s7 _ _ (k6 _ _ (Zg e hdm) (s5 _ _ e))
        refine ⟨_,_,_,_,_,C++C',ps++qs,rfl,fun x o hx e=>k8 _ _ hx (k47 _ _ (k4 _ _ hx e)),by rw [Zb,QAm],?_,fo2⟩;exact Paired.append (Paired.mapP hP4 fun _ _ e=>t8 _ _ (k47 _ _ e)) (Paired.mapP hQ7 fun _ _ e=>t8 _ _ e)
       ·have eg:Yz M' h≠some t:=fun z'=>hc2 (QZh (by rw [hzt.mpr z']))
        have k46:∀ x o,H4 x=some o->H6 x=some o:=fun x o e=>k6 _ _ (Zg e hdm) (s5 _ _ e)
        exact ⟨_,_,_,_,_,C,ps,rfl,fun x o hx e=>k46 _ _ (k4 _ _ hx e),k46 _ _ h4f,Paired.mapP hP4 fun _ _ e=>k46 _ _ e,fo.skip fun c=>wc.bad eg hs⟩
     ·rintro σ H4 ⟨v6,v7,v8,v9,vA,C,ps,rfl,k4,h4f,hP4,fo⟩;refine ⟨_,rfl,q lf H4 C ffH (fun x o e=>k4 _ _ (Zg e ffH) (s13 _ _ e)) ⟨ps,h4f,hP4⟩ (fo.done hb0)⟩
end
inductive ZfV (vs:List V) (H:Hp) (Q:VK):Prop where
 | mk (g q:Addr) (n a:Nat) (R:LI) (c:List Int) (_:vs=[.ref g,.int (a:Int),.ref q]) (_:TG H g R) (_:OkRows n R) (_:R.length=n) (_:1<=n) (_:n<=6) (_:a<n) (_:H q=some (.tup (c.map V.int))) (_:Turn n c)
  (_:Zag n R a c=none->∀ H',Same H H'->Q .non H') (_:∀ h,Zag n R a c=some h->∀ t H',Same H H'->TG H' t h->Q (.ref t) H'):ZfV vs H Q
def Zhl:Sp:=fun vs H Q _=>ZfV vs H Q
section
variable {P:Program} {w:World} {K:QZa} {mg:Str->Option Value} {base:Heap}
theorem scOwnBy:Zt ["_law_square_here","_law_one","_law_columns_here","_law_things","_law_column","_law_rows","_law_row_here","_law_made"] ["_law_square_here","_law_one","_law_columns_here"] (Zi Zep):=Fs
inductive ZlQ (g q lt:Addr) (a:Nat) (L:Nat->List Int) (H:Hp) (i:Nat) (σ:St) (H2:Hp):Prop where
 | mk (v4:Option V) (_:σ=[some (.ref g),some (.int (a:Int)),some (.ref q),some (.ref lt),v4,none,none,none]) (_:∀ x o,x≠lt->H x=some o->H2 x=some o) (_:H2 lt=some (.lst ((L i).map V.int))):ZlQ g q lt a L H i σ H2
inductive ZlO (g q lt lr p lm:Addr) (a:Nat) (L:Nat->List Int) (H:Hp) (i:Nat) (σ:St) (H2:Hp):Prop where
 | mk (v4:Option V) (_:σ=[some (.ref g),some (.int (a:Int)),some (.ref q),some (.ref lt),v4,some (.ref lr),some (.ref p),some (.ref lm)]) (_:∀ x o,x≠lm->H x=some o->H2 x=some o) (_:H2 lm=some (.lst ((L i).map V.int))):ZlO g q lt lr p lm a L H i σ H2
inductive ZlP (g q lt lr:Addr) (n a:Nat) (R:LI) (c:List Int) (H:Hp) (i:Nat) (σ:St) (H2:Hp):Prop where
 | mk (v4 v6 v7:Option V) (_:σ=[some (.ref g),some (.int (a:Int)),some (.ref q),some (.ref lt),v4,some (.ref lr),v6,v7]) (_:∀ x o,x≠lr->H x=some o->H2 x=some o) (_:H2 lr=some (.lst ((Yw n R a c i).map V.int))) (_:∀ k,k<i->Ji n R a c k∈R):ZlP g q lt lr n a R c H i σ H2
set_option maxHeartbeats 1000000 in
theorem Zjn {f:Addr} {fd:FuncData} (F:Fun K "_law_own_by" "_law_own_by" Zep f fd) (T:Blt mg):FnOk P w K mg base CX0 1 f fd ["_law_square_here","_law_one","_law_columns_here"] Zhl:=by
 refine F.ok scOwnBy (fun vs H Q E h=>?_) (fun cdv A outer s H vs Q E hr h=>?_)
 ·obtain ⟨_,_,_,_,_,_,rfl,_⟩:=h
  rfl
 ·obtain ⟨g,q,n,a,R,c,rfl,hT,ok,hRl,h1,h6,ha,hq,tc,q1,q2⟩:=h;have hu:=huK hr 2
  refine' ⟨_,W.h (ZV ?s0 (ZV ?s1 (ZV ?s2 (ZV ?s3 (Zei ?s4))))),?rd⟩
  case s0=>exact ⟨Zj (i:=3) scOwnBy.nd rfl (Or.inl rfl) (Zk Zji (Z0 (Za Zh Zc)) (Zl (Zr K) rfl T.len PySem.boot_len (Za (pv 0) Zc)))⟩
  case s1=>exact ⟨Ye PassesOwn.never rfl (Zn rfl T.range (Za (Zl (Zr K) rfl T.len PySem.boot_len (Za (pv 0) Zc)) Zc)) (ZC (i:=4) scOwnBy.nd rfl (Or.inl rfl)) (Zf (Zcy (ZD (ZM K) (ZD (ZM K) (pv 0) (pv 1) (fun _ _=>rfl)) (ZD (ZM K) (pv 2) (pv 4) (fun _ _=>rfl)) (fun _ _=>rfl)) (Zey (pv 3) (ZD (ZM K) (ZD (ZM K) (pv 0) Zh (fun _ _=>rfl)) (pv 4) (fun _ _=>rfl)) ZaU)))⟩
  case s2=>exact ⟨Zj (i:=5) scOwnBy.nd rfl (Or.inl rfl) (Z0 Zc)⟩
  case s3 =>
   refine' W.mk (Ye PassesOwn.never rfl (Za6 K (pv 0)) (ZC (i:=6) scOwnBy.nd rfl (Or.inl rfl)) (Zd ?m0 (Zd ?m1 (Zd ?m2 (Zf ?m3)))))
   case m0=>exact Zj (i:=7) scOwnBy.nd rfl (Or.inl rfl) (Zk Zji (Z0 (Za Zh Zc)) (Zl (Zr K) rfl T.len PySem.boot_len (Za (pv 0) Zc)))
   case m1=>exact Ye PassesOwn.never rfl (Zn rfl T.range (Za (Zl (Zr K) rfl T.len PySem.boot_len (Za (pv 0) Zc)) Zc)) (ZC (i:=4) scOwnBy.nd rfl (Or.inl rfl)) (Zf (Zcy (ZD (JR K) (pv 3) (ZD (ZM K) (pv 6) (pv 4) (fun _ _=>rfl)) (fun _ _=>rfl)) (Zey (pv 7) (ZD (ZM K) (pv 2) (pv 4) (fun _ _=>rfl)) ZaU)))
   case m2=>exact YT (ZJ (Zik hu K) (Zp (Zv K) rfl T.tuple ZL (Za (pv 7) Zc)) (pv 0) rfl) (Zf (Zu Zez)) Z8
   case m3=>exact Yx (Jg PySem.F.plainAttrs_list PySem.F.slot_list_append PySem.F.type_list_append Yk (pv 5) (Za (ZgE hu (pv 0) (Za (Zp (Zv K) rfl T.tuple ZL (Za (pv 7) Zc)) Zc)) Zc))
  case s4=>exact ⟨Zu (ZaK (Za (Zp (Zv K) rfl T.tuple ZL (Za (pv 5) Zc)) (Za (pv 2) (Za (Zp (Zv K) rfl T.tuple ZL (Za (pv 3) Zc)) Zc))))⟩
  case rd =>
   obtain ⟨gs,hgs,hGs⟩:=id hT;have hgl:(gs.map V.ref).length=n:=by rw [QAa,hGs.length,hRl]
   have r0:=ZF ok hRl (show 0<n by exact Om.f5 ‹_›);have cl:=tc.len;have hcl:∀ x,x<n->(c.map V.int)[x]? = some (.int ((cv c x:Nat):Int)):=fun x hx=>by
    rw [QAe,QAb (by exact Om.a1 ‹_› ‹_›),<- ZE (by exact Om.a1 ‹_› ‹_›),(JE tc hx).1]
    rfl
   refine ⟨(show 1<=sizeLine from Zq (by decide)),fun l0 hl0=>?_⟩;have s0:Same H (upd H l0 (.lst [.int 0])):=Same.new hl0;refine ⟨_,rfl,g,_,rfl,.inr (SqT.of (s0 _ _ hgs)),l0,_,_,rfl,rfl,Zb,by exact O23 h1 h6 hgl cl,by rw [hgl]; exact O22 h1 h6 hgl cl,by rw [hgl,QAf]; exact (show 1*n<=sizeLine from Zq (by exact O21 h1 h6 hgl cl)),fun lt hlt=>?_⟩;rw [hgl,QAf,Zev];have s1:=s0.trans (Same.new (o:=.lst ((List.replicate n 0).map V.int)) hlt);have h1t:(upd (upd H l0 (.lst [.int 0])) lt (.lst ((List.replicate n 0).map V.int))) lt=some (.lst ((Zbv n (fun x=>(ent R 0 x).toNat) (fun x=>ent R a (cv c x)) 0).map V.int)):=Zb;have ftH:H lt=none:=s0.free hlt;generalize upd (upd H l0 (.lst [.int 0])) lt (.lst ((List.replicate n 0).map V.int))=H1 at s1 h1t ⊢;refine ⟨_,rfl,g,_,rfl,.inr (SqT.of (s1 _ _ hgs)),_,rfl,by exact Om.c2,by rw [hgl]; exact Om.c1 ‹_› rfl,?_⟩;rw [hgl,QAf];refine ZT (lo:=0) (n:=n) (ZlQ g q lt a (Zbv n (fun x=>(ent R 0 x).toNat) (fun x=>ent R a (cv c x))) H1) ⟨none,rfl,fun _ _ _ e=>e,h1t⟩ ?_ ?_
   ·rintro i σ H2 hi ⟨v4,rfl,k2,h2t⟩;rw [QBp];have k02:∀ x o,H x=some o->H2 x=some o:=fun x o e=>k2 _ _ (Zg e ftH) (s1 _ _ e)
    have hP2:Paired (fun p (r:List Int)=>H2 p=some (.tup (r.map V.int))) gs R:=Paired.mapP hGs fun _ _ e=>k02 _ _ e
    obtain ⟨pa,ea,hpa,va⟩:=TG.rowAt hP2 ok hRl ha;obtain ⟨p0,e0,hp0,v0⟩:=TG.rowAt hP2 ok hRl (show 0<n by exact Om.f5 ‹_›);refine ⟨_,rfl,_,rfl,g,_,_,_,rfl,rfl,SqT.of (k02 _ _ hgs),ZR ea,_,rfl,_,rfl,q,_,_,_,rfl,rfl,SqT.of (k02 _ _ hq),ZR (hcl i hi),pa,_,_,_,rfl,rfl,SqT.of hpa,ZR (va _ (JE tc hi).2),?_⟩;refine ⟨_,rfl,_,rfl,g,_,_,_,rfl,rfl,SqT.of (k02 _ _ hgs),ZR (i:=0) e0,_,rfl,p0,_,_,_,rfl,rfl,SqT.of hp0,ZR (v0 i hi),lt,_,_,(ent R 0 i).toNat,rfl,rfl,h2t,?_,?_⟩
    ·rw [(ZQ ok hRl (show 0<n by exact Om.f5 ‹_›) hi).1,QAa,YH];exact ZeE (ZQ ok hRl (show 0<n by exact Om.f5 ‹_›) hi).2
    ·refine ⟨_,rfl,fun x o hx e=>by rw [Ze hx]; exact k2 _ _ hx e,?_⟩;rw [Zb,Zbv,List.map_set]
   ·rintro σ H2 ⟨v4,rfl,k2,h2t⟩;have k02:∀ x o,H x=some o->H2 x=some o:=fun x o e=>k2 _ _ (Zg e ftH) (s1 _ _ e)
    replace h2t:H2 lt=some (.lst ((Jh n R a c).map V.int)):=h2t
    have tl:(Jh n R a c).length=n:=YH n;refine ⟨QAg _,fun lr hlr=>?_⟩;have s3:Same H2 (upd H2 lr (.lst [])):=Same.new hlr;have h3r:(upd H2 lr (.lst [])) lr=some (.lst ((Yw n R a c 0).map V.int)):=Zb;generalize upd H2 lr (.lst [])=H3 at s3 h3r ⊢;have frH:H lr=none:=by
     cases e:H lr with
     | none=>rfl
     | some o=>exact absurd (k02 _ _ e) (by rw [hlr]; intro z; cases z)
    have nrt:lt≠lr:=fun z=>by rw [z,hlr] at h2t; cases h2t
    have k03:∀ x o,H x=some o->H3 x=some o:=fun x o e=>s3 _ _ (k02 _ _ e)
    have h3t:=s3 _ _ h2t;refine ⟨_,rfl,g,rfl,⟨_,SqT.of (k03 _ _ hgs)⟩,ZhN (xs:=gs.map V.ref) (ZlP g q lt lr n a R c H3) ⟨_,none,none,rfl,fun _ _ _ e=>e,h3r,fun k hk=>absurd hk (QCc _)⟩ (fun i σ H4 _ zz0=> by obtain ⟨_,_,_,_,k4,_,_⟩ := zz0; exact SqT.of (k4 _ _ (Zg hgs frH) (k03 _ _ hgs))) ?_ ?_⟩
    ·rintro k x σ H4 hx ⟨v4,v6,v7,rfl,k4,h4r,hm⟩;have hk:k<n:=by rw [<- hgl]; exact (QZb.mp hx).1
     have k04:∀ x o,H x=some o->H4 x=some o:=fun x o e=>k4 _ _ (Zg e frH) (k03 _ _ e)
     have hP4:Paired (fun p (r:List Int)=>H4 p=some (.tup (r.map V.int))) gs R:=Paired.mapP hGs fun _ _ e=>k04 _ _ e
     obtain ⟨p,ep,hp,vp⟩:=TG.rowAt hP4 ok hRl hk;rw [ep] at hx
     cases hx;have h4t:=k4 _ _ nrt h3t;refine ⟨(show 1<=sizeLine from Zq (by decide)),fun l5 hl5=>?_⟩;have s5:Same H4 (upd H4 l5 (.lst [.int 0])):=Same.new hl5;refine ⟨_,rfl,g,_,rfl,.inr (SqT.of (s5 _ _ (k04 _ _ hgs))),l5,_,_,rfl,rfl,Zb,by exact O20 h1 h6 hgl cl tl,by rw [hgl]; exact O19 h1 h6 hgl cl tl,by rw [hgl,QAf]; exact (show 1*n<=sizeLine from Zq (by exact O18 h1 h6 hgl cl tl)),fun lm hlm=>?_⟩;rw [hgl,QAf,Zev];have s6:=s5.trans (Same.new (o:=.lst ((List.replicate n 0).map V.int)) hlm);have h6m:(upd (upd H4 l5 (.lst [.int 0])) lm (.lst ((List.replicate n 0).map V.int))) lm=some (.lst ((Zbv n (cv c) (fun x=>(Jh n R a c).getD (ent R k x).toNat 0) 0).map V.int)):=Zb;have fm4:H4 lm=none:=s5.free hlm;generalize upd (upd H4 l5 (.lst [.int 0])) lm (.lst ((List.replicate n 0).map V.int))=H6 at s6 h6m ⊢;refine ⟨_,rfl,g,_,rfl,.inr (SqT.of (s6 _ _ (k04 _ _ hgs))),_,rfl,by exact Om.c2,by rw [hgl]; exact Om.c1 ‹_› rfl,?_⟩;rw [hgl,QAf];refine ZT (lo:=0) (n:=n) (ZlO g q lt lr p lm a (Zbv n (cv c) (fun x=>(Jh n R a c).getD (ent R k x).toNat 0)) H6) ⟨_,rfl,fun _ _ _ e=>e,h6m⟩ ?_ ?_
     ·rintro i σ H7 hi ⟨v4,rfl,k7,h7m⟩;rw [QBp];have k47:∀ x o,H4 x=some o->H7 x=some o:=fun x o e=>k7 _ _ (Zg e fm4) (s6 _ _ e)
      obtain ⟨en,el⟩:=ZQ ok hRl hk hi;have hti:atI ((Jh n R a c).map V.int) (ent R k i)=some (.int ((Jh n R a c).getD (ent R k i).toNat 0)):=by
       rw [en];exact Jz (by rw [tl]; exact el)
      refine ⟨_,rfl,_,rfl,_,rfl,p,_,_,_,rfl,rfl,SqT.of (k47 _ _ hp),ZR (vp i hi),lt,_,_,_,rfl,rfl,SqL.of (k47 _ _ h4t),hti,?_⟩;refine ⟨_,rfl,_,rfl,_,rfl,q,_,_,_,rfl,rfl,SqT.of (k47 _ _ (k04 _ _ hq)),ZR (hcl i hi),lm,_,_,cv c i,rfl,rfl,h7m,?_,?_⟩
      ·rw [QAa,YH];exact ZeE (JE tc hi).2
      ·refine ⟨_,rfl,fun x o hx e=>by rw [Ze hx]; exact k7 _ _ hx e,?_⟩;rw [Zb,Zbv,List.map_set]
     ·rintro σ H7 ⟨v4,rfl,k7,h7m⟩;have k47:∀ x o,H4 x=some o->H7 x=some o:=fun x o e=>k7 _ _ (Zg e fm4) (s6 _ _ e)
      replace h7m:H7 lm=some (.lst ((Ji n R a c k).map V.int)):=h7m
      refine ⟨_,rfl,lm,_,rfl,.inl ⟨SqL.of h7m,fun tm htm=>?_⟩⟩;have s8:Same H7 (upd H7 tm (.tup ((Ji n R a c k).map V.int))):=Same.new htm;have h8:(upd H7 tm (.tup ((Ji n R a c k).map V.int))) tm=some (.tup ((Ji n R a c k).map V.int)):=Zb;generalize upd H7 tm (.tup ((Ji n R a c k).map V.int))=H8 at s8 h8 ⊢;have k48:∀ x o,H4 x=some o->H8 x=some o:=fun x o e=>s8 _ _ (k47 _ _ e)
      have hT8:TG H8 g R:=⟨gs,k48 _ _ (k04 _ _ hgs),Paired.mapP hP4 fun _ _ e=>k48 _ _ e⟩;refine ⟨_,rfl,g,tm,R,_,rfl,rfl,hT8,h8,_,rfl,JG (fun hc=>?_) (fun hc=>?_)⟩
      ·have hc:=QZj hc;refine q1 ?_ H8 fun x o e=>k48 _ _ (k04 _ _ e)
       unfold Zag;rw [if_neg fun z=>hc (z k hk)]
      ·have hin:Ji n R a c k∈R:=by
        by_cases z:Ji n R a c k∈R
        ·exact z
        ·exact absurd (QZh z) hc
       have h8r:=k48 _ _ h4r;refine ⟨_,rfl,.inl ⟨rfl,_,SqL.of h8r⟩,_,rfl,g,R,rfl,hT8,_,rfl,lm,_,rfl,.inl ⟨SqL.of (s8 _ _ h7m),fun tn htn=>?_⟩⟩;have s9:Same H8 (upd H8 tn (.tup ((Ji n R a c k).map V.int))):=Same.new htn;have h9:(upd H8 tn (.tup ((Ji n R a c k).map V.int))) tn=some (.tup ((Ji n R a c k).map V.int)):=Zb;generalize upd H8 tn (.tup ((Ji n R a c k).map V.int))=H9 at s9 h9 ⊢;have h9r:=s9 _ _ h8r;have rl:(Yw n R a c k).length=k:=by unfold Yw; rw [QAa,QAq]
       refine ⟨tn,R,_,rfl,hT8.same s9,h9,hin,lr,_,_,rfl,rfl,h9r,by rw [QAa,rl]; exact Zq (by exact O17 h1 h6 hgl cl tl hk rl),_,_,_,rfl,fun x o hx e=>by rw [Ze hx]; exact s9 _ _ (k48 _ _ (k4 _ _ hx e)),?_,fun j hj=>?_⟩
       ·rw [Zb];unfold Yw;rw [QDi,QAm,QAm]
        rfl
       ·rcases Nat.lt_succ_iff_lt_or_eq.mp hj with z | z
        ·exact hm j z
        ·rw [z];exact hin
    ·rintro σ H4 ⟨v4,v6,v7,rfl,k4,h4r,hm⟩;rw [hgl] at h4r hm;have k04:∀ x o,H x=some o->H4 x=some o:=fun x o e=>k4 _ _ (Zg e frH) (k03 _ _ e)
     have h4t:=k4 _ _ nrt h3t;refine ⟨_,rfl,lr,_,rfl,.inl ⟨SqL.of h4r,fun t1 ht1=>?_⟩⟩;have s5:Same H4 (upd H4 t1 (.tup ((Yw n R a c n).map V.int))):=Same.new ht1;have h5:(upd H4 t1 (.tup ((Yw n R a c n).map V.int))) t1=some (.tup ((Yw n R a c n).map V.int)):=Zb;generalize upd H4 t1 (.tup ((Yw n R a c n).map V.int))=H5 at s5 h5 ⊢;refine ⟨_,rfl,_,rfl,lt,_,rfl,.inl ⟨SqL.of (s5 _ _ h4t),fun t2 ht2=>?_⟩⟩;have s6:Same H5 (upd H5 t2 (.tup ((Jh n R a c).map V.int))):=Same.new ht2;have h6':(upd H5 t2 (.tup ((Jh n R a c).map V.int))) t2=some (.tup ((Jh n R a c).map V.int)):=Zb;generalize upd H5 t2 (.tup ((Jh n R a c).map V.int))=H6 at s6 h6' ⊢;refine ⟨(show 3<=sizeLine from Zq (by decide)),fun t3 ht3=>?_⟩;have s7:Same H6 (upd H6 t3 (.tup [.ref t1,.ref q,.ref t2])):=Same.new ht3;refine q2 [Yw n R a c n,c,Jh n R a c] ?_ t3 _ (fun x o e=>s7 _ _ (s6 _ _ (s5 _ _ (k04 _ _ e)))) ⟨[t1,q,t2],Zb,.cons (s7 _ _ (s6 _ _ h5)) (.cons (s7 _ _ (s6 _ _ (s5 _ _ (k04 _ _ hq)))) (.cons (s7 _ _ h6') .nil))⟩;unfold Zag;rw [if_pos hm]
end
noncomputable def Zfb:Nat->Int
 | 0=>1
 | i+1=>Zfb i*((i:Int)+1) ^ 3
theorem Zi9:∀ n,n<7->Zfb n=((fac n ^ 3:Nat):Int):=by decide +kernel
theorem ZkE:∀ n,n<7 -> -(2 ^ 64)<Zfb n/\Zfb n<2 ^ 64:=by decide +kernel
inductive DV (H:Hp):V->Option (LI)->Prop where
 | non:DV H .non none
 | ref {p:Addr} {h:LI} (_:TG H p h):DV H (.ref p) (some h)
theorem Zlf {n:Nat} {R:LI} {P:Nat->Nat->Prop} (h:∀ x y,¬ P x y):DueOk n R P []:=⟨QBg,fun x=>⟨fun z=>(by cases z),fun z=>absurd z.2 (h _ _)⟩⟩
theorem Zhf {D:List (Option (LI))} {j:Nat} {o:Option (LI)} (h:D[j]? = some o):(D.take (j+1)).filterMap id=(D.take j).filterMap id++o.toList:=by
 rw [QCe,h,List.filterMap_append]
 cases o <;> rfl
theorem Zja {n:Nat}:Zkh n []:=⟨QBg,QBg,fun p hp=>(by cases hp)⟩
theorem DV.up {H H':Hp} {v:V} {o:Option (LI)} (d:DV H v o) (f:∀ b row,H b=some (.tup row)->H' b=some (.tup row)):DV H' v o:=by
 cases d with
 | non=>exact .non
 | ref h=>exact .ref (h.up f)
inductive Zkg (K:QZa) (vs:List V) (H:Hp) (Q:VK):Prop where
 | mk (a:Addr) (ns:List Int) (_:vs=[.ref a]) (_:SqL K H a (ns.map V.int)) (_:ns.length<=63) (_:∀ H',Q (.bl true) H'):Zkg K vs H Q
def Zhm (K:QZa):Sp:=fun vs H Q _=>Zkg K vs H Q
structure Defs (P:Program) (w:World) (K:QZa) (mg:Str->Option Value) (base:Heap) (fC fQ fO fM fU fB:Addr) (dC dQ dO dM dU dB:FuncData):Prop where
 T:Blt mg
 C:Dfn K mg "_law_cell_at" Zcp ["_law_script","_law_k"] fC dC
 Q:Dfn K mg "_law_square" Zb2 ["_law_script","_law_k","_law_n"] fQ dQ
 O:Dfn K mg "own" Zi1 ["square"] fO dO
 M:Dfn K mg "alike_many" Zhr ["square"] fM dM
 U:Dfn K mg "_law_columns" Za0 ["_law_square_here","_law_one","_law_other","_law_known"] fU dU
 B:Dfn K mg "_law_own_by" Zep ["_law_square_here","_law_one","_law_columns_here"] fB dB
 GQ:FnOk P w K mg base CX0 11 fQ dQ ["_law_script","_law_k","_law_n"] (ZeX K)
 GO:FnOk P w K mg base CX0 11 fO dO ["square"] ZiT
 GM:FnOk P w K mg base CX0 11 fM dM ["square"] ZiU
section
variable {P:Program} {w:World} {K:QZa} {mg:Str->Option Value} {base:Heap}
variable {fC fQ fO fM fU fB:Addr} {dC dQ dO dM dU dB:FuncData}
theorem ZmL {H:Hp} {l m:Addr} {A:List LI} (x:RL H l A) (y:RL H m A):EqD K H 3 (.ref l) (.ref m) true:=by
 obtain ⟨ps,h1,r1⟩:=x;obtain ⟨qs,h2,r2⟩:=y;refine ZjS (SqL.of h1) (SqL.of h2) (by rw [QAa,QAa,r1.length,r2.length]) fun j u v hu hv=>?_;rw [QAe] at hu hv
 cases e1:ps[j]? with
 | none=>rw [e1] at hu; cases hu
 | some p =>
  cases e2:qs[j]? with
  | none=>rw [e2] at hv; cases hv
  | some q =>
   rw [e1] at hu;rw [e2] at hv
   cases hu
   cases hv;obtain ⟨F,hF,tF⟩:=Paired.getL r1 e1;obtain ⟨G,hG,tG⟩:=Paired.getL r2 e2;rw [hF] at hG
   cases hG;exact (ZjT tF tG).cast (QZh rfl)
theorem scLaw:Zt ["_law_script","_law_head","_law_n","_law_square_here","_law_due","_law_one","_law_other","_law_columns_here","_law_many","_law_k"] ["_law_script"] (Zi Zl7):=Fs
inductive ZnP (a:Addr) (z0:Int) (n:Nat) (g lD:Addr) (R:LI) (H:Hp) (i:Nat) (σ:St) (H2:Hp):Prop where
 | mk (v5 v6 v7:Option V) (ds:List V) (D:List (Option (LI))) (_:σ=[some (.ref a),some (.int z0),some (.int (n:Int)),some (.ref g),some (.ref lD),v5,v6,v7,none,none]) (_:∀ x o,x≠lD->H x=some o->H2 x=some o) (_:H2 lD=some (.lst ds)) (_:Paired (DV H2) ds D) (_:DueOk n R (fun x _=>x<i) D) (_:D.length<=i*n*720):ZnP a z0 n g lD R H i σ H2
inductive ZnM (a:Addr) (z0:Int) (n:Nat) (g lD:Addr) (R:LI) (H:Hp) (i j:Nat) (σ:St) (H2:Hp):Prop where
 | mk (v6 v7:Option V) (ds:List V) (D:List (Option (LI))) (_:σ=[some (.ref a),some (.int z0),some (.int (n:Int)),some (.ref g),some (.ref lD),some (.int (i:Int)),v6,v7,none,none]) (_:∀ x o,x≠lD->H x=some o->H2 x=some o) (_:H2 lD=some (.lst ds)) (_:Paired (DV H2) ds D) (_:DueOk n R (fun x y=>x<i\/(x=i/\y<j)) D) (_:D.length<=(i*n+j)*720):ZnM a z0 n g lD R H i j σ H2
inductive ZmY (a:Addr) (z0:Int) (n:Nat) (g lD:Addr) (R:LI) (i j:Nat) (D:List (Option (LI))) (C:LI) (H:Hp) (k:Nat) (σ:St) (H2:Hp):Prop where
 | mk (v7:Option V) (ds:List V) (_:σ=[some (.ref a),some (.int z0),some (.int (n:Int)),some (.ref g),some (.ref lD),some (.int (i:Int)),some (.int (j:Int)),v7,none,none]) (_:∀ x o,x≠lD->H x=some o->H2 x=some o) (_:H2 lD=some (.lst ds)) (_:Paired (DV H2) ds (D++(C.take k).map (Zag n R i))):ZmY a z0 n g lD R i j D C H k σ H2
inductive ZnO (a:Addr) (z0:Int) (n:Nat) (g ls:Addr) (v5 v6 v7:Option V) (H:Hp) (i:Nat) (σ:St) (HA:Hp):Prop where
 | mk (v9:Option V) (_:σ=[some (.ref a),some (.int z0),some (.int (n:Int)),some (.ref g),some (.ref ls),v5,v6,v7,some (.int (Zfb i)),v9]) (_:HA=H):ZnO a z0 n g ls v5 v6 v7 H i σ HA
inductive ZnN (D:List (Option (LI))) (H2:Hp) (lc:Addr) (j:Nat) (ys:List V) (σ:St) (H3:Hp):Prop where
 | mk (v0:Option V) (us:List Addr) (_:σ=[v0]) (_:ys=us.map V.ref) (_:Same H2 H3) (_:H3 lc=some (.lst ys)) (_:Paired (fun p x=>TG H3 p x) us ((D.take j).filterMap id)):ZnN D H2 lc j ys σ H3
set_option maxHeartbeats 1000000 in
theorem Zms {f:Addr} {fd:FuncData} (F:Fun K "law" "law" Zl7 f fd) (Z:Defs P w K mg base fC fQ fO fM fU fB dC dQ dO dM dU dB):FnOk P w K mg base CX0 12 f fd ["_law_script"] (Zhm K):=by
 have T:=Z.T;have GC:FnOk P w K mg base CX0 11 fC dC ["_law_script","_law_k"] (Zbu K):=(ZhC Z.C.F T).mono (by decide);have GU:FnOk P w K mg base CX0 11 fU dU ["_law_square_here","_law_one","_law_other","_law_known"] (Zdz 7):=(ZcH Z.U T 7).mono (by decide);have GB:FnOk P w K mg base CX0 11 fB dB ["_law_square_here","_law_one","_law_columns_here"] Zhl:=(Zjn Z.B.F T).mono (by decide);have GQ:=Z.GQ;have GO:=Z.GO;have GM:=Z.GM;refine F.ok scLaw (fun vs H Q E h=>?_) (fun cdv A outer s H vs Q E hr h=>?_)
 ·obtain ⟨_,_,rfl,_⟩:=h
  rfl
 ·obtain ⟨a,ns,rfl,hS,hnl,k⟩:=h;have hu3:=huK hr 3;have hu6:=huK hr 6
  refine' ⟨_,W.h (ZV ?s0 (ZV ?s1 (ZV ?s2 (ZV ?s3 (ZV ?s4 (ZV ?s5 (ZV ?s6 (ZV ?s7 (ZV ?s8 (Zei ?s9)))))))))),?rd⟩
  case s0=>exact ⟨Zj (i:=1) scLaw.nd rfl (Or.inl rfl) (Zm GC hr rfl Z.C.m Z.C.F.kp Z.C.b .nil ZK (Za (pv 0) (Za Zh Zc)))⟩
  case s1=>exact ⟨Zj (i:=2) scLaw.nd rfl (Or.inl rfl) (ZD (JR K) (Z0 (Za Zh (Za Zh (Za Zh (Za (Zk Yj Zh (Zk Yf (Zk Yy (pv 1) Zh) Zh)) Zc))))) (Zk Yf (pv 1) Zh) (fun _ _=>rfl))⟩
  case s2=>exact ⟨Zj (i:=3) scLaw.nd rfl (Or.inl rfl) (Zm GQ hr rfl Z.Q.m Z.Q.F.kp Z.Q.b .nil ZK (Za (pv 0) (Za Zh (Za (pv 2) Zc))))⟩
  case s3=>exact ⟨Zj (i:=4) scLaw.nd rfl (Or.inl rfl) (Z0 Zc)⟩
  case s4 =>
   refine' W.mk (Ye PassesOwn.never rfl (Zn rfl T.range (Za (pv 2) Zc)) (ZC (i:=5) scLaw.nd rfl (Or.inl rfl)) (Zf (Ye PassesOwn.never rfl (Zn rfl T.range (Za (pv 2) Zc)) (ZC (i:=6) scLaw.nd rfl (Or.inl rfl)) (Zf (YT (ZJ Zjj (pv 5) (pv 6) (Z7 _)) (Zf (Ye PassesOwn.never rfl ?i (ZC (i:=7) scLaw.nd rfl (Or.inl rfl)) (Zf ?b))) Z8)))))
   case i=>exact Zb8 (Zm GU hr rfl Z.U.m Z.U.F.kp Z.U.b .nil ZK (Za (pv 3) (Za (pv 5) (Za (pv 6) (Za Zjd Zc)))))
   case b=>exact Yx (Jg PySem.F.plainAttrs_list PySem.F.slot_list_append PySem.F.type_list_append Yk (pv 4) (Za (Zm GB hr rfl Z.B.m Z.B.F.kp Z.B.b .nil ZK (Za (pv 3) (Za (pv 5) (Za (pv 7) Zc)))) Zc))
  case s5=>exact ⟨Zj (i:=4) scLaw.nd rfl (Or.inl rfl) (Zl (Zak hu6) rfl T.sorted PyProof.Rows.boot_sorted (Za (Yq ["_law_renaming_here"] [none] rfl rfl (Z2 K (pv 4)) (fun _ _ _ _ _=>Yu 0) (fun _ _ _ _ _=>Zat (ZaJ (Zhz (pv 0)))) (fun _ _ _ _ _=>pv 0)) Zc))⟩
  case s6=>exact ⟨YT (ZJ (Zmo (d:=3) hu3 K) (Zm GO hr rfl Z.O.m Z.O.F.kp Z.O.b .nil ZK (Za (pv 3) Zc)) (pv 4) (Z7 _)) (Zf (Zu Zly)) Z8⟩
  case s7=>exact ⟨Zj (i:=8) scLaw.nd rfl (Or.inl rfl) Zh⟩
  case s8=>exact ⟨Ye PassesOwn.never rfl (Zn rfl T.range (Za (pv 2) Zc)) (ZC (i:=9) scLaw.nd rfl (Or.inl rfl)) (Zf (Zj (i:=8) scLaw.nd rfl (Or.inl rfl) (Zk Ju (pv 8) (Zk ZaM (Zk Yj (pv 9) Zh) Zh))))⟩
  case s9=>exact ⟨Zu (Znr (ZeA JO (pv 2) Zh (Z7 _)) (Zmj (ZeA JO (Zk Ju (Zm GM hr rfl Z.M.m Z.M.F.kp Z.M.b .nil ZK (Za (pv 3) Zc)) (Zl (Zr K) rfl T.len PySem.boot_len (Za (pv 4) Zc))) (pv 8) (Z7 _))))⟩
  case rd =>
   refine ⟨_,rfl,a,ns,0,rfl,hS,fun z0=>?_⟩;refine ⟨_,rfl,_,_,rfl,rfl,⟨by decide,by decide⟩,_,_,rfl,rfl,(by show (0:Int)<3; decide),_,_,rfl,rfl,(show 4<=sizeLine from Zq (by decide)),fun l0 hl0=>?_⟩;have sl0:Same H (upd H l0 (.lst [.int 5,.int 6,.int 5,.int (2+z0 / 4 % 3)])):=Same.new hl0;have gl0:(upd H l0 (.lst [.int 5,.int 6,.int 5,.int (2+z0 / 4 % 3)])) l0=some (.lst [.int 5,.int 6,.int 5,.int (2+z0 / 4 % 3)]):=Zb;obtain ⟨n,hn,h2,h6⟩:∃ n:Nat,atI [.int 5,.int 6,.int 5,V.int (2+z0 / 4 % 3)] (z0 % 4)=some (.int (n:Int))/\2<=n/\n<=6:=by
    have hz:z0 % 4=((0:Nat):Int)\/z0 % 4=((1:Nat):Int)\/z0 % 4=((2:Nat):Int)\/z0 % 4=((3:Nat):Int):=by exact O16 
    rcases hz with e | e | e | e <;> rw [e]
    ·exact ⟨5,ZR rfl,by decide,by decide⟩
    ·exact ⟨6,ZR rfl,by decide,by decide⟩
    ·exact ⟨5,ZR rfl,by decide,by decide⟩
    ·obtain ⟨m,hm,m1,m2⟩:∃ m:Nat,2+z0 / 4 % 3=(m:Int)/\2<=m/\m<=6:=⟨(2+z0 / 4 % 3).toNat,by exact O15 ,by exact O14 ,by exact O13 ⟩;rw [hm];exact ⟨m,ZR rfl,m1,m2⟩
   generalize upd H l0 (.lst [.int 5,.int 6,.int 5,.int (2+z0 / 4 % 3)])=H0 at sl0 gl0 ⊢;have h1:1<=n:=by exact Om.f4 ‹_›
   have h8:n<=8:=by exact Om.b1 ‹_› rfl
   refine ⟨_,rfl,_,_,rfl,rfl,(by show (0:Int)<4; decide),l0,_,_,_,rfl,rfl,SqL.of gl0,hn,?_⟩;refine ⟨_,rfl,_,rfl,a,ns,2,n,rfl,sl0.seq hS,h1,h8,fun g HX R sX hT ok hRl=>?_⟩;refine ⟨QAg _,fun lD hlD=>?_⟩;have sD:Same HX (upd HX lD (.lst [])):=Same.new hlD;have gD:(upd HX lD (.lst [])) lD=some (.lst []):=Zb;generalize upd HX lD (.lst [])=HD at sD gD ⊢;have hTD:=hT.same sD;refine ⟨_,rfl,(n:Int),rfl,by exact Om.c2,by exact Om.c1 ‹_› rfl,?_⟩;rw [QAf];refine ZT (lo:=0) (n:=n) (ZnP a z0 n g lD R HD) ⟨none,none,none,[],[],rfl,fun _ _ _ e=>e,gD,.nil,Zlf fun x _=>QCc x,QAg _⟩ ?_ ?_
   ·rintro i σ H2 hi ⟨v5,v6,v7,ds,D,rfl,k2,hl2,hD,du,dl⟩;rw [QBp];refine ⟨_,rfl,(n:Int),rfl,by exact Om.c2,by exact Om.c1 ‹_› rfl,?_⟩;rw [QAf];refine ZT (lo:=0) (n:=n) (ZnM a z0 n g lD R HD i) ⟨v6,v7,ds,D,rfl,k2,hl2,hD,du.imp fun h _=>⟨.inl,fun z=>z.elim id fun y=>absurd y.2 (QCc _)⟩,dl⟩ ?_ ?_
    ·rintro j σ H3 hj ⟨v6,v7,ds,D,rfl,k3,hl3,hD,du,dl⟩;rw [QBp];have tup3:∀ b row,HD b=some (.tup row)->H3 b=some (.tup row):=fun b row e=>k3 _ _ (YE e gD (by intro z; cases z)) e
     refine ⟨_,rfl,_,rfl,rfl,_,rfl,JG (fun hc=>?_) (fun hc=>?_)⟩
     ·have hij:i≠j:=fun z=>by
       rw [z] at hc
       simp at hc
      refine ⟨_,rfl,_,rfl,_,rfl,fun dn hdn=>?_⟩;have s4:Same H3 (upd H3 dn (.dK [])):=Same.new hdn;have g4:(upd H3 dn (.dK [])) dn=some (.dK (dkM [])):=Zb;generalize upd H3 dn (.dK [])=H4 at s4 g4 ⊢;refine ⟨g,dn,n,i,j,R,[],rfl,(hTD.up tup3).same s4,ok,hRl,h2,h6,hi,hj,g4,Zja,fun p hp=>(by cases hp),by rw [List.length_nil]; exact O12 h2 h6 hRl,fun l H5 C fl s5 hC co=>?_⟩;obtain ⟨ps,hps,hP⟩:=hC;have hl4:=s4 _ _ hl3;have hl5:=s5 _ _ hl4;have nl:l≠lD:=fun z=>by rw [z,hl4] at fl; cases fl
      have hpl:(ps.map V.ref).length=C.length:=by rw [QAa,hP.length]
      have s35:=s4.trans s5;have few:=Zds h6 co.1 fun c hc=>((co.2 c).mp hc).1.1
      have dl5:D.length<=30000:=by
       have:i*n<=6*6:=QBv (by exact O11 h2 h6 hRl hi) h6;omega
      refine ⟨l,rfl,⟨_,SqL.of hps⟩,ZcY (xs:=ps.map V.ref) (ZmY a z0 n g lD R i j D C H5) ⟨v7,ds,rfl,fun _ _ _ e=>e,hl5,?_⟩ (fun m σ H6 _ zz0=> by obtain ⟨_,_,_,k6,_,_⟩ := zz0; exact SqL.of (k6 _ _ nl hps)) ?_ ?_⟩
      ·rw [List.take_zero,List.map_nil,QBq];exact Paired.mapP hD fun _ _ z=>z.up fun _ _ e=>s35 _ _ e
      ·rintro m x σ H6 hx ⟨v7,ds6,rfl,k6,hl6,hD6⟩;rw [QAe] at hx
       cases hpm:ps[m]? with
       | none=>rw [hpm] at hx; cases hx
       | some p =>
       rw [hpm] at hx
       cases hx;obtain ⟨c,hcm,hpc⟩:=Paired.getL hP hpm;have tc:=((co.2 c).mp (QAx hcm)).1.1;have tup6:∀ b row,H5 b=some (.tup row)->H6 b=some (.tup row):=fun b row e=>k6 _ _ (YE e hl5 (by intro z; cases z)) e
       have hT6:TG H6 g R:=((hTD.up tup3).same s35).up tup6;have et:(C.take (m+1)).map (Zag n R i)=(C.take m).map (Zag n R i)++[Zag n R i c]:=by
        rw [QCe,hcm,QAm]
        rfl
       have dlen:ds6.length<40000:=by
        rw [hD6.length,QAo,QAa,QAt];exact O10 hpl few dl5
       have fin:∀ (v:V) (H7:Hp),Same H6 H7->DV H7 v (Zag n R i c)->H7 lD=some (.lst ds6)/\ds6.length<sizeLine/\ZmY a z0 n g lD R i j D C H5 (m+1) [some (.ref a),some (.int z0),some (.int (n:Int)),some (.ref g),some (.ref lD),some (.int (i:Int)),some (.int (j:Int)),some (.ref p),none,none] (upd H7 lD (.lst (ds6++[v]))):=fun v H7 s7 dv=>by
        have hl7:=s7 _ _ hl6;have up:∀ b row,H7 b=some (.tup row)->(upd H7 lD (.lst (ds6++[v]))) b=some (.tup row):=fun b row e=>by
         rw [Ze (YE e hl7 (by intro z; cases z))];exact e
        refine ⟨hl7,Jb (by exact O9 dlen),_,ds6++[v],rfl,fun x o hx e=>by rw [Ze hx]; exact s7 _ _ (k6 _ _ hx e),Zb,?_⟩;rw [et,<- QBo];exact Paired.snoc (Paired.mapP hD6 fun _ _ z=>(z.up fun _ _ e=>s7 _ _ e).up up) (dv.up up)
       refine ⟨_,rfl,.inl ⟨rfl,_,SqL.of hl6⟩,_,rfl,_,rfl,_,rfl,g,p,n,i,R,c,rfl,hT6,ok,hRl,h1,h6,hi,tup6 _ _ hpc,tc,fun no H7 s7=>?_,fun h eh t H7 s7 ht=>?_⟩
       ·obtain ⟨f1,f2,f3⟩:=fin .non H7 s7 (by rw [no]; exact .non);exact ⟨lD,_,_,rfl,rfl,f1,f2,f3⟩
       ·obtain ⟨f1,f2,f3⟩:=fin (.ref t) H7 s7 (by rw [eh]; exact .ref ht);exact ⟨lD,_,_,rfl,rfl,f1,f2,f3⟩
      ·rintro σ H6 ⟨v7,ds6,rfl,k6,hl6,hD6⟩;rw [hpl,QBc (QAc _)] at hD6;refine ⟨_,_,ds6,_,rfl,fun x o hx e=>k6 _ _ hx (s35 _ _ (k3 _ _ hx e)),hl6,hD6,(du.more ok hRl h2 hi hj co (fun z=>z.elim (fun y=>QBx _ y) fun y=>QBx _ y.2)).imp fun h _=>?_,?_⟩
       ·rw [Nat.lt_succ_iff_lt_or_eq]
        constructor
        ·rintro ((z | z) | z)
         ·exact .inl z
         ·exact .inr ⟨z.1,.inl z.2⟩
         ·exact .inr ⟨z.1,.inr z.2⟩
        ·rintro (z | ⟨z,y | y⟩)
         ·exact .inl (.inl z)
         ·exact .inl (.inr ⟨z,y⟩)
         ·exact .inr ⟨z,y⟩
       ·rw [QAo,QAa];exact O8 dl hpl few
     ·have hij:i=j:=by
       by_cases z:i=j
       ·exact z
       ·exact absurd (by rw [QZi (by intro y; injection y with y; exact O7 z y)]; rfl) hc
      refine ⟨_,_,ds,D,rfl,k3,hl3,hD,du.imp fun h o=>⟨fun z=>z.imp id fun y=>⟨y.1,by exact O6 hij y⟩,fun z=>z.imp id fun y=>⟨y.1,?_⟩⟩,by exact O5 dl⟩;have ne:=(Za9 ok hRl h2 o).1;omega
    ·rintro σ H3 ⟨v6,v7,ds,D,rfl,k3,hl3,hD,du,dl⟩;refine ⟨_,_,_,ds,D,rfl,k3,hl3,hD,du.imp fun h o=>?_,by rw [QCs]; exact dl⟩;have l1:=(Za9 ok hRl h2 o).2.2.1;omega
   ·rintro σ H2 ⟨v5,v6,v7,ds,D,rfl,k2,hl2,hD,du,dl⟩;have tup2:∀ b row,HD b=some (.tup row)->H2 b=some (.tup row):=fun b row e=>k2 _ _ (YE e gD (by intro z; cases z)) e
    have hT2:=hTD.up tup2;have nd:=du.1;have mm:∀ x,x∈D.filterMap id↔Own n R x:=fun x=>(du.2 x).trans ⟨fun z=>z.1,fun z=>⟨z,(Za9 ok hRl h2 z).2.1⟩⟩
    have dl5:D.length<=30000:=by
     have:n*n<=6*6:=QBv h6 h6;omega
    refine ⟨_,rfl,lD,rfl,⟨_,SqL.of hl2⟩,fun lc hlc=>Z5 (Z1 (xs:=ds)) (ZnN D H2 lc) ⟨none,[],rfl,rfl,Same.new hlc,Zb,.nil⟩ (fun j ys σ H3 zz0=> by obtain ⟨_,_,_,_,s3,hl,_⟩ := zz0; exact ⟨SqL.of (s3 _ _ hl2),hl⟩) ?_ ?_⟩
    ·rintro j x ys σ H3 hx ⟨v0,us,rfl,rfl,s3,hl3,hU⟩;obtain ⟨o,ho,dv⟩:=Paired.getL hD hx
     cases dv with
     | non =>
      refine ⟨_,rfl,_,rfl,?_⟩;rw [QZh rfl];refine Zai ⟨_,us,rfl,rfl,s3,hl3,?_⟩;rw [Zhf ho];exact (QBq _).symm ▸ hU
     | @ref p h hp =>
      refine ⟨_,rfl,_,rfl,?_⟩;rw [QZi (by intro z; cases z)];have up:∀ b row,H3 b=some (.tup row)->(upd H3 lc (.lst (us.map V.ref++[.ref p]))) b=some (.tup row):=fun b row e=>by
       rw [Ze (YE e hl3 (by intro z; cases z))];exact e
      have hul:us.length<=30000:=by
       rw [hU.length];refine QAr (List.length_filterMap_le _ _) ?_;rw [QAt];exact O4 dl5
      refine Zbd ⟨_,rfl,hl3,by rw [QAa]; exact Jb (by exact Om.b1 ‹_› rfl),_,us++[p],rfl,by rw [QAm]; rfl,fun b u e=>?_,Zb,?_⟩
      ·rw [Ze (Zg e hlc)];exact s3 _ _ e
      ·rw [Zhf ho];exact Paired.snoc (Paired.mapP hU fun _ _ z=>z.up up) ((hp.same s3).up up)
    rintro ys σ HA ⟨v0,us,rfl,rfl,sA,hlA,hU⟩;rw [hD.length,QBc (QAc _)] at hU;refine ⟨lc,us,D.filterMap id,3,n,rkG n,rfl,hlA,hU,fun r hr=>?_,by decide,QAr (List.length_filterMap_le _ _) (by exact Om.b1 ‹_› rfl),fun p hp q hq=>?_,Zlw nd fun g hg=>((mm g).mp hg).1.dig h6,fun ls qs S' hls hQ hp hs=>?_⟩
    ·have d:=((mm r).mp hr).1.dig h6;exact ⟨d.len,fun x hx=>(d.row x hx).1⟩
    ·exact Dig.lt (((mm p).mp hp).1.dig h6) (((mm q).mp hq).1.dig h6)
    ·have s5:Same HA (upd HA ls (.lst (qs.map V.ref))):=Same.new hls;have g5:RL (upd HA ls (.lst (qs.map V.ref))) ls S':=⟨qs,Zb,Paired.mapP hQ fun _ _ z=>TG.same (show TG HA _ _ from z) s5⟩;generalize upd HA ls (.lst (qs.map V.ref))=H5 at s5 g5 ⊢;have hT5:=hT2.same (sA.trans s5);refine ⟨_,rfl,g,n,R,rfl,hT5,ok,hRl,h1,h6,fun lo H6 B s6 hB ow hbd=>?_⟩;have e:B=S':=ow.one h6 ⟨D.filterMap id,nd,mm,hp,hs⟩;subst e;have g6:=g5.same s6;obtain ⟨l0',l1,l2⟩:=ow.len ok hRl h6;refine ⟨_,rfl,true,ZmL hB g6,_,rfl,Zai ?_⟩;refine ⟨_,rfl,(n:Int),rfl,by exact Om.c2,by exact Om.c1 ‹_› rfl,?_⟩;rw [QAf];refine ZT (lo:=0) (n:=n) (ZnO a z0 n g ls v5 v6 v7 H6) ⟨none,rfl,rfl⟩ ?_ ?_
     ·rintro i σ HA hi ⟨v6,rfl,rfl⟩;rw [QBp];refine ⟨_,rfl,_,rfl,_,_,rfl,rfl,_,_,rfl,rfl,⟨by decide,by decide,(by rw [show ((i:Int)+1).natAbs=i+1 by omega]; exact QEc (show i+1<=7 by exact O3 h2 h6 hRl hi) (by decide))⟩,_,_,rfl,rfl,.inl (ZkE i (by exact O2 h2 h6 hRl hi)),?_⟩;exact ⟨_,rfl,rfl⟩
     rintro σ HA' ⟨v9,rfl,rfl⟩;rw [Zi9 n (by exact Om.f3 ‹_›)];refine ⟨_,rfl,rfl,_,rfl,JG (fun _=>k _) (fun _=>?_)⟩;refine ⟨_,rfl,g,n,R,rfl,hT5.same s6,ok,hRl,h1,h6,fun HB B' sB ow'=>?_⟩;have eB:B'=B:=ow'.one h6 ow;subst eB;obtain ⟨ps,hps,hP⟩:=g6;have hpl:(ps.map V.ref).length=B'.length:=by rw [QAa,hP.length]
     have hmul:((fac n ^ 3 / B'.length:Nat):Int)*(((ps.map V.ref).length:Nat):Int)=((fac n ^ 3:Nat):Int):=by
      rw [hpl,<- Int.natCast_mul,l2]
     refine ⟨_,rfl,ls,_,rfl,.inl (SqL.of (sB _ _ hps)),_,_,rfl,rfl,.inr ⟨by rw [hpl]; exact O1 hbd l0' hpl,by rw [hpl]; exact O0 hbd l0' hpl⟩,_,rfl,rfl,?_⟩;rw [hmul,QZh rfl];exact k _
end
theorem exL {α:Type} {us:List α} {k:Nat} (h:us.length=k+1):∃ a t,us=a::t/\t.length=k:=by
 cases us with
 | nil=>cases h
 | cons a t=>exact ⟨a,t,rfl,Nat.succ.inj h⟩
theorem Zc9 {K:QZa} {x qual:Str} {st:Stmt} {f:Addr} {fd:FuncData} {ps:List Str} (hl:ps.length=1) (F:Fun K x qual st f fd) (h:∀ (kV doc pm:Value) (an:Option Addr) (cdv ct:Value) (a0:Value),bindArgs (PySem.W.fnOf x qual (Jo st) (Jd st) (Zi st) .none kV doc pm an cdv ct) ⟨[a0],[]⟩=pure (ps.zip [a0])):Binds K fd ps [] :=
 F.binds fun kV doc pm an cdv ct us hu=>by obtain ⟨a0,us,rfl,h0⟩:=exL (hu.trans hl); obtain rfl:=QFf h0; exact h kV doc pm an cdv ct a0
theorem Zc8 {K:QZa} {x qual:Str} {st:Stmt} {f:Addr} {fd:FuncData} {ps:List Str} (hl:ps.length=2) (F:Fun K x qual st f fd) (h:∀ (kV doc pm:Value) (an:Option Addr) (cdv ct:Value) (a0 a1:Value),bindArgs (PySem.W.fnOf x qual (Jo st) (Jd st) (Zi st) .none kV doc pm an cdv ct) ⟨[a0,a1],[]⟩=pure (ps.zip [a0,a1])):Binds K fd ps [] :=
 F.binds fun kV doc pm an cdv ct us hu=>by obtain ⟨a0,us,rfl,h0⟩:=exL (hu.trans hl); obtain ⟨a1,us,rfl,h1⟩:=exL h0; obtain rfl:=QFf h1; exact h kV doc pm an cdv ct a0 a1
theorem ZiE {K:QZa} {x qual:Str} {st:Stmt} {f:Addr} {fd:FuncData} {ps:List Str} (hl:ps.length=3) (F:Fun K x qual st f fd) (h:∀ (kV doc pm:Value) (an:Option Addr) (cdv ct:Value) (a0 a1 a2:Value),bindArgs (PySem.W.fnOf x qual (Jo st) (Jd st) (Zi st) .none kV doc pm an cdv ct) ⟨[a0,a1,a2],[]⟩=pure (ps.zip [a0,a1,a2])):Binds K fd ps [] :=
 F.binds fun kV doc pm an cdv ct us hu=>by obtain ⟨a0,us,rfl,h0⟩:=exL (hu.trans hl); obtain ⟨a1,us,rfl,h1⟩:=exL h0; obtain ⟨a2,us,rfl,h2⟩:=exL h1; obtain rfl:=QFf h2; exact h kV doc pm an cdv ct a0 a1 a2
theorem ZmS {K:QZa} {x qual:Str} {st:Stmt} {f:Addr} {fd:FuncData} {ps:List Str} (hl:ps.length=4) (F:Fun K x qual st f fd) (h:∀ (kV doc pm:Value) (an:Option Addr) (cdv ct:Value) (a0 a1 a2 a3:Value),bindArgs (PySem.W.fnOf x qual (Jo st) (Jd st) (Zi st) .none kV doc pm an cdv ct) ⟨[a0,a1,a2,a3],[]⟩=pure (ps.zip [a0,a1,a2,a3])):Binds K fd ps [] :=
 F.binds fun kV doc pm an cdv ct us hu=>by obtain ⟨a0,us,rfl,h0⟩:=exL (hu.trans hl); obtain ⟨a1,us,rfl,h1⟩:=exL h0; obtain ⟨a2,us,rfl,h2⟩:=exL h1; obtain ⟨a3,us,rfl,h3⟩:=exL h2; obtain rfl:=QFf h3; exact h kV doc pm an cdv ct a0 a1 a2 a3
inductive Lk (K:QZa) (x:Str) (st:Stmt) (f:Addr):Prop where
 | mk {oc kV dc pm cd ct:Value} {od an:Option Addr} {sl:Array (Option Value)} (a:PySem.W.nsIn K mainGlobals x=some (some (.ref f))) (l:K.lookup f=some ⟨oc,od,.func (PySem.W.fnOf x x (Jo st) (Jd st) (Zi st) .none kV dc pm an cd ct),sl⟩) (c:PySem.W.codeIn K cd x=true) (k:PySem.W.keepIn K (.ref f)=true):Lk K x st f
theorem Lk.dfn {K:QZa} {mg:Str->Option Value} {h:Heap} {x:Str} {st:Stmt} {f:Addr} (L:Lk K x st f) (X:K.In h) (G:h.Ns mainGlobals mg) (ps:List Str) (b:∀ fd,Fun K x x st f fd->Binds K fd ps []):∃ fd,Dfn K mg x st ps f fd:=by
 obtain ⟨a,l,c,k⟩:=L;exact ⟨_,ZgU l c k,b _ (ZgU l c k),PySem.W.mg_of X G a⟩
set_option maxHeartbeats 2000000 in
theorem all_mk {l:PySem.W.OpenLaw} {w:World} {K:QZa} {h:Heap} {mg:Str->Option Value} {fa fS fBT fBE fTU fU fY fM fRF fRG fLE fWA fTW fAL fHO fLD fOW fPR fAM fC fN fT fR fL fB fA fV fX fG fQ fCO fOB fLaw:Addr} (X:K.In h) (G:h.Ns mainGlobals mg) (hfa:mg "law" = some (.ref fa)) (LS:Lk K "still" Zeo fS) (LBT:Lk K "turn_behind" JC fBT) (LBE:Lk K "behind" Zb5 fBE) (LTU:Lk K "turn_undone" Yo fTU) (LU:Lk K "undone" Zap fU) (LY:Lk K "entry_renamed" Zco fY) (LM:Lk K "renamed" ZaW fM) (LRF:Lk K "ring_from" JL fRF) (LRG:Lk K "rings" Zb3 fRG) (LLE:Lk K "lengths_of" ZaZ fLE) (LWA:Lk K "walks" Zen fWA) (LTW:Lk K "two_rows" ZaV fTW) (LAL:Lk K "renaming_along" Zb6 fAL) (LHO:Lk K "hopeful" Zab fHO) (LLD:Lk K "leading" Zaa fLD) (LOW:Lk K "own" Zi1 fOW) (LPR:Lk K "product_to" ZaX fPR) (LAM:Lk K "alike_many" Zhr fAM) (LC:Lk K "_law_cell_at" Zcp fC) (LN:Lk K "_law_number" ZaY fN) (LT:Lk K "_law_turn" Ze1 fT) (LR:Lk K "_law_renaming" Zaq fR) (LL:Lk K "_law_renamed" Zhq fL) (LB:Lk K "_law_base" Ze2 fB) (LA:Lk K "_law_along" Zcq fA) (LV:Lk K "_law_row" Zi0 fV) (LX:Lk K "_law_by_rows" Zb4 fX) (LG:Lk K "_law_by_rings" Za1 fG) (LQ:Lk K "_law_square" Zb2 fQ) (LCO:Lk K "_law_columns" Za0 fCO) (LOB:Lk K "_law_own_by" Zep fOB) (LLaw:Lk K "law" Zl7 fLaw) (z0:PySem.W.nsIn K mainGlobals "len" = some none) (z1:PySem.W.nsIn K mainGlobals "range" = some none) (z2:PySem.W.nsIn K mainGlobals "tuple" = some none) (z3:PySem.W.nsIn K mainGlobals "list" = some none) (z4:PySem.W.nsIn K mainGlobals "int" = some none) (z5:PySem.W.nsIn K mainGlobals "zip" = some none) (z6:PySem.W.nsIn K mainGlobals "max" = some none) (z7:PySem.W.nsIn K mainGlobals "sorted" = some none) (z8:PySem.W.nsIn K mainGlobals "enumerate" = some none) (z9:PySem.W.nsIn K mainGlobals "min" = some none) (z10:PySem.W.nsIn K mainGlobals "dict" = some none) :
  ∃ fd:FuncData,(∀ (s:Shared) (v:Value),BindsTo s fd ⟨[v],[]⟩ [("_law_script",v)])/\∀ base:Heap,K.In base->base.Ns mainGlobals mg->FnOk l.prog w K mg base CX0 12 fa fd ["_law_script"] (Zhm K):=by
 obtain ⟨aw,lw,cw,kw⟩:=LLaw;have e:=hfa.symm.trans (PySem.W.mg_of X G aw)
 cases e;have T:Blt mg:=⟨PySem.W.mg_none_of X G z0,PySem.W.mg_none_of X G z1,PySem.W.mg_none_of X G z2,PySem.W.mg_none_of X G z3,PySem.W.mg_none_of X G z4,PySem.W.mg_none_of X G z5,PySem.W.mg_none_of X G z6,PySem.W.mg_none_of X G z7,PySem.W.mg_none_of X G z8,PySem.W.mg_none_of X G z9,PySem.W.mg_none_of X G z10⟩;obtain ⟨_,DS⟩:=LS.dfn X G ["n"] fun _ F=>Zc9 rfl F fun _ _ _ _ _ _ _=>rfl
 obtain ⟨_,DBT⟩:=LBT.dfn X G ["one","other"] fun _ F=>Zc8 rfl F fun _ _ _ _ _ _ _ _=>rfl
 obtain ⟨_,DBE⟩:=LBE.dfn X G ["one","other"] fun _ F=>Zc8 rfl F fun _ _ _ _ _ _ _ _=>rfl
 obtain ⟨_,DTU⟩:=LTU.dfn X G ["turn"] fun _ F=>Zc9 rfl F fun _ _ _ _ _ _ _=>rfl
 obtain ⟨_,DU⟩:=LU.dfn X G ["renaming"] fun _ F=>Zc9 rfl F fun _ _ _ _ _ _ _=>rfl
 obtain ⟨_,DY⟩:=LY.dfn X G ["entry","things"] fun _ F=>Zc8 rfl F fun _ _ _ _ _ _ _ _=>rfl
 obtain ⟨_,DM⟩:=LM.dfn X G ["begun","renaming"] fun _ F=>Zc8 rfl F fun _ _ _ _ _ _ _ _=>rfl
 obtain ⟨_,DRF⟩:=LRF.dfn X G ["square","one","other","column"] fun _ F=>ZmS rfl F fun _ _ _ _ _ _ _ _ _ _=>rfl
 obtain ⟨_,DRG⟩:=LRG.dfn X G ["square","one","other"] fun _ F=>ZiE rfl F fun _ _ _ _ _ _ _ _ _=>rfl
 obtain ⟨_,DLE⟩:=LLE.dfn X G ["circles"] fun _ F=>Zc9 rfl F fun _ _ _ _ _ _ _=>rfl
 obtain ⟨_,DWA⟩:=LWA.dfn X G ["circles"] fun _ F=>Zc9 rfl F fun _ _ _ _ _ _ _=>rfl
 obtain ⟨_,DTW⟩:=LTW.dfn X G ["size"] fun _ F=>Zc9 rfl F fun _ _ _ _ _ _ _=>rfl
 obtain ⟨_,DAL⟩:=LAL.dfn X G ["square","top","walk"] fun _ F=>ZiE rfl F fun _ _ _ _ _ _ _ _ _=>rfl
 obtain ⟨_,DHO⟩:=LHO.dfn X G ["square"] fun _ F=>Zc9 rfl F fun _ _ _ _ _ _ _=>rfl
 obtain ⟨_,DLD⟩:=LLD.dfn X G ["square"] fun _ F=>Zc9 rfl F fun _ _ _ _ _ _ _=>rfl
 obtain ⟨_,DOW⟩:=LOW.dfn X G ["square"] fun _ F=>Zc9 rfl F fun _ _ _ _ _ _ _=>rfl
 obtain ⟨_,DPR⟩:=LPR.dfn X G ["n"] fun _ F=>Zc9 rfl F fun _ _ _ _ _ _ _=>rfl
 obtain ⟨_,DAM⟩:=LAM.dfn X G ["square"] fun _ F=>Zc9 rfl F fun _ _ _ _ _ _ _=>rfl
 obtain ⟨_,DC⟩:=LC.dfn X G ["_law_script","_law_k"] fun _ F=>Zc8 rfl F fun _ _ _ _ _ _ _ _=>rfl
 obtain ⟨_,DN⟩:=LN.dfn X G ["_law_script","_law_k"] fun _ F=>Zc8 rfl F fun _ _ _ _ _ _ _ _=>rfl
 obtain ⟨_,DT⟩:=LT.dfn X G ["_law_n","_law_number_here"] fun _ F=>Zc8 rfl F fun _ _ _ _ _ _ _ _=>rfl
 obtain ⟨_,DR⟩:=LR.dfn X G ["_law_script","_law_k","_law_n"] fun _ F=>ZiE rfl F fun _ _ _ _ _ _ _ _ _=>rfl
 obtain ⟨_,DL⟩:=LL.dfn X G ["_law_begun","_law_renaming_here"] fun _ F=>Zc8 rfl F fun _ _ _ _ _ _ _ _=>rfl
 obtain ⟨_,DB⟩:=LB.dfn X G ["_law_n","_law_number_here"] fun _ F=>Zc8 rfl F fun _ _ _ _ _ _ _ _=>rfl
 obtain ⟨_,DA⟩:=LA.dfn X G ["_law_rows","_law_one","_law_other","_law_column"] fun _ F=>ZmS rfl F fun _ _ _ _ _ _ _ _ _ _=>rfl
 obtain ⟨_,DV⟩:=LV.dfn X G ["_law_rows","_law_made","_law_digits"] fun _ F=>ZiE rfl F fun _ _ _ _ _ _ _ _ _=>rfl
 obtain ⟨_,DX⟩:=LX.dfn X G ["_law_n","_law_number_here"] fun _ F=>Zc8 rfl F fun _ _ _ _ _ _ _ _=>rfl
 obtain ⟨_,DG⟩:=LG.dfn X G ["_law_n","_law_number_here"] fun _ F=>Zc8 rfl F fun _ _ _ _ _ _ _ _=>rfl
 obtain ⟨_,DQ⟩:=LQ.dfn X G ["_law_script","_law_k","_law_n"] fun _ F=>ZiE rfl F fun _ _ _ _ _ _ _ _ _=>rfl
 obtain ⟨_,DCO⟩:=LCO.dfn X G ["_law_square_here","_law_one","_law_other","_law_known"] fun _ F=>ZmS rfl F fun _ _ _ _ _ _ _ _ _ _=>rfl
 obtain ⟨_,DOB⟩:=LOB.dfn X G ["_law_square_here","_law_one","_law_columns_here"] fun _ F=>ZiE rfl F fun _ _ _ _ _ _ _ _ _=>rfl
 refine ⟨_,?_,fun base _ _=>Zms (ZgU lw cw kw) (Defs.mk T DC DQ DOW DAM DCO DOB (Zil DQ.F T (SqD.mk DC DN DT DR DL DB DA DV DX DG)) ((Zjo DOW.F T DLD DU DBE (ZhB DLD.F T (HpD.mk DS DTU DRF DRG DLE DWA DTW DAL) DHO DM DU DY) ((ZbB DU.F T DTU).mono (by decide)) ((ZdG DBE.F T DBT).mono (by decide))).mono (by decide)) ((ZkN DAM.F T DPR DOW (Zjo DOW.F T DLD DU DBE (ZhB DLD.F T (HpD.mk DS DTU DRF DRG DLE DWA DTW DAL) DHO DM DU DY) ((ZbB DU.F T DTU).mono (by decide)) ((ZdG DBE.F T DBT).mono (by decide)))).mono (by decide)))⟩;exact fun s v=>.of_eq rfl
theorem walk {l:PySem.W.OpenLaw} {q:Program} {loose:List Str} {XP:(Str->Option Value)->Heap->Prop} {YP:World->Heap->Prop} {d:DefRec} {K:Params->QZa} (hn:l.most=some 63) (hdf:d.params.defaults=[])
  (hY:∀ (w:World) (h:Heap),YP w h->(K w.params).In h)
  (F:∀ (w:World) (mg:Str->Option Value) (fa:Addr) (h:Heap),(K w.params).In h->h.Ns mainGlobals mg->mg d.name=some (.ref fa) ->
   ∃ fd:FuncData,(∀ (s:Shared) (u:Value),BindsTo s fd ⟨[u],[]⟩ [("_law_script",u)])/\∀ base:Heap,(K w.params).In base->base.Ns mainGlobals mg->FnOk l.prog w (K w.params) mg base CX0 12 fa fd ["_law_script"] (Zhm (K w.params))) :
  PySem.W.WalkO q loose XP YP l.row.toRowW d [] (fun f vs=>PySem.call f vs) :=
 _L.walk_of (n:=63) (k:=12) (x:="_law_script") (CX:=fun _=>CX0) (sp:=fun w=>Zhm (K w.params)) hn (by decide) hdf ⟨rfl,by decide,by decide⟩ hY F (fun _ _ a ns hl _ hS=>⟨a,ns,rfl,hS,hl,fun _=>rfl⟩) fun _ _ _ _ _ z=>z
end _M
theorem PySem.W.Fast.te1608419407866811238:True:=trivial
open PySem PySem.W PyProof.Rows
set_option maxRecDepth 100000 in
set_option maxHeartbeats 0 in
theorem PySem.Challenge.cw_latinclose_k58_all_own_renamings_of_six_holds : PySem.Challenge.rw_latinclose_k58_all_own_renamings_of_six.Holds := by
 w_on; o_law; k_head; (case hw=>w_witness2)
 k_fill
 refine _M.walk (l:=PySem.Challenge.rw_latinclose_k58_all_own_renamings_of_six) rfl rfl (fun w h Y=>PySem.W.kIn_of Y) ?F
 case F =>
  intro w mg fa h KX G hmg
  refine' _M.all_mk KX G hmg (.mk ?_ ?_ ?_ ?_) (.mk ?_ ?_ ?_ ?_) (.mk ?_ ?_ ?_ ?_) (.mk ?_ ?_ ?_ ?_) (.mk ?_ ?_ ?_ ?_) (.mk ?_ ?_ ?_ ?_) (.mk ?_ ?_ ?_ ?_) (.mk ?_ ?_ ?_ ?_) (.mk ?_ ?_ ?_ ?_) (.mk ?_ ?_ ?_ ?_) (.mk ?_ ?_ ?_ ?_) (.mk ?_ ?_ ?_ ?_) (.mk ?_ ?_ ?_ ?_) (.mk ?_ ?_ ?_ ?_) (.mk ?_ ?_ ?_ ?_) (.mk ?_ ?_ ?_ ?_) (.mk ?_ ?_ ?_ ?_) (.mk ?_ ?_ ?_ ?_) (.mk ?_ ?_ ?_ ?_) (.mk ?_ ?_ ?_ ?_) (.mk ?_ ?_ ?_ ?_) (.mk ?_ ?_ ?_ ?_) (.mk ?_ ?_ ?_ ?_) (.mk ?_ ?_ ?_ ?_) (.mk ?_ ?_ ?_ ?_) (.mk ?_ ?_ ?_ ?_) (.mk ?_ ?_ ?_ ?_) (.mk ?_ ?_ ?_ ?_) (.mk ?_ ?_ ?_ ?_) (.mk ?_ ?_ ?_ ?_) (.mk ?_ ?_ ?_ ?_) (.mk ?_ ?_ ?_ ?_) ?_ ?_ ?_ ?_ ?_ ?_ ?_ ?_ ?_ ?_ ?_
  all_goals try k_is
