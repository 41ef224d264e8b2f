import PyProof.Rows.All
import Wide.All
import OpenK.AllK
import Wide.FinOn
import Lean
import PyProof.EqAt
import PyProof.EqKinds
import PyProof.TupleCall
import PyProof.NeKinds
import PyProof.StrOps2
import PyProof.InstStoreFacts
import PyProof.ExcInit
import PyProof.ListRange
import PyProof.ListMulRoad
import PyProof.DictWalks
import PyProof.Rows.SortWalk
import KE.KDictOf
import PyProof.AttrMissSeq
import PyProof.DictItemsLoops
import PyProof.ZipIter
import PyProof.Rows.SetFrom
import PyProof.Rows.ZipGen
import PyProof.EnumIter
import PyProof.TupleIter
import KE.KDictSum
import PyProof.DictIter
import PyProof.TupleOfSeq
import PyProof.Draws
import PyProof.EnumFor
import PyProof.EnumMake
import PyProof.EnumStmt
import PyProof.Rows.EnumRows
import KE.KRevSl
import KE.KSortTup
import PyProof.MinMaxWalk
import KE.KMinKey
import PyProof.Rows.CallKwBuiltin
import PyProof.MeetsSeq3
import PyProof.Rows.SortShell
import PySem.Challenge.RW_latinclose_k54_own_renamings
set_option Elab.async false
set_option linter.all false
set_option maxRecDepth 100000
noncomputable def QAa:=@List.length_map
noncomputable def QAb:=@List.getElem?_eq_getElem
noncomputable def QAc:=@List.getD_eq_getElem?_getD
noncomputable def QAd:=@Nat.le_refl
noncomputable def QAe:=@List.getElem?_map
noncomputable def QAf:=@Int.toNat_natCast
noncomputable def QAg:=@List.size_toArray
noncomputable def QAh:=@Nat.zero_le
noncomputable def QAi:=@PySem.Heap.lt_size
noncomputable def QAj:=@List.mem_cons_self
noncomputable def QAk:=@PySem.Heap.get?_push_of_some
noncomputable def QAl:=@Bool.false_ne_true
noncomputable def QAm:=@List.mem_cons_of_mem
noncomputable def QAn:=@List.map_append
noncomputable def QAo:=@List.length_append
noncomputable def QAp:=@List.map_cons
noncomputable def QAq:=@List.getElem_mem
noncomputable def QAr:=@List.length_range
noncomputable def QAs:=@Nat.le_trans
noncomputable def QAt:=@List.mem_of_getElem?
noncomputable def QAu:=@List.length_take
noncomputable def QAv:=@Bool.and_eq_true
noncomputable def QAw:=@Array.length_toList
noncomputable def QAx:=@List.length_cons
noncomputable def QAy:=@PySem.Heap.get?_push_size
noncomputable def QAz:=@Nat.ne_of_lt
noncomputable def QBa:=@List.map_map
noncomputable def QBb:=@Nat.lt_of_lt_of_le
noncomputable def QBc:=@List.drop_eq_getElem_cons
noncomputable def QBd:=@List.take_of_length_le
noncomputable def QBe:=@List.getElem_of_mem
noncomputable def QBf:=@Bool.eq_iff_iff
noncomputable def QBg:=@List.all_eq_true
noncomputable def QBh:=@List.mem_append_left
noncomputable def QBi:=@List.mem_append_right
noncomputable def QBj:=@List.getElem?_range
noncomputable def QBk:=@List.getElem_map
noncomputable def QBl:=@List.lookup_cons
noncomputable def QBm:=@Int.le_trans
noncomputable def QBn:=@List.length_drop
noncomputable def QBo:=@List.append_assoc
noncomputable def QBp:=@Int.le_of_lt
noncomputable def QBq:=@List.mem_cons
noncomputable def QBr:=@List.nodup_nil
noncomputable def QBs:=@List.ext_getElem
noncomputable def QBt:=@List.drop_of_length_le
noncomputable def QBu:=@List.append_nil
noncomputable def QBv:=@List.countP_cons
noncomputable def QBw:=@Int.zero_add
noncomputable def QBx:=@List.map_congr_left
noncomputable def QBy:=@Array.toList_append
noncomputable def QBz:=@Nat.le_of_lt
noncomputable def QCa:=@Bool.false_and
noncomputable def QCb:=@List.not_mem_nil
noncomputable def QCc:=@List.take_add_one
noncomputable def QCd:=@Nat.mul_le_mul
noncomputable def QCe:=@Nat.lt_irrefl
noncomputable def QCf:=@Bool.true_and
noncomputable def QCg:=@Nat.lt_or_ge
noncomputable def QCh:=@List.nodup_range
noncomputable def QCi:=@Int.le_refl
noncomputable def QCj:=@Array.getElem_toList
noncomputable def QCk:=@Nat.le_succ
noncomputable def QCl:=@PySem.Heap.size_push
noncomputable def QCm:=@Nat.mod_eq_of_lt
noncomputable def QCn:=@List.take_append_drop
noncomputable def QCo:=@List.getElem?_append_left
noncomputable def QCp:=@Bool.or_eq_true
noncomputable def QCq:=@Int.emod_nonneg
noncomputable def QCr:=@List.getElem?_eq_none
noncomputable def QCs:=@List.getElem?_append_right
noncomputable def QCt:=@Nat.succ_mul
noncomputable def QCu:=@List.mem_append
noncomputable def QCv:=@List.eraseIdx_eq_take_drop_succ
noncomputable def QCw:=@List.getElem_range
noncomputable def QCx:=@List.getElem?_set
noncomputable def QCz:=@Nat.lt_succ_of_lt
noncomputable def QDb:=@List.length_set
noncomputable def QDc:=@Array.getElem?_toList
noncomputable def QDd:=@Bool.false_eq_true
noncomputable def QDe:=@Option.map_some
noncomputable def QDf:=@List.mem_singleton
noncomputable def QDg:=@List.sum_cons
noncomputable def QDi:=@List.ext_getElem?
noncomputable def QDj:=@List.flatMap_cons
noncomputable def QDk:=@List.filterMap_cons
noncomputable def QDl:=@List.length_singleton
noncomputable def QDm:=@List.range_succ
noncomputable def QDp:=@List.filter_cons_of_pos
noncomputable def QDq:=@List.filter_cons_of_neg
noncomputable def QDs:=@Nat.not_lt_zero
noncomputable def QDt:=@List.length_pos_of_mem
noncomputable def QDv:=@List.getElem_zip
noncomputable def QDw:=@Int.emod_lt_of_pos
noncomputable def QDz:=@PySem.Heap.get?_update_other
noncomputable def QEc:=@List.replicate_succ
noncomputable def QEd:=@Nat.lt_of_le_of_lt
noncomputable def QEf:=@List.flatMap_append
noncomputable def QEi:=@List.reverse_append
noncomputable def QEj:=@Array.toList_reverse
noncomputable def QEk:=@List.length_reverse
noncomputable def QEl:=@Int.mul_le_mul_of_nonneg_right
noncomputable def QEr:=@List.perm_ext_iff_of_nodup
noncomputable def QEv:=@Array.getD_eq_getD_getElem?
noncomputable def QEx:=@List.extract_eq_take_drop
noncomputable def QEz:=@List.eq_nil_of_length_eq_zero
abbrev QZa:=PySem.W.Frag
noncomputable def QZb:=@List.getElem?_eq_some_iff
noncomputable def QZc:=@List.mem_singleton
noncomputable def QZd:=@List.mem_map
noncomputable def QZe:=@List.mem_range
noncomputable def QZf:=@List.mem_append
noncomputable def QZg:=@decide_eq_true_eq
noncomputable def QZh:=@decide_eq_true
noncomputable def QZi:=@decide_eq_false
noncomputable def QZj:=@of_decide_eq_true
noncomputable def QZk:=@List.nodup_iff_pairwise_ne
noncomputable def QZl:=@Option.some.inj
noncomputable def QZm:=@List.pairwise_map
noncomputable def QZn:=@List.mem_cons
noncomputable def QZo:=@List.mem_filter
noncomputable def QZp:=@List.mem_flatMap
open PySem PyProof.Rows in
noncomputable def QZq:=@wpAny_bind
open PySem PyProof.Rows in
noncomputable def QZr:=@wpAny_pure
open PySem PyProof.Rows in
noncomputable def QZs:=@wpS_bind
open PySem PyProof.Rows in
noncomputable def QZt:=@wpS_pure
namespace Om
theorem a1 {a b c:Nat} (h:c=b) (g:a<b):a<c := h ▸ g
theorem a2 {a b c:Nat} (g:a<b) (h:b=c):a<c := h ▸ g
theorem a3 {a b c:Nat} (g:a<b) (h:b<=c):a<c := QBb g h
theorem b1 {a m k:Nat} (h:a<=m) (g:Nat.ble m k=true):a<=k := QAs h (Nat.le_of_ble_eq_true g)
theorem b2 {a n m k:Nat} (f:a<n) (h:n<=m) (g:Nat.ble m k=true):a<=k := QAs (QBz f) (b1 h g)
theorem b3 {a n m k:Nat} (f:a<=n) (h:n<=m) (g:Nat.ble m k=true):a<=k := QAs f (b1 h g)
theorem b4 {a n m k:Nat} (f:a=n) (h:n<=m) (g:Nat.ble m k=true):a<=k := f ▸ b1 h g
theorem b5 {a n j m k:Nat} (f:a=n) (e:n<j) (h:j<=m) (g:Nat.ble m k=true):a<=k := f ▸ b2 e h g
theorem c1 {n m:Nat} (h:n<=m) (g:Nat.ble m 100000=true):(n:Int)<2 ^ 62 := Int.lt_of_le_of_lt (Int.ofNat_le.mpr (b1 h g)) (by decide)
theorem c2 {n:Nat}:-2 ^ 62<=(n:Int) := QBm (by decide:(-2 ^ 62:Int)<=0) (Int.natCast_nonneg n)
theorem c3 {n:Nat} (h:1<=n):(0:Int)<n := Int.natCast_pos.mpr h
theorem c5 {a b:Nat} (h:a<b):(a:Int)<(b:Int) := Int.ofNat_lt.mpr h
theorem c6 {a:Nat}:(0:Int)<=(a:Int) := Int.natCast_nonneg a
theorem d1 {a b:Nat} (h:a<b):a<=b := QBz h
theorem e1 {a b:Nat} (h:(a:Int)=(b:Int)):a=b := Int.ofNat.inj h
theorem f1 {a b:Nat} (h:a<b):a+1<=b := h
theorem f2 {a b:Nat} (h:a<b):a<b+1 := QCz h
theorem f3 {a b:Nat} (h:a<=b):a<b+1 := Nat.lt_succ_of_le h
theorem f4 {a b:Nat} (h:a+1<=b):a<=b := Nat.le_of_succ_le h
theorem f5 {a b:Nat} (h:a+1<=b):a<b := h
theorem p1 {a:Nat} (h:2<=a):0<a := QBb (Nat.zero_lt_succ 1) h
theorem q1 {a b:Nat} (h:a<=b+1) (g:¬a=b+1):a<=b := Nat.le_of_lt_succ (Nat.lt_of_le_of_ne h g)
theorem q2 {a b:Nat} (h:a<b):a<=b-1 := Nat.le_sub_one_of_lt h
theorem g2 {a b c:Nat} (h:a=b) (g:c=b):a=c := h.trans g.symm
theorem l1 {a b:Nat} (h:a=b):a<=b := Nat.le_of_eq h
theorem l4 {a b c:Nat} (h:a=b) (g:b<=c):a<=c := h ▸ g
theorem z1 {a:Int} (h:0<=a):a=(a.toNat:Int) := (Int.toNat_of_nonneg h).symm
theorem m1 {a b:Nat} (h:a<b):min a b=a := Nat.min_eq_left (QBz h)
theorem m2 {a b:Nat} (h:a<=b):min a b=a := Nat.min_eq_left h
theorem u2 {a b c d:Nat} (h:a=c) (f:b=d) (g:c=d):a=b := h.trans (g.trans f.symm)
theorem x1 {a b c:Nat} (h:a=b) (g:b<c):a<c := h ▸ g
theorem y2 {a b m:Nat} (h:b=a) (e:b<=m) (g:Nat.ble m k=true):a<=k := h ▸ b1 e g
end Om
section
variable {x0 x1 x2 x3 x4 x5 x6 x7 x8 x9:Nat} {y0 y1 y2 y3 y4 y5:Int}
theorem O0 (_:x0<=46656) (_:(0:Nat)<x0) (_:x1=x0):x0<=1000000:=by lia
theorem O1 {x0 x1:Nat} (h0:x0<=46656) (h1:(0:Nat)<x0) (h2:x1=x0):((x0:Nat):Int)<((2:Int) ^ 64):=by lia
theorem O2 {x0 x1:Nat} (h0:x0<=46656) (h1:(0:Nat)<x0) (h2:x1=x0):(-((2:Int) ^ 64))<((x0:Nat):Int):=by lia
theorem O3 (_:(1:Nat)<=x1) (_:x1<=6) (_:x2=x1) (_:x0<x1):x0<7:=by lia
theorem O4 (_:(1:Nat)<=x1) (_:x1<=6) (_:x2=x1) (_:x0<x1):x0+1<=7:=by lia
theorem O5 (_:x0<=46656) (_:(0:Nat)<x0) (_:x1=x0):(0:Int)<((x0:Nat):Int):=by lia
theorem O6 (_:x0<=46656) (_:(0:Nat)<x0) (_:x1=x0):x0≠(0:Nat):=by lia
theorem O7 {x0 x1:Nat} {y0:Int} (h0:x0<=46656) (h1:(0:Nat)<x0) (h2:x1=x0) (h3:y0<((x0:Nat):Int)):(y0).toNat<x0:=by lia
theorem O8 (_:x0<=46656) (_:(0:Nat)<x0) (_:x1=x0):((x0:Nat):Int)≠(0:Int):=by lia
theorem O9 {y0:Int}:(((1:Int)+(y0 % (5:Int)))).toNat<=6:=by lia
theorem O10 {y0:Int}:(1:Nat)<=(((1:Int)+(y0 % (5:Int)))).toNat:=by lia
theorem O11 {y0:Int}:((1:Int)+(y0 % (5:Int)))=(((((1:Int)+(y0 % (5:Int)))).toNat:Nat):Int):=by lia
theorem O12 (_:y0<=y3) (_:y1<=y4) (_:y2<=y5):y0+(y1+(y2+(0:Int)))<=y3+(y4+(y5+(0:Int))):=by lia
theorem O13 (_:x0<3) (_:x1=x0) (_:x2=x0):x0<=1000:=by lia
theorem O14 (_:x0+4<x1):x0+1+2<x1:=by lia
theorem O15 (_:(0:Nat)<x0):x0-1<x0:=by lia
theorem O16 (_:(0:Nat)<x0):((x0:Nat):Int)-(1:Int)=((x0-1:Nat):Int):=by lia
theorem O17 (_:x0<x1) (_:(0:Nat)<x0):x0-1<x1:=by lia
theorem O18 {x0:Nat} (h0:(0:Nat)<x0) (h1:x0<=((720:Nat)*((720:Nat)*720))):((x0:Nat):Int)<((2:Int) ^ 62):=by lia
theorem O19 (_:x0=x3) (_:x0-x1=x2+1) (_:x1<x0):x0-(x1+1)=x2:=by lia
theorem O20 (_:x1=x2) (_:x1-x0=x3+1) (_:x0<=x1):x0<x1:=by lia
theorem O21 (_:x2=x0) (_:x2-x1=0):x0<=x1:=by lia
theorem O22 (_:x0=x2) (_:x0-x1=0):x0<=x1:=by lia
theorem O23 (_:x0<x1) (_:x0<x2) (_:¬y1<y0):y0<=y1:=by lia
theorem O24 (_:x0<x1) (_:x0<x2) (_:y1<=y0):¬y0<y1:=by lia
theorem O25 (_:x0=x3) (_:x0-x1=x2+1) (_:x1<x0) (_:x1<x3):x0-(x1+1)=x2:=by lia
theorem O26 (_:x0<=46656) (_:(0:Nat)<x0) (_:x1=x0):((x0:Nat):Int)<(1073741824:Int):=by lia
theorem O27 {x0 x1:Nat} (h0:x1<=6) (h1:x0<x1):((1:Int)+((x0:Nat):Int))<((2:Int) ^ 64):=by lia
theorem O28 {x0:Nat}:(-((2:Int) ^ 64))<((1:Int)+((x0:Nat):Int)):=by lia
theorem O29 {x0:Nat} (h0:x0<=6):(((((x0+1):Nat):Int)-(1:Int))).toNat=x0:=by lia
theorem O30 {x0:Nat} (h0:x0<=6):(((x0+1):Nat):Int)<((2:Int) ^ 62):=by lia
theorem O31 (_:x0=0) (_:(0:Nat)<x0):False:=by lia
theorem O32 (_:x0+(x1+1)<x2):x0+1+x1<x2:=by lia
theorem O33 (_:x0+(x2+1)<x1):x0<x1:=by lia
theorem O34 (_:x2=x3) (_:x2=x0) (_:x3=x1):x0=x1:=by lia
theorem O35 (_:x0=x2) (_:x3=x0) (_:x0<=x1):x0-x1=0:=by lia
theorem O36 (_:x0=x2) (_:x3=x0) (_:x1<x3):x0-x1=x0-(x1+1)+1:=by lia
theorem O37 (_:x0=x1):min x0 x1=x0:=by lia
theorem O38 (_:x0<=8) (_:x1=x0):x0<64:=by lia
theorem O39 (_:x2=x1) (_:x3=x4) (_:x2=x3+x0) (_:(0:Nat)<x4):x0<x1:=by lia
theorem O40 {x0:Nat} {y0 y1:Int} (h0:(y0).toNat=(y1).toNat) (h1:((0:Int)<=y0)/\(y0<((x0:Nat):Int))) (h2:((0:Int)<=y1)/\(y1<((x0:Nat):Int))):y0=y1:=by lia
theorem O41 {x0:Nat} {y0:Int} (h0:((0:Int)<=y0)/\(y0<((x0:Nat):Int))):y0=(((y0).toNat:Nat):Int):=by lia
theorem O42 (_:y0<y1) (_:y1<y0):False:=by lia
theorem O43 {y0 y1 y2:Int}:((y0+y1)<(y0+y2))↔(y1<y2):=by lia
theorem O44 (_:y0=y1) (_:y1<y0):False:=by lia
theorem O45 (_:y0=y1) (_:y0<y1):False:=by lia
theorem O46 (_:y0<y1):y0+(1:Int)<=y1:=by lia
theorem O47 (_:x2=x3) (_:x1=x3) (_:x0<x2):x0<x1:=by lia
theorem O48 (_:x1<=100000) (_:x0=x1) (_:x2=x1) (_:¬x0<2):(2:Nat)<=x0:=by lia
theorem O49 (_:x0=x1) (_:x1=x2) (_:x1<2) (_:x1=x3+1+1):False:=by lia
theorem O50 (_:x0+6<x1):x0+1+1+3<x1:=by lia
theorem O51 (_:x2=x3) (_:x1=x3) (_:x4=x3) (_:x5=x3) (_:x0<x5):x0<x1:=by lia
theorem O52 (_:(2:Nat)<=x1) (_:x1<=100000) (_:x2=x1) (_:x0=x1):(1:Nat)<=x0:=by lia
theorem O53 (_:x0+3<x1):x0<x1:=by lia
theorem O54 (_:(2:Nat)<=x1) (_:x1<=100000) (_:x0=x1):(0:Nat)<x0:=by lia
theorem O55 (_:(0:Nat)<x0) (_:(0:Nat)=x0):False:=by lia
theorem O56 (_:(2:Nat)<=x0) (_:x0<=100000):¬x0<2:=by lia
theorem O57 (_:x0+1+1<=1):False:=by lia
theorem O58 (_:(1:Nat)<=x0) (_:x1=x0) (_:(0:Nat)=x0):False:=by lia
theorem O59 (_:¬x0<=1):x0-2+1<x0:=by lia
theorem O60 (_:¬x0<=1):x0-2-1+1<x0:=by lia
theorem O61 (_:x3=x2) (_:x4+x1<=x2+1) (_:x0+1=x4):x0+(x1+1)<=x2+1:=by lia
theorem O62 (_:(1:Nat)<=x1) (_:x2=x1) (_:x0+max (0:Nat) x1<=x1+1):x0<=1:=by lia
theorem O63 {x0 x1 x2 x3 x4:Nat} (h0:x4=x3) (h1:(x0<=x1)\/(x3<=x1)) (h2:¬(x1 ≥ x3)) (h3:(1:Nat)<=x2):((x0+1)<=(x1+x2))\/(x3<=(x1+x2)):=by lia
theorem O64 (_:x0<=x2) (_:x2<=x1):x0<=x1:=by lia
theorem O65 {x0:Nat} (h0:x0>(1:Nat)):((x0-2)+1)<x0:=by lia
theorem O66 {x0:Nat} (h0:x0>(1:Nat)):(x0-2)<x0:=by lia
theorem O67 {x0 x1 x2 x3:Nat} (h0:x3=x2) (h1:¬(x0 ≥ x2)) (h2:x1<=(x2-x0)):(x0+x1)<=x2:=by lia
theorem O68 {x0 x1 x2 x3:Nat} (h0:x3=x1) (h1:¬(x0 ≥ x1)):(x0+(min (x1-x0) x2))<=x1:=by lia
theorem O69 (_:(1:Nat)<=x3) (_:x3<=x0-x1) (_:x3<x2):(1:Nat)<=min (x0-x1) x2:=by lia
theorem O70 (_:x0<=x1-x2) (_:x0<x3):x0<=min (x1-x2) x3:=by lia
theorem O71 {x0 x1 x2:Nat} (h0:x2=x1) (h1:¬(x0 ≥ x1)):(x0+(x1-x0))<=x1:=by lia
theorem O72 {x0 x1 x2:Nat} (h0:x2=x0) (h1:¬(x1 ≥ x0)):(1:Nat)<=(x0-x1):=by lia
theorem O73 {x0 x1 x2:Nat} (h0:x2=x1) (h1:x0<=x1) (h2:x0 ≥ x1):x0=x1:=by lia
theorem O74 (_:(1:Nat)<=x1) (_:x2=x1) (_:x0<=x1) (_:max (0:Nat) x1<=x0\/x1<=x0):x0=x1:=by lia
theorem O75 (_:x3<=x1) (_:x4=x5) (_:x6=x1-x3+x5) (_:¬x2<x0+x3+x6):x0+x1<=x2:=by lia
theorem O76 (_:x4<=x3) (_:¬x4<x0+x1+x2):x0+x1+x2<=x3:=by lia
theorem O77 (_:¬x3<x0+x1+x2):x0+x1+x2<=x3:=by lia
theorem O78 (_:x2<=x3) (_:x4=x5) (_:x6=x3-x2+x5) (_:¬x1<x7+x2+x6) (_:x0<x7+x3+x5):x0<=x1:=by lia
theorem O79 (_:¬x2<x0+x1):x0+x1<=x2:=by lia
theorem O80 (_:x4<=x1) (_:x5=x2) (_:x6=x1-x4+x2) (_:¬x3<x0+x4+x6):x0+x1+x2<=x3:=by lia
theorem O81 (_:x2<=x1) (_:x0+x2+(x1-x2)-1=x0+x1-1) (_:¬x3=0) (_:x4=x3) (_:x5=x1-x2+x3) (_:x6<x0+x1):x0+x1-1<x0+x1:=by lia
theorem O82 (_:x0+x2<=x1):x0<=x1:=by lia
theorem O83 (_:x4<=x0) (_:¬x4<x1+x2) (_:x0<x1+x2+x3):x0-(x1+x2)<x3:=by lia
theorem O84 (_:x0<=x3) (_:¬x0<x1+x2):x0-(x1+x2)<=x3-(x1+x2):=by lia
theorem O85 (_:x3<=x2) (_:¬x3<x0+x1):x0+x1<=x2:=by lia
theorem O86:x0+x1<=x0+x1:=by lia
theorem O87 (_:x4<=x3) (_:x5=x4) (_:x0<x1+x2+x4):x0<x1+x2+x3:=by lia
theorem O88 (_:x0<x2+x3) (_:x2+x3<=x1):x0<=x1:=by lia
theorem O89 (_:x3<=x2) (_:x0<x1+x3):x0<x1+x2:=by lia
theorem O90 (_:x1<=x2) (_:x4=x3) (_:x5=x2-x1+x3):x0+x1+(x2-x1+x3)=x0+x2+x3:=by lia
theorem O91 (_:x1<=x2) (_:x3=x4) (_:x5=x2-x1+x4):x0+x1+(x2-x1)=x0+x2:=by lia
theorem O92 (_:x2<=x4) (_:x5<=x6) (_:x7=x5) (_:x3=x4-x2+x5) (_:x0<x1\/x1+x4+x6<=x0):x0<x1+x2\/x1+x2+x3<=x0:=by lia
theorem O93 (_:x1<=x3) (_:x0+x3<=x2):x0+x1<=x2:=by lia
theorem O94 (_:x4=x3) (_:x0<x1+x2):x0<x1+x2+x3:=by lia
theorem O95 (_:x1+x2<=x0) (_:x0<x1+x2+x3):x0-(x1+x2)<x3:=by lia
theorem O96 (_:x0+x4+x5<=x3) (_:x1<=x4) (_:x6<=x5) (_:x7=x6) (_:x2=x4-x1+x6):x0+x1+x2<=x3:=by lia
theorem O97 (_:x0+x4+x5<=x3) (_:x1<=x4) (_:x6<=x5) (_:x7=x6) (_:x2=x4-x1+x6) (_:x8<x0+x1\/x0+x1+x2<=x8):x0+x1+x2<=x3:=by lia
theorem O98 (_:x0+x4+x5<=x3) (_:x1<=x4) (_:x6<=x5) (_:x7=x6) (_:x2=x4-x1+x6):x0+x1+0+x2<=x3:=by lia
theorem O99 (_:x0=x2-x3) (_:x1=x4):x0+x1=x2-x3+x4:=by lia
theorem O100 (_:x1<=x2) (_:¬x3=0) (_:x0=x3):(0:Nat)<x0:=by lia
theorem O101 (_:(0:Nat)<x1) (_:x2<=x1) (_:¬x1-x2=0) (_:¬x3=0) (_:x0=x1-x2) (_:x4=x3):(0:Nat)<x0:=by lia
theorem O102 (_:x1=x2-x3) (_:x1-1<=x0) (_:x0<x1):x0=x1-1:=by lia
theorem O103 (_:x4=x3) (_:x2<x4):x0+x1+x2<x0+x1+x3:=by lia
theorem O104:x0+x1<=x0+x1+x2:=by lia
theorem O105 (_:(0:Nat)<x3) (_:x1<=x3) (_:¬x3-x1=0) (_:x0+x1+(x3-x1)-1=x0+x3-1) (_:¬x4=0) (_:x2=x3-x1) (_:x5=x4):x0+x1+(x2-1)=x0+x3-1:=by lia
theorem O106 (_:(0:Nat)<x1) (_:x2<=x1) (_:¬x1-x2=0) (_:¬x3=0) (_:x0=x1-x2) (_:x4=x3):x0-1<x1-x2:=by lia
theorem O107 (_:x1<=x2) (_:¬x0=0) (_:x3=x0):(0:Nat)<x0:=by lia
theorem O108 (_:(0:Nat)<=x2):x0+x1<=x0+x1+x2:=by lia
theorem O109 (_:x1<=x3) (_:x4=x3-x1) (_:x2<x4):x0+x1+x2<x0+x3:=by lia
theorem O110 (_:x4=x3) (_:x0+x1+x5<=x4) (_:x6<=x5) (_:x7=x6) (_:x2<x7):x0+x1+x2<x3:=by lia
theorem O111 (_:x4=x3) (_:x0+x5+x6<=x4) (_:x1<=x5) (_:x7<=x6) (_:x8=x5-x1) (_:x9=x7) (_:x2<x8):x0+x1+x2<x3:=by lia
theorem O112 (_:x0+x1+x4<=x3) (_:x2<=x4) (_:x5=x2):x0+x1+x2<=x3:=by lia
theorem O113 (_:x4=x3) (_:x2<x3):x0+x1+x2<x0+x1+x3:=by lia
theorem O114 (_:x1<=x3) (_:x2<x3-x1):x0+x1+x2<x0+x3:=by lia
theorem O115 (_:x0+x1<x3) (_:x0+x1+x4<=x3) (_:x2<=x4):min (x0+x1+x2) x3-(x0+x1)=x2:=by lia
theorem O116 (_:x0+x1<x2) (_:x3<=x1):min (x0+x1) x2-(x0+x3)=x1-x3:=by lia
theorem O117 (_:x2=0) (_:¬x3<x0+x1):x0+x1+x2<=x3:=by lia
theorem O118 (_:x2<=x1) (_:x0+x2+(x1-x2)-1=x0+x1-1) (_:x3<x0+x1):x0+x1-1<x0+x1:=by lia
theorem O119 (_:x0+x1+x3<=x2):x0+x1+(x2-(x0+x1))=x2:=by lia
theorem O120 (_:x1+x2+x4<=x0) (_:x0<x1+x2+x3):x0-(x1+x2)<x3:=by lia
theorem O121 (_:x2+x3+x0<=x1):x0<=x1-(x2+x3):=by lia
theorem O122 (_:x0+x1<=x2):x0+x1+(x2-(x0+x1))=x2:=by lia
theorem O123 (_:x4=x3) (_:x0+x1+x5<=x4) (_:x2<x5):x0+x1+x2<x3:=by lia
theorem O124 (_:(0:Nat)<x2) (_:x1<=x2) (_:¬x2-x1=0):x0+x1+(x2-x1)-1=x0+x2-1:=by lia
theorem O125 (_:x2<=x3) (_:x3-x2=0) (_:x0<x1+x3):x0<x1+x2:=by lia
theorem O126 (_:x0+x2<=x1):x0+(x1-x0)=x1:=by lia
theorem O127 (_:x1+x3<=x0) (_:x0<x1+x2):x0-x1<x2:=by lia
theorem O128 (_:x2+x0<=x1):x0<=x1-x2:=by lia
theorem O129 (_:x0<=x1):x0+(x1-x0)=x1:=by lia
theorem O130 (_:x1<=x0) (_:x0<x1+x2):x0-x1<x2:=by lia
theorem O131 (_:x3=x2) (_:x0+x4<x3) (_:x1<x4):x0+x1<x2:=by lia
theorem O132 (_:(0:Nat)<x1) (_:x0+x1<x2):x0+x1-1<x2:=by lia
theorem O133 (_:x4<=x5) (_:x0+x1+x2+x6<=x4) (_:x3=x5):x0+x1+x2<=x3:=by lia
theorem O134 (_:x3<=x4) (_:(0:Nat)<x5) (_:x0+x1+x5+x6<=x3) (_:x2=x4):x0+x1<x2:=by lia
theorem O135 (_:x2<x3):x0+x1+x2<x0+x1+x3:=by lia
theorem O136 (_:x2<=x3):x0+x1+x2<=x0+x1+x3:=by lia
theorem O137 (_:x1<x2):x0+x1<x0+x2:=by lia
theorem O138 (_:x1<=x2):x0+x1<=x0+x2:=by lia
theorem O139:x0<=x0+x1:=by lia
theorem O140 (_:x0+x1+x2+x4<=x5) (_:x5<=x3):x0+x1+x2<=x3:=by lia
theorem O141 (_:x0+1<x1):min x0 x1+(x1-(x0+2)+1)+1=x1:=by lia
theorem O142 (_:x0+1<x1):x0<x1:=by lia
theorem O143 {x0 x1:Nat} (h0:x0<=x1) (h1:x0 ≥ x1):x0=x1:=by lia
theorem O144 (_:x2<x1) (_:x0<x2):x0<x1:=by lia
theorem O145 (_:x3<x2-x0) (_:x1<x2-x0) (_:x4=x2-x0):x0+x1<x2:=by lia
theorem O146 (_:x1<x2):x0+x1<=x0+x2:=by lia
theorem O147 (_:x1<x2-x0) (_:x3<x2-x0) (_:x1<x3) (_:x4=x2-x0):x0+x1<x2:=by lia
theorem O148 (_:x0<=x1):min x0 x1-x2=x0-x2:=by lia
theorem O149 (_:x3+x0<x1) (_:x1<=x2):x0<min x1 x2-x3:=by lia
theorem O150:x0+1-x0=1:=by lia
theorem O151 (_:x0=x1):x0<=x1+1:=by lia
theorem O152 (_:x0+1<x1):min x0 x1=x0:=by lia
theorem O153 (_:x2+x3+x4<=x1) (_:x0<x2+x3):x0<x1:=by lia
theorem O154 (_:x2+x3+x4<=x1) (_:x0<=x5) (_:x5<x2+x3):x0<x1:=by lia
theorem O155 (_:(0:Nat)<x2) (_:x0+x2<=x1):x0<=x1:=by lia
theorem O156 (_:x1<=x0) (_:x0<x1+x2) (_:x3=x1):x0-x1<x2:=by lia
theorem O157 (_:x0+x2<=x1):min x0 x1=x0:=by lia
theorem O158 (_:x3=x0) (_:x0+x1<=x2):x0+x1+(x2-x0-x1)=x2:=by lia
theorem O159 (_:x2=x3) (_:x3+x0<=x1):x0<=x1-x2:=by lia
theorem O160 (_:x0=x2) (_:x2+x3<=x1):x0<=x1:=by lia
theorem O161:x0+(x1+1)+x2=x0+x1+(x2+1):=by lia
theorem O162:x0+x1<x0+(x1+1)+x2:=by lia
theorem O163 (_:x0+x1+(x3+1)<=x2):x0+x1<x2:=by lia
theorem O164 (_:x0+x1+(x2+1)<=x3):x0+(x1+1)+x2<=x3:=by lia
theorem O165 (_:x1<x4) (_:x2<=x1) (_:x3<x0\/x0+x4<=x3):¬(x0+x1-(x0+x1-(x0+x2))<x3/\x3<=x0+x1):=by lia
theorem O166 (_:x2<x4) (_:x3<=x2) (_:x0<x1\/x1+x4<=x0):¬x0=x1+x2-(x1+x2-(x1+x3)):=by lia
theorem O167 (_:x2<=x1):x0+x1-(x0+x2)<=x0+x1:=by lia
theorem O168 (_:x0+x3<=x4) (_:x1<x3) (_:x2=x4):x0+x1<x2:=by lia
theorem O169 {x0 x1 x2 x3:Nat} (h0:x2<=x3) (h1:¬(x1 ≥ x2)):(x0+((x1+x2) / (2:Nat)))<(x0+x3):=by lia
theorem O170 (_:x1<(x2+x3)/(2:Nat)+1):x0+x1<=x0+(x2+x3)/(2:Nat):=by lia
theorem O171 {x0 x1 x2 x3:Nat} (h0:x3<x2) (h1:(x0-x1)<=(x2-x3)) (h2:¬(x1 ≥ x0)):(x0-(((x1+x0) / (2:Nat))+1))<=(x2-(x3+1)):=by lia
theorem O172 {x0 x1:Nat} (h0:¬(x0 ≥ x1)):(((x0+x1) / (2:Nat))+1)<=x1:=by lia
theorem O173 (_:(x1+x2)/(2:Nat)<=x3):x0+(x1+x2)/(2:Nat)<=x0+x3:=by lia
theorem O174 {x0 x1 x2:Nat} (h0:¬(x1 ≥ x2)):x0<=(x0+((x1+x2) / (2:Nat))):=by lia
theorem O175 {x0 x1 x2 x3:Nat} (h0:x3<x2) (h1:(x1-x0)<=(x2-x3)) (h2:¬(x0 ≥ x1)):(((x0+x1) / (2:Nat))-x0)<=(x2-(x3+1)):=by lia
theorem O176 {x0 x1 x2:Nat} (h0:x1<=x2) (h1:¬(x0 ≥ x1)):((x0+x1) / (2:Nat))<=x2:=by lia
theorem O177 {x0 x1:Nat} (h0:¬(x0 ≥ x1)):x0<=((x0+x1) / (2:Nat)):=by lia
theorem O178 {x0 x1 x2 x3 x4 x5:Nat} (h0:(x0+x4)<=x3) (h1:x5<x4) (h2:x2<=x5) (h3:¬(x1 ≥ x2)):(x0+((x1+x2) / (2:Nat)))<x3:=by lia
theorem O179 (_:x0+x3<=x2) (_:x1<x3):x0+x1<x2:=by lia
theorem O180 {x0 x1 x2:Nat} (h0:x2<=x0) (h1:x2 ≥ x0) (h2:x2<=x1):x0<=x1:=by lia
theorem O181 {x0 x1 x2:Nat} (h0:x0<=x2) (h1:x2<=x1) (h2:x0 ≥ x2):x0<=x1:=by lia
theorem O182 (_:x2<=x0) (_:x0-x2<=x3-max (0:Nat) x3) (_:x2<=x1):x0<=x1:=by lia
theorem O183 (_:x0<=x1) (_:x1<x0):y0<=y1:=by lia
theorem O184 (_:x0<0):y0<=y1:=by lia
theorem O185:x0-0<=x0-0:=by lia
theorem O186:x0<=x0:=by lia
theorem O187:(0:Nat)<=x0:=by lia
theorem O188 (_:(1:Nat)<=x0) (_:x0<=x1):max (max x0 (1:Nat)) x1=x1:=by lia
theorem O189 (_:(1:Nat)<=x0):max x0 (1:Nat)=x0:=by lia
theorem O190 (_:(1:Nat)<=x0):(1:Nat)<=x0+1:=by lia
theorem O191 (_:x0+x3<=x2) (_:x4=x2) (_:x1<x3) (_:(1:Nat)<=x1):x0+x1-1<x2:=by lia
theorem O192 (_:x0+x3<=x2) (_:x4=x2) (_:x1<x3):x0+x1<x2:=by lia
theorem O193 (_:x0<=x2) (_:x3<x0+x1):x0+(x0+x1)-1-x2<x0+x1:=by lia
theorem O194 (_:x3<=x2) (_:x2<x0+x1):x0+(x0+x1)-1-x2<=x0+(x0+x1)-1-x3:=by lia
theorem O195 (_:x2<x0+x1):x0<=x0+(x0+x1)-1-x2:=by lia
theorem O196 (_:x0<=x3) (_:x3<=x1) (_:x1<x0+x2):x0<=x1/\x1<x0+x2:=by lia
theorem O197 (_:x0<=x1) (_:x1<=x3) (_:x3<x0+x2):x0<=x1/\x1<x0+x2:=by lia
theorem O198 (_:x2<=x3) (_:x1<x0\/x0+x3<=x1):¬(x0<=x1/\x1<x0+x2):=by lia
theorem O199 (_:x0+x3<=x4) (_:x1<=x3) (_:x2=x4):x0+x1<=x2:=by lia
theorem O200:¬((0:Nat)>(0:Nat)):=by lia
theorem O201 (_:¬y1<y0) (_:y0≠y1):y0<y1:=by lia
theorem O202 (_:(1:Nat)+1<=x1):x0+x1-1<x0+x1:=by lia
theorem O203 (_:x0+x3<=x2) (_:(1:Nat)+1<=x1) (_:x1<x3):x0+x1-1<x2:=by lia
theorem O204 (_:(1:Nat)+1<=x1) (_:x2<x0+(x1+1)) (_:¬x2<x0+x1):x0+x1-1<x0+x1:=by lia
theorem O205 (_:(1:Nat)+1<=x2) (_:x0<=x3) (_:x3<x1+(x2+1)) (_:¬x3<x1+x2) (_:¬x0=x3):x0<=x1+x2-1:=by lia
theorem O206 (_:x0<x1+(x2+1)) (_:¬x0<x1+x2):x0=x1+x2:=by lia
theorem O207 (_:(1:Nat)+1<=x0):(1:Nat)<=x0+1:=by lia
theorem O208 (_:x1<=x2) (_:x2<=x0) (_:x0<x1+((1:Nat)+1)) (_:¬x2=x0):x0=x1+1:=by lia
theorem O209 (_:x1<=x0) (_:x0<=x2) (_:x2<x1+((1:Nat)+1)) (_:¬x0=x2):x0=x1+1-1:=by lia
theorem O210 (_:(1:Nat)<=x0) (_:¬(1:Nat)=x0):(1:Nat)+1<=x0:=by lia
theorem O211:(1:Nat)<=((1:Nat)+1):=by lia
theorem O212 {x0:Nat} (h0:(1:Nat)<=x0) (h1:¬(x0>(1:Nat))):x0=1:=by lia
theorem O213 {x0 x1 x2 x3:Nat} (h0:(x0+x3)<=x2) (h1:x1<=x3) (h2:x1>(1:Nat)):((x0+x1)-1)<x2:=by lia
theorem O214 {x0 x1:Nat} (h0:x1>(1:Nat)):x0<((x0+x1)-1):=by lia
theorem O215 {x0 x1:Nat} (h0:x1>(1:Nat)):((x0+x1)-1)<(x0+x1):=by lia
theorem O216 {x0 x1:Nat} (h0:x1>(1:Nat)):x0<=((x0+x1)-1):=by lia
theorem O217 (_:(1:Nat)<=x2) (_:x0+x2<=x1):x0<x1:=by lia
theorem O218 (_:x0+x3<=x2) (_:(1:Nat)<=x1) (_:x1<x3):x0+x1-1<x2:=by lia
theorem O219 (_:(1:Nat)<=x0):max (1:Nat) x0=x0:=by lia
theorem O220 (_:x2<=x0) (_:x0<=x1) (_:x1<x2+1):x0=x1:=by lia
theorem O221 (_:(1:Nat)<=x1) (_:x2<x0+(x1+1)) (_:¬x2<x0+x1):x0+x1-1<x0+x1:=by lia
theorem O222 (_:(1:Nat)<=x2) (_:x0<=x3) (_:x3<x1+(x2+1)) (_:¬x3<x1+x2) (_:¬x0=x3):x0<=x1+x2-1:=by lia
theorem O223 (_:x0<x2) (_:x2<x3) (_:x1=x3):x0<x1:=by lia
theorem O224 (_:(0:Nat)<x1) (_:x0+1+x1+x2<x3+x4):x0+1+(x1-1)+x2<x3+x4:=by lia
theorem O225 (_:(0:Nat)<x0) (_:¬x0-1=0):(0:Nat)<x0-1:=by lia
theorem O226 (_:(0:Nat)<x0) (_:x0<=x1):x0-1<x1:=by lia
theorem O227 {x0 x1 x2 x3 x4 x5 x6:Nat} (h0:(1:Nat)<x2) (h1:(((x0+1)+x1)+x2)<(x3+x4)) (h2:((x2-1)-x5)=x6) (h3:¬(x6>(0:Nat))) (h4:x5=(x2-1)):(((x0+1)+x1)+(x2-1))<(x3+x4):=by lia
theorem O228 {x0 x1 x2:Nat} (h0:(1:Nat)<x0) (h1:¬((x0-1)=1)) (h2:((x0-1)-x1)=x2) (h3:¬(x2>(0:Nat))) (h4:x1=(x0-1)):(1:Nat)<(x0-1):=by lia
theorem O229 {x0 x1 x2:Nat} (h0:(1:Nat)<x1) (h1:x0<=(x1-1)) (h2:((x1-1)-x0)=x2) (h3:¬(x2>(0:Nat))):x0=(x1-1):=by lia
theorem O230 {x0 x1 x2 x3 x4 x5 x6:Nat} (h0:(((x0+1)+x1)+x5)<(x3+x4)) (h1:((x5-1)-x2)=x6) (h2:x6>(0:Nat)) (h3:¬(x2=1)) (h4:¬(x2=0)) (h5:(1:Nat)<x2):(((x0+1)+x1)+x2)<(x3+x4):=by lia
theorem O231 (_:¬x0=1) (_:¬x0=0):(1:Nat)<x0:=by lia
theorem O232 (_:(1:Nat)<x0):x0-1-1<x0-1:=by lia
theorem O233 (_:(1:Nat)<x0) (_:x0<=x1):(0:Nat)+(x0-1)<=x1:=by lia
theorem O234 (_:(1:Nat)<x0):(0:Nat)<x0:=by lia
theorem O235 (_:(1:Nat)<x0) (_:x0<=x1):x0-1<x1:=by lia
theorem O236 {x0 x1 x2:Nat} (h0:x0<=x1) (h1:(x1-x0)=x2) (h2:¬(x2>(0:Nat))):x0=x1:=by lia
theorem O237 (_:x0+1+x5+x2<x3+x4) (_:x1<=x5):x0+1+x1+x2<x3+x4:=by lia
theorem O238 (_:¬x0=0):(0:Nat)<x0:=by lia
theorem O239 (_:x0<=x1):(0:Nat)+x0<=x1:=by lia
theorem O240 (_:(1:Nat)<x3) (_:x0+x1+x2+x3<x4+x5):x0+(x1+1)+x2+(x3-1)<x4+x5:=by lia
theorem O241 (_:(1:Nat)<x0) (_:¬x0-1=1):(1:Nat)<x0-1:=by lia
theorem O242 (_:(0:Nat)<=x5) (_:(1:Nat)<x2) (_:x0+x5+x1+x2<x3+x4):x0+1+x1+(x2-1)<x3+x4:=by lia
theorem O243 (_:(0:Nat)<x2) (_:x0+x1+x2+x3<x4+x5):x0+(x1+1)+(x2-1)+x3<x4+x5:=by lia
theorem O244 (_:(0:Nat)<=x5) (_:(0:Nat)<x1) (_:x0+x5+x1+x2<x3+x4):x0+1+(x1-1)+x2<x3+x4:=by lia
theorem O245 (_:(0:Nat)<x0) (_:(1:Nat)<x1) (_:max (0:Nat) (x2+x3)+x0+x1<x2+x3):False:=by lia
theorem O246 (_:(0:Nat)<x0):(0:Nat)+(x0-1)+x1<x0+x1:=by lia
theorem O247 (_:(0:Nat)<x0) (_:¬x0=1):(1:Nat)<x0:=by lia
theorem O248 (_:(0:Nat)<x0) (_:(0:Nat)<x1) (_:¬x0-1=0) (_:¬x1=1):(0:Nat)<x0-1:=by lia
theorem O249 (_:x0<1):x0=0:=by lia
theorem O250 (_:x1=1) (_:x1<=x0):(1:Nat)<=x0:=by lia
theorem O251 (_:x1=1) (_:x1<=x0):x0-x1+1=x0:=by lia
theorem O252 (_:x3=0\/x1=0) (_:x3<=x2) (_:x1<=x0):x0<=x0-x1\/x2<=x2-x3:=by lia
theorem O253 (_:x1<=x0):x0-(x0-x1)<=x1-0:=by lia
theorem O254 (_:(0:Nat)<x1) (_:x1-1<=x0) (_:x0<x1):x0=x1-1:=by lia
theorem O255 (_:(0:Nat)<x0):x0-1<=x0:=by lia
theorem O256 (_:x1<=x2) (_:x2<=x0):x0-x1=x0-x2+(x2-x1):=by lia
theorem O257 (_:x0<=x1) (_:x0=x0-1+1):x0-1<x1:=by lia
theorem O258 (_:(0:Nat)<x0):x0=x0-1+1:=by lia
theorem O259 (_:x1<x2-x0):x0+x1<x2:=by lia
theorem O260 (_:x0<=x1) (_:x2<=x0):min x0 x1-(x0-x2)=x2:=by lia
theorem O261 (_:x1<=x0):x0-(x0-x1)=x1:=by lia
theorem O262 {y0 y1:Int} (h0:y1<=y0):(-y0)<=(-y1):=by lia
theorem O263 {y0 y1:Int} (h0:(-y1)<=(-y0)):y0<=y1:=by lia
theorem O264 (_:x0+1<x1+x2):x0+1<x1+1+x2:=by lia
theorem O265 (_:x2=x1) (_:x0+1<x1) (_:¬x0+1+1=x1):x0+1+1<x1:=by lia
theorem O266 (_:x2=x1) (_:x0+1<x1):x0<x1:=by lia
theorem O267 (_:x2=x1) (_:x0<x1) (_:¬x0+1=x1):x0+1<x1:=by lia
theorem O268 (_:x0+1<x1+x2):x0+1<x1+(x2+1):=by lia
theorem O269 {x0:Nat} (h0:¬(x0>(0:Nat))):x0=0:=by lia
theorem O270 (_:x3=x2) (_:x0<x2) (_:x1<=x2-(x0+1)) (_:¬x0+1+x1=x2):x0+1+x1<x2:=by lia
theorem O271 (_:x3=x0) (_:x1+1+x2=x0):x0<=x1+1+x2:=by lia
theorem O272 (_:x0+1<x1+x2):x0+1<x1+(x2+1+x3):=by lia
theorem O273 (_:x0+1+x2<=x1):x0+1+(x1-(x0+1))=x1:=by lia
theorem O274 (_:x3=x2) (_:x1<x2) (_:x1+1+x4<=x0) (_:x0<x2):x0-(x1+1)<x2-(x1+1):=by lia
theorem O275 (_:x2+1+x0<=x1):x0<=x1-(x2+1):=by lia
theorem O276 (_:x2=x0) (_:x1<x0) (_:¬x1+1=x0):(0:Nat)<x0-(x1+1):=by lia
theorem O277 (_:x2=x1) (_:x0<x1):x0+1+(x1-(x0+1))<=x1:=by lia
theorem O278 (_:x2=x0) (_:x1+1=x0):x0<=x1+1:=by lia
theorem O279 {x0 x1 x2 x3:Nat} (h0:(x0+1)<(x1+x3)) (h1:x2>(0:Nat)):(x0+1)<((x1+x2)+x3):=by lia
theorem O280 (_:x3=x2) (_:x0+1<x2) (_:x1<=x2-x0) (_:¬x0+x1+1=x2) (_:¬x0+x1=x2):x0+x1+1<x2:=by lia
theorem O281 (_:x3=x0) (_:x1+x2=x0):x0<=x1+x2:=by lia
theorem O282 (_:x3=x2) (_:x1+1<x2) (_:x1+x4<=x0) (_:x0<x2):x0-x1<x2-x1:=by lia
theorem O283 (_:x2=x0) (_:x1+1<x0):(0:Nat)<x0-x1:=by lia
theorem O284 (_:x2=x1) (_:x0+1<x1):x0+(x1-x0)<=x1:=by lia
theorem O285 (_:x0+x1<x2+x3):x0+(x1+1)<x2+1+x3:=by lia
theorem O286 (_:(0:Nat)<=x3) (_:x0+x3<x1+x2):x0+1<x1+1+x2:=by lia
theorem O287 (_:x0+x1<x2+x3):x0+(x1+1)<x2+(x3+1):=by lia
theorem O288 (_:(0:Nat)<=x3) (_:x0+x3<x1+x2):x0+1<x1+(x2+1):=by lia
theorem O289 (_:(0:Nat)<x0) (_:(0:Nat)<x1) (_:x2=x0) (_:x3=x1) (_:x4+1<x0) (_:x5<x1) (_:max (0:Nat) (x0+x1)<x4+x5):False:=by lia
theorem O290:(0:Nat)<((0:Nat)+1):=by lia
theorem O291 (_:(0:Nat)<x1) (_:(0:Nat)<x0) (_:x2=x1) (_:x3=x0) (_:¬(1:Nat)=x0) (_:¬(0:Nat)+1=x1):(1:Nat)<x0:=by lia
theorem O292 (_:(0:Nat)<x0) (_:x1=x0) (_:¬(0:Nat)+1=x0):(0:Nat)+1<x0:=by lia
theorem O293 (_:x1=x0) (_:(1:Nat)=x0):x0<=1:=by lia
theorem O294 (_:x1<min x3 (x2-x0)):x0+x1<x2:=by lia
theorem O295 (_:x0<min x1 (x2-x3)):x0<x1:=by lia
theorem O296:x0-x1<=x0-x1:=by lia
theorem O297:x0+x1-x0=x1:=by lia
theorem O298 (_:x0+1=x1):x0=x1-1:=by lia
theorem O299 (_:x1<=x2) (_:x2-x1<=x3-max (0:Nat) x3) (_:x0<x2):x0<x1:=by lia
theorem O300 {x0 x1 x2 x3:Nat} (h0:x3<x2) (h1:(x1-x0)<=(x2-x3)) (h2:¬(x0 ≥ x1)):((x0+((x1-x0) / (2:Nat)))-x0)<=(x2-(x3+1)):=by lia
theorem O301 {x0 x1 x2:Nat} (h0:x1<=x2) (h1:¬(x0 ≥ x1)):(x0+((x1-x0) / (2:Nat)))<=x2:=by lia
theorem O302:x0<=x0+(x1-x0)/(2:Nat):=by lia
theorem O303 {x0 x1 x2:Nat} (h0:x1<=x2) (h1:¬(x0 ≥ x1)):(x0+((x1-x0) / (2:Nat)))<x2:=by lia
theorem O304 (_:x0<x1+(x2-x1)/(2:Nat)+1):x0<=x1+(x2-x1)/(2:Nat):=by lia
theorem O305 {x0 x1 x2 x3:Nat} (h0:x3<x2) (h1:(x0-x1)<=(x2-x3)) (h2:¬(x1 ≥ x0)):(x0-((x1+((x0-x1) / (2:Nat)))+1))<=(x2-(x3+1)):=by lia
theorem O306 {x0 x1:Nat} (h0:¬(x0 ≥ x1)):((x0+((x1-x0) / (2:Nat)))+1)<=x1:=by lia
theorem O307 {x0 x1 x2 x3 x4:Nat} (h0:(x0+x4)<=x3) (h1:x2<=x4) (h2:¬(x1 ≥ x2)):(x0+(x1+((x2-x1) / (2:Nat))))<x3:=by lia
theorem O308 (_:x2<x1+1-min x0 (x1+1)):x0<x1+1:=by lia
theorem O309 (_:x0<x2) (_:x3<x0+1) (_:x3<x1):x0-x1<x2:=by lia
theorem O310 (_:x0<x1+1-min x2 (x1+1)):x0<=x1-x2:=by lia
theorem O311 (_:x0<x3):x0-x1-(x0+1-min x2 (x0+1))<=x3-0:=by lia
theorem O312 (_:x0<x2) (_:x1<x0+1):x0-x1<=x2:=by lia
theorem O313 (_:x2<x0+1) (_:x2<x1):x0+1-min x1 (x0+1)<=x0-x2:=by lia
theorem O314 (_:x0<x1) (_:max (0:Nat) x1<x2) (_:x2<x0+1):False:=by lia
theorem O315 (_:x2<x1) (_:x0<x1):x0+1<(2:Nat)*x1+1:=by lia
theorem O316:x0<(2:Nat)*x0+1:=by lia
theorem O317 {x0 x1:Nat} (h0:¬(x0 ≥ (x1+1))):x0<(x1+1):=by lia
theorem O318 (_:x0<x2) (_:(0:Nat)<=x3) (_:x3<x2):x0-x1<x2:=by lia
theorem O319 (_:x0+x4<=x3) (_:x1<x4) (_:(0:Nat)<=x5) (_:x5<x4):x0+(x1-x2)<x3:=by lia
theorem O320 {x0 x1:Nat} (h0:x0 ≥ (x1+1)) (h1:x0<(x1+1)):False:=by lia
theorem O321:(0:Nat)<1:=by lia
theorem O322:(0:Nat)<x0+1:=by lia
theorem O323 (_:x0<x1+x2+1):x0<=x1+x2:=by lia
theorem O324 (_:x1<x3-x0) (_:x1<x2):x0+x1+1<=x0+min x2 (x3-x0):=by lia
theorem O325 (_:x0<x1) (_:max (0:Nat) x1<x2) (_:x2<x1-x0):False:=by lia
theorem O326 {x0 x1 x2:Nat} (h0:¬(x0 ≥ (x1-x2))):x0<(x1-x2):=by lia
theorem O327 {x0 x1 x2:Nat} (h0:x0<x2) (h1:¬(x1 ≥ (x2-x0))):(x0+x1)<x2:=by lia
theorem O328 {x0 x1 x2 x3 x4:Nat} (h0:(x0+x4)<=x3) (h1:x1<x4) (h2:¬(x2 ≥ (x4-x1))):(x0+(x1+x2))<x3:=by lia
theorem O329 {x0 x1 x2:Nat} (h0:x0 ≥ (x1-x2)) (h1:x0<(x1-x2)):False:=by lia
theorem O330 (_:x1<x0):(0:Nat)<x0-x1:=by lia
theorem O331 (_:x0<2):x0<=16777216:=by lia
theorem O332 (_:x0<2):x0<=(16777216:Nat)+1:=by lia
theorem O333 (_:(1:Nat)<=x0) (_:¬x0=1):(2:Nat)<=x0:=by lia
theorem O334 (_:(2:Nat)<=x0) (_:(0:Nat)=x0):False:=by lia
theorem O335 {x0 x1:Nat} (h0:x1≠x0) (h1:x1 ≥ x0):x0<x1:=by lia
theorem O336 (_:(0:Int)<=y0/\y0<(((1:Nat):Nat):Int)):y0=(0:Int):=by lia
theorem O337 (_:x2+1+1+1<3):x0=x1:=by lia
theorem O338 (_:x0<3) (_:x1=x0):x0<=1000:=by lia
theorem O339 (_:x0<=x1):x0<=x1+1:=by lia
theorem O340 (_:x0<=x1):x0+1<=x1+1:=by lia
theorem O341 (_:x1=x2) (_:x2<=(36:Nat)*1296) (_:(0:Nat)<x2) (_:x3=x2) (_:x4=x2) (_:x0<=x5) (_:x5<x2):x0<=1000000:=by lia
theorem O342 (_:x2=x1) (_:x1<=(36:Nat)*1296) (_:(0:Nat)<x1) (_:x3=x1) (_:x4=x1) (_:x0<=x1-1):x0<x1:=by lia
theorem O343 (_:x0+1<x1+1):x0<x1:=by lia
theorem O344 (_:x2=x3) (_:x4=x3) (_:x0=x2) (_:x1=x4):x0=x1:=by lia
theorem O345 (_:x1<=1296) (_:x0<=(36:Nat)*1296):x0+x1<=1000000:=by lia
theorem O346 (_:x1<=x2) (_:x2<=(6:Nat)*6) (_:x3=x1) (_:x4=x1):min x0 x1<=36:=by lia
theorem O347 (_:(1:Nat)<=x1) (_:x1<=6) (_:x2=x1) (_:(2:Nat)<=x1) (_:(2:Nat)*x0<=x1):x0<=3:=by lia
theorem O348 (_:(1:Nat)<=x1) (_:x1<=6) (_:x2=x1) (_:(2:Nat)<=x1) (_:(2:Nat)*x0<=x1):x0+1<=4:=by lia
theorem O349 (_:(1:Nat)<=x1) (_:x1<=6) (_:x2=x1) (_:(2:Nat)<=x1) (_:(2:Nat)*x0<=x1):x0<=8:=by lia
theorem O350 (_:(0:Nat)<x1) (_:x0<=x1-1):x0<x1:=by lia
theorem O351 (_:(1:Nat)<=x0) (_:x0<=6) (_:x1=x0) (_:¬x0=1):(2:Nat)<=x0:=by lia
theorem O352 (_:x1=x0) (_:((x0:Nat):Int)=(1:Int)):x0=1:=by lia
theorem O353 (_:x1=x2) (_:x2<=6) (_:(2:Nat)*x0<=x2):x0<=3:=by lia
theorem O354 (_:(2:Nat)<=x0):¬x0=1:=by lia
theorem O355 (_:x1=x2) (_:(1:Nat)<=x2) (_:x2<=6) (_:x0=x2) (_:x3=x2) (_:x4=x1) (_:x5=x2) (_:x6=x2):(0:Nat)<x0:=by lia
theorem O356 (_:¬x1<x0):x0<=x1:=by lia
theorem O357 (_:x0<=x2) (_:x1<=x3):x0+x1<=x2+x3:=by lia
theorem O358 (_:x2<=6) (_:x0<=x3) (_:x1<=x2) (_:x3<=(6:Nat)*6):x0+x1<=1000:=by lia
theorem O359 (_:x1<=6) (_:x2<x1) (_:x0<=x2):x0<=1000:=by lia
theorem O360 (_:x0<=(3:Nat)*((6:Nat)*1296)) (_:x2<=1296) (_:x1<=(6:Nat)*1296):x0+x1+x2<=1000000:=by lia
theorem O361 (_:x1<=1296) (_:x2<=x1) (_:x3=x2) (_:x0<x2) (_:x4=x0):x0<=1000000:=by lia
theorem O362 (_:x2<=3) (_:x3=x2) (_:(0:Nat)<x2) (_:x4=x5) (_:x5<=6) (_:x0=x5) (_:x6=x2) (_:x1<=(6:Nat)*(x2-1)):x0+x1<=1000:=by lia
theorem O363 (_:x2=x3) (_:x3<=6) (_:x0=x3) (_:x1<x3):x0-x1+min x1 x0<=1000:=by lia
theorem O364 (_:x1<=3) (_:x2=x1) (_:(0:Nat)<x1) (_:x3=x1) (_:x0<x1):min x0 x1+(x1-(x0+1))=x1-1:=by lia
theorem O365 (_:x2=x1) (_:x3<x1) (_:x4=x1) (_:x0<x3):x0<x1:=by lia
theorem O366 (_:x0<=3) (_:x1=x0) (_:(0:Nat)<x0) (_:x2=x0):x0-1<=3:=by lia
theorem O367 (_:x1<=3) (_:x2=x1) (_:(0:Nat)<x1) (_:x3=x1) (_:x0=x1-1):x0<=3:=by lia
theorem O368 (_:x2+1<=x1+1) (_:x2<=3) (_:x3=x2) (_:(0:Nat)<x2) (_:x4=x2) (_:x0=x2-1):x0+1<=x1:=by lia
theorem O369 (_:x1<=3) (_:x2=x1) (_:(0:Nat)<x1) (_:x0<x1) (_:x3=x1):min x0 x1+(x1-(x0+1))=x1-1:=by lia
theorem O370 (_:x1<=3) (_:x2=x1) (_:(0:Nat)<x1) (_:x0<x1) (_:x3=x1):min x0 x1+(x1-(x0+1))<=1000:=by lia
theorem O371 (_:x0<=3) (_:(0:Nat)<x0) (_:(0:Nat)=x0):False:=by lia
theorem O372 (_:x1+1=x2+1) (_:x0<x1+1):min x0 (x1+1)+(x1+1-(x0+1))=x2:=by lia
theorem O373 (_:(0:Nat)<x2) (_:x3=x2) (_:x1=x2) (_:x0<x2):x0<=x1-1:=by lia
theorem O374 (_:(0:Nat)<x1) (_:x2=x1) (_:x0<=x3-1) (_:x3=x1):x0<x1:=by lia
theorem O375 (_:¬y1<y0):y0<=y1:=by lia
theorem O376 (_:x0<=0):x0=0:=by lia
theorem O377 (_:x0<=x1):((x0:Nat):Int)<=((x1:Nat):Int):=by lia
theorem O378 (_:x2+1<=x1+1) (_:x0=x2):x0<=x1:=by lia
theorem O379 (_:x0<x1+1):min x0 (x1+1)+(x1+1-(x0+1))=x1:=by lia
theorem O380 {x0 x1:Nat} {y0:Int} (h0:x1<x0) (h1:((0:Int)<=y0)/\(y0<((x0:Nat):Int))):(y0).toNat<x0:=by lia
theorem O381 (_:x1=x0):x0<=x1:=by lia
theorem O382:¬y0<y0:=by lia
theorem O383 (_:x2=x3) (_:x3<=8) (_:x4<x3) (_:x5=x3) (_:x0<=x6) (_:x6<=(8:Nat)*8) (_:x1<=x3):x0+x1<=1000:=by lia
theorem O384 (_:x1=x2) (_:x2<=8) (_:x3<x2) (_:x4=x2) (_:x5<x2) (_:x0=x6) (_:x6<=x5):x0<=1000:=by lia
theorem O385 {x0 x1 x2:Nat} (h0:x1=x2) (h1:x2<=8) (h2:x0=x2):((x0:Nat):Int)<((2:Int) ^ 62):=by lia
theorem O386 (_:x1<=x0):x0+1-x1=x0-x1+1:=by lia
theorem O387 (_:x2=x0) (_:x1<=x0) (_:x3=x2) (_:x4=x2):x0+1-(x1+1)<x0+1-x1:=by lia
theorem O388 (_:x2=x0) (_:x1<=x0) (_:x3=x2) (_:x4=x2):x0+1-x1=x0-x1+1:=by lia
theorem O389 {x0 x1 x2 x3 x4:Nat} {y0:Int} (h0:x0=x1) (h1:x2<x1) (h2:x3<x1) (h3:x4=x1) (h4:((0:Int)<=y0)/\(y0<((x1:Nat):Int))):y0=(((y0).toNat:Nat):Int):=by lia
theorem O390 {x0 x1 x2 x3 x4:Nat} {y0:Int} (h0:x1=x0) (h1:x2<x0) (h2:x3<x0) (h3:x4=x0) (h4:((0:Int)<=y0)/\(y0<((x0:Nat):Int))):(y0).toNat<x0:=by lia
theorem O391 (_:x0<x1):(0:Int)<=((x0:Nat):Int)/\((x0:Nat):Int)<((x1:Nat):Int):=by lia
theorem O392 (_:(0:Int)<y0) (_:y0<=(8:Int)):y0<(1073741824:Int):=by lia
theorem O393 (_:(1:Nat)<=x0) (_:x0<=8) (_:x1=x0):((x0:Nat):Int)<(1073741824:Int):=by lia
theorem O394 (_:(1:Nat)<=x0) (_:x0<=8) (_:x1=x0):((x0:Nat):Int)≠(0:Int):=by lia
theorem O395 {x0:Nat} {y0:Int} (h0:((y0 / (3:Int)) % (7:Int))=((x0:Nat):Int)):((x0:Nat):Int)<((2:Int) ^ 62):=by lia
theorem O396 {y0:Int}:(((y0 / (3:Int)) % (7:Int))).toNat<7:=by lia
theorem O397 {y0:Int}:((y0 / (3:Int)) % (7:Int))=(((((y0 / (3:Int)) % (7:Int))).toNat:Nat):Int):=by lia
theorem O398 (_:(1:Nat)<=x0) (_:x0<=8) (_:x1=x0) (_:(0:Nat)=x0):False:=by lia
theorem O399 (_:x0<x1+1) (_:¬x0<x1):x0=x1:=by lia
theorem O400 (_:x3=x0) (_:x0-x1<x2+1) (_:x4=x0) (_:x1<x0) (_:x5=x6):x0-(x1+1)<x2:=by lia
theorem O401 (_:x2<=8) (_:x3=x2) (_:x4=x5) (_:x6=x2) (_:x5<x2) (_:x0<=x2) (_:x7=x0) (_:x1<=x0):x0-x1+min x1 x0<=1000:=by lia
theorem O402 {x0 x1:Nat} {y0 y1:Int} (h0:x1=x0) (h1:y1<=(max (1:Int) ((x0:Nat):Int))) (h2:y0<y1):(y0).toNat<=x0:=by lia
theorem O403 (_:(0:Int)<y0):y0≠(0:Int):=by lia
theorem O404:x0-(x1+1)=x0-x1-1:=by lia
theorem O405 (_:x1<x0):x0-(x1+1)<x0-x1:=by lia
theorem O406 (_:x1<x0):x0-x1=x0-x1-1+1:=by lia
theorem O407 (_:x0=x2) (_:¬x1<x2):x0<=x1:=by lia
theorem O408:x0+x1-x1=x0:=by lia
theorem O409 (_:(1:Nat)<=x1) (_:x1<=8) (_:x0<x1) (_:x2=x0):x0<=1000:=by lia
theorem O410 (_:x1=6) (_:x0<x1) (_:x2=x0):x0<=1000:=by lia
theorem O411 (_:x0<6) (_:x1=x0):x0<=1000:=by lia
theorem O412 (_:x1=4) (_:x0<x1) (_:x2=x0):x0<=1000:=by lia
theorem O413 (_:x0=4) (_:((x0:Nat):Int)=(6:Int)):False:=by lia
theorem O414 (_:x0<4) (_:x1=x0):x0<=1000:=by lia
theorem O415 (_:(1:Nat)<=x1) (_:x1<=8) (_:x2=x1) (_:x0<x1) (_:x3=x0):x0<=1000:=by lia
theorem O416 (_:(1:Nat)<=x1) (_:x1<=8) (_:x2=x1) (_:x3=x1) (_:x0<x1) (_:x4=x0):x0<=1000:=by lia
theorem O417 (_:x1<x2) (_:y0=((x3:Nat):Int)) (_:x3<x0):(0:Int)<=y0/\y0<((x0:Nat):Int):=by lia
theorem O418 (_:x0<x1) (_:x0=x1):False:=by lia
theorem O419 (_:x2=x1) (_:x0<x2):x0<x1:=by lia
theorem O420 (_:x1=x0) (_:x0<3):x0<=1000:=by lia
theorem O421 (_:y1=y0):y0<=y1:=by lia
theorem O422 (_:(0:Nat)<x0) (_:x1=x0):x0-1<x0:=by lia
theorem O423:(0:Int)<((x0:Nat):Int)+(1:Int):=by lia
theorem O424 (_:x1<=8) (_:x0+x2=x1) (_:(0:Nat)<x2) (_:x3=x2):x0<=1000:=by lia
theorem O425 {x0 x1 x2 x3 x4:Nat} (h0:x1<=8) (h1:(x2+x3)=x1) (h2:(0:Nat)<x3) (h3:x4=x3) (h4:x0<x3):((x0:Nat):Int)<((2:Int) ^ 63):=by lia
theorem O426 {x0:Nat}:(-((2:Int) ^ 63))<=((x0:Nat):Int):=by lia
theorem O427 {x0 x1 x2 x3:Nat} {y0:Int} (h0:x1<=8) (h1:(x2+x0)=x1) (h2:(0:Nat)<x0) (h3:x3=x0) (h4:y0<((x0:Nat):Int)):(y0).toNat<x0:=by lia
theorem O428 (_:(0:Nat)<x0) (_:x1=x0):((x0:Nat):Int)≠(0:Int):=by lia
theorem O429 (_:(0:Nat)<x0) (_:x1=x0):(0:Int)<((x0:Nat):Int):=by lia
theorem O430 (_:x0+x2<x1):x0<x1:=by lia
theorem O431 (_:x0-x1=x2+1) (_:x1<x0) (_:x1<x3):x0-(x1+1)=x2:=by lia
theorem O432 (_:x1-x0=x2+1) (_:x0<=x1):x0<x1:=by lia
theorem O433 (_:x0-x1=0) (_:x1<=x0):x0=x1:=by lia
theorem O434 (_:x0=x2) (_:x2-x1=0):x0<=x1:=by lia
theorem O435 (_:x2<=x0) (_:x1=x2):¬x0<x1:=by lia
theorem O436 (_:x0<=x1) (_:¬x1=x0):x0<x1:=by lia
theorem O437 (_:x1=x2) (_:x0=x2):¬x0<x1:=by lia
theorem O438 (_:x2<=x1) (_:x0=x2) (_:¬x1=x2):x0<x1:=by lia
theorem O439 (_:x0=x2) (_:x1=x2):¬x0<x1:=by lia
theorem O440 (_:x0-(x1+1)=x2+1) (_:x1+1<x0):x0-(x1+1+1)=x2:=by lia
theorem O441 (_:x1-(x0+1)=x2+1) (_:x0+1<=x1):x0+1<x1:=by lia
theorem O442 (_:x1-(x0+1)=0) (_:x0+1<=x1):x0+1=x1:=by lia
theorem O443 (_:x2=x3) (_:x0=x2) (_:x1=x3):min x0 x1=x2:=by lia
theorem O444 (_:x2<=x1) (_:x2=x0):x0<=x1:=by lia
theorem O445 (_:x0<x1) (_:¬x0+1<x1):x0=x1-1:=by lia
theorem O446 (_:x0<x1) (_:¬x0+1<x1):x0+1=x1:=by lia
theorem O447 (_:(0:Nat)<x0) (_:x1<x0) (_:¬x1+1<x0):x0-1=x1:=by lia
theorem O448 (_:¬x1<=x0):x0<=x1:=by lia
theorem O449 (_:x2<x1) (_:¬x2+x0<x1):x0-(x1-x2)=x2+x0-x1:=by lia
theorem O450 (_:x0<x2) (_:x1<x2) (_:¬x0+x1<x2):x0+x1-x2<x2:=by lia
theorem O451 {x0 x1 x2:Nat} (h0:¬((x0+x1)<x2)):(x0+x1) ≥ x2:=by lia
theorem O452 (_:x2<x1) (_:x0<x1) (_:¬x2+x0<x1):x0-(x1-x2)<x2:=by lia
theorem O453 (_:x1<x0) (_:¬x1+x2<x0):x0-x1<=x2:=by lia
theorem O454 (_:x2<x1) (_:x2+x0<x1):x0<x1-x2:=by lia
theorem O455:x0-x1+min x1 x0=x0:=by lia
theorem O456:x0<x0+1+1:=by lia
theorem O457 (_:x0<x1+1+x2+1):x0<x1+(x2+1)+1:=by lia
theorem O458 (_:x0<(0:Nat)+x1+1) (_:x1<x0):False:=by lia
theorem O459:(0:Nat)+x0=x0:=by lia
theorem O460:x0<x0+1:=by lia
theorem O461 (_:x0=1):(0:Nat)<x0:=by lia
theorem O462 (_:x0<x1):((x0:Nat):Int)<=((x1:Nat):Int):=by lia
theorem O463 (_:x0+(x1-x2)<=x3) (_:x3<=x0) (_:(0:Nat)<x1-x2):False:=by lia
theorem O464 (_:((x1:Nat):Int)=((x0:Nat):Int)):x0=x1:=by lia
theorem O465 (_:x0+x3=x4):x0+x1+(x2+x3)=x2+x1+x4:=by lia
theorem O466 (_:x3<x4) (_:x0+1<=x1):x0+1<=x1+x2:=by lia
theorem O467 (_:x0<=x1) (_:x1<=x0-1) (_:(0:Nat)<x0):False:=by lia
theorem O468 {x0:Nat} {y0:Int} (h0:((0:Int)<=y0)/\(y0<((x0:Nat):Int))):(((y0).toNat:Nat):Int)=y0:=by lia
theorem O469 {x0:Nat} {y0:Int} (h0:((0:Int)<=y0)/\(y0<((x0:Nat):Int))):(y0).toNat<x0:=by lia
theorem O470 (_:((x0:Nat):Int)=((x1:Nat):Int)) (_:x2≠x1) (_:x0=x2):False:=by lia
theorem O471:¬x0<0:=by lia
theorem O472 (_:x1+(x2+1)=x3) (_:x0<x1):x0≠x1:=by lia
theorem O473 (_:x2+(x3+1)=x1) (_:x2<x1) (_:x0<x2):x0<x1:=by lia
theorem O474 (_:x1+(x2+1)=x3) (_:¬x0<x1) (_:¬x0=x1):¬x0<x1+1:=by lia
theorem O475 (_:x1+(x2+1)=x3) (_:x0=x1):x0<x1+1:=by lia
theorem O476 (_:x1+(x2+1)=x3) (_:x0<x1):¬x0=x1:=by lia
theorem O477 (_:x0+(x1+1)=x2):x0+1+x1=x2:=by lia
theorem O478 (_:x0+(x2+1)=x1):x0<x1:=by lia
theorem O479 (_:(1:Nat)<=0):False:=by lia
theorem O480:(2:Nat)<=x0+1+1:=by lia
theorem O481:(1:Nat)<=x0+1:=by lia
theorem O482 {x0 x1 x2 x3 x4:Nat} (h0:x1<=x2) (h1:x1=x3) (h2:x3=x4) (h3:x0<x4) (h4:x2<((2:Nat) ^ 63)):((x0:Nat):Int)<(((2:Int) ^ 63)-(1:Int)):=by lia
theorem O483 (_:x0=x1) (_:x2<x1) (_:x3<=x2) (_:x0-x3=0):False:=by lia
theorem O484 (_:x2<x1) (_:x0<=x2):x0<x1:=by lia
theorem O485 (_:x0=x2) (_:x3<x2) (_:x1<=x3):x0-x1=x0-(x1+1)+1:=by lia
theorem O486 (_:x0+2=x1):x0<=x1:=by lia
theorem O487 (_:x1=x0+2):x0<=x1:=by lia
theorem O488:x0<=x0+2:=by lia
theorem O489:x0+2≠x0:=by lia
theorem O490 (_:x1<x2) (_:x0=x2+2):x0≠x1:=by lia
theorem O491 (_:x0<x1) (_:x0=x1+2):False:=by lia
theorem O492:(0:Int)<((2:Int) ^ 62):=by lia
theorem O493:(-((2:Int) ^ 62))<=(0:Int):=by lia
theorem O494 (_:x0<64):x0<=16777216:=by lia
theorem O495 (_:x0<=x1) (_:¬x0<x1):x0=x1:=by lia
theorem O496 (_:x2=x0) (_:x2<=x1):x0<=x1:=by lia
theorem O497 {x0 x1:Nat} (h0:x0<=x1):¬(x0>x1):=by lia
theorem O498 {x0 x1:Nat} {y0:Int} (h0:((x0:Nat):Int)=y0) (h1:x0<=x1):¬(((x0:Nat):Int)>((x1:Nat):Int)):=by lia
theorem O499 (_:(2:Int)<=y0) (_:y0<(1000:Int)) (_:y0<=(0:Int)):False:=by lia
theorem O500 (_:(2:Int)<=y0) (_:y0<(1000:Int)) (_:y0=(1:Int)):False:=by lia
theorem O501 {y0:Int} (h0:(2:Int)<=y0) (h1:y0<(1000:Int)):¬(y0 ≥ ((2:Int) ^ 63)):=by lia
theorem O502 {y0:Int} (h0:(2:Int)<=y0) (h1:y0<(1000:Int)):¬(y0<(-((2:Int) ^ 63))):=by lia
theorem O503 (_:(2:Int)<=y0) (_:y0<(1000:Int)):(0:Int)<=y0:=by lia
theorem O504 (_:x2=x0) (_:x3=x1) (_:¬x2=x3):x0≠x1:=by lia
theorem O505 (_:x2=x0) (_:x3=x1) (_:x2=x3):x0=x1:=by lia
theorem O506 (_:x1=x2) (_:x0<x1):x0<min x1 x2:=by lia
theorem O507 (_:x1=x2) (_:x0<min x1 x2):x0<x1:=by lia
theorem O508 (_:x3+x4<=x2) (_:x3=x0) (_:x4=x1):x0+x1<=x2:=by lia
theorem O509 {x0 x1 x2:Nat} (h0:x1<((2:Nat) ^ 63)) (h1:x2<=x1) (h2:x2=x0):((x0:Nat):Int)<((2:Int) ^ 63):=by lia
theorem O510 {x0:Nat} {y0:Int} (h0:¬(y0<(0:Int))):(max (0:Int) (min y0 ((x0:Nat):Int)))=(((min (y0).toNat x0):Nat):Int):=by lia
theorem O511 {x0:Nat} {y0:Int} (h0:y0<(0:Int)):(max (0:Int) (min (y0+((x0:Nat):Int)) ((x0:Nat):Int)))=((((y0+((x0:Nat):Int))).toNat:Nat):Int):=by lia
theorem O512 {x0 x1 x2:Nat} {y0:Int} (h0:x0<=x1) (h1:(-((x0:Nat):Int))<=y0) (h2:x0=x2) (h3:x1<((2:Nat) ^ 63)):(-((2:Int) ^ 63))<=y0:=by lia
theorem O513 (_:¬(0:Int)<=y0):y0<(0:Int):=by lia
theorem O514 {x0 x1 x2:Nat} {y0:Int} (h0:x0<=x1) (h1:y0<((x0:Nat):Int)) (h2:x0=x2) (h3:x1<((2:Nat) ^ 63)):y0<((2:Int) ^ 63):=by lia
theorem O515 {x0 x1 x2 x3:Nat} {y0:Int} (h0:x0<=x1) (h1:x2<x0) (h2:y0<((x0:Nat):Int)) (h3:x0=x3) (h4:x1<((2:Nat) ^ 63)):y0<((2:Int) ^ 63):=by lia
theorem O516 {x0 x1 x2 x3:Nat} {y0:Int} (h0:x0<=x1) (h1:x2<x0) (h2:(-((x0:Nat):Int))<=y0) (h3:x0=x3) (h4:x1<((2:Nat) ^ 63)):(-((2:Int) ^ 63))<=y0:=by lia
theorem O517 {x0 x1:Nat} {y0:Int} (h0:(-((x1:Nat):Int))<=y0) (h1:x1=x0):(-((x0:Nat):Int))<=y0:=by lia
theorem O518 {x0:Nat} {y0:Int} (h0:¬((0:Int)<=y0)) (h1:(-((x0:Nat):Int))<=y0):y0<((x0:Nat):Int):=by lia
theorem O519 {x0 x1:Nat} {y0:Int} (h0:¬((0:Int)<=y0)) (h1:(-((x1:Nat):Int))<=y0) (h2:((y0+((x1:Nat):Int))).toNat=x0):x0<x1:=by lia
theorem O520 {x0:Nat} {y0:Int} (h0:(0:Int)<=y0):(-((x0:Nat):Int))<=y0:=by lia
theorem O521 {x0 x1:Nat} {y0:Int} (h0:(0:Int)<=y0) (h1:y0<((x1:Nat):Int)) (h2:(y0).toNat=x0):x0<x1:=by lia
theorem O522:min (x0-x1) (x2-x1)<=x2:=by lia
theorem O523:¬((x0:Nat):Int)<(0:Int):=by lia
theorem O524 (_:x0=x2) (_:x2<=x1):x0+(x1-x0)=x1:=by lia
theorem O525 (_:x0+(16:Nat)*(x1+1)+200<x2):x0+3+(16:Nat)*x1+200<x2:=by lia
theorem O526 (_:x0+(3:Nat)*(x1+1)+5<x2):x0+1+(3:Nat)*x1+5<x2:=by lia
theorem O527 {x0 x1 x2:Nat} (h0:x1=16777216) (h1:x2<=x1) (h2:x2=x0):((x0:Nat):Int)<((2:Int) ^ 63):=by lia
theorem O528 {x0 x1:Nat} (h0:x1=16777216) (h1:x0<=x1):¬(((x0:Nat):Int) ≥ ((2:Int) ^ 63)):=by lia
theorem O529 (_:(0:Int)<y0):(0:Int)<=y0:=by lia
theorem O530 (_:(0:Int)<y0) (_:y0<(1073741824:Int)):(0:Int)<=y0:=by lia
theorem O531 (_:(0:Int)<y0) (_:y0<(1073741824:Int)):y0≠(0:Int):=by lia
end

namespace L2
open PySem PySem.Spec PyProof.Rows
noncomputable abbrev Key:=Sum Int Str
noncomputable def Zlb:Key->Value->Bool
 | .inl k,v=>Value.isInt k v
 | .inr x,v=>Value.isStrOf x v
noncomputable def Zni (w:World):Key->Int
 | .inl k=>hashInt k
 | .inr x=>hashStr w x
theorem Yb:∀ {k:Key} {v:Value},Zlb k v=true->(∃ i t,k=Sum.inl i/\v=Value.int i t)\/(∃ x t,k=Sum.inr x/\v=Value.str x t)
 | .inl i,v,h=>by
  obtain ⟨t,e⟩:=Value.isInt_shape (k:=i) (v:=v) h;exact .inl ⟨i,t,rfl,e⟩
 | .inr x,v,h=>by
  obtain ⟨t,e⟩:=Value.isStrOf_shape (x:=x) (v:=v) h;exact .inr ⟨x,t,rfl,e⟩
theorem ZlW (a b:Int):decide ((Sum.inl a:Key)=Sum.inl b)=(a==b):=by
 by_cases e:a=b
 ·subst e; simp
 ·have h:¬ (Sum.inl a:Key)=Sum.inl b:=fun q=>e (Sum.inl.inj q)
  rw [QZi h];exact (beq_eq_false_iff_ne.mpr e).symm
theorem ZlT (a b:Str):decide ((Sum.inr a:Key)=Sum.inr b)=decide (a=b):=by
 by_cases e:a=b
 ·subst e; simp
 ·have h:¬ (Sum.inr a:Key)=Sum.inr b:=fun q=>e (Sum.inr.inj q)
  rw [QZi h,QZi e]
theorem ZlV (a:Int) (b:Str):decide ((Sum.inl a:Key)=Sum.inr b)=false:=QZi (fun q=>nomatch q)
theorem ZlU (a:Str) (b:Int):decide ((Sum.inr a:Key)=Sum.inl b)=false:=QZi (fun q=>nomatch q)
noncomputable def ZeA (prog:Program) (w:World):PySem.KeyKind prog w Key where
 is:=Zlb
 hash:=Zni w
 inj:=fun v a b ha hb=>by
  rcases Yb ha with ⟨i,t,rfl,rfl⟩ | ⟨x,t,rfl,rfl⟩
  ·rcases Yb hb with ⟨j,u,rfl,e⟩ | ⟨y,u,rfl,e⟩
   ·injection e with e1 _; rw [e1]
   ·exact nomatch e
  ·rcases Yb hb with ⟨j,u,rfl,e⟩ | ⟨y,u,rfl,e⟩
   ·exact nomatch e
   ·injection e with e1 _; rw [e1]
 byValue:=fun k v h=>by
  rcases Yb h with ⟨i,t,rfl,rfl⟩ | ⟨x,t,rfl,rfl⟩ <;> rfl
 pyHash:=fun hv h=>by
  rcases Yb hv with ⟨i,t,rfl,rfl⟩ | ⟨x,t,rfl,rfl⟩
  ·exact wpAny_pyHash_int h
  ·exact wpAny_pyHash_str h
 eqBool:=fun hu hv h=>by
  rcases Yb hu with ⟨i,t,rfl,rfl⟩ | ⟨x,t,rfl,rfl⟩
  ·rcases Yb hv with ⟨j,u,rfl,rfl⟩ | ⟨y,u,rfl,rfl⟩
   ·rw [ZlW] at h; exact wpAny_eqBool_int h
   ·rw [ZlV] at h; exact SeqAt.EqAt.int_str i t y u _ _ _ _ h
  ·rcases Yb hv with ⟨j,u,rfl,rfl⟩ | ⟨y,u,rfl,rfl⟩
   ·rw [ZlU] at h; exact SeqAt.EqAt.str_int x t j u _ _ _ _ h
   ·rw [ZlT] at h; exact wpAny_eqBool_str h
 «strs»:=fun k x t v h=>by
  rcases Yb h with ⟨i,u,rfl,e⟩ | ⟨y,u,rfl,e⟩
  ·exact nomatch e
  ·injection e with e1 _
   subst e1
   cases v <;> rfl
end L2
namespace L2
open PySem PySem.Spec PyProof.Rows
inductive V where
 | non | bl (b:Bool) | int (i:Int) | str (x:Str) | byt (b:Array UInt8) | flt (b:UInt64) | ref (a:Addr) | ty (n:String)
 deriving DecidableEq
noncomputable def RelV:V->Value->Prop
 | .non,u=>u=Value.none
 | .bl b,u=>u=Value.bool b
 | .int i,u=>∃ t,u=Value.int i t
 | .str x,u=>∃ t,u=Value.str x t
 | .byt b,u=>∃ t,u=Value.bytes b t
 | .flt b,u=>∃ t,u=Value.float b t
 | .ref a,u=>u=Value.ref a
 | .ty n,u=>u=Value.type n
noncomputable abbrev Vals:List V->List Value->Prop:=Paired RelV
theorem Vals.length {xs:List V} {us:List Value} (r:Vals xs us):xs.length=us.length:=Paired.length r
theorem Vals.get:∀ {xs:List V} {us:List Value} {i:Nat} {x:V},Vals xs us->xs[i]? = some x->∃ u,us[i]? = some u/\RelV x u
 | _,_,_,_,.nil,e=>by simp at e
 | _,_,0,_,.cons r _,e=>by simp at e; subst e; exact ⟨_,rfl,r⟩
 | _,_,i+1,x,.cons _ t,e=>by
  obtain ⟨u,h1,h2⟩:=Vals.get (i:=i) (x:=x) t (by simpa using e);exact ⟨u,by simpa using h1,h2⟩
theorem Vals.set {x:V} {u:Value} (r:RelV x u):∀ {xs:List V} {us:List Value} (i:Nat),Vals xs us->Vals (xs.set i x) (us.set i u)
 | _,_,_,.nil=>.nil
 | _,_,0,.cons _ t=>.cons r t
 | _,_,i+1,.cons q t=>.cons q (Vals.set r i t)
theorem Vals.append:∀ {xs ys:List V} {us ws:List Value},Vals xs us->Vals ys ws->Vals (xs++ys) (us++ws)
 | _,_,_,_,.nil,s=>s
 | _,_,_,_,.cons r t,s=>.cons r (Vals.append t s)
theorem Vals.take:∀ {xs:List V} {us:List Value} (n:Nat),Vals xs us->Vals (xs.take n) (us.take n)
 | _,_,0,_=>.nil
 | _,_,_+1,.nil=>.nil
 | _,_,n+1,.cons r t=>.cons r (Vals.take n t)
theorem Vals.drop:∀ {xs:List V} {us:List Value} (n:Nat),Vals xs us->Vals (xs.drop n) (us.drop n)
 | _,_,0,r=>r
 | _,_,_+1,.nil=>.nil
 | _,_,n+1,.cons _ t=>Vals.drop n t
noncomputable def Zmb:Option V->Option Value->Prop
 | some v,some u=>RelV v u
 | none,none=>True
 | _,_=>False
noncomputable def KV {κ:Type}:List (κ × V)->List (κ × Value)->Prop:=Paired fun (p:κ × V) (q:κ × Value)=>p.1=q.1/\RelV p.2 q.2
noncomputable def kV:Key->V
 | .inl i=>.int i
 | .inr x=>.str x
inductive HO where
  | lst (xs:List V)
  | tup (xs:List V)
  | dK (kvs:List (Key × V)) | dT (kvs:List (List Key × V))
  | set (S:Int->Bool) (n:Nat)
  | ins (C dx:Addr) (fs:List (Str × V))
  | own (x:Addr)
  | xd (fs:List (Str × V))
  | met (f x:Addr)
  | rng (lo hi:Int)
  | frz (o:Obj) (u:HO)
  | tbl (ps:Array Value)
  | ext (φ:Heap->Prop)
noncomputable abbrev Hp:=Addr->Option HO
noncomputable def upd (H:Hp) (a:Addr) (o:HO):Hp:=fun b=>if b=a then some o else H b
theorem Zb {H:Hp} {a:Addr} {o:HO}:upd H a o a=some o:=by unfold upd; rw [if_pos rfl]
theorem Zg {H:Hp} {a b:Addr} {o:HO} (h:b≠a):upd H a o b=H b:=by unfold upd; rw [if_neg h]
theorem JH {H:Hp} {a b:Addr} {o u:HO} (h:H a=some o) (h':H b=some u) (d:o≠u):a≠b:=by
 intro e; subst e; rw [h] at h'; exact d (QZl h')
theorem Zi {H:Hp} {a b:Addr} {o:HO} (h:H a=some o) (h':H b=none):a≠b:=by
 intro e; subst e; rw [h] at h'; cases h'
noncomputable def IsTupN (h:Heap) (a:Addr) (items:Array Value):Prop:=∃ o,h.get? a=some o/\o.cls = .type "tuple" /\ ∃ n,(o.data,o.dict)=(.seq items n,none)
theorem IsTupN.is {h:Heap} {a:Addr} {items:Array Value} (x:IsTupN h a items):IsTup h a items:=let ⟨o,g,c,n,e⟩:=x; ⟨o,g,c,n,congrArg Prod.fst e⟩
theorem IsTupN.bare {h:Heap} {a:Addr} {items:Array Value} (x:IsTupN h a items):∃ o,h.get? a=some o/\o.dict=none:=let ⟨o,g,_,_,e⟩:=x; ⟨o,g,congrArg Prod.snd e⟩
theorem IsTupN.new (h:Heap) (items:Array Value):IsTupN (h.push { cls:=.type "tuple",data:=.seq items }) h.objs.size items:=⟨_,QAy _ rfl,rfl,_,rfl⟩
section
variable (P:Program) (w:World)
noncomputable def ObjOk (H:Hp) (h:Heap) (a:Addr):HO->Prop
 | .lst xs=>xs.length<=sizeLine/\∃ (its:List Value) (n:Nat),Vals xs its/\h.get? a=some { cls:=.type "list",data:=.seq its.toArray n }
 | .tup xs=>xs.length<=sizeLine/\∃ its:List Value,Vals xs its/\IsTupN h a its.toArray
 | .dK kvs=>kvs.length<=sizeLine/\(a==sysModules)=false/\∃ vs,KV kvs vs/\h.DictOf (ZeA P w) a vs
 | .dT kvs=>kvs.length<=sizeLine/\(a==sysModules)=false/\∃ xs:List (List Key × Addr × Value),
   Paired (fun (p:List Key × V) (q:List Key × Addr × Value)=>p.1=q.1/\H q.2.1=some (.tup (p.1.map kV))/\RelV p.2 q.2.2) kvs xs /\
   ∃ o es ep,h.get? a=some o/\o.ExactDict/\o.data = .dict es ep/\es.toList=xs.map (entryOfKey (tupleKind (ZeA P w)))/\(xs.map (·.1)).Nodup
 | .set S n=>h.SetOf (intKind P w) a S n
 | .ins C dx fs=>H dx=some (.own a)/\fs.length<=1000/\dx≠a/\h.get? a=some (PySem.W.instObj C dx) /\
   ∃ mA,h.Ns1 dx mA/\(∀ f,Zmb (fs.lookup f) (mA f))/\PySem.Within mA (fs.map (·.1))
 | .own _=>∃ o,h.get? a=some o
 | .xd fs=>∃ mA,h.Ns1 a mA/\∀ f,Zmb (fs.lookup f) (mA f)
 | .rng lo hi=>∃ t u v,h.get? a=some { cls:=.type "range",data:=.fields #[.int lo t,.int hi u,.int 1 v] }
 | .frz o u=>h.get? a=some o/\ObjOk H h a u
 | .tbl ps=>∃ qs:Array Value,h.get? a=some { cls:=.none,data:=.fields qs }/\TriplesOk qs.toList/\∀ pos cv,codeAmong pos qs.toList=some cv->∃ (c':Addr) (oc:Obj) (vs:Array Value) (q:Str) (t:Tok),cv = .ref c'/\H c'=some (.own a)/\h.get? c'=some oc/\oc.data = .fields vs/\vs[1]? = some (.str q t)/\ps = #[.str q 0]
 | .met f x=>h.get? a=some (PySem.W.methodObj (.ref f) (.ref x))
 | .ext φ=>φ h/\(∃ o,h.get? a=some o)/\∀ h1 h2:Heap,φ h1->(∀ o,h1.get? a=some o->h2.get? a=some o)->φ h2
noncomputable def HOk (H:Hp) (h:Heap):Prop:=∀ a o,H a=some o->ObjOk P w H h a o
end
section
variable {P:Program} {w:World} {H H':Hp} {h h':Heap} {a:Addr} {o:HO}
theorem ObjOk.lt (x:ObjOk P w H h a o):a<h.objs.size:=by
 cases o with
 | lst xs=>obtain ⟨_,_,_,_,e⟩:=x; exact QAi e
 | tup xs=>obtain ⟨_,_,_,p⟩:=x; exact IsTup.lt (IsTupN.is p)
 | dK kvs=>obtain ⟨_,_,_,_,o,_,_,e,_⟩:=x; exact QAi e
 | dT kvs=>obtain ⟨_,_,_,_,o,_,_,e,_⟩:=x; exact QAi e
 | set S n=>obtain ⟨o,_,_,_,e,_⟩:=x; exact QAi e
 | ins C dx fs=>obtain ⟨_,_,_,e,_⟩:=x; exact QAi e
 | own y=>obtain ⟨_,e⟩:=x; exact QAi e
 | xd fs=>obtain ⟨_,⟨_,_,_,e,_⟩,_⟩:=x; exact QAi e
 | rng lo hi=>obtain ⟨_,_,_,e⟩:=x; exact QAi e
 | frz ob u=>obtain ⟨e,_⟩:=x; exact QAi e
 | tbl ps=>obtain ⟨_,e,_⟩:=x; exact QAi e
 | met f y=>exact QAi (show h.get? a=some _ from x)
 | ext φ=>obtain ⟨_,⟨_,e⟩,_⟩:=x; exact QAi e
theorem Paired.mapP {α β:Type} {F G:α->β->Prop}:∀ {l₁:List α} {l₂:List β},Paired F l₁ l₂->(∀ a b,F a b->G a b)->Paired G l₁ l₂
 | _,_,.nil,_=>.nil
 | _,_,.cons r t,f=>.cons (f _ _ r) (Paired.mapP t f)
theorem ObjOk.stay (x:ObjOk P w H h a o) (k:∀ b u,(b=a\/H b=some (.own a))->h.get? b=some u->h'.get? b=some u)
  (ho:∀ b,H b=some (.own a)->H' b=some (.own a)) (ht:∀ b xs,H b=some (.tup xs)->H' b=some (.tup xs)):ObjOk P w H' h' a o:=by
 induction o with
 | lst xs=>obtain ⟨z,its,n,r,e⟩:=x; exact ⟨z,its,n,r,k _ _ (.inl rfl) e⟩
 | tup xs=>obtain ⟨z,its,r,ob,e,c⟩:=x; exact ⟨z,its,r,ob,k _ _ (.inl rfl) e,c⟩
 | dK kvs=>obtain ⟨z,y,vs,r,ob,es,ep,e,c⟩:=x; exact ⟨z,y,vs,r,ob,es,ep,k _ _ (.inl rfl) e,c⟩
 | dT kvs =>
  obtain ⟨z,y,xs,r,ob,es,ep,e,c⟩:=x;exact ⟨z,y,xs,Paired.mapP r fun p q z=>⟨z.1,ht _ _ z.2.1,z.2.2⟩,ob,es,ep,k _ _ (.inl rfl) e,c⟩
 | set S n=>obtain ⟨ob,es,ep,t,e,c⟩:=x; exact ⟨ob,es,ep,t,k _ _ (.inl rfl) e,c⟩
 | ins C dx fs =>
  obtain ⟨d,z,ne,e,mA,⟨od,es,ep,e2,c⟩,r⟩:=x;exact ⟨ho _ d,z,ne,k _ _ (.inl rfl) e,mA,⟨od,es,ep,k _ _ (.inr d) e2,c⟩,r⟩
 | own y=>obtain ⟨ob,e⟩:=x; exact ⟨ob,k _ _ (.inl rfl) e⟩
 | xd fs=>obtain ⟨mA,⟨od,es,ep,e,c⟩,r⟩:=x; exact ⟨mA,⟨od,es,ep,k _ _ (.inl rfl) e,c⟩,r⟩
 | rng lo hi=>obtain ⟨t,u,v,e⟩:=x; exact ⟨t,u,v,k _ _ (.inl rfl) e⟩
 | frz ob u ih=>obtain ⟨e,q⟩:=x; exact ⟨k _ _ (.inl rfl) e,ih q⟩
 | tbl ps =>
  obtain ⟨qs,e,tr,al⟩:=x;refine ⟨qs,k a _ (.inl rfl) e,tr,fun pos cv hq=>?_⟩;obtain ⟨c',oc,vs,q,t,e1,e2,e3,r⟩:=al pos cv hq;exact ⟨c',oc,vs,q,t,e1,ho _ e2,k _ _ (.inr e2) e3,r⟩
 | met f y =>
  have e:h.get? a=some (PySem.W.methodObj (.ref f) (.ref y)):=x;show h'.get? a=some (PySem.W.methodObj (.ref f) (.ref y));exact k a _ (.inl rfl) e
 | ext φ=>obtain ⟨p,⟨o,e⟩,st⟩:=x; exact ⟨st _ _ p fun o q=>k _ _ (.inl rfl) q,⟨o,k _ _ (.inl rfl) e⟩,st⟩
theorem HOk.lt (x:HOk P w H h) (e:H a=some o):a<h.objs.size:=(x a o e).lt
theorem HOk.fresh (x:HOk P w H h) (e:h.objs.size<=a):H a=none:=by
 cases q:H a with
 | none=>rfl
 | some u=>exact absurd (QBb (x.lt q) e) (QCe _)
theorem HOk.kept (x:HOk P w H h) (k:∀ b u,h.get? b=some u->h'.get? b=some u):HOk P w H h':=fun a o e =>
 (x a o e).stay (fun b u _ q=>k b u q) (fun _ q=>q) fun _ _ q=>q
theorem HOk.laid (x:HOk P w H h) (k:∀ b u,h.get? b=some u->h'.get? b=some u) (hp:h.objs.size<=a) (new:ObjOk P w (upd H a o) h' a o):HOk P w (upd H a o) h':=fun b u e=>by
 have hn:=x.fresh hp
 by_cases hb:b=a
 ·subst hb; rw [Zb] at e; cases e; exact new
 ·rw [Zg hb] at e;exact (x b u e).stay (fun c v _ q=>k c v q) (fun c q=>by rw [Zg (Zi q hn)]; exact q) fun c xs q=>by rw [Zg (Zi q hn)]; exact q
end
noncomputable def Rd (H:Hp) (a:Addr) (u:HO):Prop:=H a=some u\/∃ o,H a=some (.frz o u)
theorem Rd.ok {P:Program} {w:World} {H:Hp} {h:Heap} {a:Addr} {u:HO} (r:Rd H a u) (x:HOk P w H h):ObjOk P w H h a u:=by
 rcases r with r | ⟨o,r⟩
 ·exact x a u r
 ·obtain ⟨_,q⟩:=x a _ r;exact q
noncomputable def Mut:Option HO->Prop
 | some (.lst _)=>True
 | some (.dK _)=>True
 | some (.dT _)=>True
 | some (.set _ _)=>True
 | some (.ins _ _ _)=>True
 | some (.ext _)=>True
 | _=>False
section
variable {P:Program} {w:World} {H:Hp} {h h':Heap} {x e:Addr} {o':HO}
theorem HOk.write (ok:HOk P w H h) (mu:Mut (H x)) (he:e=x\/H e=some (.own x)) (k:∀ b u,b≠e->h.get? b=some u->h'.get? b=some u) (heo:∃ u,h'.get? e=some u)
  (new:ObjOk P w (upd H x o') h' x o'):HOk P w (upd H x o') h':=fun b u q=>by
 have nown:∀ c y,H c=some (.own y)->c≠x:=fun c y r z=>by subst z; rw [r] at mu; exact mu
 have ntup:∀ c xs,H c=some (.tup xs)->c≠x:=fun c xs r z=>by subst z; rw [r] at mu; exact mu
 by_cases hb:b=x
 ·subst hb; rw [Zb] at q; cases q; exact new
 ·rw [Zg hb] at q
  by_cases hbe:b=e
  ·have q':H b=some (.own x):=by
    rcases he with z | z
    ·exact absurd (hbe.trans z) hb
    ·rw [hbe]; exact z
   rw [q] at q'; cases q';obtain ⟨v,hv⟩:=heo;exact ⟨v,by rw [hbe]; exact hv⟩
  ·refine (ok b u q).stay (fun c v hc r=>k c v ?_ r) (fun c r=>by rw [Zg (nown c b r)]; exact r) fun c xs r=>by rw [Zg (ntup c xs r)]; exact r
   rcases hc with rfl | hc
   ·exact hbe
   ·rintro rfl
    rcases he with z | z
    ·exact nown c b hc z
    ·rw [hc] at z; cases z; exact hb rfl
end
structure Un (fs ex:List Addr) (H H':Hp) (h h':Heap):Prop where
 keep:∀ b o,h.get? b=some o->H b=none->b∉fs->b∉ex->h'.get? b=some o
 slot:∀ b o,h.get? b=some o->H b=none->b∈fs->b∉ex->∃ sl,h'.get? b=some { o with slots:=sl }
 free:∀ b o,h.get? b=some o->H b=none->b∉ex->H' b=none
 there:∀ b o,h.get? b=some o->b∉ex->∃ o',h'.get? b=some o'
 tups:∀ b xs,H b=some (.tup xs)->H' b=some (.tup xs)
 frzs:∀ b o u,H b=some (.frz o u)->H' b=some (.frz o u)
 tbls:∀ b ps,H b=some (.tbl ps)->∃ more,H' b=some (.tbl (ps++more))
section
variable {fs fs' ex ex':List Addr} {H H1 H2:Hp} {h h1 h2 h':Heap} {a x e:Addr} {o:HO}
theorem Un.any (u:Un fs ex H H1 h h1) {b:Addr} {ob:Obj} (q:h.get? b=some ob) (n:H b=none) (hx:b∉ex):∃ sl,h1.get? b=some { ob with slots:=sl }:=by
 by_cases hb:b∈fs
 ·exact u.slot b ob q n hb hx
 ·exact ⟨ob.slots,u.keep b ob q n hb hx⟩
theorem Un.kept (k:∀ b u,h.get? b=some u->h'.get? b=some u):Un fs ex H H h h' :=
 ⟨fun b ob q _ _ _=>k b ob q,fun b ob q _ _ _=>⟨ob.slots,k b ob q⟩,fun _ _ _ n _=>n,fun b ob q _=>⟨ob,k b ob q⟩,fun _ _ q=>q,fun _ _ _ q=>q,fun _ ps q=>⟨#[],by rw [q]; simp⟩⟩
theorem Un.refl:Un fs ex H H h h:=Un.kept fun _ _ q=>q
theorem Un.laid (k:∀ b u,h.get? b=some u->h'.get? b=some u) (hp:h.objs.size<=a) (hn:H a=none):Un fs ex H (upd H a o) h h' where
 keep:=fun b u q _ _ _=>k b u q
 slot:=fun b u q _ _ _=>⟨u.slots,k b u q⟩
 free:=fun b u q n _=>by rw [Zg (QAz (QBb (QAi q) hp))]; exact n
 there:=fun b u q _=>⟨u,k b u q⟩
 tups:=fun b xs q=>by rw [Zg (Zi q hn)]; exact q
 frzs:=fun b u xs q=>by rw [Zg (Zi q hn)]; exact q
 tbls:=fun b ps q=>⟨#[],by rw [Zg (Zi q hn),q]; simp⟩
theorem Un.write (mu:Mut (H x)) (he:e=x\/H e=some (.own x)) (k:∀ b u,b≠e->h.get? b=some u->h'.get? b=some u) (heo:∃ u,h'.get? e=some u):Un fs ex H (upd H x o) h h':=by
 have hx:∀ b,H b=none->b≠x:=fun b n z=>by subst z; rw [n] at mu; exact mu
 have hb:∀ b,H b=none->b≠e:=fun b n z=>by
  subst z
  rcases he with r | r
  ·exact hx b n r
  ·rw [n] at r; cases r
 have hm:∀ b u,H b=some u->¬ Mut (some u)->b≠x:=fun b u q nm z=>by subst z; rw [q] at mu; exact nm mu
 refine ⟨fun b u q n _ _=>k b u (hb b n) q,fun b u q n _ _=>⟨u.slots,k b u (hb b n) q⟩,fun b u q n _=>by rw [Zg (hx b n)]; exact n,fun b u q _=>?_,
  fun b xs q=>by rw [Zg (hm b _ q fun z=>z)]; exact q,fun b u xs q=>by rw [Zg (hm b _ q fun z=>z)]; exact q,fun b ps q=>⟨#[],by rw [Zg (hm b _ q fun z=>z),q]; simp⟩⟩
 by_cases hbe:b=e
 ·subst hbe; exact heo
 ·exact ⟨u,k b u hbe q⟩
end
noncomputable def trk (h:Heap) (H:Hp):List Addr:=(List.range h.objs.size).filter fun a=>(H a).isSome
noncomputable def ZeE (h:Heap) (H:Hp):Heap:=PySem.W.hideAll h (trk h H)
theorem Zij (h:Heap) (H:Hp):(ZeE h H).objs.size=h.objs.size:=PySem.W.hideAll_size _ _
theorem Zjv {h:Heap} {H:Hp} {b:Addr} {o:Obj} (e:h.get? b=some o) (n:H b=none):(ZeE h H).get? b=some o :=
 PySem.W.hideAll_get _ e fun hm=>by
  have q:(H b).isSome=true:=(QZo.mp hm).2;rw [n] at q; simp at q
theorem Zkv {h:Heap} {H:Hp} {b:Addr} {o:Obj} (e:(ZeE h H).get? b=some o):h.get? b=some o/\H b=none:=by
 have e':h.get? b=some o:=PySem.W.of_hideAll (trk h H) e;refine ⟨e',?_⟩
 cases q:H b with
 | none=>rfl
 | some x =>
  have hm:b∈trk h H:=QZo.mpr ⟨QZe.mpr (QAi e'),by simp [q]⟩;have z:(ZeE h H).get? b=none:=PySem.W.hideAll_none (trk h H) hm;rw [z] at e; cases e
end L2
namespace L2
open PySem PySem.Spec PyProof.Rows
structure Mod (K:QZa) (mg:Str->Option Value) (base:Heap):Prop where
 kin:K.In base
 glob:base.Ns mainGlobals mg
 blt:∃ mb,base.Ns builtinsNs mb/\∀ x:Str,x ≠ "__name__" -> mb x=bootBuiltins x
 nolimit:base.NoLimit
structure Cx where
 prog:Program
 w:World
 K:QZa
 mg:Str->Option Value
 base:Heap
 A:Around
 N:List Str
 s₀:Shared
 H₀:Hp
 env:Env
 outer:List Env
 stack:List Env
 ex:List Addr
 fn:Str->Bool
 calm:Bool
 pn:List (Addr × Obj)
 xe:Value->Shared->Prop
noncomputable def frs (l:List Env):List Addr:=l.filterMap (·.frame)
noncomputable abbrev Cx.fs (X:Cx):List Addr:=frs X.outer
noncomputable def Vis (sc:Scope) (x:Str):Prop:=sc.names.lookup x=some .local\/sc.names.lookup x=some .cell\/sc.names.lookup x=some .free
noncomputable def Loc (sc:Scope) (x:Str):Prop:=sc.names.lookup x=some .local\/sc.names.lookup x=some .cell
noncomputable def Znq (env:Env) (h:Heap) (m:Str->Option Value) (x:Str) (u:Value):Prop :=
 (env.kindOf x=some .local/\m x=some u)\/((env.kindOf x=some .cell\/env.kindOf x=some .free)/\∃ c,env.cells.lookup x=some c/\h.IsCell c (some u))
structure Cx.Ok (X:Cx):Prop where
 mod:Mod X.K X.mg X.base
 kind:X.env.scope.kind = .function
 glob:X.env.globals=mainGlobals
 blt:X.env.builtins=builtinsNs
 above:X.s₀.heap.objs.size<=X.env.locals
 inj:∀ x y c,X.env.cells.lookup x=some c->X.env.cells.lookup y=some c->x=y
 has:∀ x,(X.env.kindOf x=some .cell\/X.env.kindOf x=some .free)->∃ c,X.env.cells.lookup x=some c
 cab:∀ x c,X.fn x=true->X.env.cells.lookup x=some c->X.s₀.heap.objs.size<=c
 hd:X.calm=true->X.A.handled=none
 frames:X.A.frames=some X.stack
 stk:X.stack=X.outer\/(X.stack=X.env::X.outer/\X.env.frame=some X.env.locals)
 exf:∀ b∈X.ex,b≠X.env.locals/\∀ x c,X.env.cells.lookup x=some c->c≠b
 bs:∀ b o,X.base.get? b=some o->X.s₀.heap.get? b=some o/\X.H₀ b=none
 bsz:X.base.objs.size<=X.s₀.heap.objs.size
 noex:∀ b o,X.base.get? b=some o->b∉X.ex
 exfs:∀ b∈X.ex,b∉X.fs
 funs:X.s₀.heap.FunFrames X.base X.outer
 frf:∀ b∈X.fs,X.H₀ b=none
structure Inv (X:Cx) (pins:List (Addr × Obj)) (σ:List (Option V)) (H:Hp) (s:Shared):Prop where
 ok:X.Ok
 os:s.os=X.s₀.os
 bare:AllBare s.gens
 base:Un X.fs X.ex X.H₀ H X.s₀.heap s.heap
 loc:∃ m,s.heap.Ns X.env.locals m/\∀ (i:Nat) (x:Str) (v:V),X.N[i]? = some x->σ[i]? = some (some v)->Vis X.env.scope x->∃ u,RelV v u/\Znq X.env s.heap m x u
 cell:∀ x c,X.env.cells.lookup x=some c->∃ v,s.heap.IsCell c v
 free:H X.env.locals=none
 freeC:∀ x c,X.env.cells.lookup x=some c->H c=none
 pin:∀ p∈X.pn++pins,s.heap.get? p.1=some p.2/\H p.1=none/\p.1≠X.env.locals/\p.1∉X.fs/\∀ v,p.2.data ≠ .cell v
 hok:HOk X.prog X.w H s.heap
 len:σ.length=X.N.length
section
variable {X:Cx} {pins:List (Addr × Obj)} {σ:List (Option V)} {H H':Hp} {s:Shared} {h':Heap}
theorem Cx.Ok.nofr (ok:X.Ok) {b:Addr} {o:Obj} (e:X.base.get? b=some o):b∉X.fs:=fun hb=>by
 have:=(ok.funs.mem hb).1;rw [e] at this; cases this
theorem Inv.bs (I:Inv X pins σ H s):∀ b o,X.base.get? b=some o->s.heap.get? b=some o/\H b=none:=fun b o e =>
 ⟨I.base.keep b o (I.ok.bs b o e).1 (I.ok.bs b o e).2 (I.ok.nofr e) (I.ok.noex b o e),I.base.free b o (I.ok.bs b o e).1 (I.ok.bs b o e).2 (I.ok.noex b o e)⟩
theorem Inv.bk (I:Inv X pins σ H s):∀ b o,X.base.get? b=some o->s.heap.get? b=some o:=fun b o e=>(I.bs b o e).1
theorem Inv.mod (I:Inv X pins σ H s):Mod X.K X.mg X.base:=I.ok.mod
theorem Inv.kIn (I:Inv X pins σ H s):X.K.In s.heap:=I.ok.mod.kin.keeps I.bk
theorem Inv.lt (I:Inv X pins σ H s):X.env.locals<s.heap.objs.size:=let ⟨_,hn,_⟩:=I.loc; hn.lt
theorem Inv.sz (I:Inv X pins σ H s):X.s₀.heap.objs.size<=s.heap.objs.size:=QAs I.ok.above (QBz I.lt)
theorem Inv.nofs (I:Inv X pins σ H s) {a:Addr} (h:s.heap.objs.size<=a):a∉X.fs:=fun hb=>by
 obtain ⟨_,o,ho,_⟩:=I.ok.funs.mem hb;exact absurd (QBb (QAi ho) (QAs I.sz h)) (QCe _)
theorem Inv.cne (I:Inv X pins σ H s):∀ x c,X.env.cells.lookup x=some c->c≠X.env.locals:=fun x c e z=>by
 obtain ⟨v,o,ho,hd⟩:=I.cell x c e;obtain ⟨m,⟨o',es,ep,ho',hd',_⟩,_⟩:=I.loc;rw [z,ho'] at ho; cases ho; rw [hd'] at hd; cases hd
theorem Inv.funs (I:Inv X pins σ H s):s.heap.FunFrames X.base X.outer:=by
 have all:∀ (l:List Env),(∀ b∈frs l,b∈X.fs)->X.s₀.heap.FunFrames X.base l->s.heap.FunFrames X.base l:=by
  intro l
  induction l with
  | nil=>intro _ _; trivial
  | cons env r ih =>
   intro hs hl;obtain ⟨hk,⟨L,o,hf,hn,ho,hd⟩,hr⟩:=hl;have hL:L∈X.fs:=hs L (by unfold frs; rw [QDk,hf]; exact QAj);obtain ⟨sl,e⟩:=I.base.slot L o ho (I.ok.frf L hL) hL fun z=>I.ok.exfs L z hL
   exact ⟨hk,⟨L,_,hf,hn,e,hd⟩,ih (fun b hb=>hs b (by unfold frs; rw [QDk,hf]; exact QAm _ hb)) hr⟩
 exact all X.outer (fun _ hb=>hb) I.ok.funs
theorem Inv.stack (I:Inv X pins σ H s):s.heap.FunFrames X.base X.stack:=by
 rcases I.ok.stk with e | ⟨e,hf⟩
 ·rw [e]; exact I.funs
 ·rw [e];obtain ⟨m,hn,_⟩:=I.loc;refine .cons (by rw [I.ok.kind]; decide) hf hn ?_ I.funs;exact Heap.get?_none_of_le (QAs I.ok.bsz I.ok.above)
theorem Inv.stkSub (I:Inv X pins σ H s):∀ b∈frs X.stack,b∈X.env.locals::X.fs:=fun b hb=>by
 rcases I.ok.stk with e | ⟨e,hf⟩
 ·rw [e] at hb; exact QAm _ hb
 ·rw [e] at hb;unfold frs at hb;rw [QDk,hf] at hb;exact hb
theorem Inv.stkFree (I:Inv X pins σ H s):∀ b∈frs X.stack,H b=none:=fun b hb=>by
 rcases QZn.mp (I.stkSub b hb) with e | hb
 ·rw [e]; exact I.free
 ·obtain ⟨_,o,ho,_⟩:=I.ok.funs.mem hb;exact I.base.free b o ho (I.ok.frf b hb) fun z=>I.ok.exfs b z hb
theorem Inv.step {g':Array GenState} {t':Nat} {d':Drawn} {ch:List Addr} (I:Inv X pins σ H s)
  (hch:∀ b∈ch,(b∈X.ex\/X.s₀.heap.objs.size<=b)/\b≠X.env.locals/\(∀ x c,X.env.cells.lookup x=some c->c≠b)/\∀ p∈X.pn++pins,p.1≠b)
  (keep:∀ b o,b≠X.env.locals->b∉X.fs->b∉ch->s.heap.get? b=some o->H b=none->h'.get? b=some o)
  (slot:∀ b o,b≠X.env.locals->b∈X.fs->b∉ch->s.heap.get? b=some o->H b=none->∃ sl,h'.get? b=some { o with slots:=sl }) (free:∀ b o,b∉ch->s.heap.get? b=some o->H b=none->H' b=none)
  (there:∀ b o,b∉ch->s.heap.get? b=some o->∃ o',h'.get? b=some o')
  (tups:∀ b xs,H b=some (.tup xs)->H' b=some (.tup xs)) (frzs:∀ b o u,H b=some (.frz o u)->H' b=some (.frz o u)) (tbls:∀ b ps,H b=some (.tbl ps)->∃ more,H' b=some (.tbl (ps++more)))
  (ns:∀ m,s.heap.Ns X.env.locals m->h'.Ns X.env.locals m) (hok:HOk X.prog X.w H' h') (hg:AllBare g') :
  Inv X pins σ H' { s with heap:=h',gens:=g',drawn:=d',toks:=t' }:=by
 have neL:∀ b o,X.s₀.heap.get? b=some o->b≠X.env.locals:=fun b o e=>QAz (QBb (QAi e) I.ok.above)
 have neC:∀ b o,X.s₀.heap.get? b=some o->b∉X.ex->b∉ch:=fun b o e hx hb=>by
  rcases (hch b hb).1 with z | z
  ·exact hx z
  ·exact absurd (QBb (QAi e) z) (QCe _)
 have cellK:∀ x c,X.env.cells.lookup x=some c->∀ v,s.heap.IsCell c v->h'.IsCell c v:=fun x c e v ⟨o,ho,hd⟩=>by
  have nch:c∉ch:=fun z=>(hch c z).2.2.1 x c e rfl
  by_cases hc:c∈X.fs
  ·obtain ⟨sl,q⟩:=slot c o (I.cne x c e) hc nch ho (I.freeC x c e);exact ⟨_,q,hd⟩
  ·exact ⟨o,keep c o (I.cne x c e) hc nch ho (I.freeC x c e),hd⟩
 refine ⟨I.ok,I.os,hg,⟨fun b o e n hb hx=>?_,fun b o e n hb hx=>?_,fun b o e n hx=>?_,fun b o e hx=>?_,fun b xs e=>tups b xs (I.base.tups b xs e),fun b o xs e=>frzs b o xs (I.base.frzs b o xs e),fun b ps e=>?_⟩,?_,fun x c e=>?_,?_,fun x c e=>?_,fun p hp=>?_,hok,I.len⟩
 ·exact keep b o (neL b o e) hb (neC b o e hx) (I.base.keep b o e n hb hx) (I.base.free b o e n hx)
 ·obtain ⟨sl,e1⟩:=I.base.slot b o e n hb hx;obtain ⟨sl',e2⟩:=slot b _ (neL b o e) hb (neC b o e hx) e1 (I.base.free b o e n hx);exact ⟨sl',e2⟩
 ·obtain ⟨o',e1⟩:=I.base.there b o e hx;exact free b o' (neC b o e hx) e1 (I.base.free b o e n hx)
 ·obtain ⟨o',e1⟩:=I.base.there b o e hx;exact there b o' (neC b o e hx) e1
 ·obtain ⟨m1,e1⟩:=I.base.tbls b ps e;obtain ⟨m2,e2⟩:=tbls b _ e1;exact ⟨m1++m2,by rw [e2,Array.append_assoc]⟩
 ·obtain ⟨m,hn,hl⟩:=I.loc;refine ⟨m,ns m hn,fun i x v e1 e2 e3=>?_⟩;obtain ⟨u,r,l⟩:=hl i x v e1 e2 e3;refine ⟨u,r,?_⟩
  rcases l with l | ⟨k,c,e,z⟩
  ·exact .inl l
  ·exact .inr ⟨k,c,e,cellK x c e _ z⟩
 ·obtain ⟨v,z⟩:=I.cell x c e;exact ⟨v,cellK x c e v z⟩
 ·obtain ⟨m,⟨o,_,_,ho,_⟩,_⟩:=I.loc;exact free _ o (fun z=>(hch _ z).2.1 rfl) ho I.free
 ·obtain ⟨v,o,ho,hd⟩:=I.cell x c e;exact free c o (fun z=>(hch c z).2.2.1 x c e rfl) ho (I.freeC x c e)
 ·obtain ⟨e,n,ne,nf,d⟩:=I.pin p hp;have nch:p.1∉ch:=fun z=>(hch p.1 z).2.2.2 p hp rfl
  exact ⟨keep p.1 p.2 ne nf nch e n,free p.1 p.2 nch e n,ne,nf,d⟩
theorem Inv.un {t':Nat} (I:Inv X pins σ H s) (u:Un X.fs [] H H' s.heap h') (hok:HOk X.prog X.w H' h'):Inv X pins σ H' { s with heap:=h',toks:=t' }:=by
 obtain ⟨m,⟨o,es,ep,ho,r⟩,_⟩:=id I.loc;obtain ⟨sl,hL⟩:=u.any ho I.free (by simp);exact I.step (g':=s.gens) (d':=s.drawn) (ch:=[]) (fun _ z=>nomatch z) (fun b o _ hb _ e n=>u.keep b o e n hb (by simp)) (fun b o _ hb _ e n=>u.slot b o e n hb (by simp)) (fun b o _ e n=>u.free b o e n (by simp)) (fun b o _ e=>u.there b o e (by simp)) u.tups u.frzs u.tbls (fun m' hm=>by
  obtain ⟨o',es',ep',ho',r'⟩:=hm;rw [ho] at ho'; cases ho';exact ⟨_,es',ep',hL,r'⟩) hok I.bare
theorem Inv.call {g':Array GenState} {t':Nat} {d':Drawn} {ch:List Addr} (I:Inv X pins σ H s) (u:Un (frs X.stack) ch H H' s.heap h') (hok:HOk X.prog X.w H' h') (hg:AllBare g')
  (hch:∀ b∈ch,(b∈X.ex\/X.s₀.heap.objs.size<=b)/\b≠X.env.locals/\(∀ x c,X.env.cells.lookup x=some c->c≠b)/\∀ p∈X.pn++pins,p.1≠b) :
  Inv X pins σ H' { s with heap:=h',gens:=g',drawn:=d',toks:=t' }:=by
 obtain ⟨m,⟨o,es,ep,ho,r⟩,_⟩:=id I.loc;obtain ⟨sl,hL⟩:=u.any ho I.free fun z=>(hch _ z).2.1 rfl
 exact I.step (ch:=ch) hch (fun b o hL hb hc e n=>u.keep b o e n (fun z=>(QZn.mp (I.stkSub b z)).elim hL hb) hc) (fun b o _ _ hc e n=>u.any e n hc) (fun b o hc e n=>u.free b o e n hc) (fun b o hc e=>u.there b o e hc) u.tups u.frzs u.tbls (fun m' hm=>by
  obtain ⟨o',es',ep',ho',r'⟩:=hm;rw [ho] at ho'; cases ho';exact ⟨_,es',ep',hL,r'⟩) hok hg
theorem Inv.turned {t':Nat} {it:Addr} (I:Inv X pins σ H s) (k:∀ b o,b≠it->s.heap.get? b=some o->h'.get? b=some o) (hn:H it=none) (hL:it≠X.env.locals)
  (h1:it∈X.ex\/X.s₀.heap.objs.size<=it) (h2:∀ x c,X.env.cells.lookup x=some c->c≠it) (h3:∀ p∈X.pn++pins,p.1≠it):Inv X pins σ H { s with heap:=h',toks:=t' }:=by
 have nit:∀ b u,H b=some u->b≠it:=fun b u e z=>by rw [z,hn] at e; cases e
 refine I.step (g':=s.gens) (d':=s.drawn) (ch:=[it]) (fun b hb=>?_) (fun b o _ _ hc e _=>k b o (fun z=>hc (by simp [z])) e) (fun b o _ _ hc e _=>⟨o.slots,k b o (fun z=>hc (by simp [z])) e⟩) (fun _ _ _ _ n=>n)
  (fun b o hc e=>⟨o,k b o (fun z=>hc (by simp [z])) e⟩) (fun _ _ e=>e) (fun _ _ _ e=>e) (fun b ps e=>⟨#[],by rw [e]; simp⟩) (fun m hm=>?_) (fun b u e=>?_) I.bare
 ·have e:b=it:=by simpa using hb
  subst e;exact ⟨h1,hL,h2,h3⟩
 ·obtain ⟨o,es,ep,ho,r⟩:=hm;exact ⟨o,es,ep,k _ o (Ne.symm hL) ho,r⟩
 ·refine (I.hok b u e).stay (fun c v hc q=>k c v ?_ q) (fun _ q=>q) fun _ _ q=>q
  rcases hc with z | z
  ·rw [z]; exact nit b u e
  ·exact nit c _ z
theorem Inv.tok (I:Inv X pins σ H s) (t:Nat):Inv X pins σ H { s with toks:=t }:=I.un (h':=s.heap) (t':=t) Un.refl I.hok
theorem Inv.kept {t':Nat} (I:Inv X pins σ H s) (k:∀ b u,s.heap.get? b=some u->h'.get? b=some u):Inv X pins σ H { s with heap:=h',toks:=t' }:=I.un (Un.kept k) (I.hok.kept k)
theorem Inv.laid {a:Addr} {o:HO} {t':Nat} (I:Inv X pins σ H s) (k:∀ b u,s.heap.get? b=some u->h'.get? b=some u) (hp:s.heap.objs.size<=a) (new:ObjOk X.prog X.w (upd H a o) h' a o) :
  Inv X pins σ (upd H a o) { s with heap:=h',toks:=t' }:=I.un (Un.laid k hp (I.hok.fresh hp)) (I.hok.laid k hp new)
theorem Inv.write {x e:Addr} {o:HO} {t':Nat} (I:Inv X pins σ H s) (mu:Mut (H x)) (he:e=x\/H e=some (.own x)) (k:∀ b u,b≠e->s.heap.get? b=some u->h'.get? b=some u) (heo:∃ u,h'.get? e=some u)
  (new:ObjOk X.prog X.w (upd H x o) h' x o):Inv X pins σ (upd H x o) { s with heap:=h',toks:=t' }:=I.un (Un.write mu he k heo) (I.hok.write mu he k heo new)
theorem Inv.pins_of {pins':List (Addr × Obj)} (I:Inv X pins σ H s) (h:∀ p∈pins',s.heap.get? p.1=some p.2/\H p.1=none/\p.1≠X.env.locals/\p.1∉X.fs/\∀ v,p.2.data ≠ .cell v):Inv X pins' σ H s :=
 ⟨I.ok,I.os,I.bare,I.base,I.loc,I.cell,I.free,I.freeC,fun p hp=>(QZf.mp hp).elim (fun z=>I.pin p (QBh _ z)) (h p),I.hok,I.len⟩
theorem Zfe {N:List Str} (hN:N.Nodup) {i j:Nat} {x:Str} (a:N[i]? = some x) (b:N[j]? = some x):i=j:=by
 obtain ⟨h1,e1⟩:=QZb.mp a;obtain ⟨h2,e2⟩:=QZb.mp b;exact (List.getElem_inj hN).mp (e1.trans e2.symm)
theorem Zdq {M:Model} {A:Around} {E:Value->Shared->Prop} {i:Nat} {x:Str} {v:V} {u:Value} {Q:Unit->Shared->Prop} (I:Inv X pins σ H s) (hN:X.N.Nodup) (hi:X.N[i]? = some x) (hx:Loc X.env.scope x) (r:RelV v u)
  (h:∀ s',Inv X pins (σ.set i (some v)) H s'->(∃ a,Heap.SameBut a s.heap s'.heap/\(a=X.env.locals\/X.env.cells.lookup x=some a))->Q () s') (hf:X.fn x=true\/X.env.scope.names.lookup x=some .local:=by first | exact .inl rfl | exact .inr rfl | assumption):wpAny M A (storeName X.env x u) Q E s:=by
 obtain ⟨m,hn,hl⟩:=id I.loc;have hcls:(X.env.scope.kind == .class||(X.env.scope.kind == .module&&X.env.locals != X.env.globals))=false:=by rw [I.ok.kind]; rfl
 have hiσ:i<σ.length:=by rw [I.len]; exact (QZb.mp hi).1
 have cne:=I.cne;have tracked:∀ {a:Addr} {h':Heap},(∃ o,s.heap.get? a=some o/\H a=none)->Heap.SameBut a s.heap h'->HOk X.prog X.w H h':=fun {a h'} ha hs b ob e=>by
  obtain ⟨_,_,hfree⟩:=ha;refine (I.hok b ob e).stay (fun c w' hc q=>(hs.2 c ?_).trans q) (fun _ q=>q) fun _ _ q=>q
  rintro rfl
  rcases hc with rfl | hc
  ·rw [hfree] at e; cases e
  ·rw [hfree] at hc; cases hc
 rcases hx with hk | hk
 ·refine wpAny_storeName_local hk hn (fun h' hn' hs=>?_) hcls;obtain ⟨oL,_,_,hoL,_⟩:=id hn;refine h _ ⟨I.ok,I.os,I.bare,⟨fun b o e n hb hx=>?_,fun b o e n hb hx=>?_,I.base.free,fun b o e hx=>?_,I.base.tups,I.base.frzs,I.base.tbls⟩,⟨_,hn',fun j y v' e1 e2 e3=>?_⟩,fun y c e=>?_,I.free,I.freeC,fun p hp=>?_,tracked ⟨oL,hoL,I.free⟩ hs,by simpa using I.len⟩ ⟨_,hs,.inl rfl⟩
  ·exact (hs.2 b (QAz (QBb (QAi e) I.ok.above))).trans (I.base.keep b o e n hb hx)
  ·obtain ⟨sl,e1⟩:=I.base.slot b o e n hb hx;exact ⟨sl,(hs.2 b (QAz (QBb (QAi e) I.ok.above))).trans e1⟩
  ·obtain ⟨o',e1⟩:=I.base.there b o e hx;exact ⟨o',(hs.2 b (QAz (QBb (QAi e) I.ok.above))).trans e1⟩
  ·by_cases hj:j=i
   ·subst hj;rw [hi] at e1; cases e1;rw [List.getElem?_set_self hiσ] at e2
    cases e2;exact ⟨u,r,.inl ⟨hk,by simp⟩⟩
   ·rw [List.getElem?_set_ne (Ne.symm hj)] at e2;obtain ⟨u',r',q⟩:=hl j y v' e1 e2 e3;refine ⟨u',r',?_⟩
    rcases q with ⟨k,e⟩ | ⟨k,c,e,z⟩
    ·refine .inl ⟨k,?_⟩;have:y≠x:=fun e=>hj (Zfe hN e1 (e ▸ hi))
     simp [this,e]
    ·exact .inr ⟨k,c,e,z.sameBut hs (cne y c e)⟩
  ·obtain ⟨w',z⟩:=I.cell y c e;exact ⟨w',z.sameBut hs (cne y c e)⟩
  ·obtain ⟨e,n,ne,nf,d⟩:=I.pin p hp;exact ⟨(hs.2 p.1 ne).trans e,n,ne,nf,d⟩
 ·have hfn:X.fn x=true:=by
   rcases hf with z | z
   ·exact z
   ·rw [z] at hk; cases hk
  obtain ⟨c,hc⟩:=I.ok.has x (.inl hk);obtain ⟨w',z⟩:=I.cell x c hc;refine wpAny_storeName_cell I.ok.kind hk hc z (fun h' hc' hs=>?_);obtain ⟨oc,hoc,hocd⟩:=id z;refine h { s with heap:=h' } ⟨I.ok,I.os,I.bare,⟨fun b o e n hb hx=>?_,fun b o e n hb hx=>?_,I.base.free,fun b o e hx=>?_,I.base.tups,I.base.frzs,I.base.tbls⟩,⟨m,hn.sameBut hs (Ne.symm (cne x c hc)),fun j y v' e1 e2 e3=>?_⟩,fun y c' e=>?_,I.free,I.freeC,fun p hp=>?_,tracked ⟨oc,hoc,I.freeC x c hc⟩ hs,by simpa using I.len⟩ ⟨c,hs,.inr hc⟩
  ·exact (hs.2 b (QAz (QBb (QAi e) (I.ok.cab x c hfn hc)))).trans (I.base.keep b o e n hb hx)
  ·obtain ⟨sl,e1⟩:=I.base.slot b o e n hb hx;exact ⟨sl,(hs.2 b (QAz (QBb (QAi e) (I.ok.cab x c hfn hc)))).trans e1⟩
  ·obtain ⟨o',e1⟩:=I.base.there b o e hx;exact ⟨o',(hs.2 b (QAz (QBb (QAi e) (I.ok.cab x c hfn hc)))).trans e1⟩
  ·by_cases hj:j=i
   ·subst hj;rw [hi] at e1; cases e1;rw [List.getElem?_set_self hiσ] at e2
    cases e2;exact ⟨u,r,.inr ⟨.inl hk,c,hc,hc'⟩⟩
   ·rw [List.getElem?_set_ne (Ne.symm hj)] at e2;obtain ⟨u',r',q⟩:=hl j y v' e1 e2 e3;refine ⟨u',r',?_⟩
    rcases q with q | ⟨k,c',e,z'⟩
    ·exact .inl q
    ·refine .inr ⟨k,c',e,z'.sameBut hs ?_⟩;rintro rfl;exact hj (Zfe hN e1 (I.ok.inj _ _ _ e hc ▸ hi))
  ·by_cases hcc:c'=c
   ·subst hcc; exact ⟨_,hc'⟩
   ·obtain ⟨w2,z2⟩:=I.cell y c' e;exact ⟨w2,z2.sameBut hs hcc⟩
  ·obtain ⟨e,n,ne,nf,d⟩:=I.pin p hp;refine ⟨(hs.2 p.1 ?_).trans e,n,ne,nf,d⟩;intro q;rw [q,hoc] at e;have q':oc=p.2:=QZl e;exact d w' (by rw [<- q']; exact hocd)
theorem Zcp {M:Model} {A:Around} {E:Value->Shared->Prop} {i:Nat} {x:Str} {v:V} {u:Value} {Q:Unit->Shared->Prop} (I:Inv X pins σ H s) (hN:X.N.Nodup) (hi:X.N[i]? = some x) (hx:Loc X.env.scope x) (r:RelV v u)
  (h:∀ s',Inv X pins (σ.set i (some v)) H s'->Q () s') (hf:X.fn x=true\/X.env.scope.names.lookup x=some .local:=by first | exact .inl rfl | exact .inr rfl | assumption):wpAny M A (storeName X.env x u) Q E s :=
 Zdq I hN hi hx r (fun s' I' _=>h s' I') hf
theorem Inv.call' {s':Shared} {ch:List Addr} (I:Inv X pins σ H s) (ho:s'.os=s.os) (u:Un (frs X.stack) ch H H' s.heap s'.heap) (hok:HOk X.prog X.w H' s'.heap) (hg:AllBare s'.gens)
  (hch:∀ b∈ch,(b∈X.ex\/X.s₀.heap.objs.size<=b)/\b≠X.env.locals/\(∀ x c,X.env.cells.lookup x=some c->c≠b)/\∀ p∈X.pn++pins,p.1≠b):Inv X pins σ H' s':=by
 obtain ⟨h',g',d',t',o'⟩:=s';have e:o'=s.os:=ho;subst e;exact I.call (g':=g') (t':=t') (d':=d') u hok hg hch
end
noncomputable abbrev XK:=Value->Option Addr->Hp->Prop
noncomputable abbrev St:=List (Option V)
noncomputable abbrev VK:=V->Hp->Prop
noncomputable abbrev TE:=St->Hp->VK->Prop
noncomputable abbrev TT:=St->Hp->(Bool->Hp->Prop)->Prop
noncomputable abbrev TA:=St->Hp->(List V->Hp->Prop)->Prop
structure Zdj where
 nx:St->Hp->Prop
 rt:VK
 bk:St->Hp->Prop:=fun _ _=>False
 ct:St->Hp->Prop:=fun _ _=>False
noncomputable abbrev TS:=Zdj->St->Hp->Prop
noncomputable def EP (X:Cx) (pins:List (Addr × Obj)) (σ:St) (Q:VK) (u:Value) (s':Shared):Prop:=∃ v H',Inv X pins σ H' s'/\RelV v u/\Q v H'
noncomputable def TP (X:Cx) (pins:List (Addr × Obj)) (σ:St) (Q:Bool->Hp->Prop) (b:Bool) (s':Shared):Prop:=∃ H',Inv X pins σ H' s'/\Q b H'
noncomputable def AP (X:Cx) (pins:List (Addr × Obj)) (σ:St) (Q:List V->Hp->Prop) (us:List Value) (s':Shared):Prop:=∃ vs H',Inv X pins σ H' s'/\Vals vs us/\Q vs H'
noncomputable def SP (X:Cx) (pins:List (Addr × Obj)) (D:Zdj) (f:Flow) (s':Shared):Prop :=
 match f with
 | .next=>∃ σ' H',Inv X pins σ' H' s'/\D.nx σ' H'
 | .brk=>∃ σ' H',Inv X pins σ' H' s'/\D.bk σ' H'
 | .cont=>∃ σ' H',Inv X pins σ' H' s'/\D.ct σ' H'
 | .ret u=>∃ v σ' H',Inv X pins σ' H' s'/\RelV v u/\D.rt v H'
noncomputable def PE (X:Cx) (e:Expr) (t:TE):Prop :=
 ∀ (pins:List (Addr × Obj)) (s:Shared) (σ:St) (H:Hp) (Q:VK),Inv X pins σ H s->t σ H Q->wpAny (model X.prog X.w) X.A (eval e X.env) (EP X pins σ Q) X.xe s
noncomputable def PT (X:Cx) (e:Expr) (t:TT):Prop :=
 ∀ (pins:List (Addr × Obj)) (s:Shared) (σ:St) (H:Hp) (Q:Bool->Hp->Prop),Inv X pins σ H s->t σ H Q->wpAny (model X.prog X.w) X.A (isTrue e X.env (eval e X.env)) (TP X pins σ Q) X.xe s
noncomputable def PW (X:Cx) (e:Expr) (t:TT):Prop :=
 ∀ (whole:Sem Value) (pins:List (Addr × Obj)) (s:Shared) (σ:St) (H:Hp) (Q:Bool->Hp->Prop),Inv X pins σ H s->t σ H Q->wpAny (model X.prog X.w) X.A (isTrue e X.env whole) (TP X pins σ Q) X.xe s
theorem PW.pt {X:Cx} {e:Expr} {t:TT} (h:PW X e t):PT X e t:=h _
noncomputable def PA (X:Cx) (es:List Expr) (t:TA):Prop :=
 ∀ (pos:Pos) (pins:List (Addr × Obj)) (s:Shared) (σ:St) (H:Hp) (Q:List V->Hp->Prop),Inv X pins σ H s->t σ H Q->wpAny (model X.prog X.w) X.A (spliced (backTo pos (starEach es X.env))) (AP X pins σ Q) X.xe s
noncomputable def PS (X:Cx) (st:Stmt) (t:TS):Prop :=
 ∀ (pins:List (Addr × Obj)) (s:Shared) (σ:St) (H:Hp) (D:Zdj),Inv X pins σ H s->t D σ H->wpAny (model X.prog X.w) X.A (exec st X.env) (SP X pins D) X.xe s
noncomputable def PSs (X:Cx) (st:List Stmt) (t:TS):Prop :=
 ∀ (pins:List (Addr × Obj)) (s:Shared) (σ:St) (H:Hp) (D:Zdj),Inv X pins σ H s->t D σ H->wpAny (model X.prog X.w) X.A (execs st X.env) (SP X pins D) X.xe s
theorem thn {α:Type} {t:Sem α} {Q Q':α->Shared->Prop} {M:Model} {A:Around} {E:Value->Shared->Prop} {s:Shared} (h:wpAny M A t Q E s) (hQ:∀ a s,Q a s->Q' a s):wpAny M A t Q' E s:=wpAny_mono h hQ fun _ _ x=>x
end L2
namespace L2
open PySem PySem.Spec PyProof.Rows
section
variable {X:Cx}
inductive Zlf (i:Nat) (σ:St) (H:Hp) (Q:VK):Prop where
 | mk (v:V) (_:σ[i]? = some (some v)) (_:Q v H):Zlf i σ H Q
noncomputable def Zmg (i:Nat):TE:=fun σ H Q=>Zlf i σ H Q
noncomputable def tC (v:V):TE:=fun _ H Q=>Q v H
theorem ZlE {i:Nat} {x:Str} {pos:Pos} (hN:X.N[i]? = some x) (hv:Vis X.env.scope x) (hd:(x==("__debug__" : Str))=false:=by decide) (hcd:(x==("__classdict__" : Str))=false:=by decide):PE X (.Name x pos) (Zmg i):=by
 intro pins s σ H Q I h;obtain ⟨v,e,h⟩:=h;obtain ⟨m,hn,hl⟩:=I.loc;obtain ⟨u,r,l⟩:=hl i x v hN e hv;have fin:EP X pins σ Q u s:=⟨v,H,I,r,h⟩
 rcases l with ⟨hk,hm⟩ | ⟨hk,c,hc,hcell⟩
 ·exact wpAny_Name (wpAny_loadName_local I.ok.kind hk hn hm fin) hd
 ·rcases hk with hk | hk
  ·exact wpAny_Name (wpAny_loadName_cell I.ok.kind hk hc hcell fin) hd
  ·exact wpAny_Name (wpAny_loadName_free I.ok.kind hk hc hcell fin hcd) hd
theorem Zh {i j pos}:PE X (.Constant (.int i) j pos) (tC (.int i)):=fun _ _ _ H _ I h=>wpAny_Constant_int ⟨.int i,H,I.tok _,⟨_,rfl⟩,h⟩
theorem Zan {b j pos}:PE X (.Constant (.bool b) j pos) (tC (.bl b)):=fun _ _ _ H _ I h=>Constant_bool ⟨.bl b,H,I,rfl,h⟩
theorem Zew {j pos}:PE X (.Constant .none j pos) (tC .non):=fun _ _ _ H _ I h=>Constant_none ⟨.non,H,I,rfl,h⟩
noncomputable def Gl (X:Cx) (x:Str):Prop:=X.env.kindOf x=some .globalImplicit
theorem ZkG {E:Value->Shared->Prop} {pins:List (Addr × Obj)} {s:Shared} {σ:St} {H:Hp} {x:Str} {u:Value} {pos:Pos} {Q:Value->Shared->Prop} (I:Inv X pins σ H s) (hg:Gl X x) (hm:X.mg x=some u) (h:Q u s)
  (hd:(x==("__debug__" : Str))=false:=by decide):wpAny (model X.prog X.w) X.A (eval (.Name x pos) X.env) Q E s :=
 Calls.Name_function_global I.ok.kind hg (Calls.loadGlobal_global (by rw [I.ok.glob]; exact I.mod.glob.keeps I.bk) hm h) hd
theorem Za6 {E:Value->Shared->Prop} {pins:List (Addr × Obj)} {s:Shared} {σ:St} {H:Hp} {x:Str} {u:Value} {pos:Pos} {Q:Value->Shared->Prop} (I:Inv X pins σ H s) (hg:Gl X x) (hm:X.mg x=none) (hv:bootBuiltins x=some u) (h:Q u s)
  (hn:x ≠ "__name__":=by decide) (hd:(x==("__debug__" : Str))=false:=by decide):wpAny (model X.prog X.w) X.A (eval (.Name x pos) X.env) Q E s:=by
 obtain ⟨mb,h1,h2⟩:=I.mod.blt;exact Calls.Name_function_global I.ok.kind hg (Calls.loadGlobal_builtin (by rw [I.ok.glob]; exact I.mod.glob.keeps I.bk) hm (by rw [I.ok.blt]; exact h1.keeps I.bk) ((h2 x hn).trans hv) h) hd
theorem Zbi {x:Str} {v:V} {u:Value} {pos:Pos} (hg:Gl X x) (hm:X.mg x=none) (hv:bootBuiltins x=some u) (r:RelV v u) (hn:x ≠ "__name__":=by decide) (hd:(x==("__debug__" : Str))=false:=by decide):PE X (.Name x pos) (tC v) :=
 fun _ _ _ H _ I h=>Za6 I hg hm hv ⟨v,H,I,r,h⟩ hn hd
variable {a b:Expr} {ta tb:TE} {pos:Pos}
noncomputable def PC (X:Cx) (op:CmpOp) (a b:Expr) (t:TE):Prop :=
 ∀ (pins:List (Addr × Obj)) (s:Shared) (σ:St) (H:Hp) (Q:VK),Inv X pins σ H s->t σ H Q ->
  wpAny (model X.prog X.w) X.A (eval a X.env) (fun v s₁=>wpAny (model X.prog X.w) X.A (eval b X.env) (fun u s₂=>wpAny (model X.prog X.w) X.A (compareOp op v u) (EP X pins σ Q) X.xe s₂) X.xe s₁) X.xe s
theorem Zjd (b:Expr) {op:CmpOp} (h:op ≠ .In) (h2:op ≠ .NotIn):behindInMarks op b=false:=by
 have e1:(op==CmpOp.In)=false:=by cases op <;> first | rfl | exact absurd rfl h
 have e2:(op==CmpOp.NotIn)=false:=by cases op <;> first | rfl | exact absurd rfl h2
 cases b <;> simp [behindInMarks,e1,e2]
noncomputable def Zm5 (ta:TE):TE:=fun σ H Q=>ta σ H fun x H1=>Q (.bl (decide (x = .non))) H1
noncomputable def Zmk (ta:TE):TE:=fun σ H Q=>ta σ H fun x H1=>Q (.bl (!decide (x = .non))) H1
theorem RelV.none_iff {x:V} {v:Value} (r:RelV x v):(v==Value.none)=decide (x = .non):=by
 cases x with
 | non=>cases r; rfl
 | bl _=>cases r; rfl
 | int _=>obtain ⟨t,rfl⟩:=r; rfl
 | str _=>obtain ⟨t,rfl⟩:=r; rfl
 | byt _=>obtain ⟨t,rfl⟩:=r; rfl
 | flt _=>obtain ⟨t,rfl⟩:=r; rfl
 | ref _=>cases r; rfl
 | ty _=>cases r; rfl
theorem ZiX {j pos'} (ha:PE X a ta):PC X .Is a (.Constant .none j pos') (Zm5 ta):=by
 intro pins s σ H Q I h;refine thn (ha pins s σ H _ I h) fun v s1 zz0=>?_;obtain ⟨x,H1,I1,r1,q1⟩:=zz0;exact Constant_none (is_none_gen ⟨.bl _,H1,I1,by rw [r1.none_iff]; rfl,q1⟩)
theorem Zkj {j pos'} (ha:PE X a ta):PC X .IsNot a (.Constant .none j pos') (Zmk ta):=by
 intro pins s σ H Q I h;refine thn (ha pins s σ H _ I h) fun v s1 zz0=>?_;obtain ⟨x,H1,I1,r1,q1⟩:=zz0;exact Constant_none (isnot_none_gen ⟨.bl _,H1,I1,by rw [r1.none_iff]; rfl,q1⟩)
inductive Zmd (x:V) (Q:Bool->Hp->Prop) (H:Hp):Prop where
 | mk (c:Bool) (_:x = .bl c) (_:Q c H):Zmd x Q H
noncomputable def tB (t:TE):TT:=fun σ H Q=>t σ H fun x H1=>Zmd x Q H1
theorem Zgw {op:CmpOp} {t:TE} (h:PC X op a b t) (h1:behindInMarks op b=false:=by first | exact Zjd _ (by decide) (by decide) | rfl):PT X (.Compare a [op] [b] pos) (tB t):=by
 intro pins s σ H Q I hw;refine wpAny_isTrue_Compare1 (thn (h pins s σ H _ I hw) fun v s1 h1=>thn h1 fun u s2 h2=>thn h2 fun c s3 zz0=>?_) h1;obtain ⟨x,H1,I1,r1,q1⟩:=zz0;obtain ⟨d,rfl,q⟩:=q1
 cases r1;exact wpAny_truthy_bool ⟨H1,I1,q⟩
theorem Zai {e:Expr} {t:TE} (h:PE X e t) (he:∀ whole,isTrue e X.env whole=(do let v <- whole; standAt e.pos; holding [v] (truthy v)):=by intro _; rfl):PT X e (tB t):=by
 intro pins s σ H Q I hw;refine isTrue_plain (thn (h pins s σ H _ I hw) fun v s1 zz0=>?_) (he _);obtain ⟨x,H1,I1,r1,q1⟩:=zz0;obtain ⟨d,rfl,q⟩:=q1
 cases r1;exact wpAny_truthy_bool ⟨H1,I1,q⟩
variable {tA tB':TT} {rest:List Expr}
noncomputable def Zna (t u:TT):TT:=fun σ H Q=>t σ H fun c H1=>if c=true then u σ H1 Q else Q false H1
noncomputable def tOr (t u:TT):TT:=fun σ H Q=>t σ H fun c H1=>if c=true then Q true H1 else u σ H1 Q
noncomputable def Zm2 (t:TT):TT:=fun σ H Q=>t σ H fun c H1=>Q (!c) H1
theorem Zeu (ha:PT X a tA):PW X (.BoolOp .And [a] pos) tA:=by
 intro wh pins s σ H Q I h;refine isTrue_and (thn (ha pins s σ H Q I h) fun c s1 e=>?_)
 cases c with
 | true=>exact isTrue_and_nil e
 | false=>exact e
theorem Zcx (ha:PT X a tA):PW X (.BoolOp .Or [a] pos) tA:=by
 intro wh pins s σ H Q I h;refine isTrue_or (thn (ha pins s σ H Q I h) fun c s1 e=>?_)
 cases c with
 | false=>exact isTrue_or_nil e
 | true=>exact e
theorem Zgv (ha:PT X a tA) (hb:PW X (.BoolOp .And (b::rest) pos) tB'):PW X (.BoolOp .And (a::b::rest) pos) (Zna tA tB'):=by
 intro wh pins s σ H Q I h;refine isTrue_and (thn (ha pins s σ H _ I h) fun c s1 zz0=>?_);obtain ⟨H1,I1,q1⟩:=zz0
 cases c with
 | true=>exact hb wh pins s1 σ H1 Q I1 q1
 | false=>exact ⟨H1,I1,q1⟩
theorem Zdw (ha:PT X a tA) (hb:PW X (.BoolOp .Or (b::rest) pos) tB'):PW X (.BoolOp .Or (a::b::rest) pos) (tOr tA tB'):=by
 intro wh pins s σ H Q I h;refine isTrue_or (thn (ha pins s σ H _ I h) fun c s1 zz0=>?_);obtain ⟨H1,I1,q1⟩:=zz0
 cases c with
 | true=>exact ⟨H1,I1,q1⟩
 | false=>exact hb wh pins s1 σ H1 Q I1 q1
theorem Zaj (ha:PT X a tA):PT X (.UnaryOp .Not a pos) (Zm2 tA):=by
 intro pins s σ H Q I h;exact isTrue_not (ha pins s σ H (fun c H1=>Q (!c) H1) I h)
noncomputable def Zmp (ta tb:TE):TE:=fun σ H Q=>ta σ H fun x H1=>∃ c,x = .bl c/\if c=true then tb σ H1 Q else Q (.bl false) H1
noncomputable def Zmj (ta:TE):TE:=fun σ H Q=>ta σ H fun x H1=>∃ c,x = .bl c/\Q (.bl (!c)) H1
theorem ZiV {op} {t:TE} (h:PE X a t):PE X (.BoolOp op [a] pos) t:=fun pins s σ H Q I hw=>BoolOp_one (h pins s σ H Q I hw)
theorem ZiW (ha:PE X a ta) (hb:PE X (.BoolOp .And (b::rest) pos) tb):PE X (.BoolOp .And (a::b::rest) pos) (Zmp ta tb):=by
 intro pins s σ H Q I h;refine BoolOp_and (thn (ha pins s σ H _ I h) fun v s1 zz0=>?_);obtain ⟨x,H1,I1,r1,q1⟩:=zz0;obtain ⟨c,rfl,q1⟩:=q1
 cases r1;refine wpAny_truthy_bool ?_
 cases c with
 | true=>exact hb pins s1 σ H1 Q I1 q1
 | false=>exact ⟨.bl false,H1,I1,rfl,q1⟩
theorem ZlF (ha:PE X a ta):PE X (.UnaryOp .Not a pos) (Zmj ta):=by
 intro pins s σ H Q I h;refine UnaryOp_ (thn (ha pins s σ H _ I h) fun v s1 zz0=>?_);obtain ⟨x,H1,I1,r1,q1⟩:=zz0;obtain ⟨c,rfl,q1⟩:=q1
 cases r1;exact not_of (wpAny_truthy_bool ⟨.bl (!c),H1,I1,rfl,q1⟩)
noncomputable def tIf (t:TT) (ta tb:TE):TE:=fun σ H Q=>t σ H fun c H1=>if c=true then ta σ H1 Q else tb σ H1 Q
theorem Ze9 {c:Expr} (hc:PT X c tA) (ha:PE X a ta) (hb:PE X b tb):PE X (.IfExp c a b pos) (tIf tA ta tb):=by
 intro pins s σ H Q I h;refine wpAny_IfExp (thn (hc pins s σ H _ I h) fun d s1 zz0=>?_);obtain ⟨H1,I1,q1⟩:=zz0
 cases d with
 | true=>exact ha pins s1 σ H1 Q I1 q1
 | false=>exact hb pins s1 σ H1 Q I1 q1
end
end L2
namespace L2
open PySem PySem.Spec PyProof.Rows
noncomputable def SqL (K:QZa) (H:Hp) (a:Addr) (xs:List V):Prop :=
 Rd H a (.lst xs) \/
  ∃ (o:Obj) (its:Array Value) (n:Nat),K.lookup a=some o/\o.cls = .type "list" /\ o.dict=none/\o.data = .seq its n/\its.size<=sizeLine/\Vals xs its.toList
noncomputable def SqT (K:QZa) (H:Hp) (a:Addr) (xs:List V):Prop :=
 Rd H a (.tup xs) \/
  ∃ (o:Obj) (its:Array Value) (n:Nat),K.lookup a=some o/\o.cls = .type "tuple" /\ o.data = .seq its n/\its.size<=sizeLine/\Vals xs its.toList
noncomputable def Znn:Value->Option V
 | .none=>some .non
 | .bool b=>some (.bl b)
 | .int i _=>some (.int i)
 | .str x _=>some (.str x)
 | .bytes b _=>some (.byt b)
 | .float b _=>some (.flt b)
 | .ref a=>some (.ref a)
 | .type n=>some (.ty n)
 | _=>none
theorem RelV.abs {x:V} {u:Value} (r:RelV x u):Znn u=some x:=by
 cases x with
 | non=>cases r; rfl
 | bl _=>cases r; rfl
 | int _=>obtain ⟨t,rfl⟩:=r; rfl
 | str _=>obtain ⟨t,rfl⟩:=r; rfl
 | byt _=>obtain ⟨t,rfl⟩:=r; rfl
 | flt _=>obtain ⟨t,rfl⟩:=r; rfl
 | ref _=>cases r; rfl
 | ty _=>cases r; rfl
theorem RelV.inj {x y:V} {u:Value} (r:RelV x u) (q:RelV y u):x=y:=QZl (r.abs.symm.trans q.abs)
theorem Vals.inj:∀ {xs ys:List V} {us:List Value},Vals xs us->Vals ys us->xs=ys
 | _,_,_,.nil,.nil=>rfl
 | _,_,_,.cons r t,.cons r' t'=>by rw [r.inj r',Vals.inj t t']
section
variable {X:Cx} {pins:List (Addr × Obj)} {σ:St} {H:Hp} {s:Shared} {a:Addr} {xs ys:List V}
theorem SqL.of {K:QZa} (h:H a=some (.lst xs)):SqL K H a xs:=.inl (.inl h)
theorem SqT.of {K:QZa} (h:H a=some (.tup xs)):SqT K H a xs:=.inl (.inl h)
theorem Inv.list (I:Inv X pins σ H s) (h:SqL X.K H a xs):∃ its:List Value,Vals xs its/\PlainL s.heap a its.toArray/\xs.length<=sizeLine:=by
 rcases h with h | ⟨o,its,n,hk,hc,hd,hs,hz,r⟩
 ·obtain ⟨z,its,n,r,e⟩:=h.ok I.hok;exact ⟨its,r,⟨_,n,e,rfl,rfl,rfl⟩,z⟩
 ·refine ⟨its.toList,r,⟨o,n,I.kIn a o hk,hc,hd,by simpa using hs⟩,?_⟩;have e:=r.length
  simp only [QAw] at e;exact Om.b4 ‹_› ‹_› rfl
theorem Inv.tuple (I:Inv X pins σ H s) (h:SqT X.K H a xs):∃ its:List Value,Vals xs its/\IsTup s.heap a its.toArray/\xs.length<=sizeLine:=by
 rcases h with h | ⟨o,its,n,hk,hc,hs,hz,r⟩
 ·obtain ⟨z,its,r,p⟩:=h.ok I.hok;exact ⟨its,r,p.is,z⟩
 ·refine ⟨its.toList,r,⟨o,I.kIn a o hk,hc,n,by simpa using hs⟩,?_⟩;have e:=r.length
  simp only [QAw] at e;exact Om.b4 ‹_› ‹_› rfl
theorem Inv.list_inj (I:Inv X pins σ H s) (h:SqL X.K H a xs) (h':SqL X.K H a ys):xs=ys:=by
 obtain ⟨its,r,⟨o,n,e,_,_,d⟩,_⟩:=I.list h;obtain ⟨its',r',⟨o',n',e',_,_,d'⟩,_⟩:=I.list h';rw [e] at e'; cases e';rw [d] at d'
 injection d' with d1 _
 have:its=its':=by simpa using congrArg Array.toList d1
 subst this;exact r.inj r'
theorem Inv.tuple_inj (I:Inv X pins σ H s) (h:SqT X.K H a xs) (h':SqT X.K H a ys):xs=ys:=by
 obtain ⟨its,r,⟨o,e,_,n,d⟩,_⟩:=I.tuple h;obtain ⟨its',r',⟨o',e',_,n',d'⟩,_⟩:=I.tuple h';rw [e] at e'; cases e';rw [d] at d'
 injection d' with d1 _
 have:its=its':=by simpa using congrArg Array.toList d1
 subst this;exact r.inj r'
end
noncomputable abbrev Cx.wish (X:Cx) (E:Value->Shared->Prop):Cx:={ X with xe:=E }
noncomputable abbrev Cx.nox (X:Cx):Cx:=X.wish fun _ _=>False
theorem Cx.Ok.wish {X:Cx} (ok:X.Ok) (E:Value->Shared->Prop):(X.wish E).Ok :=
 ⟨ok.mod,ok.kind,ok.glob,ok.blt,ok.above,ok.inj,ok.has,ok.cab,ok.hd,ok.frames,ok.stk,ok.exf,ok.bs,ok.bsz,ok.noex,ok.exfs,ok.funs,ok.frf⟩
theorem Cx.Ok.unwish {X:Cx} {E:Value->Shared->Prop} (ok:(X.wish E).Ok):X.Ok :=
 ⟨ok.mod,ok.kind,ok.glob,ok.blt,ok.above,ok.inj,ok.has,ok.cab,ok.hd,ok.frames,ok.stk,ok.exf,ok.bs,ok.bsz,ok.noex,ok.exfs,ok.funs,ok.frf⟩
section
variable {X:Cx} {pins:List (Addr × Obj)} {σ:St} {H:Hp} {s:Shared} {E:Value->Shared->Prop}
theorem Inv.wish (I:Inv X pins σ H s) (E:Value->Shared->Prop):Inv (X.wish E) pins σ H s:=⟨I.ok.wish E,I.os,I.bare,I.base,I.loc,I.cell,I.free,I.freeC,I.pin,I.hok,I.len⟩
theorem Inv.unwish (I:Inv (X.wish E) pins σ H s):Inv X pins σ H s:=⟨I.ok.unwish,I.os,I.bare,I.base,I.loc,I.cell,I.free,I.freeC,I.pin,I.hok,I.len⟩
theorem SP.unwish {D:Zdj} {f:Flow} {s':Shared} (h:SP (X.wish E) pins D f s'):SP X pins D f s':=by
 cases f with
 | next=>obtain ⟨σ',H',I,q⟩:=h; exact ⟨σ',H',I.unwish,q⟩
 | brk=>obtain ⟨σ',H',I,q⟩:=h; exact ⟨σ',H',I.unwish,q⟩
 | cont=>obtain ⟨σ',H',I,q⟩:=h; exact ⟨σ',H',I.unwish,q⟩
 | ret u=>obtain ⟨v,σ',H',I,r,q⟩:=h; exact ⟨v,σ',H',I.unwish,r,q⟩
theorem PSs.nox {st:List Stmt} {t:TS} (h:PSs X.nox st t):PSs X st t:=fun pins s σ H D I hw =>
 wpAny_mono (h pins s σ H D (I.wish _) hw) (fun _ _ q=>q.unwish) fun _ _ z=>False.elim z
end
section
variable {X:Cx} {st:Stmt} {rest:List Stmt} {t u:TS} {e:Expr} {te:TE} {pos:Pos}
noncomputable def Zml:TS:=fun D σ H=>D.nx σ H
noncomputable def Zj3 (t u:TS):TS:=fun D σ H=>t { D with nx:=u D } σ H
theorem ZR:PSs X [] Zml:=fun _ _ σ H _ I h=>wpAny_execs_nil ⟨σ,H,I,h⟩
theorem Ze (h1:PS X st t) (h2:PSs X rest u):PSs X (st::rest) (Zj3 t u):=by
 intro pins s σ H D I h;refine wpAny_execs_cons (thn (h1 pins s σ H { D with nx:=u D } I h) fun f s1 q=>?_)
 cases f with
 | next =>
  obtain ⟨σ',H',I',q⟩:=q;exact h2 pins s1 σ' H' D I' q
 | ret v=>exact q
 | brk=>exact q
 | cont=>exact q
theorem Zf (h1:PS X st t):PSs X [st] t:=by
 intro pins s σ H D I h;refine wpAny_execs_cons (thn (h1 pins s σ H D I h) fun f s1 q=>?_)
 cases f with
 | next=>exact wpAny_execs_nil q
 | ret v=>exact q
 | brk=>exact q
 | cont=>exact q
theorem Inv.quiet {pins:List (Addr × Obj)} {σ:St} {H:Hp} {s:Shared} (I:Inv X pins σ H s):interactive X.env=false:=by simp [interactive,I.ok.kind]
noncomputable def Zmm (te:TE):TS:=fun D σ H=>te σ H fun _ H1=>D.nx σ H1
theorem Yz (he:PE X e te) (hs:swapsWith e none pos.line X.env=pure false:=by rfl):PS X (.Expr e pos) (Zmm te):=by
 intro pins s σ H D I h;exact wpAny_Expr_any (thn (he pins s σ H _ I h) fun v s1 zz0=> by obtain ⟨x,H1,I1,r1,q1⟩ := zz0; exact ⟨σ,H1,I1,q1⟩) I.quiet hs
noncomputable def Zm1 (te:TE):TS:=fun D σ H=>te σ H D.rt
theorem Zq (he:PE X e te):PS X (.Return (some e) pos) (Zm1 te):=by
 intro pins s σ H D I h;exact wpAny_Return_some (thn (he pins s σ H _ I h) fun v s1 zz0=> by obtain ⟨x,H1,I1,r1,q1⟩ := zz0; exact ⟨x,σ,H1,I1,r1,q1⟩)
noncomputable def Zm6 (c:TT) (t u:TS):TS:=fun D σ H=>c σ H fun b H1=>if b=true then t D σ H1 else u D σ H1
theorem Yy {c:Expr} {a b:List Stmt} {tc:TT} (hc:PT X c tc) (ha:PSs X a t) (hb:PSs X b u):PS X (.If c a b pos) (Zm6 tc t u):=by
 intro pins s σ H D I h;refine wpAny_If (thn (hc pins s σ H _ I h) fun d s1 zz0=>?_);obtain ⟨H1,I1,q1⟩:=zz0
 cases d with
 | true=>exact ha pins s1 σ H1 D I1 q1
 | false=>exact hb pins s1 σ H1 D I1 q1
end
noncomputable abbrev TG:=V->St->Hp->(St->Hp->Prop)->Prop
noncomputable abbrev TGs:=List V->St->Hp->(St->Hp->Prop)->Prop
noncomputable def PG (X:Cx) (target:Expr) (t:TG):Prop :=
 ∀ (pins:List (Addr × Obj)) (s:Shared) (σ:St) (H:Hp) (v:V) (u:Value) (Q:St->Hp->Prop),Inv X pins σ H s->RelV v u->t v σ H Q ->
  wpAny (model X.prog X.w) X.A (assign target X.env u) (fun _ s'=>∃ σ' H',Inv X pins σ' H' s'/\Q σ' H') X.xe s
noncomputable def PGs (X:Cx) (ts:List Expr) (t:TGs):Prop :=
 ∀ (pins:List (Addr × Obj)) (s:Shared) (σ:St) (H:Hp) (vs:List V) (us:List Value) (Q:St->Hp->Prop),Inv X pins σ H s->Vals vs us->t vs σ H Q ->
  wpAny (model X.prog X.w) X.A (assignInOrder ((assignEach ts X.env).map (·.2)) us) (fun _ s'=>∃ σ' H',Inv X pins σ' H' s'/\Q σ' H') X.xe s
noncomputable abbrev Zma:=V->V->V->Hp->(Hp->Prop)->Prop
noncomputable def ZmX (X:Cx) (t:Zma):Prop :=
 ∀ (pins:List (Addr × Obj)) (s:Shared) (σ:St) (H:Hp) (o i v:V) (ov iv u:Value) (Q:Hp->Prop),Inv X pins σ H s->RelV o ov->RelV i iv->RelV v u->t o i v H Q ->
  wpAny (model X.prog X.w) X.A (setItem ov iv u) (fun _ s'=>∃ H',Inv X pins σ H' s'/\Q H') X.xe s
noncomputable abbrev TIp:=V->V->Hp->VK->Prop
noncomputable def PIp (X:Cx) (op:Operator) (t:TIp):Prop :=
 ∀ (pins:List (Addr × Obj)) (s:Shared) (σ:St) (H:Hp) (x y:V) (v u:Value) (Q:VK),Inv X pins σ H s->RelV x v->RelV y u->t x y H Q ->
  wpAny (model X.prog X.w) X.A (inplaceOp op v u) (EP X pins σ Q) X.xe s
section
variable {X:Cx} {pos:Pos}
noncomputable def J7 (i:Nat):TG:=fun v σ H Q=>Q (σ.set i (some v)) H
theorem ZJ {i:Nat} {x:Str} (hN:X.N.Nodup) (hi:X.N[i]? = some x) (hx:Loc X.env.scope x) (hf:X.fn x=true\/X.env.scope.names.lookup x=some .local:=by first | exact .inl rfl | exact .inr rfl | assumption):PG X (.Name x pos) (J7 i):=by
 intro pins s σ H v u Q I r h;exact wpAny_assign_Name (Zcp I hN hi hx r (fun s' I'=>⟨_,H,I',h⟩) hf)
noncomputable def Znk:TGs:=fun vs σ H Q=>vs=[]/\Q σ H
noncomputable def ZmO (t:TG) (u:TGs):TGs:=fun vs σ H Q=>∃ v r,vs=v::r/\t v σ H fun σ' H'=>u r σ' H' Q
theorem Jx:PGs X [] Znk:=by
 intro pins s σ H vs us Q I r h;obtain ⟨e,h⟩:=h;subst e
 cases r;exact assignInOrder_nil ⟨σ,H,I,h⟩
theorem ZS {e:Expr} {es:List Expr} {t:TG} {u:TGs} (h1:PG X e t) (h2:PGs X es u)
  (hs:(assignEach (e::es) X.env).map (·.2)=assign e X.env::(assignEach es X.env).map (·.2):=by rfl):PGs X (e::es) (ZmO t u):=by
 intro pins s σ H vs us Q I r h;obtain ⟨v,vr,e1,h⟩:=h;subst e1
 cases r with
 | cons r rr =>
  rw [hs];refine assignInOrder_cons (thn (h1 pins s σ H _ _ _ I r h) fun _ s1 zz0=>?_);obtain ⟨σ1,H1,I1,q1⟩:=zz0;exact h2 pins s1 σ1 H1 _ _ Q I1 rr q1
noncomputable def ZmN (K:QZa) (n:Nat) (t:TGs):TG:=fun v σ H Q=>∃ a xs,v = .ref a/\SqT K H a xs/\xs.length=n/\t xs σ H Q
theorem Zev {es:List Expr} {k:Nat} {t:TGs} {n:Nat} (hc:X.calm=true) (h:PGs X es t)
  (hn:(assignEach es X.env).length=n:=by rfl) (hst:(assignEach es X.env).findIdx? (·.1)=none:=by rfl):PG X (.Tuple es k pos) (ZmN X.K n t):=by
 intro pins s σ H v u Q I r hw;obtain ⟨a,xs,e1,hq,hl,hw⟩:=hw;subst e1
 cases r;obtain ⟨its,rv,ht,hz⟩:=I.tuple hq;refine assign_Tuple_tuple (I.ok.hd hc) ht (by simp [hn,<- hl,rv.length]) hst fun h' hx=>?_;have I1:Inv X pins σ H { s with heap:=h' }:=I.kept (t':=s.toks) fun b o e=>hx b o (QAz (QAi e)) e
 exact h pins _ σ H xs _ Q I1 (by simpa using rv) hw
noncomputable def Znj (to ti:TE) (t:Zma):TG:=fun v σ H Q=>to σ H fun o H1=>ti σ H1 fun i H2=>t o i v H2 fun H3=>Q σ H3
theorem ZiU {o i:Expr} {to ti:TE} {t:Zma} (ho:PE X o to) (hi:PE X i ti) (hs:ZmX X t)
  (ha:∀ v,assign (.Subscript o i pos) X.env v=(do
   let ov <- holding [v] (eval o X.env)
   let iv <- holding [v,ov] (eval i X.env)
   standAt pos
   holding [v,ov,iv] (setItem ov iv v)
   release [v,ov,iv] []):=by intro _; rfl):PG X (.Subscript o i pos) (Znj to ti t):=by
 intro pins s σ H v u Q I r h;rw [ha];refine QZq (wpAny_holding (thn (ho pins s σ H _ I h) fun ov s1 zz0=>?_));obtain ⟨x,H1,I1,r1,q1⟩:=zz0;refine QZq (wpAny_holding (thn (hi pins s1 σ H1 _ I1 q1) fun iv s2 zz0=>?_));obtain ⟨y,H2,I2,r2,q2⟩:=zz0;refine QZq (wpAny_standAt (QZq (wpAny_holding (thn (hs pins s2 σ H2 x y v ov iv u _ I2 r1 r2 r q2) fun _ s3 zz0=>?_))));obtain ⟨H3,I3,q3⟩:=zz0;exact wpAny_release ⟨σ,H3,I3,q3⟩
noncomputable def Zls (te:TE) (g:TG):TS:=fun D σ H=>te σ H fun x H1=>g x σ H1 D.nx
theorem Zgx {tg e:Expr} {te:TE} {g:TG} (he:PE X e te) (hg:PG X tg g) (hs:swapsWithSole [tg] e pos.line X.env=pure false:=by rfl) (hw:swappedStores [tg] e X.env=pure none:=by rfl)
  (h1:(assignEach [tg] X.env).map (·.2)=[assign tg X.env]:=by rfl):PS X (.Assign [tg] e pos) (Zls te g):=by
 intro pins s σ H D I h;refine wpAny_Assign_stores (thn (he pins s σ H _ I h) fun v s1 zz0=>?_) hs hw;obtain ⟨x,H1,I1,r1,q1⟩:=zz0;rw [h1];exact thn (hg pins s1 σ H1 x v _ I1 r1 q1) fun _ s2 q=>q
theorem Zk {i:Nat} {x:Str} {e:Expr} {te:TE} {pos':Pos} (hN:X.N.Nodup) (hi:X.N[i]? = some x) (hx:Loc X.env.scope x) (he:PE X e te) (hs:swapsWith e (some (.Name x pos')) pos.line X.env=pure false:=by rfl) (hf:X.fn x=true\/X.env.scope.names.lookup x=some .local:=by first | exact .inl rfl | exact .inr rfl | assumption) :
  PS X (.Assign [.Name x pos'] e pos) (Zls te (J7 i)):=by
 intro pins s σ H D I h;refine wpAny_Assign_Name (thn (he pins s σ H _ I h) fun v s1 zz0=>?_) hs;obtain ⟨y,H1,I1,r1,q1⟩:=zz0;exact Zcp I1 hN hi hx r1 (fun s2 I2=>⟨_,H1,I2,q1⟩) hf
noncomputable def Zm9 (i:Nat) (te:TE) (ti:TIp):TS:=fun D σ H=>∃ x,σ[i]? = some (some x)/\te σ H fun y H1=>ti x y H1 fun z H2=>D.nx (σ.set i (some z)) H2
theorem ZlD {i:Nat} {x:Str} {e:Expr} {te:TE} {op:Operator} {ti:TIp} {pos':Pos} (hN:X.N.Nodup) (hi:X.N[i]? = some x) (hx:Loc X.env.scope x) (he:PE X e te) (ho:PIp X op ti) (hf:X.fn x=true\/X.env.scope.names.lookup x=some .local:=by first | exact .inl rfl | exact .inr rfl | assumption) :
  PS X (.AugAssign (.Name x pos') op e pos) (Zm9 i te ti):=by
 intro pins s σ H D I h;obtain ⟨v,e1,h⟩:=h;obtain ⟨m,hn,hl⟩:=I.loc;have vis:Vis X.env.scope x:=by rcases hx with k | k; exact .inl k; exact .inr (.inl k)
 obtain ⟨u,r,l⟩:=hl i x v hi e1 vis;refine wpAny_AugAssign_Name ?_;have go:wpAny (model X.prog X.w) X.A (eval e X.env) (fun w s₂=>wpAny (model X.prog X.w) X.A (inplaceOp op u w) (fun r s₃=>wpAny (model X.prog X.w) X.A (storeName X.env x r) (fun _=>SP X pins D .next) X.xe s₃) X.xe s₂) X.xe s:=by
  refine thn (he pins s σ H _ I h) fun w s1 zz0=>?_;obtain ⟨y,H1,I1,r1,q1⟩:=zz0;refine thn (ho pins s1 σ H1 v y u w _ I1 r r1 q1) fun z s2 zz0=>?_;obtain ⟨zv,H2,I2,r2,q2⟩:=zz0;exact Zcp I2 hN hi hx r2 (fun s3 I3=>⟨_,H2,I3,q2⟩) hf
 rcases l with ⟨hk,hm⟩ | ⟨hk,c,hc,hcell⟩
 ·exact wpAny_loadName_local I.ok.kind hk hn hm go
 ·rcases hk with hk | hk
  ·exact wpAny_loadName_cell I.ok.kind hk hc hcell go
  ·rcases hx with k | k
   ·have:X.env.scope.names.lookup x=some .free:=hk;rw [k] at this; cases this
   ·have:X.env.scope.names.lookup x=some .free:=hk;rw [k] at this; cases this
end
section
variable {X:Cx} {pos:Pos}
noncomputable def Zlr (c:TT) (tb:TS):TS:=fun D σ H=>∃ W:Nat->St->Hp->Prop,(∃ m,W m σ H)/\∀ m σ H,W m σ H ->
 c σ H fun b H1=>if b=true then ∃ N:St->Hp->Prop,(∀ σ' H',N σ' H'->∃ m',m'<m/\W m' σ' H')/\tb { D with nx:=N,ct:=N,bk:=D.nx } σ H1 else D.nx σ H1
theorem Zcy {c:Expr} {body:List Stmt} {tc:TT} {tb:TS} (hp:PassesOwn (model X.prog X.w) X.A X.env X.xe) (hc:PT X c tc) (hb:PSs X body tb):PS X (.While c body [] pos) (Zlr tc tb):=by
 intro pins s σ H D I h;obtain ⟨W,⟨m0,w0⟩,turn⟩:=h;refine wpAny_While (codeAny_whileLoop (fun n s'=>∃ σ' H',Inv X pins σ' H' s'/\W n σ' H') ?_ m0 ⟨σ,H,I,w0⟩);rintro n s1 ⟨σ1,H1,I1,w1⟩;refine wpAny_passesOwn hp (thn (hc pins s1 σ1 H1 _ I1 (turn n σ1 H1 w1)) fun b s2 zz0=>?_);obtain ⟨H2,I2,q2⟩:=zz0
 cases b with
 | true =>
  obtain ⟨N,hN,q2⟩:=q2;rw [if_pos rfl];refine wpAny_passesOwn hp (thn (hb pins s2 σ1 H2 _ I2 q2) fun f s3 q3=>?_)
  cases f with
  | next =>
   obtain ⟨σ3,H3,I3,n3⟩:=q3;obtain ⟨m',hm,w3⟩:=hN σ3 H3 n3;exact ⟨m',hm,σ3,H3,I3,w3⟩
  | cont =>
   obtain ⟨σ3,H3,I3,n3⟩:=q3;obtain ⟨m',hm,w3⟩:=hN σ3 H3 n3;exact ⟨m',hm,σ3,H3,I3,w3⟩
  | brk=>exact q3
  | ret v=>exact q3
 | false =>
  rw [if_neg QAl];exact wpAny_execs_nil ⟨σ1,H2,I2,q2⟩
end
structure It where
 go:Nat->Hp->Prop
 yld:Nat->Hp->V->Hp->Prop
 stop:Nat->Hp->Prop
noncomputable def ZaC (X:Cx) (pins:List (Addr × Obj)) (H:Hp) (b:Addr):Prop :=
 H b=none/\b≠X.env.locals/\b∉X.fs/\(b∈X.ex\/X.s₀.heap.objs.size<=b)/\(∀ x c,X.env.cells.lookup x=some c->c≠b)/\∀ p∈X.pn++pins,p.1≠b
theorem Inv.fpOk {X:Cx} {pins:List (Addr × Obj)} {σ:St} {H H':Hp} {s:Shared} {b:Addr} (I:Inv X pins σ H s) (hb:s.heap.objs.size<=b) (hn:H' b=none):ZaC X pins H' b:=by
 refine ⟨hn,Nat.ne_of_gt (QBb I.lt hb),I.nofs hb,.inr (QAs I.sz hb),fun x c e z=>?_,fun p hp z=>?_⟩
 ·obtain ⟨v,q⟩:=I.cell x c e;exact absurd (QBb q.lt (by rw [z]; exact hb)) (QCe _)
 ·exact absurd (QBb (QAi (I.pin p hp).1) (by rw [z]; exact hb)) (QCe _)
structure Turn (P:Program) (w:World) (K:QZa) (tg:Expr) (J:It) (fp:List Addr) (it:Addr) (tn:Nat->Heap->Prop):Prop where
 mem:it∈fp
 obj:∀ i h,tn i h->∀ b∈fp,∃ o,h.get? b=some o/\∀ v,o.data ≠ .cell v
 keep:∀ i h h',tn i h->(∀ b∈fp,∀ o,h.get? b=some o->h'.get? b=some o)->tn i h'
 item:∀ (X:Cx),X.prog=P->X.w=w->X.K=K->X.calm=true->∀ (i:Nat) (pins:List (Addr × Obj)) (s:Shared) (σ:St) (H:Hp) (E:Value->Shared->Prop),Inv X pins σ H s->(∀ b∈fp,ZaC X pins H b)->tn i s.heap->J.go i H ->
  wpAny (model P w) X.A (pyNext (.ref it)) (fun r s1=>∃ u,r=some u /\
   wpAny (model P w) X.A (letOwnedTupleGo tg (.ref it) u) (fun _ s2=>∃ x H',Inv X pins σ H' s2/\RelV x u/\J.yld i H x H'/\tn (i+1) s2.heap/\∀ b∈fp,H' b=none) E s1) E s
 done:∀ (X:Cx),X.prog=P->X.w=w->X.K=K->X.calm=true->∀ (i:Nat) (pins:List (Addr × Obj)) (s:Shared) (σ:St) (H:Hp) (E:Value->Shared->Prop),Inv X pins σ H s->(∀ b∈fp,ZaC X pins H b)->tn i s.heap->J.stop i H ->
  wpAny (model P w) X.A (pyNext (.ref it)) (fun r s1=>r=none/\Inv X pins σ H s1) E s
 self:∀ (A:Around) (i:Nat) (s:Shared) (Q:Value->Shared->Prop) (E:Value->Shared->Prop),tn i s.heap->Q (.ref it) s->wpAny (model P w) A (pyIter (.ref it)) Q E s
noncomputable abbrev TI:=St->Hp->(It->Hp->Prop)->Prop
noncomputable def PIE (X:Cx) (pins:List (Addr × Obj)) (σ:St) (tg:Expr) (R:It->Hp->Prop) (itv:Value) (s2:Shared):Prop :=
 ∃ (it:Addr) (fp:List Addr) (tn:Nat->Heap->Prop) (J:It) (H':Hp),itv = .ref it/\Inv X pins σ H' s2/\Turn X.prog X.w X.K tg J fp it tn/\tn 0 s2.heap/\(∀ b∈fp,ZaC X pins H' b)/\R J H'
noncomputable def PI (X:Cx) (tg iter:Expr) (wi:TI):Prop :=
 ∀ (pins:List (Addr × Obj)) (s:Shared) (σ:St) (H:Hp) (R:It->Hp->Prop),Inv X pins σ H s->wi σ H R ->
  wpAny (model X.prog X.w) X.A (eval iter X.env) (fun v s1=>wpAny (model X.prog X.w) X.A (pyIter v) (PIE X pins σ tg R) X.xe s1) X.xe s
theorem Zjx {M:Model} {A:Around} {E:Value->Shared->Prop} {s:Shared} {tg:Expr} {it:Addr} {u:Value} {o:Obj} {n:String} {vs:Array Value} {Q:Unit->Shared->Prop} (ho:s.heap.get? it=some o) (hc:o.cls = .type n) (hd:o.data = .fields vs)
    (hn:["enumerate", "zip", "dict_itemiterator", "dict_reverseitemiterator", "odict_iterator", "itertools.zip_longest", "itertools.pairwise"].contains n=false) (hQ:Q () s):wpAny M A (letOwnedTupleGo tg (.ref it) u) Q E s := by
  unfold letOwnedTupleGo
  cases tg <;> first
    | exact QZr hQ
    | (cases u <;> first
        | exact QZr hQ
        | (refine QZq (wpAny_load ho ?_)
           rw [hc, hd];show wpAny M A (if (["enumerate", "zip", "dict_itemiterator", "dict_reverseitemiterator", "odict_iterator", "itertools.zip_longest", "itertools.pairwise"].contains n&&vs[0]? == some (rawInt _))=true then _ else _) Q E s;rw [if_neg (by intro h; rw [hn, QCa] at h; cases h)];exact QZr hQ))
noncomputable def Itl (K:QZa) (a:Addr):It :=
 ⟨fun i H=>∃ xs x,SqL K H a xs/\xs[i]? = some x,fun i H x H'=>H'=H/\∀ xs,SqL K H a xs->xs[i]? = some x,fun i H=>∃ xs,SqL K H a xs/\xs.length<=i⟩
noncomputable def Itt (K:QZa) (a:Addr):It :=
 ⟨fun i H=>∃ xs x,SqT K H a xs/\xs[i]? = some x,fun i H x H'=>H'=H/\∀ xs,SqT K H a xs->xs[i]? = some x,fun i H=>∃ xs,SqT K H a xs/\xs.length<=i⟩
noncomputable def Itr (lo:Int) (n:Nat):It:=⟨fun i _=>i<n,fun i H x H'=>H'=H/\x = .int (lo+i),fun i _=>n<=i⟩
theorem ZhY {P:Program} {w:World} {K:QZa} {tg:Expr} (a it:Addr):Turn P w K tg (Itl K a) [it] it (fun i h=>h.IsListIter it a i) where
 mem:=by simp
 obj:=fun i h st b hb=>by
  have e:b=it:=by simpa using hb
  subst e;obtain ⟨o,e,c,d⟩:=st;exact ⟨o,e,fun v z=>by rw [d] at z; cases z⟩
 keep:=fun i h h' st k=>st.at fun o e=>k it (by simp) o e
 item:=by
  intro X hP hw hK hc i pins s σ H E I hf st hg;subst hP hw hK;obtain ⟨xs,x,hq,hx⟩:=hg;obtain ⟨its,rv,p,hz⟩:=I.list hq;obtain ⟨u,hu,ru⟩:=rv.get hx;obtain ⟨f0,f1,f2,f3,f4,f5⟩:=hf it (by simp);refine wpAny_pyNext_list_item st p.isList (x:=u) (by simpa using hu) fun h' st' sb=>?_;have I1:Inv X pins σ H { s with heap:=h' }:=I.turned (t':=s.toks) (fun b o hb e=>(sb.2 b hb).trans e) f0 f1 f3 f4 f5;obtain ⟨o,e,c,d⟩:=id st';exact ⟨u,rfl,Zjx (s:={ s with heap:=h' }) e c d (by decide) ⟨x,H,I1,ru,⟨rfl,fun ys hy=>by rw [I.list_inj hy hq]; exact hx⟩,st',fun b hb=>(hf b hb).1⟩⟩
 done:=by
  intro X hP hw hK hc i pins s σ H E I hf st hg;subst hP hw hK;obtain ⟨xs,hq,hx⟩:=hg;obtain ⟨its,rv,p,hz⟩:=I.list hq;obtain ⟨f0,f1,f2,f3,f4,f5⟩:=hf it (by simp);have hl:=rv.length;exact wpAny_pyNext_list_end (I.ok.hd hc) st p.isList (by simp; exact O444 hx hl) fun h' eb=>⟨rfl,I.turned (t':=s.toks) (fun b o hb e=>eb b o hb e) f0 f1 f3 f4 f5⟩
 self:=fun _ _ _ _ _ st h=>wpAny_pyIter_listiter st h
theorem Zgi {P:Program} {w:World} {K:QZa} {tg:Expr} (a it:Addr):Turn P w K tg (Itt K a) [it] it (fun i h=>h.IsTupleIter it a i) where
 mem:=by simp
 obj:=fun i h st b hb=>by
  have e:b=it:=by simpa using hb
  subst e;obtain ⟨o,e,c,d⟩:=st;exact ⟨o,e,fun v z=>by rw [d] at z; cases z⟩
 keep:=fun i h h' st k=>st.at fun o e=>k it (by simp) o e
 item:=by
  intro X hP hw hK hc i pins s σ H E I hf st hg;subst hP hw hK;obtain ⟨xs,x,hq,hx⟩:=hg;obtain ⟨its,rv,p,hz⟩:=I.tuple hq;obtain ⟨u,hu,ru⟩:=rv.get hx;obtain ⟨f0,f1,f2,f3,f4,f5⟩:=hf it (by simp);refine wpAny_pyNext_tuple_item st (show s.heap.IsTuple a its.toArray from p) (x:=u) (by simpa using hu) fun h' st' sb=>?_;have I1:Inv X pins σ H { s with heap:=h' }:=I.turned (t':=s.toks) (fun b o hb e=>(sb.2 b hb).trans e) f0 f1 f3 f4 f5;obtain ⟨o,e,c,d⟩:=id st';exact ⟨u,rfl,Zjx (s:={ s with heap:=h' }) e c d (by decide) ⟨x,H,I1,ru,⟨rfl,fun ys hy=>by rw [I.tuple_inj hy hq]; exact hx⟩,st',fun b hb=>(hf b hb).1⟩⟩
 done:=by
  intro X hP hw hK hc i pins s σ H E I hf st hg;subst hP hw hK;obtain ⟨xs,hq,hx⟩:=hg;obtain ⟨its,rv,p,hz⟩:=I.tuple hq;obtain ⟨f0,f1,f2,f3,f4,f5⟩:=hf it (by simp);have hl:=rv.length;exact wpAny_pyNext_tuple_end (I.ok.hd hc) st (show s.heap.IsTuple a its.toArray from p) (by simp; exact O444 hx hl) fun h' eb=>⟨rfl,I.turned (t':=s.toks) (fun b o hb e=>eb b o hb e) f0 f1 f3 f4 f5⟩
 self:=fun _ _ _ _ _ st h=>wpAny_pyIter_tupleiter st h
theorem Zgj {P:Program} {w:World} {K:QZa} {tg:Expr} (it:Addr) (lo:Int) (n:Nat):Turn P w K tg (Itr lo n) [it] it (fun i h=>IsRangeIter h it (lo+(i:Nat)*1) ((n:Int) - (i:Nat)) 1) where
 mem:=by simp
 obj:=fun i h st b hb=>by
  have e:b=it:=by simpa using hb
  subst e;exact ⟨_,st,fun v z=>by
   have z':Data.fields _=Data.cell v:=z
   cases z'⟩
 keep:=fun i h h' st k=>k it (by simp) _ st
 item:=by
  intro X hP hw hK hc i pins s σ H E I hf st hg;subst hP hw hK;obtain ⟨f0,f1,f2,f3,f4,f5⟩:=hf it (by simp);have W:=Walks.range (prog:=X.prog) (w:=X.w) (I.ok.hd hc) it lo 1 n;refine W.item i s _ _ hg st fun v h' tk hv st' kk=>?_;obtain ⟨t,rfl⟩:=hv;have I1:Inv X pins σ H { s with heap:=h',toks:=tk }:=I.turned (fun b o hb e=>kk b o (by simpa using hb) e) f0 f1 f3 f4 f5;refine ⟨_,rfl,Zjx (s:={ s with heap:=h',toks:=tk }) (n:="range_iterator") st' rfl rfl (by decide) ⟨.int (lo+i),H,I1,⟨t,?_⟩,⟨rfl,rfl⟩,st',fun b hb=>(hf b hb).1⟩⟩;rw [Int.mul_one]
 done:=by
  intro X hP hw hK hc i pins s σ H E I hf st hg;subst hP hw hK;obtain ⟨f0,f1,f2,f3,f4,f5⟩:=hf it (by simp);exact wpAny_pyNext_range_end (I.ok.hd hc) st (by have:n<=i:=hg; omega) fun h' eb=>⟨rfl,I.turned (t':=s.toks) (fun b o hb e=>eb b o hb e) f0 f1 f3 f4 f5⟩
 self:=fun _ _ _ _ _ st h=>wpAny_pyIter_rangeiter st h
end L2
namespace L2
open PySem PySem.Spec PyProof.Rows
section
variable {X:Cx} {tg:Expr}
noncomputable def Zlc (K:QZa) (tl:TE):TI:=fun σ H R=>tl σ H fun x H1=>∃ a,x = .ref a/\(∃ xs,SqL K H1 a xs)/\R (Itl K a) H1
noncomputable def ZmJ (K:QZa) (tl:TE):TI:=fun σ H R=>tl σ H fun x H1=>∃ a,x = .ref a/\(∃ xs,SqT K H1 a xs)/\R (Itt K a) H1
theorem Zcf {l:Expr} {tl:TE} (hl:PE X l tl):PI X tg l (Zlc X.K tl):=by
 intro pins s σ H R I h;refine thn (hl pins s σ H _ I h) fun v s1 zz0=>?_;obtain ⟨x,H1,I1,r1,q1⟩:=zz0;obtain ⟨a,e,⟨xs,hq⟩,q⟩:=q1;subst e
 cases r1;obtain ⟨its,rv,p,hz⟩:=I1.list hq;refine wpAny_pyIter_list p.isList ?_;refine ⟨s1.heap.objs.size,[s1.heap.objs.size],_,_,H1,rfl,I1.kept (t':=s1.toks) fun b o e=>QAk _ e,ZhY a _,⟨_,QAy _ rfl,rfl,rfl⟩,fun b hb=>?_,q⟩;have e:b=s1.heap.objs.size:=by simpa using hb
 subst e;exact I1.fpOk (QAd _) (I1.hok.fresh (QAd _))
theorem Zgy {l:Expr} {tl:TE} (hl:PE X l tl):PI X tg l (ZmJ X.K tl):=by
 intro pins s σ H R I h;refine thn (hl pins s σ H _ I h) fun v s1 zz0=>?_;obtain ⟨x,H1,I1,r1,q1⟩:=zz0;obtain ⟨a,e,⟨xs,hq⟩,q⟩:=q1;subst e
 cases r1;obtain ⟨its,rv,p,hz⟩:=I1.tuple hq;refine wpAny_pyIter_tuple (show s1.heap.IsTuple a its.toArray from p) ?_;refine ⟨s1.heap.objs.size,[s1.heap.objs.size],_,_,H1,rfl,I1.kept (t':=s1.toks) fun b o e=>QAk _ e,Zgi a _,⟨_,QAy _ rfl,rfl,rfl⟩,fun b hb=>?_,q⟩;have e:b=s1.heap.objs.size:=by simpa using hb
 subst e;exact I1.fpOk (QAd _) (I1.hok.fresh (QAd _))
theorem Ze3 {pins:List (Addr × Obj)} {σ:St} {H:Hp} {s:Shared} {R:It->Hp->Prop} {E:Value->Shared->Prop} {lo hi:Int} {t u v:Tok} {tk:Nat} (I:Inv X pins σ H s) (h1 : -(2 ^ 62)<=lo) (h2:lo<2 ^ 62) (h3 : -(2 ^ 62)<=hi) (h4:hi<2 ^ 62)
  (q:R (Itr lo (hi - lo).toNat) H):wpAny (model X.prog X.w) X.A (pyIter (.ref s.heap.objs.size)) (PIE X pins σ tg R) E { s with heap:=s.heap.push { cls:=.type "range",data:=.fields #[.int lo t,.int hi u,.int 1 v] },toks:=tk }:=by
 refine wpAny_pyIter_range (IsRange.new ..) (small_one h1 h2 h3 h4) ?_;have I1:Inv X pins σ H { s with heap:=s.heap.push { cls:=.type "range",data:=.fields #[.int lo t,.int hi u,.int 1 v] },toks:=tk }:=I.kept fun b o e=>QAk _ e
 refine ⟨(s.heap.push { cls:=.type "range",data:=.fields #[.int lo t,.int hi u,.int 1 v] }).objs.size,[(s.heap.push { cls:=.type "range",data:=.fields #[.int lo t,.int hi u,.int 1 v] }).objs.size],_,_,H,rfl,
  I1.kept (t':=tk) fun b o e=>QAk _ e,Zgj _ lo (hi - lo).toNat,?_,fun b hb=>?_,q⟩
 ·have e1:lo+((0:Nat):Int)*1=lo:=by simp
  have e2:(((hi - lo).toNat:Nat):Int) - ((0:Nat):Int)=Builtin.Range.rangeSize lo hi 1:=by rw [rangeSize_one]; split <;> omega
  show IsRangeIter _ _ (lo+((0:Nat):Int)*1) ((((hi - lo).toNat:Nat):Int) - ((0:Nat):Int)) 1;rw [e1,e2];exact QAy _ rfl
 ·have e:b=(s.heap.push { cls:=.type "range",data:=.fields #[.int lo t,.int hi u,.int 1 v] }).objs.size:=by simpa using hb
  subst e;exact I1.fpOk (QAd _) (I1.hok.fresh (QAd _))
noncomputable def ZmL (ta:TA):TI:=fun σ H R=>ta σ H fun vs H1=>∃ j:Int,vs=[.int j] /\ -(2 ^ 62)<=j/\j<2 ^ 62/\R (Itr 0 j.toNat) H1
noncomputable def ZmK (ta:TA):TI:=fun σ H R=>ta σ H fun vs H1=>∃ i j:Int,vs=[.int i,.int j]/\(-(2 ^ 62)<=i/\i<2 ^ 62 /\ -(2 ^ 62)<=j/\j<2 ^ 62)/\R (Itr i (j - i).toNat) H1
theorem Zx {a:Expr} {ta:TA} {p pos:Pos} (hg:Gl X "range") (hm:X.mg "range" = none) (ha:PA X [a] ta) (hs:starEach [a] X.env=[(false,eval a X.env)]:=by rfl):PI X tg (.Call (.Name "range" p) [a] [] pos) (ZmL ta):=by
 intro pins s σ H R I h;refine Call_ (Za6 I hg hm boot_range (PyProof.Rows.callWith_type1 (thn (ha pos pins s σ H _ I h) fun us s1 zz0=>?_) hs rfl));obtain ⟨vs,H1,I1,r1,q1⟩:=zz0;obtain ⟨j,e,q1,q2,q⟩:=q1;subst e
 cases r1 with
 | cons r rr =>
  cases rr;obtain ⟨t,rfl⟩:=r;exact call_range_1 (Ze3 I1 (by exact O493 ) (by exact O492 ) q1 q2 (by simpa using q))
theorem Zh5 {a b:Expr} {ta:TA} {p pos:Pos} (hg:Gl X "range") (hm:X.mg "range" = none) (ha:PA X [a,b] ta) (hs:starEach [a,b] X.env=[(false,eval a X.env),(false,eval b X.env)]:=by rfl) (hs2:starEach [b] X.env=[(false,eval b X.env)]:=by rfl) :
  PI X tg (.Call (.Name "range" p) [a,b] [] pos) (ZmK ta):=by
 intro pins s σ H R I h;refine Call_ (Za6 I hg hm boot_range (PyProof.Rows.callWith_type1 (thn (ha pos pins s σ H _ I h) fun us s1 zz0=>?_) (by rw [hs,hs2]) (by rw [hs2]; rfl)));obtain ⟨vs,H1,I1,r1,q1⟩:=zz0;obtain ⟨i,j,e,⟨q1,q2,q3,q4⟩,q⟩:=q1;subst e
 cases r1 with
 | cons r rr =>
  cases rr with
  | cons r' rr =>
   cases rr;obtain ⟨t,rfl⟩:=r;obtain ⟨t',rfl⟩:=r';exact call_range_2 (Ze3 I1 q1 q2 q3 q4 q)
noncomputable def Zm8 (wi:TI) (g:TG) (tb:TS):TS:=fun D σ H=>wi σ H fun J H1=>∃ W:Nat->Nat->St->Hp->Prop,(∃ m,W 0 m σ H1)/\∀ i m σ H,W i m σ H ->
 (J.stop i H/\D.nx σ H)\/(J.go i H/\∃ N:St->Hp->Prop,(∀ σ' H',N σ' H'->∃ m',m'<m/\W (i+1) m' σ' H')/\∀ x H',J.yld i H x H'->g x σ H' fun σ2 H2=>tb { D with nx:=N,ct:=N,bk:=D.nx } σ2 H2)
noncomputable def ZbG (fp:List Addr) (h:Heap):List (Addr × Obj):=fp.filterMap fun b=>(h.get? b).map fun o=>(b,o)
theorem Jc {fp:List Addr} {h:Heap} {b:Addr} {o:Obj} (hb:b∈fp) (e:h.get? b=some o):(b,o)∈ZbG fp h:=List.mem_filterMap.mpr ⟨b,hb,by rw [e]; rfl⟩
theorem Zid {fp:List Addr} {h:Heap} {p:Addr × Obj} (hp:p∈ZbG fp h):p.1∈fp/\h.get? p.1=some p.2:=by
 obtain ⟨b,hb,e⟩:=List.mem_filterMap.mp hp
 cases q:h.get? b with
 | none=>rw [q] at e; cases e
 | some o =>
  rw [q] at e;have e':(b,o)=p:=QZl e;subst e';exact ⟨hb,q⟩
theorem Inv.pinned {pins:List (Addr × Obj)} {σ:St} {H:Hp} {s:Shared} {fp:List Addr} (I:Inv X pins σ H s) (hf:∀ b∈fp,ZaC X pins H b) (ho:∀ b∈fp,∃ o,s.heap.get? b=some o/\∀ v,o.data ≠ .cell v):Inv X (pins++ZbG fp s.heap) σ H s :=
 I.pins_of fun p hp=>(QZf.mp hp).elim (fun z=>I.pin p (QBi _ z)) fun z=>by
  obtain ⟨hb,e⟩:=Zid z;obtain ⟨f0,f1,f2,_⟩:=hf p.1 hb;obtain ⟨o,e',d⟩:=ho p.1 hb;rw [e] at e'; cases e';exact ⟨e,f0,f1,f2,d⟩
theorem Inv.unpinned {pins pl:List (Addr × Obj)} {σ:St} {H:Hp} {s:Shared} (I:Inv X (pins++pl) σ H s):Inv X pins σ H s:=I.pins_of fun p hp=>I.pin p (QBi _ (QBh _ hp))
theorem Yv {iter:Expr} {body:List Stmt} {wi:TI} {g:TG} {tb:TS} {pos:Pos} (hp:PassesOwn (model X.prog X.w) X.A X.env X.xe) (hc:X.calm=true) (hi:PI X tg iter wi) (hg:PG X tg g) (hb:PSs X body tb)
  (hs:∀ x,foldedSetIterable iter X.env x=pure x:=by intro _; rfl):PS X (.For tg iter body [] pos) (Zm8 wi g tb):=by
 intro pins s σ H D I h;refine wpAny_For (thn (hi pins s σ H _ I h) fun v s1 h1=>thn h1 fun itv s2 h2=>?_) hs;obtain ⟨it,fp,tn,J,H2,e,I2,T,st2,f2,W,⟨m0,w0⟩,turn⟩:=h2;subst e;have stat:∀ {H':Hp},(∀ b∈fp,H' b=none)->∀ b∈fp,ZaC X pins H' b:=fun hn b hb=>⟨hn b hb,(f2 b hb).2⟩
 refine codeAny_forLoop_any (fun n s'=>∃ i σ' H',Inv X pins σ' H' s'/\tn i s'.heap/\(∀ b∈fp,H' b=none)/\W i n σ' H') ?_ m0 ⟨0,σ,H2,I2,st2,fun b hb=>(f2 b hb).1,w0⟩;rintro n s3 ⟨i,σ3,H3,I3,st3,fr3,w3⟩
 rcases turn i n σ3 H3 w3 with ⟨stop,qn⟩ | ⟨go,N,hN,step⟩
 ·refine wpAny_passesOwn hp (thn (T.done X rfl rfl rfl hc i pins s3 σ3 H3 X.xe I3 (stat fr3) st3 stop) fun r s4 zz0=>?_);obtain ⟨hr,I4⟩:=zz0;subst hr;exact wpAny_execs_nil ⟨σ3,H3,I4,qn⟩
 ·refine wpAny_passesOwn hp (thn (T.item X rfl rfl rfl hc i pins s3 σ3 H3 X.xe I3 (stat fr3) st3 go) fun r s4 zz0=>?_);obtain ⟨u,hr,h4⟩:=zz0;subst hr;refine wpAny_passesOwn hp (thn h4 fun _ s5 zz0=>?_);obtain ⟨x,H5,I5,r5,y5,st5,fr5⟩:=zz0;have I5':=I5.pinned (stat fr5) (T.obj _ _ st5);refine wpAny_passesOwn hp (thn (hg _ s5 σ3 H5 x u _ I5' r5 (step x H5 y5)) fun _ s6 zz0=>?_);obtain ⟨σ6,H6,I6,q6⟩:=zz0;refine wpAny_passesOwn hp (thn (hb _ s6 σ6 H6 _ I6 q6) fun f s7 q7=>?_);have again:∀ {σ7:St} {H7:Hp},Inv X (pins++ZbG fp s5.heap) σ7 H7 s7->N σ7 H7->∃ m,m<n/\∃ i σ' H',Inv X pins σ' H' s7/\tn i s7.heap/\(∀ b∈fp,H' b=none)/\W i m σ' H':=fun {σ7 H7} I7 n7=>by
   obtain ⟨m',hm,w7⟩:=hN σ7 H7 n7;refine ⟨m',hm,i+1,σ7,H7,I7.unpinned,T.keep _ _ _ st5 fun b hb o e=>(I7.pin (b,o) (QBi _ (QBi _ (Jc hb e)))).1,fun b hb=>?_,w7⟩;obtain ⟨o,e,d⟩:=T.obj _ _ st5 b hb;exact (I7.pin (b,o) (QBi _ (QBi _ (Jc hb e)))).2.1
  cases f with
  | next=>obtain ⟨σ7,H7,I7,n7⟩:=q7; exact again I7 n7
  | cont=>obtain ⟨σ7,H7,I7,n7⟩:=q7; exact again I7 n7
  | brk=>obtain ⟨σ7,H7,I7,q7⟩:=q7; exact ⟨σ7,H7,I7.unpinned,q7⟩
  | ret v=>obtain ⟨x7,σ7,H7,I7,r7,q7⟩:=q7; exact ⟨x7,σ7,H7,I7.unpinned,r7,q7⟩
end
theorem ZcS {K:QZa} {a:Addr} {xs:List V} {g:TG} {tb:TS} {D:Zdj} {σ:St} {H:Hp} (Pv:Nat->St->Hp->Prop) (h0:Pv 0 σ H) (hl:∀ i σ H,i<=xs.length->Pv i σ H->SqL K H a xs)
  (hs:∀ i x σ H,xs[i]? = some x->Pv i σ H->g x σ H fun σ2 H2=>tb { D with nx:=Pv (i+1),ct:=Pv (i+1),bk:=D.nx } σ2 H2) (hd:∀ σ H,Pv xs.length σ H->D.nx σ H) :
  ∃ W:Nat->Nat->St->Hp->Prop,(∃ m,W 0 m σ H)/\∀ i m σ H,W i m σ H ->
   ((Itl K a).stop i H/\D.nx σ H)\/((Itl K a).go i H/\∃ N:St->Hp->Prop,(∀ σ' H',N σ' H'->∃ m',m'<m/\W (i+1) m' σ' H')/\∀ x H',(Itl K a).yld i H x H'->g x σ H' fun σ2 H2=>tb { D with nx:=N,ct:=N,bk:=D.nx } σ2 H2):=by
 refine ⟨fun i m σ H=>m=xs.length - i/\i<=xs.length/\Pv i σ H,⟨xs.length,by simp,QAh _,h0⟩,?_⟩;rintro i m σ H ⟨rfl,hi,p⟩;have q:=hl i σ H hi p
 by_cases hlt:i<xs.length
 ·refine .inr ⟨⟨xs,xs[i],q,by simp [hlt]⟩,Pv (i+1),fun σ' H' p'=>⟨xs.length - (i+1),by exact O405 hlt,rfl,hlt,p'⟩,fun x H' y=>?_⟩;obtain ⟨e,y⟩:=y;subst e;exact hs i x σ _ (y xs q) p
 ·have e:i=xs.length:=by exact O495 hi hlt
  subst e;exact .inl ⟨⟨xs,q,QAd _⟩,hd σ H p⟩
theorem ZhA {K:QZa} {a:Addr} {xs:List V} {g:TG} {tb:TS} {D:Zdj} {σ:St} {H:Hp} (Pv:Nat->St->Hp->Prop) (h0:Pv 0 σ H) (hl:∀ i σ H,i<=xs.length->Pv i σ H->SqT K H a xs)
  (hs:∀ i x σ H,xs[i]? = some x->Pv i σ H->g x σ H fun σ2 H2=>tb { D with nx:=Pv (i+1),ct:=Pv (i+1),bk:=D.nx } σ2 H2) (hd:∀ σ H,Pv xs.length σ H->D.nx σ H) :
  ∃ W:Nat->Nat->St->Hp->Prop,(∃ m,W 0 m σ H)/\∀ i m σ H,W i m σ H ->
   ((Itt K a).stop i H/\D.nx σ H)\/((Itt K a).go i H/\∃ N:St->Hp->Prop,(∀ σ' H',N σ' H'->∃ m',m'<m/\W (i+1) m' σ' H')/\∀ x H',(Itt K a).yld i H x H'->g x σ H' fun σ2 H2=>tb { D with nx:=N,ct:=N,bk:=D.nx } σ2 H2):=by
 refine ⟨fun i m σ H=>m=xs.length - i/\i<=xs.length/\Pv i σ H,⟨xs.length,by simp,QAh _,h0⟩,?_⟩;rintro i m σ H ⟨rfl,hi,p⟩;have q:=hl i σ H hi p
 by_cases hlt:i<xs.length
 ·refine .inr ⟨⟨xs,xs[i],q,by simp [hlt]⟩,Pv (i+1),fun σ' H' p'=>⟨xs.length - (i+1),by exact O405 hlt,rfl,hlt,p'⟩,fun x H' y=>?_⟩;obtain ⟨e,y⟩:=y;subst e;exact hs i x σ _ (y xs q) p
 ·have e:i=xs.length:=by exact O495 hi hlt
  subst e;exact .inl ⟨⟨xs,q,QAd _⟩,hd σ H p⟩
theorem Ym {lo:Int} {n:Nat} {g:TG} {tb:TS} {D:Zdj} {σ:St} {H:Hp} (Pv:Nat->St->Hp->Prop) (h0:Pv 0 σ H)
  (hs:∀ i σ H,i<n->Pv i σ H->g (.int (lo+i)) σ H fun σ2 H2=>tb { D with nx:=Pv (i+1),ct:=Pv (i+1),bk:=D.nx } σ2 H2) (hd:∀ σ H,Pv n σ H->D.nx σ H) :
  ∃ W:Nat->Nat->St->Hp->Prop,(∃ m,W 0 m σ H)/\∀ i m σ H,W i m σ H ->
   ((Itr lo n).stop i H/\D.nx σ H)\/((Itr lo n).go i H/\∃ N:St->Hp->Prop,(∀ σ' H',N σ' H'->∃ m',m'<m/\W (i+1) m' σ' H')/\∀ x H',(Itr lo n).yld i H x H'->g x σ H' fun σ2 H2=>tb { D with nx:=N,ct:=N,bk:=D.nx } σ2 H2):=by
 refine ⟨fun i m σ H=>m=n - i/\i<=n/\Pv i σ H,⟨n,by simp,QAh _,h0⟩,?_⟩;rintro i m σ H ⟨rfl,hi,p⟩
 by_cases hlt:i<n
 ·refine .inr ⟨hlt,Pv (i+1),fun σ' H' p'=>⟨n - (i+1),by exact O405 hlt,rfl,hlt,p'⟩,fun x H' y=>?_⟩;obtain ⟨e,y⟩:=y;subst e y;exact hs i σ _ hlt p
 ·have e:i=n:=by exact O495 hi hlt
  subst e;exact .inl ⟨QAd _,hd σ H p⟩
end L2
namespace L2
open PySem PySem.Spec PyProof.Rows
noncomputable abbrev R2:=V->V->Hp->VK->Prop
noncomputable def OpR (X:Cx) (f:Value->Value->Sem Value) (r:R2):Prop :=
 ∀ (pins:List (Addr × Obj)) (s:Shared) (σ:St) (H:Hp) (x y:V) (v u:Value) (Q:VK),Inv X pins σ H s->RelV x v->RelV y u->r x y H Q ->
  wpAny (model X.prog X.w) X.A (f v u) (EP X pins σ Q) X.xe s
noncomputable def Y5 (X:Cx) (f:Value) (r:List V->Hp->VK->Prop):Prop :=
 ∀ (pins:List (Addr × Obj)) (s:Shared) (σ:St) (H:Hp) (xs:List V) (us:List Value) (Q:VK),Inv X pins σ H s->Vals xs us->r xs H Q ->
  wpAny (model X.prog X.w) X.A (call f us) (EP X pins σ Q) X.xe s
noncomputable def Znp (X:Cx) (r:V->Hp->(Bool->Hp->Prop)->Prop):Prop :=
 ∀ (pins:List (Addr × Obj)) (s:Shared) (σ:St) (H:Hp) (x:V) (v:Value) (Q:Bool->Hp->Prop),Inv X pins σ H s->RelV x v->r x H Q ->
  wpAny (model X.prog X.w) X.A (truthy v) (TP X pins σ Q) X.xe s
noncomputable def tOp (r:R2) (ta tb:TE):TE:=fun σ H Q=>ta σ H fun x H1=>tb σ H1 fun y H2=>r x y H2 Q
inductive RII (C:Int->Int->Prop) (g:Int->Int->V) (x:V) (y:V) (H:Hp) (Q:VK):Prop where
 | mk (i:Int) (j:Int) (_:x = .int i) (_:y = .int j) (_:C i j) (_:Q (g i j) H):RII C g x y H Q
noncomputable def rI (C:Int->Int->Prop) (g:Int->Int->V):R2:=fun x y H Q=>RII C g x y H Q
inductive ZmW (g:Int->Int->V) (x:V) (y:V) (H:Hp) (Q:VK):Prop where
 | mk (i:Int) (j:Int) (_:x = .int i) (_:y = .int j) (_:Q (g i j) H):ZmW g x y H Q
noncomputable def rI0 (g:Int->Int->V):R2:=fun x y H Q=>ZmW g x y H Q
section
variable {X:Cx} {a b c:Expr} {ta tb tc:TE} {pos:Pos}
theorem Zl8 (ha:PE X a ta) (hb:PE X b tb) {pins:List (Addr × Obj)} {s:Shared} {σ:St} {H:Hp} {R:V->V->Hp->Prop} (I:Inv X pins σ H s)
  (h:ta σ H fun x H1=>tb σ H1 fun y H2=>R x y H2) {Q:Value->Shared->Prop} {f:Value->Value->Sem Value}
  (hf:∀ v u s2 x y H2,Inv X pins σ H2 s2->RelV x v->RelV y u->R x y H2->wpAny (model X.prog X.w) X.A (f v u) Q X.xe s2) :
  wpAny (model X.prog X.w) X.A (eval a X.env) (fun v s₁=>wpAny (model X.prog X.w) X.A (eval b X.env) (fun u s₂=>wpAny (model X.prog X.w) X.A (f v u) Q X.xe s₂) X.xe s₁) X.xe s:=by
 refine thn (ha pins s σ H _ I h) fun v s1 zz0=>?_;obtain ⟨x,H1,I1,r1,q1⟩:=zz0;refine thn (hb pins s1 σ H1 _ I1 q1) fun u s2 zz0=>?_;obtain ⟨y,H2,I2,r2,q2⟩:=zz0;exact hf v u s2 x y H2 I2 r1 r2 q2
theorem Zj {op:Operator} {r:R2} (ho:OpR X (binaryOp op) r) (ha:PE X a ta) (hb:PE X b tb):PE X (.BinOp a op b pos) (tOp r ta tb):=by
 intro pins s σ H Q I h;exact wpAny_BinOp (Zl8 ha hb I h fun v u s2 x y H2 I2 rx ry q=>ho pins s2 σ H2 x y v u Q I2 rx ry q)
theorem opI {f:Value->Value->Sem Value} {C:Int->Int->Prop} {g:Int->Int->Int}
  (rule:∀ (i j:Int) (t u:Tok) (s:Shared) (Q:Value->Shared->Prop) (E:Value->Shared->Prop),C i j->Q (.int (g i j) s.toks) { s with toks:=s.toks+1 }->wpAny (model X.prog X.w) X.A (f (.int i t) (.int j u)) Q E s) :
  OpR X f (rI C fun i j=>.int (g i j)):=by
 intro pins s σ H x y v u Q I rx ry h;obtain ⟨i,j,rfl,rfl,hc,q⟩:=h;obtain ⟨t,rfl⟩:=rx;obtain ⟨t',rfl⟩:=ry;exact rule i j t t' s _ _ hc ⟨.int (g i j),H,I.tok _,⟨_,rfl⟩,q⟩
theorem ZlK {f:Value->Value->Sem Value} {g:Int->Int->Int}
  (rule:∀ (i j:Int) (t u:Tok) (s:Shared) (Q:Value->Shared->Prop) (E:Value->Shared->Prop),Q (.int (g i j) s.toks) { s with toks:=s.toks+1 }->wpAny (model X.prog X.w) X.A (f (.int i t) (.int j u)) Q E s) :
  OpR X f (rI0 fun i j=>.int (g i j)):=by
 intro pins s σ H x y v u Q I rx ry h;obtain ⟨i,j,rfl,rfl,q⟩:=h;obtain ⟨t,rfl⟩:=rx;obtain ⟨t',rfl⟩:=ry;exact rule i j t t' s _ _ ⟨.int (g i j),H,I.tok _,⟨_,rfl⟩,q⟩
theorem ZmE {f:Value->Value->Sem Value} {g:Int->Int->Bool}
  (rule:∀ (i j:Int) (t u:Tok) (s:Shared) (Q:Value->Shared->Prop) (E:Value->Shared->Prop),Q (.bool (g i j)) s->wpAny (model X.prog X.w) X.A (f (.int i t) (.int j u)) Q E s) :
  OpR X f (rI0 fun i j=>.bl (g i j)):=by
 intro pins s σ H x y v u Q I rx ry h;obtain ⟨i,j,rfl,rfl,q⟩:=h;obtain ⟨t,rfl⟩:=rx;obtain ⟨t',rfl⟩:=ry;exact rule i j t t' s _ _ ⟨.bl (g i j),H,I,rfl,q⟩
noncomputable def Zns (i j:Int):Prop:=0<j/\j<1073741824
noncomputable def Znr (i j:Int):Prop:=0<=j/\j<=1000000/\i.natAbs<2 ^ 64
noncomputable def CMul (i j:Int):Prop:=(-(2 ^ 64)<i/\i<2 ^ 64)\/(-(2 ^ 64)<j/\j<2 ^ 64)
theorem CMul.ok {i j:Int} (h:CMul i j):IntMulOk i j:=by
 rcases h with ⟨h1,h2⟩ | ⟨h1,h2⟩
 ·exact .of_left (intBits_le_64 h1 h2)
 ·exact .of_right (intBits_le_64 h1 h2)
theorem Yj:OpR X (binaryOp .Add) (rI0 fun i j=>.int (i+j)):=ZlK fun _ _ _ _ _ _ _ q=>add_int q
theorem ZgB:OpR X (binaryOp .Sub) (rI0 fun i j=>.int (i - j)):=ZlK fun _ _ _ _ _ _ _ q=>sub_int q
theorem JG:OpR X (binaryOp .Mult) (rI CMul fun i j=>.int (i*j)):=opI fun _ _ _ _ _ _ _ hc q=>mul_int q hc.ok
theorem Ys:OpR X (binaryOp .FloorDiv) (rI Zns fun i j=>.int (i / j)):=opI fun i j _ _ _ _ _ hc q=>by
 have h1:(0:Int)<j:=hc.1;have h2:j<1073741824:=hc.2;exact floordiv_int (by exact O531 h1 h2) (by rw [Int.fdiv_eq_ediv_of_nonneg i (by exact O530 h1 h2)]; exact q) (.inl (PyProof.noPylong_small (by omega)))
theorem Z3:OpR X (binaryOp .Mod) (rI (fun _ j=>0<j) fun i j=>.int (i % j)):=opI fun i j _ _ _ _ _ hc q=>by
 have h1:(0:Int)<j:=hc;exact mod_int' (by exact O403 hc) (by rw [Int.fmod_eq_emod_of_nonneg i (by exact O529 hc)]; exact q)
theorem Za2:OpR X (binaryOp .Pow) (rI Znr fun i j=>.int (i ^ j.toNat)):=opI fun _ _ _ _ _ _ _ hc q=>pow_int_small hc.1 hc.2.1 hc.2.2 q
theorem ZlI:OpR X (binaryOp .BitXor) (rI0 fun i j=>.int (Builtin.bitXor i j)):=ZlK fun _ _ _ _ _ _ _ q=>xor_int q
theorem ZkH:OpR X (inplaceOp .Mult) (rI CMul fun i j=>.int (i*j)):=opI fun _ _ _ _ _ _ _ hc q=>imul_int q hc.ok
end
noncomputable def Zms:V->V->Bool
 | .non,.non=>true | .non,.int _=>true | .int _,.non=>true | .non,.bl _=>true | .bl _,.non=>true | .non,.str _=>true | .str _,.non=>true
 | .int _,.int _=>true | .bl _,.bl _=>true | .str _,.str _=>true | .byt _,.byt _=>true
 | .int _,.str _=>true | .str _,.int _=>true | .bl _,.str _=>true | .str _,.bl _=>true
 | _,_=>false
noncomputable def rEq:R2:=fun x y H Q=>Zms x y=true/\Q (.bl (decide (x=y))) H
noncomputable def rNe:R2:=fun x y H Q=>Zms x y=true/\Q (.bl (!decide (x=y))) H
theorem ZhF {i j:Int}:decide (V.int i=V.int j)=(i==j):=by
 rw [QBf]
 simp
theorem ZjJ {i j:Bool}:decide (V.bl i=V.bl j)=(i==j):=by
 rw [QBf]
 simp
theorem ZhE {i j:Str}:decide (V.str i=V.str j)=(i==j):=by
 rw [QBf]
 simp
theorem ZhG {i j:Array UInt8}:decide (V.byt i=V.byt j)=(i.toList==j.toList):=by
 rw [QBf]
 cases i
 cases j
 simp
section
variable {X:Cx} {a b c:Expr} {ta tb tc:TE} {pos:Pos}
theorem ZP {pins:List (Addr × Obj)} {σ:St} {H:Hp} {s:Shared} {Q:VK} {k k':Bool} (I:Inv X pins σ H s) (q:Q (.bl k) H) (e:k=k'):EP X pins σ Q (.bool k') s:=by
 subst e;exact ⟨.bl k,H,I,rfl,q⟩
theorem Zay:OpR X (compareOp .Eq) rEq:=by
 intro pins s σ H x y v u Q I rx ry h;obtain ⟨hs,q⟩:=h
 cases x with
 | non =>
  cases rx
  cases y with
  | non=>cases ry; exact PySem.EqNone.eq_none_none (ZP I q (by simp))
  | bl j=>cases ry; exact PySem.EqNone.eq_none_bool (ZP I q (by simp))
  | int j=>obtain ⟨t',rfl⟩:=ry; exact PySem.EqNone.eq_none_int (ZP I q (by simp))
  | str j=>obtain ⟨t',rfl⟩:=ry; exact PySem.EqNone.eq_none_str (ZP I q (by simp))
  | _=>exact absurd (show false=true from hs) QAl
 | bl i =>
  cases rx
  cases y with
  | non=>cases ry; exact PySem.EqNone.eq_bool_none (ZP I q (by simp))
  | bl j=>cases ry; exact eq_bool (ZP I q ZjJ)
  | str j=>obtain ⟨t',rfl⟩:=ry; exact PySem.EqMixed.eq_bool_str (ZP I q (by simp))
  | _=>exact absurd (show false=true from hs) QAl
 | int i =>
  obtain ⟨t,rfl⟩:=rx
  cases y with
  | non=>cases ry; exact PySem.EqNone.eq_int_none (ZP I q (by simp))
  | int j=>obtain ⟨t',rfl⟩:=ry; exact eq_int (ZP I q ZhF)
  | str j=>obtain ⟨t',rfl⟩:=ry; exact PySem.EqMixed.eq_int_str (ZP I q (by simp))
  | _=>exact absurd (show false=true from hs) QAl
 | str i =>
  obtain ⟨t,rfl⟩:=rx
  cases y with
  | non=>cases ry; exact PySem.EqNone.eq_str_none (ZP I q (by simp))
  | bl j=>cases ry; exact PySem.EqMixed.eq_str_bool (ZP I q (by simp))
  | int j=>obtain ⟨t',rfl⟩:=ry; exact PySem.EqMixed.eq_str_int (ZP I q (by simp))
  | str j=>obtain ⟨t',rfl⟩:=ry; exact eq_str (ZP I q ZhE)
  | _=>exact absurd (show false=true from hs) QAl
 | byt i =>
  obtain ⟨t,rfl⟩:=rx
  cases y with
  | byt j=>obtain ⟨t',rfl⟩:=ry; exact PySem.W.eq_bytes (ZP I q ZhG)
  | _=>exact absurd (show false=true from hs) QAl
 | _=>cases y <;> exact absurd (show false=true from hs) QAl
theorem Zhl:OpR X (compareOp .NotEq) rNe:=by
 intro pins s σ H x y v u Q I rx ry h;obtain ⟨hs,q⟩:=h
 cases x with
 | non =>
  cases rx
  cases y with
  | non=>cases ry; exact PySem.EqNone.ne_none_none (ZP I q (by simp))
  | bl j=>cases ry; exact PySem.EqNone.ne_none_bool (ZP I q (by simp))
  | int j=>obtain ⟨t',rfl⟩:=ry; exact PySem.EqNone.ne_none_int (ZP I q (by simp))
  | str j=>obtain ⟨t',rfl⟩:=ry; exact PySem.EqNone.ne_none_str (ZP I q (by simp))
  | _=>exact absurd (show false=true from hs) QAl
 | bl i =>
  cases rx
  cases y with
  | non=>cases ry; exact PySem.EqNone.ne_bool_none (ZP I q (by simp))
  | bl j=>cases ry; exact ne_bool (ZP I q (congrArg not ZjJ))
  | str j=>obtain ⟨t',rfl⟩:=ry; exact PySem.EqMixed.ne_bool_str (ZP I q (by simp))
  | _=>exact absurd (show false=true from hs) QAl
 | int i =>
  obtain ⟨t,rfl⟩:=rx
  cases y with
  | non=>cases ry; exact PySem.EqNone.ne_int_none (ZP I q (by simp))
  | int j=>obtain ⟨t',rfl⟩:=ry; exact ne_int (ZP I q (congrArg not ZhF))
  | str j=>obtain ⟨t',rfl⟩:=ry; exact PySem.EqMixed.ne_int_str (ZP I q (by simp))
  | _=>exact absurd (show false=true from hs) QAl
 | str i =>
  obtain ⟨t,rfl⟩:=rx
  cases y with
  | non=>cases ry; exact PySem.EqNone.ne_str_none (ZP I q (by simp))
  | bl j=>cases ry; exact PySem.EqMixed.ne_str_bool (ZP I q (by simp))
  | int j=>obtain ⟨t',rfl⟩:=ry; exact PySem.EqMixed.ne_str_int (ZP I q (by simp))
  | str j=>obtain ⟨t',rfl⟩:=ry; exact ne_str (ZP I q (congrArg not ZhE))
  | _=>exact absurd (show false=true from hs) QAl
 | byt i =>
  obtain ⟨t,rfl⟩:=rx
  cases y with
  | byt j=>obtain ⟨t',rfl⟩:=ry; exact PySem.W.ne_bytes (ZP I q (congrArg not ZhG))
  | _=>exact absurd (show false=true from hs) QAl
 | _=>cases y <;> exact absurd (show false=true from hs) QAl
theorem Zk9:OpR X (compareOp .Lt) (rI0 fun i j=>.bl (decide (i<j))):=ZmE fun _ _ _ _ _ _ _ q=>lt_int q
theorem ZmD:OpR X (compareOp .Gt) (rI0 fun i j=>.bl (decide (j<i))):=ZmE fun _ _ _ _ _ _ _ q=>gt_int q
theorem ZV (b:Expr) {op:CmpOp} (h:op ≠ .In:=by decide) (h2:op ≠ .NotIn:=by decide):behindInMarks op b=false:=by
 have e1:(op==CmpOp.In)=false:=by cases op <;> first | rfl | exact absurd rfl h
 have e2:(op==CmpOp.NotIn)=false:=by cases op <;> first | rfl | exact absurd rfl h2
 cases b <;> simp [behindInMarks,e1,e2]
theorem Zcg {op:CmpOp} {r:R2} (ho:OpR X (compareOp op) r) (ha:PE X a ta) (hb:PE X b tb) (hm:behindInMarks op b=false):PE X (.Compare a [op] [b] pos) (tOp r ta tb):=by
 intro pins s σ H Q I h;exact wpAny_Compare1 (Zl8 ha hb I h fun v u s2 x y H2 I2 rx ry q=>ho pins s2 σ H2 x y v u Q I2 rx ry q) hm
noncomputable def Zmh (t:TE):TT:=fun σ H Q=>t σ H fun x H'=>Zmd x Q H'
theorem ZC {op:CmpOp} {r:R2} (ho:OpR X (compareOp op) r) (ha:PE X a ta) (hb:PE X b tb) (hm:behindInMarks op b=false):PT X (.Compare a [op] [b] pos) (Zmh (tOp r ta tb)):=by
 intro pins s σ H Q I h;refine wpAny_isTrue_Compare1 (thn (ha pins s σ H _ I h) fun v s1 ⟨x,H1,I1,r1,q1⟩=>thn (hb pins s1 σ H1 _ I1 q1) fun u s2 ⟨y,H2,I2,r2,q2⟩ =>
  thn (ho pins s2 σ H2 x y v u _ I2 r1 r2 q2) fun c s3 ⟨z,H3,I3,r3,k,e,q3⟩=>?_) hm
 subst e
 cases r3;exact wpAny_truthy_bool ⟨H3,I3,q3⟩
noncomputable def ZmS (K:QZa) (x:V) (H:Hp) (k:Bool):Prop :=
 match x with
 | .non=>k=false
 | .bl b=>k=b
 | .int i=>k=(i != 0)
 | .str y=>y.length<=sizeLine/\k=((y.length:Int) != 0)
 | .byt y=>y.size<=sizeLine/\k=((y.size:Int) != 0)
 | .ref p=>(∃ xs,SqL K H p xs/\k = !xs.isEmpty)\/(∃ xs,SqT K H p xs/\k = !xs.isEmpty)\/∃ kvs,H p=some (.dK kvs)/\k = !kvs.isEmpty
 | _=>False
theorem ZgM {κ:Type} {kvs:List (κ × V)} {vs:List (κ × Value)} (r:KV kvs vs):(!vs.isEmpty) = !kvs.isEmpty:=by
 cases r <;> rfl
theorem ZcN {xs:List V} {its:List Value} (r:Vals xs its):(!its.toArray.isEmpty) = !xs.isEmpty:=by
 cases r <;> simp
theorem ZbQ:(sizeLine:Nat)<2 ^ 63:=by rw [sizeLine_eq]; decide
theorem Zlq:Znp X (fun x H Q=>∃ k,ZmS X.K x H k/\Q k H):=by
 intro pins s σ H x v Q I rx h;obtain ⟨k,e,q⟩:=h;have hl:=ZbQ;have hs:sizeLine=16777216:=sizeLine_eq
 cases x with
 | non =>
  cases rx;have e':k=false:=e;subst e';exact truthy_none ⟨H,I,q⟩
 | bl b =>
  cases rx;have e':k=b:=e;subst e';exact wpAny_truthy_bool ⟨H,I,q⟩
 | int i =>
  obtain ⟨t,rfl⟩:=rx;have e':k=(i != 0):=e;subst e';exact PySem.P.truthy_int ⟨H,I,q⟩
 | str y =>
  obtain ⟨t,rfl⟩:=rx;obtain ⟨hy,e'⟩:y.length<=sizeLine/\k=((y.length:Int) != 0):=e;subst e';exact PySem.P.truthy_str (by exact O528 hs hy) ⟨H,I.tok _,q⟩
 | byt y =>
  obtain ⟨t,rfl⟩:=rx;obtain ⟨hy,e'⟩:y.size<=sizeLine/\k=((y.size:Int) != 0):=e;subst e';exact PySem.W.truthy_bytes (by exact Om.b1 ‹_› rfl) ⟨H,I.tok _,q⟩
 | ref p =>
  cases rx;have e':(∃ xs,SqL X.K H p xs/\k = !xs.isEmpty)\/(∃ xs,SqT X.K H p xs/\k = !xs.isEmpty)\/∃ kvs,H p=some (.dK kvs)/\k = !kvs.isEmpty:=e
  rcases e' with ⟨xs,hx,e'⟩ | ⟨xs,hx,e'⟩ | ⟨kvs,hx,e'⟩
  ·subst e';obtain ⟨its,r,pl,hz⟩:=I.list hx;have hlen:=r.length;exact wpAny_truthy_list pl.isList (by simp only [QAg]; exact O527 hs hz hlen) ⟨H,I.tok _,by rw [ZcN r]; exact q⟩
  ·subst e';obtain ⟨its,r,pl,hz⟩:=I.tuple hx;have hlen:=r.length;exact truthy_tuple pl (by simp only [QAg]; exact O527 hs hz hlen) ⟨H,I.tok _,by rw [ZcN r]; exact q⟩
  ·subst e';obtain ⟨hz,hS,vs,r,m⟩:kvs.length<=sizeLine/\(p==sysModules)=false/\∃ vs,KV kvs vs/\s.heap.DictOf (ZeA X.prog X.w) p vs:=I.hok p _ hx;have hlen:kvs.length=vs.length:=Paired.length r;exact wpAny_truthy_dict hS m (by exact O527 hs hz hlen) ⟨H,I.tok _,by rw [ZgM r]; exact q⟩
 | _=>exact (show False from e).elim
theorem ZiR (ha:PE X a ta) (he:∀ whole,isTrue a X.env whole=(do let v <- whole; standAt a.pos; holding [v] (truthy v))) :
  PT X a (fun σ H Q=>ta σ H fun x H'=>∃ k,ZmS X.K x H' k/\Q k H'):=by
 intro pins s σ H Q I h;exact isTrue_plain (thn (ha pins s σ H _ I h) fun v s1 zz0=> by obtain ⟨x,H1,I1,r1,q1⟩ := zz0; exact Zlq pins s1 σ H1 x v Q I1 r1 q1) (he _)
theorem J1 {x:V} {us:List Value} (r:Vals [x] us):∃ u,us=[u]/\RelV x u:=by
 cases r with
 | cons r1 r2=>cases r2; exact ⟨_,rfl,r1⟩
theorem Zk5 {x y:V} {us:List Value} (r:Vals [x,y] us):∃ u w',us=[u,w']/\RelV x u/\RelV y w':=by
 cases r with
 | cons r1 r2 =>
  cases r2 with
  | cons r3 r4=>cases r4; exact ⟨_,_,rfl,r1,r3⟩
theorem ZbX (hc:X.calm=true):Y5 X (.builtin "max") (fun xs H Q=>∃ i j,xs=[.int i,.int j]/\Q (.int (if j>i then j else i)) H):=by
 intro pins s σ H xs us Q I r h;obtain ⟨i,j,rfl,q⟩:=h;obtain ⟨u,w',rfl,⟨t,rfl⟩,⟨t',rfl⟩⟩:=Zk5 r;refine max_two_ints (I.ok.hd hc) fun h' tk k=>⟨_,H,I.kept k,?_,q⟩
 by_cases hj:j>i
 ·rw [if_pos hj,if_pos hj]; exact ⟨_,rfl⟩
 ·rw [if_neg hj,if_neg hj]; exact ⟨_,rfl⟩
theorem Zip:Y5 X (.type "int") (fun xs H Q=>(∃ i,xs=[.int i]/\Q (.int i) H)\/∃ k,xs=[.bl k]/\Q (.int (if k then 1 else 0)) H):=by
 intro pins s σ H xs us Q I r h
 rcases h with ⟨i,rfl,q⟩ | ⟨k,rfl,q⟩
 ·obtain ⟨u,rfl,t,rfl⟩:=J1 r;exact call_int_int ⟨.int i,H,I,⟨_,rfl⟩,q⟩
 ·obtain ⟨u,rfl,r1⟩:=J1 r
  cases r1;exact call_int_bool ⟨.int (if k then 1 else 0),H,I.tok _,⟨_,rfl⟩,q⟩
end
end L2
namespace L2
open PySem PySem.Spec PyProof.Rows
structure ObjM (h:Heap) (x dx C:Addr) (mA:Str->Option Value):Prop where
 obj:h.get? x=some (PySem.W.instObj C dx)
 ns:h.Ns1 dx mA
 ne:dx≠x
theorem Zif {h:Heap} {dx:Addr} {mA:Str->Option Value} (n:h.Ns1 dx mA):∃ od,h.get? dx=some od/\∀ name,PySem.W.lookIn name od=some (mA name):=by
 obtain ⟨o,es,ep,ho,hd,hk,_,hm⟩:=n;refine ⟨o,ho,fun name=>?_⟩;have e:=hm name;unfold nsFind findBy at e;rw [<- Array.find?_toList] at e;unfold PySem.W.lookIn;rw [hd]
 dsimp only
 split
 ·rename_i y q
  rw [q] at e;exact congrArg some e
 ·rename_i q
  rw [q] at e;have a:es.toList.any (·.refKey)=false:=by
   rw [List.any_eq_false];intro y hy;obtain ⟨z,t,hkey⟩:=hk y (Array.mem_toList_iff.mp hy)
   simp [DictEntry.refKey,hkey]
  have a':¬ es.toList.any (·.refKey)=true:=by rw [a]; exact QAl
  rw [if_neg a'];exact congrArg some e
theorem ObjM.look {h:Heap} {x dx C:Addr} {mA:Str->Option Value} (I:ObjM h x dx C mA):∃ od,PySem.W.InstAt h x (PySem.W.instObj C dx) C (some od)/\∀ name,PySem.W.lookIn name od=some (mA name) :=
 let ⟨od,ho,hl⟩:=Zif I.ns
 ⟨od,⟨I.obj,rfl,rfl,ho⟩,hl⟩
section
variable {prog:Program} {w:World} {A:Around} {E:Value->Shared->Prop} {s:Shared} {K:QZa} {x dx C f:Addr} {mA:Str->Option Value} {name:Str} {v:Value}
end
section
variable {P:Program} {w:World} {H H':Hp} {h h':Heap} {a C dx:Addr} {fs fs':List (Str × V)}
theorem ZkJ (hok:HOk P w H h) (e:H a=some (.ins C dx fs)):∃ mA,ObjM h a dx C mA/\(∀ f,Zmb (fs.lookup f) (mA f))/\PySem.Within mA (fs.map (·.1))/\fs.length<=1000/\H dx=some (.own a):=by
 obtain ⟨d,z,ne,ob,mA,n,r,q⟩:=(show ObjOk P w H h a (.ins C dx fs) from hok a _ e);exact ⟨mA,⟨ob,n,ne⟩,r,q,z,d⟩
end
structure Cls (K:QZa) (C:Addr):Prop where
 pg:PySem.W.plainGet K C Str.empty=true
 hd:PySem.W.hasDictIn K C=true
 po:PySem.W.plainOver K C=true
 sa:PySem.W.findIn K (.ref C) "__setattr__" = some (some (.builtin "object.__setattr__"))
theorem Cls.get {K:QZa} {C:Addr} (c:Cls K C) (f:Str):PySem.W.plainGet K C f=true:=c.pg
section
variable {X:Cx} {pins:List (Addr × Obj)} {σ:St} {H:Hp} {s:Shared} {a C dx:Addr} {fs:List (Str × V)} {f:Str} {v:V} {A:Around} {E:Value->Shared->Prop}
end
section
variable {X:Cx} {o e value:Expr} {f:Str} {pos pos' tpos:Pos} {ta tv:TE}
end
section
variable {X:Cx} {pins:List (Addr × Obj)} {σ:St} {H:Hp} {s:Shared} {A:Around} {E:Value->Shared->Prop} {Q:Value->Shared->Prop} {c:Value} {b:Bool}
inductive ZbZ (K:QZa) (H:Hp):V->Value->Prop where
 | non:ZbZ K H .non (.type "NoneType")
 | bl (x:Bool):ZbZ K H (.bl x) (.type "bool")
 | int (i:Int):ZbZ K H (.int i) (.type "int")
 | str (x:Str):ZbZ K H (.str x) (.type "str")
 | flt (x:UInt64):ZbZ K H (.flt x) (.type "float")
 | lst {a:Addr} {xs:List V} (e:H a=some (.lst xs)):ZbZ K H (.ref a) (.type "list")
 | frz {a:Addr} {o:Obj} {xs:List V} (e:H a=some (.frz o (.lst xs))):ZbZ K H (.ref a) (.type "list")
 | tup {a:Addr} {xs:List V} (e:H a=some (.tup xs)):ZbZ K H (.ref a) (.type "tuple")
 | dK {a:Addr} {kvs:List (Key × V)} (e:H a=some (.dK kvs)):ZbZ K H (.ref a) (.type "dict")
 | dT {a:Addr} {kvs:List (List Key × V)} (e:H a=some (.dT kvs)):ZbZ K H (.ref a) (.type "dict")
 | ins {a C dx:Addr} {fs:List (Str × V)} (e:H a=some (.ins C dx fs)) (cl:Cls K C) (ha:PySem.W.findIn K (.ref C) "__class__" = some (some (.builtin "object.__class__")))
   (hn:PySem.W.specialIn K (.builtin "object.__class__") "__get__" = some (some (.builtin "getset_descriptor.__get__"))) (htk:PySem.W.takesIn K (.builtin "object.__class__")=some true)
   (hm:PySem.W.mroIn K C (.type "object")=some true):ZbZ K H (.ref a) (.ref C)
theorem Zig {x:V} {u t:Value} (I:Inv X pins σ H s) (rx:RelV x u) (ty:ZbZ X.K H x t) (e:PySem.W.kitOne X.K t c=some b) (h:∀ tk,Q (.bool b) { s with toks:=tk }) :
  wpAny (model X.prog X.w) A (call (.builtin "isinstance") [u,c]) Q E s:=by
 cases ty with
 | non=>cases (show u=Value.none from rx); exact PySem.W.kia_one PySem.W.kitx_none I.kIn True.intro e (fun z=>nomatch z) h
 | bl y=>cases (show u=Value.bool y from rx); exact PySem.W.kia_one PySem.W.kitx_bool I.kIn True.intro e (fun z=>nomatch z) h
 | int i=>obtain ⟨t,q⟩:=(show ∃ t,u=Value.int i t from rx); cases q; exact PySem.W.kia_one PySem.W.kitx_int I.kIn True.intro e (fun z=>nomatch z) h
 | str y=>obtain ⟨t,q⟩:=(show ∃ t,u=Value.str y t from rx); cases q; exact PySem.W.kia_one PySem.W.kitx_str I.kIn True.intro e (fun z=>nomatch z) h
 | flt y=>obtain ⟨t,q⟩:=(show ∃ t,u=Value.float y t from rx); cases q; exact PySem.W.kia_one PySem.W.kitx_float I.kIn True.intro e (fun z=>nomatch z) h
 | @lst a xs ea =>
  cases (show u=Value.ref a from rx);obtain ⟨_,_,n,_,h1⟩:=(show ObjOk X.prog X.w H s.heap a (.lst xs) from I.hok a _ ea);exact PySem.W.kia_one PySem.W.kitx_list I.kIn ⟨_,h1,rfl⟩ e (fun z=>nomatch z) h
 | @frz a ob xs ea =>
  cases (show u=Value.ref a from rx);obtain ⟨_,_,_,n,_,h1⟩:=(show ObjOk X.prog X.w H s.heap a (.frz ob (.lst xs)) from I.hok a _ ea);exact PySem.W.kia_one PySem.W.kitx_list I.kIn ⟨_,h1,rfl⟩ e (fun z=>nomatch z) h
 | @tup a xs ea =>
  cases (show u=Value.ref a from rx);obtain ⟨_,_,_,p⟩:=(show ObjOk X.prog X.w H s.heap a (.tup xs) from I.hok a _ ea);obtain ⟨o,h1,h2,_⟩:=p;exact PySem.W.kia_one PySem.W.kitx_tuple I.kIn ⟨o,h1,h2⟩ e (fun z=>nomatch z) h
 | @dK a kvs ea =>
  cases (show u=Value.ref a from rx);obtain ⟨_,_,vs,_,p⟩:=(show ObjOk X.prog X.w H s.heap a (.dK kvs) from I.hok a _ ea);obtain ⟨o,es,ep,h1,h2,_⟩:=p;exact PySem.W.kia_one PySem.W.kitx_dict I.kIn ⟨o,h1,h2.1⟩ e (fun z=>nomatch z) h
 | @dT a kvs ea =>
  cases (show u=Value.ref a from rx);obtain ⟨_,_,xs,_,o,es,ep,h1,h2,_⟩:=(show ObjOk X.prog X.w H s.heap a (.dT kvs) from I.hok a _ ea);exact PySem.W.kia_one PySem.W.kitx_dict I.kIn ⟨o,h1,h2.1⟩ e (fun z=>nomatch z) h
 | @ins a C dx fs ea cl ha hn htk hm =>
  cases (show u=Value.ref a from rx);obtain ⟨mA,O,_⟩:=ZkJ I.hok ea;obtain ⟨od,J,_⟩:=O.look;exact PySem.W.kia_one (PySem.W.kitx_own (cl.get _) cl.hd ha hn htk hm) I.kIn J e (fun z=>nomatch z) h
end
end L2
namespace L2
open PySem PySem.Spec PyProof.Rows
structure Room (k:Nat) (A:Around):Prop where
 hd:A.handled=none
 dp:A.depth+3*k+5<recursionLimit
 un:A.units+16*k+200<cLine
theorem Room.mono {j k:Nat} {A:Around} (r:Room k A) (h:j<=k):Room j A:=⟨r.hd,by have:=r.dp; omega,by have:=r.un; omega⟩
theorem Room.deeper {k:Nat} {A:Around} (r:Room (k+1) A) (env:Env):Room k (A.deeper env) :=
 ⟨r.hd,by have:=r.dp; show A.depth+1+3*k+5<_; exact O526 this,by have:=r.un; show A.units+3+16*k+200<_; exact O525 this⟩
theorem Room.depth {k:Nat} {A:Around} (r:Room k A):A.depth<recursionLimit:=by have:=r.dp; omega
noncomputable def Zm3:TA:=fun _ H Q=>Q [] H
noncomputable def Zmn (ta:TE) (tr:TA):TA:=fun σ H Q=>ta σ H fun x H1=>tr σ H1 fun xs H2=>Q (x::xs) H2
section
variable {X:Cx} {e:Expr} {es:List Expr} {te:TE} {t:TA} {pos:Pos}
theorem Zc:PA X [] Zm3:=fun _ _ _ _ H Q I h=>Calls.spliced_nil ⟨[],H,I,.nil,h⟩
theorem Za (ha:PE X e te) (hr:PA X es t) (hs:starEach (e::es) X.env=(false,eval e X.env)::starEach es X.env:=by rfl):PA X (e::es) (Zmn te t):=by
 intro pos pins s σ H Q I h;rw [hs];show wpAny _ _ (spliced ((false,eval e X.env)::backTo pos (starEach es X.env))) _ _ s;refine Calls.spliced_cons (thn (ha pins s σ H _ I h) fun u s1 zz0=>?_);obtain ⟨x,H1,I1,r1,q1⟩:=zz0;exact thn (hr pos pins s1 σ H1 _ I1 q1) fun us s2 ⟨xs,H2,I2,r2,q2⟩=>⟨x::xs,H2,I2,.cons r1 r2,q2⟩
noncomputable def Zm0 (t:TA):TE:=fun σ H Q=>t σ H fun xs H1=>xs.length<=sizeLine/\∀ p,H1 p=none->Q (.ref p) (upd H1 p (.tup xs))
noncomputable def Zm4 (t:TA):TE:=fun σ H Q=>t σ H fun xs H1=>xs.length<=sizeLine/\∀ p,H1 p=none->Q (.ref p) (upd H1 p (.lst xs))
theorem Za0 {x1} (h:PA X es t):PE X (.Tuple es x1 pos) (Zm0 t):=by
 intro pins s σ H Q I hq;refine wpAny_Tuple_spliced (thn (h pos pins s σ H _ I hq) fun us s1 ⟨xs,H1,I1,r,z,q⟩=>⟨by rw [<- r.length]; exact z,?_⟩);have hf:H1 s1.heap.objs.size=none:=I1.hok.fresh (QAd _);refine ⟨.ref s1.heap.objs.size,upd H1 s1.heap.objs.size (.tup xs),I1.laid (t':=s1.toks) (fun b u e=>QAk _ e) (QAd _) ?_,rfl,q _ hf⟩;exact ⟨z,us,r,⟨_,QAy _ rfl,rfl,_,rfl⟩⟩
theorem Yd (h:PA X es t):PE X (.List es pos) (Zm4 t):=by
 intro pins s σ H Q I hq;refine wpAny_List_spliced (thn (h pos pins s σ H _ I hq) fun us s1 ⟨xs,H1,I1,r,z,q⟩=>⟨by rw [<- r.length]; exact z,?_⟩);have hf:H1 s1.heap.objs.size=none:=I1.hok.fresh (QAd _);refine ⟨.ref s1.heap.objs.size,upd H1 s1.heap.objs.size (.lst xs),I1.laid (t':=s1.toks) (fun b u e=>QAk _ e) (QAd _) ?_,rfl,q _ hf⟩;exact ⟨z,us,0,r,QAy _ rfl⟩
end
noncomputable abbrev Sp:=List V->Hp->VK->XK->Prop
noncomputable abbrev CXT:=List Env->Hp->Shared->XK->Value->Shared->Prop
structure Zk4 (P:Program) (w:World) (K:QZa) (mg:Str->Option Value) (base:Heap) (A:Around) (outer:List Env) (s:Shared) (H:Hp):Prop where
 frames:A.frames=some outer
 mod:Mod K mg base
 bs:∀ b o,base.get? b=some o->s.heap.get? b=some o/\H b=none
 bsz:base.objs.size<=s.heap.objs.size
 funs:s.heap.FunFrames base outer
 frf:∀ b∈frs outer,H b=none
 hok:HOk P w H s.heap
 bare:AllBare s.gens
noncomputable def CE (outer:List Env) (P:Program) (w:World) (H:Hp) (s:Shared) (Q:VK) (u:Value) (s':Shared):Prop :=
 ∃ v H',s'.os=s.os/\AllBare s'.gens/\Un (frs outer) [] H H' s.heap s'.heap/\HOk P w H' s'.heap/\RelV v u/\Q v H'
noncomputable def CR (CX:CXT) (outer:List Env) (P:Program) (w:World) (H:Hp) (s:Shared) (Q:VK) (E:XK) (r:Result) (s':Shared):Prop :=
 match r with
 | .ok (.ret u)=>CE outer P w H s Q u s'
 | .ok _=>False
 | .error e=>CX outer H s E e s'
structure FnOk (P:Program) (w:World) (K:QZa) (mg:Str->Option Value) (base:Heap) (CX:CXT) (k:Nat) (f:Addr) (fd:FuncData) (ps:List Str) (sp:Sp):Prop where
 len:∀ vs H Q E,sp vs H Q E->vs.length=ps.length
 run:∀ (A:Around) (outer:List Env) (s:Shared) (H:Hp) (args:Args) (us:List Value) (vs:List V) (Q:VK) (E:XK),Room k A->Zk4 P w K mg base A outer s H->BindsTo s fd args (ps.zip us)->Vals vs us->sp vs H Q E ->
  codeAny (model P w) A (.call (.ref f) args) (CR CX outer P w H s Q E) s
theorem FnOk.mono {P:Program} {w:World} {K:QZa} {mg:Str->Option Value} {base:Heap} {CX:CXT} {j k:Nat} {f:Addr} {fd:FuncData} {ps:List Str} {sp:Sp} (F:FnOk P w K mg base CX j f fd ps sp) (h:j<=k) :
  FnOk P w K mg base CX k f fd ps sp:=⟨F.len,fun A outer s H args us vs Q E hr=>F.run A outer s H args us vs Q E (hr.mono h)⟩
section
variable {X:Cx} {pins:List (Addr × Obj)} {σ:St} {H:Hp} {s s':Shared}
theorem Inv.env0 (I:Inv X pins σ H s):Zk4 X.prog X.w X.K X.mg X.base X.A X.stack s H :=
 ⟨I.ok.frames,I.ok.mod,I.bs,QAs I.ok.bsz I.sz,I.stack,I.stkFree,I.hok,I.bare⟩
theorem Inv.after {Q:VK} {u:Value} (I:Inv X pins σ H s) (h:CE X.stack X.prog X.w H s Q u s'):EP X pins σ Q u s':=by
 obtain ⟨v,H',os,bare,un,hok,r,q⟩:=h;obtain ⟨hh,g,d,t,os'⟩:=s';obtain rfl:os'=s.os:=os;exact ⟨v,H',I.call (h':=hh) (g':=g) (d':=d) (t':=t) (ch:=[]) un hok bare (fun b z=>absurd z (by simp)),r,q⟩
end
noncomputable def Zmo (sp:Sp) (dvs:List V) (E:XK) (t:TA):TE:=fun σ H Q=>t σ H fun vs H1=>sp (vs++dvs) H1 Q E
noncomputable def Binds (K:QZa) (fd:FuncData) (ps:List Str) (ds:List Value):Prop :=
 ∀ (s:Shared) (us:List Value),K.In s.heap->(us++ds).length=ps.length->BindsTo s fd ⟨us,[]⟩ (ps.zip (us++ds))
theorem Binds.all {K:QZa} {fd:FuncData} {ps:List Str} (h:∀ us:List Value,us.length=ps.length->bindArgs fd ⟨us,[]⟩=pure (ps.zip us)):Binds K fd ps []:=fun s us _ hl=>by
 rw [QBu] at hl ⊢;exact .of_eq (h us hl)
noncomputable def ZgZ (CX:CXT) (X:Cx) (E:XK):Prop:=∀ (pins:List (Addr × Obj)) (σ:St) (H:Hp) (s:Shared) (e:Value) (s':Shared),Inv X pins σ H s->CX X.stack H s E e s'->X.xe e s'
section
variable {X:Cx} {CX:CXT} {k:Nat} {f C:Addr} {fd:FuncData} {ps:List Str} {sp:Sp} {dvs:List V} {ds:List Value} {E:XK} {x m:Str} {p pos apos:Pos} {e o:Expr} {es:List Expr} {ta:TE} {t:TA}
theorem Zlw {pins:List (Addr × Obj)} {σ:St} {H:Hp} {s:Shared} {Q:VK} {us:List Value} {vs:List V} (F:FnOk X.prog X.w X.K X.mg X.base CX k f fd ps sp) (hr:Room k X.A) (hb:Binds X.K fd ps ds) (hd:Vals dvs ds) (hx:ZgZ CX X E)
  (I:Inv X pins σ H s) (r:Vals vs us) (h:sp (vs++dvs) H Q E):wpAny (model X.prog X.w) X.A (call (.ref f) us) (EP X pins σ Q) X.xe s:=by
 have r2:Vals (vs++dvs) (us++ds):=r.append hd;have hl:(us++ds).length=ps.length:=by rw [<- r2.length]; exact F.len _ _ _ _ h
 refine wpAny_call (codeAny_mono (F.run X.A X.stack s H ⟨us,[]⟩ (us++ds) (vs++dvs) Q E hr I.env0 (hb s us I.kIn hl) r2 h) fun r s' hq=>?_)
 cases r with
 | error e=>exact hx pins σ H s e s' I hq
 | ok fl =>
  cases fl with
  | ret u=>exact I.after hq
  | next=>exact False.elim hq
  | brk=>exact False.elim hq
  | cont=>exact False.elim hq
theorem Zm (F:FnOk X.prog X.w X.K X.mg X.base CX k f fd ps sp) (hr:Room k X.A) (hg:Gl X x) (hm:X.mg x=some (.ref f)) (hk:PySem.W.keepIn X.K (.ref f)=true) (hb:Binds X.K fd ps ds) (hd:Vals dvs ds) (hx:ZgZ CX X E)
  (ha:PA X (e::es) t) (hdb:(x==("__debug__" : Str))=false:=by decide) (he:starEach (e::es) X.env=(false,eval e X.env)::starEach es X.env:=by rfl) (hpl:(backTo pos (starEach es X.env)).any (·.1)=false:=by rfl) :
  PE X (.Call (.Name x p) (e::es) [] pos) (Zmo sp dvs E t):=by
 intro pins s σ H Q I h;refine wpAny_Call_Name_kw (ZkG I hg hm ?_ hdb);refine PySem.W.callWith_K (h₀:=X.base) I.ok.mod.kin hk (thn (ha pos pins s σ H _ I h) fun us s1 ⟨vs,H1,I1,r,q⟩=>⟨I1.kIn,?_⟩) he hpl;exact Zlw F hr hb hd hx I1 r q
end
section
variable {X:Cx} {CX:CXT} {k:Nat} {f C:Addr} {fd:FuncData} {ps ks:List Str} {sp:Sp} {E:XK} {x m:Str} {p pos apos kpos:Pos} {e o:Expr} {es:List Expr} {kws:List Keyword} {te ta:TE} {t tk:TA} {nm:Option Str}
variable {g:List Value->List Value->List Value} {gV:List V->List V->List V}
end
structure Zs (N P:List Str) (sc:Scope):Prop where
 kind:sc.kind = .function
 co:sc.isCoroutine=false
 gen:sc.isGenerator=false
 nd:N.Nodup
 pre:N.take P.length=P
 par:∀ x∈P,sc.names.lookup x=some .local\/sc.names.lookup x=some .cell
 nofree:∀ y∈sc.names,y.2 ≠ .free
theorem ZdT {kindOf:Str->Option NameKind} {x:Str}:∀ {binds:List (Str × Value)} {m:Str->Option Value},(∀ v,(x,v)∉binds)->bindL kindOf binds m x=m x
 | [],_,_=>rfl
 | (n,v)::r,m,h=>by
  unfold bindL;rw [ZdT fun w hw=>h w (QAm _ hw)]
  split
  ·have:x≠n:=by rintro rfl; exact h v QAj
   simp [this]
  ·rfl
theorem ZdV {kindOf:Str->Option NameKind} {x:Str}:∀ {binds:List (Str × Value)} {m:Str->Option Value},(∀ v,(x,v)∉binds)->bindC kindOf binds m x=m x
 | [],_,_=>rfl
 | (n,v)::r,m,h=>by
  unfold bindC;rw [ZdV fun w hw=>h w (QAm _ hw)]
  split
  ·rfl
  ·have:x≠n:=by rintro rfl; exact h v QAj
   simp [this]
theorem ZdU {kindOf:Str->Option NameKind} {x:Str} {v:Value}:∀ {P:List Str} {vs:List Value} {i:Nat} {m:Str->Option Value},P.Nodup->P[i]? = some x->vs[i]? = some v->kindOf x=some .local ->
  bindL kindOf (P.zip vs) m x=some v
 | [],_,_,_,_,h,_,_=>by simp at h
 | _::_,[],_,_,_,_,h,_=>by simp at h
 | p::P,w::vs,0,m,nd,h1,h2,hk=>by
  simp at h1 h2; subst h1; subst h2
  show bindL kindOf ((p,w)::P.zip vs) m p=_;unfold bindL;rw [ZdT fun v hv=>(List.nodup_cons.mp nd).1 (List.of_mem_zip hv).1,if_pos hk]
  simp
 | p::P,w::vs,i+1,m,nd,h1,h2,hk=>by
  show bindL kindOf ((p,w)::P.zip vs) m x=_;unfold bindL;exact ZdU (i:=i) (List.nodup_cons.mp nd).2 (by simpa using h1) (by simpa using h2) hk
theorem ZdW {kindOf:Str->Option NameKind} {x:Str} {v:Value}:∀ {P:List Str} {vs:List Value} {i:Nat} {m:Str->Option Value},P.Nodup->P[i]? = some x->vs[i]? = some v->kindOf x≠some .local ->
  bindC kindOf (P.zip vs) m x=some v
 | [],_,_,_,_,h,_,_=>by simp at h
 | _::_,[],_,_,_,_,h,_=>by simp at h
 | p::P,w::vs,0,m,nd,h1,h2,hk=>by
  simp at h1 h2; subst h1; subst h2
  show bindC kindOf ((p,w)::P.zip vs) m p=_;unfold bindC;rw [ZdV fun v hv=>(List.nodup_cons.mp nd).1 (List.of_mem_zip hv).1,if_neg hk]
  simp
 | p::P,w::vs,i+1,m,nd,h1,h2,hk=>by
  show bindC kindOf ((p,w)::P.zip vs) m x=_;unfold bindC;exact ZdW (i:=i) (List.nodup_cons.mp nd).2 (by simpa using h1) (by simpa using h2) hk
noncomputable def start (N:List Str) (vs:List V):St:=vs.map some++List.replicate (N.length - vs.length) none
noncomputable def Zik (CX:CXT) (P:Program) (w:World) (K:QZa) (mg:Str->Option Value) (base:Heap) (N:List Str) (qual:Str) (scope:Scope) (f:Addr) (cd:Value) (A:Around) (outer:List Env) (s:Shared) (H:Hp) (E:XK):Cx where
 prog:=P
 w:=w
 K:=K
 mg:=mg
 base:=base
 A:=A.deeper (envOfC qual scope s.heap.objs.size f cd)
 N:=N
 s₀:=s
 H₀:=H
 env:=envOfC qual scope s.heap.objs.size f cd
 outer:=outer
 stack:=envOfC qual scope s.heap.objs.size f cd::outer
 ex:=[]
 calm:=true
 fn:=fun _=>true
 pn:=[]
 xe:=fun e s'=>wpAny (model P w) (A.deeper (envOfC qual scope s.heap.objs.size f cd)) (leaving (envOfC qual scope s.heap.objs.size f cd) e) (fun _ s''=>CX outer H s E e s'') (fun e' s''=>CX outer H s E e' s'') s'
theorem ZfC {sc:Scope} {n:Nat} {x:Str} (h:sc.names.lookup x=some .cell):∃ c,(cellsFrom n sc.names []).lookup x=some c:=by
 have q:=PySem.W.cellsFrom_some sc.names n [] (.inl h);exact Option.isSome_iff_exists.mp q
theorem Zih {CX:CXT} {P:Program} {w:World} {K:QZa} {mg:Str->Option Value} {base:Heap} {N ps:List Str} {qual:Str} {scope:Scope} {f:Addr} {cd:Value} {A:Around} {outer:List Env} {s s1:Shared} {H:Hp} {E:XK} {us:List Value} {vs:List V}
  (S:Zs N ps scope) (hd:A.handled=none) (e0:Zk4 P w K mg base A outer s H) (hl:vs.length=ps.length) (r:Vals vs us)
  (x:InCallC s s.heap.objs.size (bindL (envOfC qual scope s.heap.objs.size f cd).kindOf (ps.zip us) fun _=>none) (cellsFrom (s.heap.objs.size+1) scope.names []) (bindC (envOfC qual scope s.heap.objs.size f cd).kindOf (ps.zip us) fun _=>none) s1) :
  Inv (Zik CX P w K mg base N qual scope f cd A outer s H E) [] (start N vs) H s1:=by
 have hpl:ps.length<=N.length:=by have:=congrArg List.length S.pre; rw [QAu] at this; omega
 obtain ⟨h1,tk,rfl,hk⟩:=x.done;have noA:∀ b:Addr,b∉(Zik CX P w K mg base N qual scope f cd A outer s H E).ex:=fun b z=>absurd (show b∈([]:List Addr) from z) (by simp)
 refine ⟨⟨e0.mod,S.kind,rfl,rfl,QAd _,fun y z c h1 h2=>?_,fun y hy=>?_,fun y c _ h=>?_,fun _=>hd,Around.frames_deeper e0.frames,.inr ⟨rfl,rfl⟩,fun b z=>absurd z (noA b),e0.bs,e0.bsz,fun b _ _=>noA b,fun b z=>absurd z (noA b),e0.funs,e0.frf⟩,
  rfl,e0.bare,Un.kept hk,⟨_,x.toInCall.ns,fun i y v h1 h2 h3=>?_⟩,fun y c h=>⟨_,x.cell y c h⟩,e0.hok.fresh (QAd _),fun y c h=>?_,fun p hp=>absurd (show p∈([]:List (Addr × Obj)) from hp) (by simp),e0.hok.kept hk,?_⟩
 ·exact name_of_addr x.apart (PySem.mem_of_lookup h1) (PySem.mem_of_lookup h2)
 ·have hy:scope.names.lookup y=some .cell\/scope.names.lookup y=some .free:=hy
  rcases hy with hy | hy
  ·exact ZfC hy
  ·exact absurd rfl (S.nofree _ (PySem.mem_of_lookup hy))
 ·exact QBz (x.above y c (PySem.mem_of_lookup h))
 ·have hi:i<vs.length:=by
   unfold start at h2
   by_cases hi:i<vs.length
   ·exact hi
   ·rw [QCs (by simpa using hi)] at h2;rw [List.getElem?_replicate] at h2
    split at h2 <;> cases h2
  have ha:vs[i]? = some v:=by
   unfold start at h2;rw [QCo (by simpa using hi),QAe] at h2
   cases e:vs[i]? with
   | none=>rw [e] at h2; cases h2
   | some a=>rw [e] at h2; cases h2; rfl
  obtain ⟨u,hu,rv⟩:=r.get ha;have hp:ps[i]? = some y:=by
   rw [<- S.pre,List.getElem?_take_of_lt (by exact Om.a2 ‹_› ‹_›)]; exact h1
  have ndP:ps.Nodup:=by rw [<- S.pre]; exact S.nd.sublist (List.take_sublist _ _)
  refine ⟨u,rv,?_⟩
  rcases S.par y (QAt hp) with k | k
  ·exact .inl ⟨k,ZdU ndP hp hu k⟩
  ·obtain ⟨c,e⟩:=ZfC (n:=s.heap.objs.size+1) k;refine .inr ⟨.inl k,c,e,?_⟩;have q:=x.cell y c e;rw [ZdW ndP hp hu (by show scope.names.lookup y≠_; rw [k]; decide)] at q;exact q
 ·exact e0.hok.fresh (QBz (x.above y c (PySem.mem_of_lookup h)))
 ·unfold start;show _=N.length;rw [QAo,QAa,List.length_replicate];exact O524 hl hpl
theorem ZmP {CX:CXT} {P:Program} {w:World} {K:QZa} {mg:Str->Option Value} {base:Heap} {k:Nat} {f:Addr} {name qual:Str} {params:Arguments} {body:List Stmt} {scope:Scope} {dV kV doc pm cdv ct oc:Value} {an od:Option Addr}
  {osl:Array (Option Value)} {N ps:List Str} {sp:Sp} (lk:K.lookup f=some ⟨oc,od,.func (PySem.W.fnOf name qual params body scope dV kV doc pm an cdv ct),osl⟩) (hcd:PySem.W.codeIn K cdv qual=true) (S:Zs N ps scope)
  (len:∀ vs H Q E,sp vs H Q E->vs.length=ps.length)
  (hbody:∀ (A:Around) (outer:List Env) (s:Shared) (H:Hp) (vs:List V) (Q:VK) (E:XK),Room k (A.deeper (envOfC qual scope s.heap.objs.size f cdv))->sp vs H Q E ->
   ∃ t,PSs (Zik CX P w K mg base N qual scope f cdv A outer s H E) body t/\t { nx:=fun _ H'=>Q .non H',rt:=Q } (start N vs) H) :
  FnOk P w K mg base CX (k+1) f (PySem.W.fnOf name qual params body scope dV kV doc pm an cdv ct) ps sp:=by
 refine ⟨len,fun A outer s H args us vs Q E hr e0 hb r hsp=>?_⟩;have hl:=len _ _ _ _ hsp;have KX:K.In s.heap:=e0.mod.kin.keeps fun b o e=>(e0.bs b o e).1
 have lim:s.heap.NoLimit:=e0.mod.nolimit.keeps fun b o e=>(e0.bs b o e).1
 have hkind:∀ y∈ps.zip us,scope.names.lookup y.1=some .local\/(scope.names.lookup y.1=some .cell/\((cellsFrom (s.heap.objs.size+1) scope.names []).lookup y.1).isSome=true):=fun ⟨n,v⟩ hy=>by
  rcases S.par n (List.of_mem_zip hy).1 with q | q
  ·exact .inl q
  ·exact .inr ⟨q,PySem.W.cellsFrom_some _ _ _ (.inl q)⟩
 refine codeAny_call_function hr.depth (KX _ _ lk) rfl S.co S.gen rfl (PySem.W.codeRec_of KX hcd) (hb _ _ _ _ ?_);refine wpAny_newFunctionEnv_cells S.kind hkind fun env he s1 x=>?_;subst he;refine ⟨lim.keeps x.toInCall.keep,codeAny_func ?_⟩;obtain ⟨t,ht,hq⟩:=hbody A outer s H vs Q E (hr.deeper _) hsp;have I:Inv (Zik CX P w K mg base N qual scope f cdv A outer s H E) [] (start N vs) H s1:=Zih S hr.hd e0 hl r x;refine wpAny_mono (ht [] s1 (start N vs) H _ I hq) (fun fl s' hs=>?_) fun e s' hs=>hs
 have fin:∀ {σ':St} {H':Hp} {v:V} {u:Value},Inv (Zik CX P w K mg base N qual scope f cdv A outer s H E) [] σ' H' s'->RelV v u->Q v H'->CE outer P w H s Q u s' :=
  fun {σ' H' v u} J rv q=>⟨v,H',J.os,J.bare,J.base,J.hok,rv,q⟩
 cases fl with
 | ret u =>
  obtain ⟨v,σ',H',J,rv,q⟩:=hs;exact fin J rv q
 | next =>
  obtain ⟨σ',H',J,q⟩:=hs;exact fin (v:=V.non) (u:=Value.none) J rfl q
 | brk =>
  obtain ⟨_,_,_,q⟩:=hs;exact False.elim q
 | cont =>
  obtain ⟨_,_,_,q⟩:=hs;exact False.elim q
end L2
namespace L2
open PySem PySem.Spec PyProof.Rows
section
variable {X:Cx} {x:Str} {p pos:Pos} {e:Expr} {es:List Expr} {t:TA} {id T:String} {r:List V->Hp->VK->Prop}
noncomputable def tCB (r:List V->Hp->VK->Prop) (t:TA):TE:=fun σ H Q=>t σ H fun vs H1=>r vs H1 Q
theorem Zl (hc:Y5 X (.builtin id) r) (hg:Gl X x) (hm:X.mg x=none) (hv:bootBuiltins x=some (.builtin id)) (ha:PA X (e::es) t) (hn:x ≠ "__name__":=by decide) (hdb:(x==("__debug__" : Str))=false:=by decide)
  (he:starEach (e::es) X.env=(false,eval e X.env)::starEach es X.env:=by rfl) (hpl:(backTo pos (starEach es X.env)).any (·.1)=false:=by rfl):PE X (.Call (.Name x p) (e::es) [] pos) (tCB r t):=by
 intro pins s σ H Q I h;refine wpAny_Call_Name_kw (Za6 I hg hm hv ?_ hn hdb);exact PyProof.Rows.callWith_builtin1 (thn (ha pos pins s σ H _ I h) fun us s1 zz0=> by obtain ⟨vs,H1,I1,r1,q1⟩ := zz0; exact hc pins s1 σ H1 vs us Q I1 r1 q1) he hpl
theorem Zp (hc:Y5 X (.type T) r) (hg:Gl X x) (hm:X.mg x=none) (hv:bootBuiltins x=some (.type T)) (ha:PA X (e::es) t) (hn:x ≠ "__name__":=by decide) (hdb:(x==("__debug__" : Str))=false:=by decide)
  (he:starEach (e::es) X.env=(false,eval e X.env)::starEach es X.env:=by rfl) (hpl:(backTo pos (starEach es X.env)).any (·.1)=false:=by rfl):PE X (.Call (.Name x p) (e::es) [] pos) (tCB r t):=by
 intro pins s σ H Q I h;refine wpAny_Call_Name_kw (Za6 I hg hm hv ?_ hn hdb);exact PyProof.Rows.callWith_type1 (thn (ha pos pins s σ H _ I h) fun us s1 zz0=> by obtain ⟨vs,H1,I1,r1,q1⟩ := zz0; exact hc pins s1 σ H1 vs us Q I1 r1 q1) he hpl
end
end L2
namespace HT
open PySem PyProof.Rows
noncomputable def lexLt:List Int->List Int->Bool
 | [],[]=>false
 | [],_::_=>true
 | _::_,[]=>false
 | x::xs,y::ys=>if x=y then lexLt xs ys else decide (x<y)
section
open PySem.SeqAt
open PySem.AutoSeq1 (wpAny_loadPart')
open PySem.MeetsSeq PySem.MeetsSeq2 PySem.MeetsSeq3
end
section
variable {prog:Program} {w:World} {A:Around} {E:Value->Shared->Prop} {s:Shared}
noncomputable def sIx (n d:Nat):Option Int->Nat
 | none=>d
 | some v=>if v<0 then (v+(n:Int)).toNat else min v.toNat n
theorem sIx_none (n d:Nat):sIx n d none=d:=rfl
theorem sIx_nat (n d k:Nat):sIx n d (some (k:Int))=min k n:=by
 show (if (k:Int)<0 then ((k:Int)+(n:Int)).toNat else min (k:Int).toNat n)=min k n;rw [if_neg (by exact O523 ),QAf]
end
end HT
namespace L2
open PySem PySem.Spec PyProof.Rows
noncomputable abbrev TO:=St->Hp->(Option Int->Hp->Prop)->Prop
noncomputable def PO (X:Cx) (e:Option Expr) (t:TO):Prop :=
 ∀ (pins:List (Addr × Obj)) (s:Shared) (σ:St) (H:Hp) (Q:Option Int->Hp->Prop),Inv X pins σ H s->t σ H Q ->
  wpAny (model X.prog X.w) X.A (evalPart e X.env) (fun u s'=>∃ o H',Inv X pins σ H' s'/\IsPart u o/\Q o H') X.xe s
noncomputable def Zj4:TO:=fun _ H Q=>Q none H
noncomputable def Zmi (t:TE):TO:=fun σ H Q=>t σ H fun x H1=>∃ i,x = .int i/\Q (some i) H1
theorem YC {ns:List Int}:∀ {us:List Value},Vals (ns.map V.int) us->IntsAre us ns:=by
 induction ns with
 | nil=>intro us r; rw [List.map_nil] at r; cases r; exact .nil
 | cons n ns ih =>
  intro us r;rw [QAp] at r
  cases r with
  | cons r1 r2 =>
   obtain ⟨t,e⟩:=r1;subst e;exact .cons n t (ih r2)
section
variable {X:Cx} {e:Expr} {te:TE} {lo hi:Option Expr} {tl th:TO} {pos p2:Pos}
theorem ZaJ:PO X none Zj4:=by
 intro pins s σ H Q I h;rw [evalPart_none];exact QZr ⟨none,H,I,.none,h⟩
theorem JU (h:PE X e te):PO X (some e) (Zmi te):=by
 intro pins s σ H Q I hw;rw [evalPart_some];refine thn (h pins s σ H _ I hw) fun u s1 zz0=>?_;obtain ⟨x,H1,I1,r1,q1⟩:=zz0;obtain ⟨i,rfl,q⟩:=q1;obtain ⟨t,rfl⟩:=r1;exact ⟨some i,H1,I1,.int i t,q⟩
noncomputable def SlR (X:Cx) (r:V->Option Int->Option Int->Hp->VK->Prop):Prop :=
 ∀ (pins:List (Addr × Obj)) (s:Shared) (σ:St) (H:Hp) (x:V) (v vl vu:Value) (lo hi:Option Int) (sl:Addr) (Q:VK),Inv X pins σ H s->RelV x v->s.heap.IsSliceOf sl vl vu .none->IsPart vl lo->IsPart vu hi->r x lo hi H Q ->
  ∃ T id,typeLookup (.type T) "__getitem__" = pure (some (.builtin id))/\s.TypeIs v T/\wpAny (model X.prog X.w) X.A (getItem v (.ref sl)) (EP X pins σ Q) X.xe s
noncomputable def tSl (r:V->Option Int->Option Int->Hp->VK->Prop) (te:TE) (tl th:TO):TE:=fun σ H Q=>te σ H fun x H1=>tl σ H1 fun l H2=>th σ H2 fun u H3=>r x l u H3 Q
theorem JF {r:V->Option Int->Option Int->Hp->VK->Prop} (hr:SlR X r) (he:PE X e te) (hl:PO X lo tl) (hu:PO X hi th):PE X (.Subscript e (.Slice lo hi none p2) pos) (tSl r te tl th):=by
 intro pins s σ H Q I h;refine Subscript_ (thn (he pins s σ H _ I h) fun v s1 zz0=>?_);obtain ⟨x,H1,I1,r1,q1⟩:=zz0;refine wpAny_Slice (thn (hl pins s1 σ H1 _ I1 q1) fun vl s2 ⟨l,H2,I2,pl,q2⟩=>thn (hu pins s2 σ H2 _ I2 q2) fun vu s3 zz0=>?_);obtain ⟨u,H3,I3,pu,q3⟩:=zz0;rw [evalPart_none];refine QZr ?_;have I4:Inv X pins σ H3 { s3 with heap:=s3.heap.push { cls:=.type "slice",data:=.fields #[vl,vu,.none] } }:=I3.kept (t':=s3.toks) fun b ob q=>QAk _ q
 obtain ⟨T,id,hT,ht,hg⟩:=hr pins { s3 with heap:=s3.heap.push { cls:=.type "slice",data:=.fields #[vl,vu,.none] } } σ H3 x v vl vu l u s3.heap.objs.size Q I4 r1 (Heap.IsSliceOf.new ..) pl pu q3;show wpAny (model X.prog X.w) X.A (subscriptTail e (.Slice lo hi none p2) v (.ref s3.heap.objs.size)) (EP X pins σ Q) X.xe { s3 with heap:=s3.heap.push { cls:=.type "slice",data:=.fields #[vl,vu,.none] } };exact tail_any (ops:=[.ref s3.heap.objs.size,v]) ht hT hg (by with_unfolding_all rfl)
noncomputable def Za7 (xs:List V) (lo hi:Option Int):List V:=(xs.drop (HT.sIx xs.length 0 lo)).take (HT.sIx xs.length xs.length hi - HT.sIx xs.length 0 lo)
theorem Zfz (xs:List V) (lo hi:Option Int):(Za7 xs lo hi).length<=xs.length:=by
 unfold Za7;rw [QAu,QBn];exact O522
end
end L2
namespace L2
open PySem PySem.Spec PyProof.Rows
noncomputable def ixN (n:Nat) (i:Int):Option Nat:=if 0<=i then (if i<n then some i.toNat else none) else if -(n:Int)<=i then some (i+n).toNat else none
noncomputable def atI {α:Type} (xs:List α) (i:Int):Option α:=(ixN xs.length i).bind fun j=>xs[j]?
theorem Zhv {n:Nat} {i:Int} {j:Nat} (h:ixN n i=some j):seqIndex? i n=some j/\j<n /\ -(n:Int)<=i/\i<n:=by
 unfold ixN at h
 by_cases h0:0<=i
 ·rw [if_pos h0] at h
  by_cases h1:i<n
  ·rw [if_pos h1] at h;have e:i.toNat=j:=QZl h;exact ⟨by rw [seqIndex_of h0 h1,e],by exact O521 h0 h1 e,by exact O520 h0,h1⟩
  ·rw [if_neg h1] at h; cases h
 ·rw [if_neg h0] at h
  by_cases h1 : -(n:Int)<=i
  ·rw [if_pos h1] at h;have e:(i+n).toNat=j:=QZl h;exact ⟨by rw [seqIndex_neg (by exact O513 h0) h1,e],by exact O519 h0 h1 e,h1,by exact O518 h0 h1⟩
  ·rw [if_neg h1] at h; cases h
theorem ZhK {α:Type} {xs:List α} {i:Int} {v:α} (h:atI xs i=some v):∃ j,seqIndex? i xs.length=some j/\xs[j]? = some v/\j<xs.length /\ -(xs.length:Int)<=i/\i<xs.length:=by
 unfold atI at h
 cases e:ixN xs.length i with
 | none=>rw [e] at h; cases h
 | some j =>
  rw [e] at h;obtain ⟨h1,h2,h3,h4⟩:=Zhv e;exact ⟨j,h1,h,h2,h3,h4⟩
theorem ZkX {α:Type} {xs:List α} {j:Nat} {v:α} (h:xs[j]? = some v):atI xs (j:Int)=some v:=by
 have hj:j<xs.length:=(QZb.mp h).1;have e:ixN xs.length (j:Int)=some j:=by
  unfold ixN;rw [if_pos (by exact Om.c6),if_pos (by exact Om.c5 ‹_›)]; simp
 unfold atI; rw [e]; exact h
noncomputable def Zk1 (b:Expr):Prop:=∀ o i,subscripted b false o i=operate [o,i] (getItem o i)
noncomputable def IxR (X:Cx) (r:R2):Prop :=
 ∀ (value slice:Expr) (pins:List (Addr × Obj)) (s:Shared) (σ:St) (H:Hp) (x y:V) (v u:Value) (Q:VK),Inv X pins σ H s->RelV x v->RelV y u->r x y H Q ->
  subscripted slice false v u=operate [v,u] (getItem v u)->wpAny (model X.prog X.w) X.A (subscriptTail value slice v u) (EP X pins σ Q) X.xe s
noncomputable def MtR (X:Cx) (id:String) (r:V->List V->Hp->VK->Prop):Prop :=
 ∀ (pins:List (Addr × Obj)) (s:Shared) (σ:St) (H:Hp) (x:V) (xs:List V) (v:Value) (us:List Value) (Q:VK),Inv X pins σ H s->RelV x v->Vals xs us->r x xs H Q ->
  wpAny (model X.prog X.w) X.A (call (.builtin id) (v::us)) (EP X pins σ Q) X.xe s
section
variable {X:Cx} {a b:Expr} {ta tb:TE} {pos:Pos}
theorem ZU {r:R2} (hr:IxR X r) (ha:PE X a ta) (hb:PE X b tb) (hs:Zk1 b):PE X (.Subscript a b pos) (tOp r ta tb):=by
 intro pins s σ H Q I h;exact Subscript_ (Zl8 ha hb I h fun v u s2 x y H2 I2 rx ry q=>hr a b pins s2 σ H2 x y v u Q I2 rx ry q (hs _ _))
inductive Zlk (K:QZa) (x:V) (y:V) (H:Hp) (Q:VK):Prop where
 | mk (p:Addr) (xs:List V) (i:Int) (v:V) (_:x = .ref p) (_:y = .int i) (_:SqL K H p xs) (_:atI xs i=some v) (_:Q v H):Zlk K x y H Q
noncomputable def ZmB (K:QZa):R2:=fun x y H Q=>Zlk K x y H Q
inductive Zlj (K:QZa) (x:V) (y:V) (H:Hp) (Q:VK):Prop where
 | mk (p:Addr) (xs:List V) (i:Int) (v:V) (_:x = .ref p) (_:y = .int i) (_:SqT K H p xs) (_:atI xs i=some v) (_:Q v H):Zlj K x y H Q
noncomputable def ZmA (K:QZa):R2:=fun x y H Q=>Zlj K x y H Q
theorem Jl:IxR X (ZmB X.K):=by
 intro value slice pins s σ H x y v u Q I rx ry h hs;obtain ⟨p,xs,i,z,rfl,rfl,hq,he,q⟩:=h
 cases rx;obtain ⟨t,rfl⟩:=ry;obtain ⟨its,r,pl,hz⟩:=I.list hq;obtain ⟨j,h1,h2,h3,h4,h5⟩:=ZhK he;obtain ⟨w,ew,rw'⟩:=r.get h2;have hl:=r.length;have hn:=ZbQ;have fin:EP X pins σ Q w s:=⟨z,H,I,rw',q⟩
 by_cases h0:0<=i
 ·have hj:i.toNat=j:=by
   rw [seqIndex_of h0 h5] at h1;exact QZl h1
  exact item_listR pl.isList h0 (by exact O514 hz h5 hl hn) (by rw [hj]; simpa using ew) fin hs
 ·have hj:(i+(its.toArray.size:Int)).toNat=j:=by
   rw [seqIndex_neg (by exact O513 h0) h4] at h1;rw [QAg,<- hl];exact QZl h1
  exact subscriptTail_builtinR (x:=w) pl.isList.typeIs slot_list_getitem.lookup
   (wpAny_getItem_list_neg (Q:=fun r s'=>r=w/\EP X pins σ Q r s') pl.isList (by exact O513 h0) (by rw [QAg] <;> exact O517 h4 hl) (by exact O512 hz h4 hl hn) (by rw [hj]; simpa using ew) ⟨rfl,fin⟩) hs
theorem Zaz:IxR X (ZmA X.K):=by
 intro value slice pins s σ H x y v u Q I rx ry h hs;obtain ⟨p,xs,i,z,rfl,rfl,hq,he,q⟩:=h
 cases rx;obtain ⟨t,rfl⟩:=ry;obtain ⟨its,r,pl,hz⟩:=I.tuple hq;obtain ⟨j,h1,h2,h3,h4,h5⟩:=ZhK he;obtain ⟨w,ew,rw'⟩:=r.get h2;have hl:=r.length;have hn:=ZbQ;have fin:EP X pins σ Q w s:=⟨z,H,I,rw',q⟩;exact subscriptTail_builtinR (x:=w) pl.typeIs slot_tuple_getitem.lookup
  (getItem_tuple (j:=j) (Q:=fun r s'=>r=w/\EP X pins σ Q r s') pl (by exact O516 hz h3 h4 hl hn) (by exact O515 hz h3 h5 hl hn) (by rw [QAg,<- hl]; exact h1) (by simpa using ew) ⟨rfl,fin⟩) hs
theorem ZgJ (its:List Value) (n j:Nat) (u:Value):Obj.mapSeq (·.setIfInBounds j u) { cls:=.type "list",data:=.seq its.toArray n }={ cls:=.type "list",data:=.seq (its.set j u).toArray n }:=by
 simp [Obj.mapSeq]
theorem Inv.lst {pins:List (Addr × Obj)} {σ:St} {H:Hp} {s:Shared} {p:Addr} {xs:List V} (I:Inv X pins σ H s) (h:H p=some (.lst xs)) :
  ∃ (its:List Value) (n:Nat),Vals xs its/\s.heap.get? p=some { cls:=.type "list",data:=.seq its.toArray n }/\xs.length<=sizeLine:=by
 obtain ⟨z,its,n,r,e⟩:=I.hok p _ h;exact ⟨its,n,r,e,z⟩
theorem Inv.lstUpd {pins:List (Addr × Obj)} {σ:St} {H:Hp} {s:Shared} {p:Addr} {xs ys:List V} {its its':List Value} {n n':Nat} {f:Obj->Obj} (I:Inv X pins σ H s) (h:H p=some (.lst xs))
  (ho:s.heap.get? p=some { cls:=.type "list",data:=.seq its.toArray n }) (hf:f { cls:=.type "list",data:=.seq its.toArray n }={ cls:=.type "list",data:=.seq its'.toArray n' }) (r:Vals ys its') (hz:ys.length<=sizeLine) (t:Nat) :
  Inv X pins σ (upd H p (.lst ys)) { s with heap:=s.heap.update p f,toks:=t }:=by
 have e:(s.heap.update p f).get? p=some { cls:=.type "list",data:=.seq its'.toArray n' }:=by
  rw [Heap.get?_update_self f ho (by rw [hf] <;> rfl),hf]
 refine I.write (x:=p) (e:=p) (by rw [h]; trivial) (.inl rfl) (fun b u hb q=>(QDz _ _ (Ne.symm hb)).trans q) ⟨_,e⟩ ?_;exact ⟨hz,its',n',r,e⟩
noncomputable def Zmx:V->V->V->Hp->(Hp->Prop)->Prop:=fun o i v H Q=>∃ p xs k j,o = .ref p/\i = .int k/\H p=some (.lst xs)/\ixN xs.length k=some j/\Q (upd H p (.lst (xs.set j v)))
theorem ZeW:ZmX X Zmx:=by
 intro pins s σ H o i v ov iv u Q I ro ri rv h;obtain ⟨p,xs,k,j,rfl,rfl,hp,hj,q⟩:=h
 cases ro;obtain ⟨t,rfl⟩:=ri;obtain ⟨its,n,r,ho,hz⟩:=I.lst hp;obtain ⟨h1,h2,h3,h4⟩:=Zhv hj;have hl:=r.length;have hn:=ZbQ;have I':Inv X pins σ (upd H p (.lst (xs.set j v))) { s with heap:=s.heap.update p (Obj.mapSeq (·.setIfInBounds j u)) } :=
  I.lstUpd hp ho (ZgJ its n j u) (r.set rv j) (by rw [QDb]; exact hz) s.toks
 by_cases h0:0<=k
 ·have hk:k.toNat=j:=by
   rw [seqIndex_of h0 h4] at h1;exact QZl h1
  exact PySem.W.ki_setAt ho h0 (by exact O514 hz h4 hl hn) (by rw [QAg,<- hl]; exact h4) (by rw [hk]; exact ⟨_,I',q⟩)
 ·have hk:(k+(its.toArray.size:Int)).toNat=j:=by
   rw [seqIndex_neg (by exact O513 h0) h3] at h1;rw [QAg,<- hl];exact QZl h1
  exact PySem.W.ki_setBack ho (by exact O513 h0) (by rw [QAg,<- hl]; exact h3) (by exact O512 hz h3 hl hn) (by rw [hk]; exact ⟨_,I',q⟩)
theorem Zel (lo hi:Option Int) (n:Nat):(sliceBounds lo hi none n).1=((HT.sIx n 0 lo:Nat):Int)/\(sliceBounds lo hi none n).2.1=((HT.sIx n n hi:Nat):Int)/\(sliceBounds lo hi none n).2.2=1:=by
 refine ⟨?_,?_,rfl⟩
 ·cases lo with
  | none=>simp [sliceBounds,HT.sIx]
  | some i =>
   simp only [sliceBounds,HT.sIx,Option.getD_none,show (1:Int)>0 by decide,if_true]
   by_cases h:i<0
   ·simp only [h,if_true] <;> exact O511 h
   ·simp only [h,if_false] <;> exact O510 h
 ·cases hi with
  | none=>simp [sliceBounds,HT.sIx]
  | some i =>
   simp only [sliceBounds,HT.sIx,Option.getD_none,show (1:Int)>0 by decide,if_true]
   by_cases h:i<0
   ·simp only [h,if_true] <;> exact O511 h
   ·simp only [h,if_false] <;> exact O510 h
theorem Zda (its:List Value) (lo hi:Option Int):slicePick its.toArray lo hi none=((its.drop (HT.sIx its.length 0 lo)).take (HT.sIx its.length its.length hi - HT.sIx its.length 0 lo)).toArray:=by
 obtain ⟨h1,h2,h3⟩:=Zel lo hi its.toArray.size;unfold slicePick;rw [h1,h2,h3]
 simp only [sliceRange_one,pick_run,QAg] <;> rfl
noncomputable def Zmw (K:QZa):V->Option Int->Option Int->Hp->VK->Prop:=fun x lo hi H Q=>∃ a xs,x = .ref a/\SqL K H a xs/\∀ p,H p=none->Q (.ref p) (upd H p (.lst (Za7 xs lo hi)))
theorem ZaH:SlR X (Zmw X.K):=by
 intro pins s σ H x v vl vu lo hi sl Q I rx hs pl pu h;obtain ⟨a,xs,rfl,hx,q⟩:=h
 cases rx;obtain ⟨its,r,ht,hz⟩:=I.list hx;have hlen:=r.length;refine ⟨"list",_,slot_list_getitem.lookup,ht.isList.typeIs,?_⟩;refine wpAny_getItem_list_slice ht.isList hs pl pu .none (by simp) ?_ (by rw [QAg] <;> exact Om.y2 ‹_› ‹_› rfl);rw [Zda,<- hlen];refine ⟨.ref s.heap.objs.size,_,I.laid (t':=s.toks) (o:=.lst (Za7 xs lo hi)) (fun b ob q=>QAk _ q) (QAd _) ?_,rfl,q _ (I.hok.fresh (QAd _))⟩;exact ⟨QAs (Zfz xs lo hi) hz,_,0,(r.drop (HT.sIx xs.length 0 lo)).take (HT.sIx xs.length xs.length hi - HT.sIx xs.length 0 lo),QAy _ rfl⟩
noncomputable def Z5:V->Bool
 | .non=>true
 | .bl _=>true
 | .int _=>true
 | .str _=>true
 | _=>false
noncomputable def eqV:V->V->Bool
 | .non,.non=>true
 | .bl a,.bl b=>a==b
 | .bl a,.int b=>(if a then 1 else 0)==b
 | .int a,.bl b=>a==(if b then 1 else 0)
 | .int a,.int b=>a==b
 | .str a,.str b=>a==b
 | _,_=>false
theorem ZgR {A:Around} {s:Shared} {y x:V} {u v:Value} (ry:RelV y u) (rx:RelV x v) (fy:Z5 y=true) (fx:Z5 x=true):SeqAt.EqAt A s u v (eqV y x):=by
 cases y with
 | non =>
  cases ry
  cases x with
  | non=>cases rx; exact SeqAt.EqAt.same _
  | bl b=>cases rx; exact SeqAt.EqAt.none_bool b
  | int b=>obtain ⟨t,rfl⟩:=rx; exact SeqAt.EqAt.none_int b t
  | str b=>obtain ⟨t,rfl⟩:=rx; exact SeqAt.EqAt.none_str b t
  | _=>exact absurd (show false=true from fx) QAl
 | bl a =>
  cases ry
  cases x with
  | non=>cases rx; exact SeqAt.EqAt.bool_none a
  | bl b=>cases rx; exact SeqAt.EqAt.bool_bool a b
  | int b=>obtain ⟨t,rfl⟩:=rx; exact SeqAt.EqAt.bool_int a b t
  | str b=>obtain ⟨t,rfl⟩:=rx; exact SeqAt.EqAt.bool_str a b t
  | _=>exact absurd (show false=true from fx) QAl
 | int a =>
  obtain ⟨t',rfl⟩:=ry
  cases x with
  | non=>cases rx; exact SeqAt.EqAt.int_none a t'
  | bl b=>cases rx; exact SeqAt.EqAt.int_bool a t' b
  | int b=>obtain ⟨t,rfl⟩:=rx; exact SeqAt.EqAt.int_int a t' b t
  | str b=>obtain ⟨t,rfl⟩:=rx; exact SeqAt.EqAt.int_str a t' b t
  | _=>exact absurd (show false=true from fx) QAl
 | str a =>
  obtain ⟨t',rfl⟩:=ry
  cases x with
  | non=>cases rx; exact SeqAt.EqAt.str_none a t'
  | bl b=>cases rx; exact SeqAt.EqAt.str_bool a t' b
  | int b=>obtain ⟨t,rfl⟩:=rx; exact SeqAt.EqAt.str_int a t' b t
  | str b=>obtain ⟨t,rfl⟩:=rx; exact SeqAt.EqAt.str_str a t' b t
  | _=>exact absurd (show false=true from fx) QAl
 | _=>exact absurd (show false=true from fy) QAl
noncomputable def eqU (x:V) (u:Value):Bool:=match u with
 | .none=>eqV .non x
 | .bool b=>eqV (.bl b) x
 | .int i _=>eqV (.int i) x
 | .str z _=>eqV (.str z) x
 | _=>false
theorem ZjH {x y:V} {u:Value} (r:RelV y u) (f:Z5 y=true):eqU x u=eqV y x:=by
 cases y with
 | non=>cases r; rfl
 | bl b=>cases r; rfl
 | int i=>obtain ⟨t,rfl⟩:=r; rfl
 | str z=>obtain ⟨t,rfl⟩:=r; rfl
 | _=>exact absurd (show false=true from f) QAl
theorem ZeL {x:V}:∀ {xs:List V} {us:List Value},Vals xs us->xs.all Z5=true->us.any (eqU x)=xs.any fun y=>eqV y x
 | _,_,.nil,_=>rfl
 | y::xs,u::us,.cons r t,f=>by
  rw [List.all_cons,QAv] at f;rw [List.any_cons,List.any_cons,ZjH r f.1,ZeL t f.2]
theorem ZcI {A:Around} {s:Shared} {x:V} {v:Value} (rx:RelV x v) (fx:Z5 x=true):∀ {xs:List V} {us:List Value},Vals xs us->xs.all Z5=true->∀ u∈us,SeqAt.EqAt A s u v (eqU x u)
 | _,_,.nil,_=>fun u hu=>by cases hu
 | y::xs,u::us,.cons r t,f=>fun u' hu=>by
  rw [List.all_cons,QAv] at f
  rcases QZn.mp hu with rfl | hu
  ·rw [ZjH r f.1]; exact ZgR r rx f.1 fx
  ·exact ZcI rx fx t f.2 u' hu
noncomputable def inV (x:V) (xs:List V):Bool:=xs.any fun y=>eqV y x
inductive ZmV (K:QZa) (neg:Bool) (x:V) (y:V) (H:Hp) (Q:VK):Prop where
 | mk (p:Addr) (xs:List V) (_:y = .ref p) (_:(SqL K H p xs\/SqT K H p xs)) (_:Z5 x=true) (_:xs.all Z5=true) (_:Q (.bl (if neg then !inV x xs else inV x xs)) H):ZmV K neg x y H Q
noncomputable def rIn (K:QZa) (neg:Bool):R2:=fun x y H Q=>ZmV K neg x y H Q
theorem Zey:OpR X (compareOp .NotIn) (rIn X.K true):=by
 intro pins s σ H x y v u Q I rx ry h;obtain ⟨p,xs,rfl,hq,fx,fs,q⟩:=h
 cases ry
 rcases hq with hq | hq
 ·obtain ⟨its,r,pl,hz⟩:=I.list hq;refine SeqAt.notIn_listAt (eqU x) pl.isList (fun w hw=>ZcI rx fx r fs w (by simpa using hw)) ⟨.bl _,H,I,rfl,?_⟩;rw [show its.toArray.any (eqU x)=its.any (eqU x) by simp,ZeL r fs];exact q
 ·obtain ⟨its,r,pl,hz⟩:=I.tuple hq;refine SeqAt.notIn_tupleAt (eqU x) pl (fun w hw=>ZcI rx fx r fs w (by simpa using hw)) ⟨.bl _,H,I,rfl,?_⟩;rw [show its.toArray.any (eqU x)=its.any (eqU x) by simp,ZeL r fs];exact q
theorem ZeK:Y5 X (.builtin "len") (fun xs H Q=>∃ p ys,xs=[.ref p]/\(SqL X.K H p ys\/SqT X.K H p ys)/\Q (.int ys.length) H):=by
 intro pins s σ H xs us Q I r h;obtain ⟨p,ys,rfl,hq,q⟩:=h;obtain ⟨u,rfl,rx⟩:=J1 r
 cases rx;have hn:=ZbQ
 rcases hq with hq | hq
 ·obtain ⟨its,r',pl,hz⟩:=I.list hq;have hlen:=r'.length;exact Calls.call_len_list pl.isList (by simp only [QAg] <;> exact O509 hn hz hlen) ⟨.int ys.length,H,I.tok _,⟨s.toks+1,by rw [QAg,hlen]⟩,q⟩
 ·obtain ⟨its,r',pl,hz⟩:=I.tuple hq;have hlen:=r'.length;exact len_tuple pl (by simp only [QAg] <;> exact O509 hn hz hlen) ⟨.int ys.length,H,I.tok _,⟨s.toks+1,by rw [QAg,hlen]⟩,q⟩
theorem ZeJ:Y5 X (.type "list") (fun xs H Q=>∃ p ys,xs=[.ref p]/\(SqL X.K H p ys\/SqT X.K H p ys)/\∀ l,H l=none->Q (.ref l) (upd H l (.lst ys))):=by
 intro pins s σ H xs us Q I r h;obtain ⟨p,ys,rfl,hq,q⟩:=h;obtain ⟨u,rfl,rx⟩:=J1 r
 cases rx;have fin:∀ (its:List Value),Vals ys its->ys.length<=sizeLine->∀ (h':Heap) (c':Nat),(∀ b o',s.heap.get? b=some o'->h'.get? b=some o') ->
   h'.get? s.heap.objs.size=some { cls:=.type "list",dict:=none,data:=.seq its.toArray c',slots:=#[] }->EP X pins σ Q (.ref s.heap.objs.size) { s with heap:=h' }:=fun its r' hz h' c' kp e =>
  ⟨.ref s.heap.objs.size,_,I.laid (t':=s.toks) kp (QAd _) (show ObjOk X.prog X.w _ h' _ (.lst ys) from ⟨hz,its,c',r',e⟩),rfl,q _ (I.hok.fresh (QAd _))⟩
 rcases hq with hq | hq
 ·obtain ⟨its,r',pl,hz⟩:=I.list hq;have hlen:=r'.length;obtain ⟨o,ho,hc,n,hd⟩:=pl.isList;exact call_list_seq p (.inl rfl) ho hc hd (fun h' c' kp e=>fin its r' hz h' c' kp e) (by simp only [QAg] <;> exact Om.y2 ‹_› ‹_› rfl)
 ·obtain ⟨its,r',pl,hz⟩:=I.tuple hq;have hlen:=r'.length;obtain ⟨o,ho,hc,n,hd⟩:=pl;exact call_list_seq p (.inr rfl) ho hc hd (fun h' c' kp e=>fin its r' hz h' c' kp e) (by simp only [QAg] <;> exact Om.y2 ‹_› ‹_› rfl)
theorem Zdi:Y5 X (.type "tuple") (fun xs H Q=>∃ p ys,xs=[.ref p]/\((SqL X.K H p ys/\∀ l,H l=none->Q (.ref l) (upd H l (.tup ys)))\/(SqT X.K H p ys/\Q (.ref p) H))):=by
 intro pins s σ H xs us Q I r h;obtain ⟨p,ys,rfl,h⟩:=h;obtain ⟨u,rfl,rx⟩:=J1 r
 cases rx
 rcases h with ⟨hq,q⟩ | ⟨hq,q⟩
 ·obtain ⟨its,r',pl,hz⟩:=I.list hq;have hlen:=r'.length;refine call_tuple_list pl.isList (fun h' kp=>?_) (by simp only [QAg] <;> exact Om.y2 ‹_› ‹_› rfl);have I1:Inv X pins σ H { s with heap:=h' }:=I.kept (t':=s.toks) kp;have I2:Inv X pins σ (upd H h'.objs.size (.tup ys)) { s with heap:=h'.push { cls:=.type "tuple",data:=.seq its.toArray } } :=
   I1.laid (t':=s.toks) (fun b o e=>QAk _ e) (QAd _) (show ObjOk X.prog X.w _ _ _ (.tup ys) from ⟨hz,its,r',IsTupN.new _ _⟩)
  exact ⟨.ref h'.objs.size,_,I2,rfl,q _ (I1.hok.fresh (QAd _))⟩
 ·obtain ⟨its,r',pl,hz⟩:=I.tuple hq;exact call_tuple_same pl ⟨.ref p,H,I,rfl,q⟩
noncomputable def tyV (K:QZa) (T:String) (x:V) (H:Hp):Prop:=match x with
 | .str _=>T = "str"
 | .int _=>T = "int"
 | .ref p=>(T = "list" /\ ∃ xs,SqL K H p xs)\/(T = "tuple" /\ ∃ o,K.lookup p=some o/\o.cls = .type "tuple" /\ o.dict=none) \/
   (T = "dict" /\ ((∃ kvs,H p=some (.dK kvs))\/∃ kvs,H p=some (.dT kvs)))\/(T = "set" /\ ∃ S n,H p=some (.set S n))
 | _=>False
theorem Zlo {pins:List (Addr × Obj)} {σ:St} {H:Hp} {s:Shared} {T:String} {x:V} {v:Value} (I:Inv X pins σ H s) (r:RelV x v) (ty:tyV X.K T x H) :
  s.TypeIs v T/\∀ a,v = .ref a->∃ ob,s.heap.get? a=some ob/\ob.dict=none:=by
 cases x with
 | str z =>
  obtain ⟨t,rfl⟩:=r
  cases (show T = "str" from ty);exact ⟨typeIs_str s z t,fun _ e=>nomatch e⟩
 | int i =>
  obtain ⟨t,rfl⟩:=r
  cases (show T = "int" from ty);exact ⟨typeIs_int s i t,fun _ e=>nomatch e⟩
 | ref p =>
  cases r
  rcases ty with ⟨rfl,xs,hq⟩ | ⟨rfl,o,hk,hc,hd⟩ | ⟨rfl,hk⟩ | ⟨rfl,S,n,hk⟩
  ·obtain ⟨its,_,pl,_⟩:=I.list hq;refine ⟨pl.isList.typeIs,fun a e=>?_⟩
   cases e;obtain ⟨o,n,e,c,hd,_⟩:=pl;exact ⟨o,e,hd⟩
  ·refine ⟨⟨o,I.kIn p o hk,hc⟩,fun a e=>?_⟩
   cases e;exact ⟨o,I.kIn _ o hk,hd⟩
  ·have z:∃ o,s.heap.get? p=some o/\o.ExactDict:=by
    rcases hk with ⟨kvs,hk⟩ | ⟨kvs,hk⟩
    ·obtain ⟨_,_,_,_,o,_,_,e,ex,_⟩:=I.hok p _ hk;exact ⟨o,e,ex⟩
    ·obtain ⟨_,_,_,_,o,_,_,e,ex,_⟩:=I.hok p _ hk;exact ⟨o,e,ex⟩
   obtain ⟨o,e,ex⟩:=z;refine ⟨⟨o,e,ex.1⟩,fun a e2=>?_⟩
   cases e2;exact ⟨o,e,ex.2.1⟩
  ·obtain ⟨o,_,_,_,e,ex,_⟩:=I.hok p _ hk;refine ⟨⟨o,e,ex.1⟩,fun a e2=>?_⟩
   cases e2;exact ⟨o,e,ex.2.1⟩
 | _=>exact False.elim ty
noncomputable def tBM (K:QZa) (T:String) (r:V->List V->Hp->VK->Prop) (to:TE) (t:TA):TE:=fun σ H Q=>to σ H fun x H1=>tyV K T x H1/\t σ H1 fun xs H2=>r x xs H2 Q
variable {o e:Expr} {es:List Expr} {to:TE} {t:TA} {name:Str} {apos cpos:Pos} {T id:String} {r:V->List V->Hp->VK->Prop}
theorem Jr (pa:PlainAttrs T) (slot:Slot T name id) (hty:typeOf (.builtin id)=pure (.type "method_descriptor")) (hm:MtR X id r) (ho:PE X o to) (ha:PA X (e::es) t)
  (hbase:attributeBase o name X.env (eval o X.env)=eval o X.env:=by rfl)
  (hfew:((backTo cpos (starEach (e::es) X.env)).all (fun x=>!x.1)&&(backToKw cpos (keywordEach [] X.env)).all (fun x=>x.1.isSome)
   && decide ((e::es).length+([]:List Keyword).length+(if ([]:List Keyword).isEmpty then 0 else 1)<30))=true:=by rfl)
  (hline:(apos.endLine==cpos.line)=true:=by rfl) (hs:starEach (e::es) X.env=(false,eval e X.env)::starEach es X.env:=by rfl) (hplain:(backTo cpos (starEach es X.env)).any (·.1)=false:=by rfl) :
  PE X (.Call (.Attribute o name apos) (e::es) [] cpos) (tBM X.K T r to t):=by
 intro pins s σ H Q I h;refine wpAny_Call_method_late hbase hfew hline rfl (thn (ho pins s σ H _ I h) fun v s1 zz0=>?_);obtain ⟨x,H1,I1,r1,ty,q1⟩:=zz0;obtain ⟨h1,h2⟩:=Zlo I1 r1 ty;refine ⟨T,id,pa,slot,hty,h1,h2,?_⟩;have hA:=ha cpos pins s1 σ H1 _ I1 q1;rw [hs] at hA ⊢;refine Calls.callWith_builtin (by show (false||(backTo cpos (starEach es X.env)).any (·.1))=false; rw [hplain] <;> rfl) (Calls.evalArgs_plain ?_);exact thn hA fun us s2 ⟨vs,H2,I2,r2,q2⟩=>hm pins s2 σ H2 x vs v us Q I2 r1 r2 q2
end
end L2
namespace L2
open PySem PySem.Spec PyProof.Rows
noncomputable def MtM (X:Cx) (id:String) (r:V->List V->Hp->VK->Prop):Prop :=
 ∀ (pins:List (Addr × Obj)) (s:Shared) (σ:St) (H:Hp) (x:V) (xs:List V) (v:Value) (us:List Value) (Q:VK),Inv X pins σ H s->RelV x v->Vals xs us->r x xs H Q ->
  wpAny (model X.prog X.w) X.A (call (.builtin id) (v::us)) (EP X pins σ Q) X.xe s
theorem Vals.one:∀ {x:V} {us:List Value},Vals [x] us->∃ u,us=[u]/\RelV x u
 | _,_,.cons r .nil=>⟨_,rfl,r⟩
theorem Vals.eraseIdx:∀ {xs:List V} {us:List Value} (i:Nat),Vals xs us->Vals (xs.eraseIdx i) (us.eraseIdx i)
 | _,_,_,.nil=>.nil
 | _,_,0,.cons _ t=>t
 | _,_,i+1,.cons r t=>.cons r (Vals.eraseIdx i t)
theorem Vals.rep {xs:List V} {us:List Value} (h:Vals xs us):∀ k:Nat,Vals (List.replicate k xs).flatten (List.replicate k us).flatten
 | 0=>.nil
 | k+1=>by
  rw [QEc,QEc,List.flatten_cons,List.flatten_cons];exact Vals.append h (Vals.rep h k)
theorem ZdH {α:Type}:∀ (l:List α) (i:Nat),(l.eraseIdx i).length<=l.length
 | [],_=>QAd _
 | _::_,0=>QCk _
 | _::r,i+1=>Nat.succ_le_succ (ZdH r i)
theorem ZdN (its:List Value):∀ (k:Nat) (acc:List Value),
  List.foldl (fun x1 x2=>x1++x2) acc.toArray (List.replicate k its.toArray)=(acc++(List.replicate k its).flatten).toArray
 | 0,acc=>by simp
 | k+1,acc=>by
  have e:acc.toArray++its.toArray=(acc++its).toArray:=by simp
  have e2:(acc++its)++(List.replicate k its).flatten=acc++(List.replicate (k+1) its).flatten:=by
   rw [QEc,List.flatten_cons,QBo]
  rw [<- e2,<- ZdN its k (acc++its),<- e,QEc,List.foldl_cons]
section
variable {X:Cx} {pins:List (Addr × Obj)} {σ:St} {H:Hp} {s:Shared} {l b:Addr} {xs ys zs:List V}
theorem Inv.lset {its its':List Value} {n:Nat} {f:Array Value->Array Value} {t':Nat} (I:Inv X pins σ H s) (hH:H l=some (.lst xs))
  (e:s.heap.get? l=some { cls:=.type "list",data:=.seq its.toArray n }) (hf:f its.toArray=its'.toArray) (hv:Vals ys its') (hz:ys.length<=sizeLine) :
  Inv X pins σ (upd H l (.lst ys)) { s with heap:=s.heap.update l (Obj.mapSeq f),toks:=t' }:=by
 have q:=PySem.IsL.update e f;rw [hf] at q;refine I.write (x:=l) (e:=l) (by rw [hH]; exact trivial) (.inl rfl) (fun b' u hb hu=>(QDz s.heap (Obj.mapSeq f) (Ne.symm hb)).trans hu) ⟨_,q⟩ ?_;exact ⟨hz,its',_,hv,q⟩
theorem Inv.lnew {its:List Value} {t':Nat} (I:Inv X pins σ H s) (hv:Vals ys its) (hz:ys.length<=sizeLine) :
  Inv X pins σ (upd H s.heap.objs.size (.lst ys)) { s with heap:=s.heap.push { cls:=.type "list",data:=.seq its.toArray },toks:=t' } :=
 I.laid (fun _ _ q=>QAk _ q) (QAd _) ⟨hz,its,0,hv,QAy _ rfl⟩
theorem Inv.fresh (I:Inv X pins σ H s):H s.heap.objs.size=none:=I.hok.fresh (QAd _)
theorem Inv.lstM (I:Inv X pins σ H s) (hH:H l=some (.lst xs)):xs.length<=sizeLine/\∃ (its:List Value) (n:Nat),Vals xs its/\xs.length=its.length/\s.heap.get? l=some { cls:=.type "list",data:=.seq its.toArray n }:=by
 obtain ⟨z,its,n,r,e⟩:=I.hok l _ hH;exact ⟨z,its,n,r,r.length,e⟩
theorem Zjb {n:Nat} (h:n<=sizeLine):Builtin.List.listTooLong n=false:=by
 unfold Builtin.List.listTooLong;exact QZi (by exact O497 h)
end
section
variable {X:Cx}
inductive ZfR (x:V) (vs:List V) (H:Hp) (Q:VK):Prop where
 | mk (l:Addr) (xs:List V) (y:V) (_:x = .ref l) (_:vs=[y]) (_:H l=some (.lst xs)) (_:xs.length<sizeLine) (_:Q .non (upd H l (.lst (xs++[y])))):ZfR x vs H Q
noncomputable def Zkf:V->List V->Hp->VK->Prop:=fun x vs H Q=>ZfR x vs H Q
theorem Ya:MtM X "list.append" Zkf:=by
 intro pins s σ H x vs v us Q I rx rv h;obtain ⟨l,xs,y,rfl,rfl,hH,hz,q⟩:=h
 cases rx;obtain ⟨u,rfl,ru⟩:=rv.one;obtain ⟨z,its,n,r,hl,e⟩:=I.lstM hH;refine call_meets F.slot_list_append ⟨_,e,rfl⟩ F.entry_list_append (F.args_list_append_2 _ _) (PySem.list_append l its.toArray n u (by rw [QAg]; exact Om.y2 ‹_› ‹_› rfl)) ⟨e,?_⟩;refine ⟨.non,_,I.lset (its':=its++[u]) hH e (by simp) (r.append (.cons ru .nil)) ?_,rfl,q⟩;rw [QAo,QDl];exact Om.f1 ‹_›
inductive ZfQ (x:V) (vs:List V) (H:Hp) (Q:VK):Prop where
 | mk (l:Addr) (b:Addr) (xs:List V) (zs:List V) (_:x = .ref l) (_:vs=[.ref b]) (_:H l=some (.lst xs)) (_:H b=some (.lst zs)) (_:xs.length+zs.length<=sizeLine) (_:Q .non (upd H l (.lst (xs++zs)))):ZfQ x vs H Q
noncomputable def Zke:V->List V->Hp->VK->Prop:=fun x vs H Q=>ZfQ x vs H Q
theorem ZaN:MtM X "list.extend" Zke:=by
 intro pins s σ H x vs v us Q I rx rv h;obtain ⟨l,b,xs,zs,rfl,rfl,hH,hB,hz,q⟩:=h
 cases rx;obtain ⟨u,rfl,ru⟩:=rv.one
 cases ru;obtain ⟨z,its,n,r,hl,e⟩:=I.lstM hH;obtain ⟨z2,its2,n2,r2,hl2,e2⟩:=I.lstM hB;have hsz:its.toArray.size+its2.toArray.size<=sizeLine:=by rw [QAg,QAg]; exact O508 hz hl hl2
 have hlong:¬ (!its.toArray.isEmpty&&Builtin.List.listTooLong (its.toArray.size+its2.toArray.size))=true:=by
  rw [Zjb hsz,Bool.and_false];exact QAl
 refine call_meets F.slot_list_extend ⟨_,e,rfl⟩ F.entry_list_extend (F.args_list_extend_2 _ _)
  (AutoSeq1.list_extend_list_list_0 l its.toArray n b its2.toArray n2 hlong (by rw [QAg]; exact Om.y2 ‹_› ‹_› rfl) (by exact Om.b1 ‹_› rfl)) ⟨e,e2,?_⟩
 refine ⟨.non,_,I.lset (its':=its++its2) hH e (by simp) (r.append r2) ?_,rfl,q⟩;rw [QAo]
 assumption
noncomputable def ZlA:V->List V->Hp->VK->Prop:=fun x vs H Q=>∃ l xs i k y,x = .ref l/\vs=[.int i]/\H l=some (.lst xs) /\ -(2 ^ 63)<=i/\i<2 ^ 63/\seqIndex? i xs.length=some k/\xs[k]? = some y/\Q y (upd H l (.lst (xs.eraseIdx k)))
theorem Zjh:MtM X "list.pop" ZlA:=by
 intro pins s σ H x vs v us Q I rx rv h;obtain ⟨l,xs,i,k,y,rfl,rfl,hH,h1,h2,hk,hy,q⟩:=h
 cases rx;obtain ⟨u,rfl,ru⟩:=rv.one;obtain ⟨t,rfl⟩:=ru;obtain ⟨z,its,n,r,hl,e⟩:=I.lstM hH;obtain ⟨w,hw,rw'⟩:=r.get hy;refine call_meets F.slot_list_pop ⟨_,e,rfl⟩ F.entry_list_pop (F.args_list_pop_2 _ _)
  (MeetsSeq.list_pop_at l its.toArray n i t k w (fitsIndex_both h1 h2) (by rw [QAg,<- hl]; exact hk) (by rw [<- QDc]; exact hw) (by rw [QAg]; exact Om.y2 ‹_› ‹_› rfl)) ⟨e,?_⟩
 refine ⟨y,_,I.lset (its':=its.eraseIdx k) hH e ?_ (r.eraseIdx k) ?_,rw',q⟩
 ·show its.toArray.eraseIdxIfInBounds k=(its.eraseIdx k).toArray;rw [List.eraseIdxIfInBounds_toArray]
 ·have:=ZdH xs k;exact Om.b3 ‹_› ‹_› rfl
inductive Zll (x:V) (y:V) (H:Hp) (Q:VK):Prop where
 | mk (l:Addr) (b:Addr) (xs:List V) (zs:List V) (_:x = .ref l) (_:y = .ref b) (_:H l=some (.lst xs)) (_:H b=some (.lst zs)) (_:xs.length+zs.length<=sizeLine) (_:∀ p,H p=none->Q (.ref p) (upd H p (.lst (xs++zs)))):Zll x y H Q
noncomputable def Znh:R2:=fun x y H Q=>Zll x y H Q
theorem ZcE:OpR X (binaryOp .Add) Znh:=by
 intro pins s σ H x y v u Q I rx ry h;obtain ⟨l,b,xs,zs,rfl,rfl,hH,hB,hz,q⟩:=h
 cases rx
 cases ry;obtain ⟨z,its,n,r,hl,e⟩:=I.lstM hH;obtain ⟨z2,its2,n2,r2,hl2,e2⟩:=I.lstM hB;refine PySem.P.add_list e e2 ?_ (by rw [QAg,QAg]; exact O508 hz hl hl2);have ea:its.toArray++its2.toArray=(its++its2).toArray:=by simp
 rw [ea];exact ⟨.ref _,_,I.lnew (t':=s.toks) (r.append r2) (by rw [QAo]; assumption),rfl,q _ I.fresh⟩
theorem Zhs {α:Type} (xs:List α) (k:Nat):(List.replicate k xs).flatten.length=k*xs.length:=by
 induction k with
 | zero=>simp
 | succ k ih=>rw [QEc,List.flatten_cons,QAo,ih,QCt,Nat.add_comm]
end
section
variable {prog:Program} {w:World} {A:Around} {E:Value->Shared->Prop} {s:Shared}
end
section
variable {X:Cx}
end
end L2
namespace Att
open PySem PySem.W PySem.Calls PyProof.Rows
theorem Zcb {P:Params} {h:Heap}:∀ (ns:List Int) (vs:List Value),WellAll P h vs (ns.map WData.int)->IntsAre vs ns:=by
 intro ns
 induction ns with
 | nil =>
  intro vs w;rw [List.map_nil] at w
  cases w;exact .nil
 | cons n ns ih =>
  intro vs w;rw [QAp] at w
  cases w with
  | cons a b =>
   cases a;exact .cons _ _ (ih _ b)
theorem Zh1 {l:OpenLaw} {n:Nat} (hn:l.most=some n) {P:Params} {h:Heap} {args:List WData} {vals:List Value}
  (hpre:l.row.toRowW.claim.pre args=true) (hwl:WellAll P h vals args) :
  ∃ a vs ns,vals=[Value.ref a]/\args=[WData.list (ns.map WData.int)]/\h.get? a=some { cls:=.type "list",data:=.seq vs.toArray }/\IntsAre vs ns/\ns.length<=n:=by
 have hsh:WShape.hasAll [] args [.list .int]=true:=(pre_splitW hpre).1;have hc:l.pre.holds [] { args:=args }=true:=(pre_splitW hpre).2;obtain ⟨d,r,rfl,h1,h2⟩:=hasAllW_cons hsh;obtain rfl:=hasAllW_nil h2;obtain ⟨xs,rfl,h3⟩:=hasW_list h1;obtain ⟨ns,rfl⟩:=items_int h3;have hlen:ns.length<=n:=by
  unfold OpenLaw.pre at hc;have h4:(WTm.not (.lt (.lit (.int (n:Int))) (.len (.arg 0)))).holds [] { args:=[.list (ns.map .int)] }=true:=by
   have h4:=(holds_andW hc).1;rw [hn] at h4;exact h4
  have h5:=condW_of h4 (w_not (w_lt w_lit (w_len_list (w_arg rfl))));rw [QAa] at h5;refine Nat.le_of_not_lt fun q=>?_;have q':(n:Int)<((ns.length:Nat):Int):=by exact Om.c5 ‹_›
  first
   | (rw [QZh q'] at h5; exact absurd h5 (by decide))
   | (simp at h5; omega)
 cases hwl with
 | cons w1 w2 =>
  cases w2
  cases w1 with
  | list ho hall=>exact ⟨_,_,ns,rfl,rfl,ho,Zcb ns _ hall,hlen⟩
theorem Zh4 (l:OpenLaw) (args:List WData):l.row.toRowW.claim.post args (.bool true) args=true :=
 postW_of (r:=l.row.toRowW) (X:=(true==true))
  (show WShape.has [] (.bool true) .bool=true by first | rfl | decide | simp [WShape.has,WShape.arms,WShape.armsAll])
  (show (WTm.eq .res (.lit (.bool true))).value [] { args:=args,res:=some (.bool true),after:=args }=some (.bool (true==true)) from w_eq_bool (w_res rfl) w_lit) rfl
theorem attach_call {l:OpenLaw} {n:Nat} {q:Program} {loose:List Str} {XP:(Str->Option Value)->Heap->Prop} {YP:World->Heap->Prop} {d:DefRec}
  (hn:l.most=some n) (hdf:d.params.defaults=[])
  (call:∀ (w:World) (s₀ s₁:Shared) (mg mb:Str->Option Value) (fa:Addr) (o:Obj) (pm cd doc:Value) (a:Addr) (vs:List Value) (ns:List Int),
   Ground q loose [] XP w s₀ mg mb s₁.heap->YP w s₁.heap ->
   s₁.heap.get? fa=some o->o.data = .func (docDef d.name d.params d.body d.scope pm cd doc)->s₁.heap.CodeRec cd d.name->mg d.name=some (.ref fa) ->
   s₁.heap.get? a=some { cls:=.type "list",data:=.seq vs.toArray }->IntsAre vs ns->ns.length<=n->s₁.gens = #[] ->
   codeAny (model l.prog w) callerA (.call (.ref fa) ⟨[.ref a],[]⟩) (fun r s'=>r = .ok (.ret (.bool true))/\OldK s₁.heap s'.heap/\s'.os=s₁.os/\AllBare s'.gens) s₁) :
  WalkO q loose XP YP l.row.toRowW d [] (fun f vs=>PySem.call f vs):=by
 intro w s₀ s₁ mg mb G Y fa o pm cd doc dV kV ho hd hcd hD hmg hg args vals as hpre hlay hrd hwl hlo;obtain rfl:dV = .none:=Dflts.none hD hdf;obtain rfl:kV = .none:=Dflts.noKw hD;obtain ⟨a,vs,ns,rfl,rfl,hobj,hints,hlen⟩:=Zh1 hn hpre hwl;refine enter_call (codeAny_mono (call w s₀ s₁ mg mb fa o pm cd doc a vs ns G Y ho (fd_plain hd) hcd hmg hobj hints hlen hg) fun r s' hq=>?_);obtain ⟨rfl,h2,h3,h4⟩:=hq;exact ⟨.inl ⟨.bool true,.bool true,[],rfl,fun _=>rfl,.bool true,Zh4 l _,fun _=>⟨List.Pairwise.nil,fun _ hm=>(nomatch hm)⟩⟩,h2,h3,h4⟩
section
variable {prog:Program} {w:World} {A:Around} {E:Value->Shared->Prop} {s:Shared} {K:Frag}
end
end Att
namespace L2
open PySem PySem.Spec PyProof.Rows
theorem ZaF:∀ {vs:List Value} {ns:List Int},IntsAre vs ns->Vals (ns.map V.int) vs
 | _,_,.nil=>.nil
 | _,_,.cons n t h=>.cons ⟨t,rfl⟩ (ZaF h)
noncomputable def Zmc (H:Hp):Prop:=∀ b,H b=none\/∃ o xs,H b=some (.frz o (.lst xs))
theorem Zjq {P:Program} {w:World} {K:QZa} {mg mb:Str->Option Value} {CX:CXT} {k:Nat} {fa a:Addr} {fd:FuncData} {x:Str} {sp:Sp} {s₁:Shared} {vs:List Value} {ns:List Int}
  (KX:K.In s₁.heap) (hns:s₁.heap.Ns mainGlobals mg) (hb:s₁.heap.Ns builtinsNs mb) (hbb:∀ x:Str,x ≠ "__name__" -> mb x=bootBuiltins x) (hlim:s₁.heap.NoLimit) (hg:s₁.gens = #[])
  (ha:s₁.heap.get? a=some { cls:=.type "list",data:=.seq vs.toArray }) (hi:IntsAre vs ns) (hl:ns.length<=sizeLine) (hr:Room k callerA)
  (F:∀ base:Heap,K.In base->base.Ns mainGlobals mg->FnOk P w K mg base CX k fa fd [x] sp) (hbind:∀ (s:Shared) (u:Value),BindsTo s fd ⟨[u],[]⟩ [(x,u)])
  (hsp:∀ H:Hp,Zmc H->SqL K H a (ns.map V.int)->sp [.ref a] H (fun v _=>v = .bl true) fun _ _ _=>False)
  (hCX:∀ H e s',CX [] H s₁ (fun _ _ _=>False) e s'->False) :
  codeAny (model P w) callerA (.call (.ref fa) ⟨[.ref a],[]⟩) (fun r s'=>r = .ok (.ret (.bool true))/\OldK s₁.heap s'.heap/\s'.os=s₁.os/\AllBare s'.gens) s₁:=by
 have rv:=ZaF hi;have lenV:=hi.length;have core:∀ H:Hp,Zmc H->SqL K H a (ns.map V.int)->HOk P w H s₁.heap->(∀ b,H b≠none->b=a)->(H a≠none->K.lookup a=none) ->
   codeAny (model P w) callerA (.call (.ref fa) ⟨[.ref a],[]⟩) (fun r s'=>r = .ok (.ret (.bool true))/\OldK s₁.heap s'.heap/\s'.os=s₁.os/\AllBare s'.gens) s₁:=by
  intro H hO hS hok hA hK;have base_of:∀ {b:Addr} {o:Obj},s₁.heap.get? b=some o->H b=none->(ZeE s₁.heap H).get? b=some o:=fun e n=>Zjv e n
  have noA:∀ {b:Addr} {o:Obj} {es:Array DictEntry} {ep:Nat},s₁.heap.get? b=some o->o.data = .dict es ep->H b=none:=fun {b o es ep} e d=>by
   cases q:H b with
   | none=>rfl
   | some u =>
    have e':b=a:=hA b (by rw [q]; simp);subst e';rw [ha] at e; cases e;have d':Data.seq vs.toArray _=Data.dict es ep:=d
    cases d'
  have nsK:∀ {b:Addr} {m:Str->Option Value},s₁.heap.Ns b m->(ZeE s₁.heap H).Ns b m:=fun {b m} ⟨o,es,ep,e,d,r⟩=>⟨o,es,ep,base_of e (noA e d),d,r⟩
  have hKb:K.In (ZeE s₁.heap H):=fun b o e=>base_of (KX b o e) (by
   cases q:H b with
   | none=>rfl
   | some u =>
    have e':b=a:=hA b (by rw [q]; simp);subst e';rw [hK (by rw [q]; simp)] at e; cases e)
  have hM:Mod K mg (ZeE s₁.heap H):=⟨hKb,nsK hns,⟨mb,nsK hb,hbb⟩,let ⟨mc,h1,h2⟩:=hlim; ⟨mc,nsK h1,h2⟩⟩;have e0:Zk4 P w K mg (ZeE s₁.heap H) callerA [] s₁ H:=⟨rfl,hM,fun b o e=>Zkv e,Nat.le_of_eq (Zij _ _),trivial,fun b hb=>absurd (show b∈([]:List Addr) from hb) (by simp),hok,.of_eq hg⟩;refine codeAny_mono ((F _ hKb (nsK hns)).run callerA [] s₁ H ⟨[.ref a],[]⟩ [.ref a] [.ref a] _ _ hr e0 (hbind s₁ (.ref a)) (.cons rfl .nil) (hsp H hO hS)) fun r s' h=>?_
  cases r with
  | error e=>exact (hCX H e s' h).elim
  | ok fl =>
   cases fl with
   | next=>exact False.elim h
   | brk=>exact False.elim h
   | cont=>exact False.elim h
   | ret u =>
    obtain ⟨v,H',os,bare,un,hok',r',q⟩:=h;have q':v = .bl true:=q;subst q';obtain rfl:u=Value.bool true:=r';refine ⟨rfl,OldK.of_keep fun b o e=>?_,os,bare⟩
    cases q:H b with
    | none=>exact un.keep b o e q (by intro z; exact absurd (show b∈([]:List Addr) from z) (by simp)) (by simp)
    | some u =>
     rcases hO b with z | ⟨ob,xs,z⟩
     ·rw [q] at z; cases z
     ·have z2:=un.frzs b ob _ z;obtain ⟨e1,_⟩:=hok b _ z;obtain ⟨e2,_⟩:=hok' b _ z2;rw [e] at e1; cases e1;exact e2
 cases hk:K.lookup a with
 | some o =>
  have e:=KX a o hk;rw [ha] at e
  cases e;refine core (fun _=>none) (fun _=>.inl rfl) (.inr ⟨_,vs.toArray,_,hk,rfl,rfl,rfl,by rw [QAg,lenV]; exact hl,by simpa using rv⟩) (fun b u z=>by have z':(none:Option HO)=some u:=z; cases z') (fun b z=>absurd rfl z) fun z=>absurd rfl z
 | none =>
  refine core (fun b=>if b=a then some (.frz { cls:=.type "list",data:=.seq vs.toArray } (.lst (ns.map V.int))) else none) (fun b=>?_) (.inl (.inr ⟨{ cls:=.type "list",data:=.seq vs.toArray },if_pos rfl⟩)) (fun b u z=>?_) (fun b z=>?_) fun _=>hk
  ·by_cases hb:b=a
   ·exact .inr ⟨_,_,if_pos hb⟩
   ·exact .inl (if_neg hb)
  ·by_cases hb:b=a
   ·have z':=(if_pos hb).symm.trans z
    cases z';subst hb;exact ⟨ha,by rw [QAa]; exact hl,vs,_,rv,ha⟩
   ·have z':=(if_neg hb).symm.trans z
    cases z'
  ·by_cases hb:b=a
   ·exact hb
   ·exact absurd (if_neg hb) z
end L2
namespace L2
open PySem PySem.Spec PyProof.Rows
theorem walk_of {l:PySem.W.OpenLaw} {n k:Nat} {q:Program} {loose:List Str} {XP:(Str->Option Value)->Heap->Prop} {YP:World->Heap->Prop} {d:DefRec} {K:Params->QZa} {CX:World->CXT} {sp:World->Sp} {x:Str}
  (hn:l.most=some n) (hn2:n<=sizeLine) (hdf:d.params.defaults=[]) (hr:Room k callerA)
  (hY:∀ (w:World) (h:Heap),YP w h->(K w.params).In h)
  (F:∀ (w:World) (mg:Str->Option Value) (fa:Addr) (h:Heap),(K w.params).In h->h.Ns mainGlobals mg->mg d.name=some (.ref fa) ->
   ∃ fd:FuncData,(∀ (s:Shared) (u:Value),BindsTo s fd ⟨[u],[]⟩ [(x,u)]) /\
    ∀ base:Heap,(K w.params).In base->base.Ns mainGlobals mg->FnOk l.prog w (K w.params) mg base (CX w) k fa fd [x] (sp w))
  (hsp:∀ (w:World) (H:Hp) (a:Addr) (ns:List Int),ns.length<=n->Zmc H->SqL (K w.params) H a (ns.map V.int)->sp w [.ref a] H (fun v _=>v = .bl true) fun _ _ _=>False)
  (hCX:∀ (w:World) (H:Hp) (s:Shared) (e:Value) (s':Shared),CX w [] H s (fun _ _ _=>False) e s'->False) :
  PySem.W.WalkO q loose XP YP l.row.toRowW d [] (fun f vs=>PySem.call f vs):=by
 refine Att.attach_call hn hdf fun w s₀ s₁ mg mb fa o pm cd doc a vs ns G Y ho hd hcd hmg hobj hints hlen hg=>?_;have KX:=hY w _ Y;obtain ⟨fd,hb,hF⟩:=F w mg fa _ KX G.T.g hmg;exact Zjq KX G.T.g G.T.b G.T.builtins G.T.nolimit hg hobj hints (QAs hlen hn2) hr hF hb (fun H hO hS=>hsp w H a ns hlen hO hS) fun H e s'=>hCX w H s₁ e s'
end L2
namespace L2
open PySem PySem.Spec PyProof.Rows
noncomputable def Zo (s:Stmt):Arguments:=match s with
 | .FunctionDef _ a _ _ _ _ _ _ _ _=>a
 | _=>{ posonlyargs:=[],args:=[],vararg:=none,kwonlyargs:=[],kw_defaults:=[],kwarg:=none,defaults:=[] }
noncomputable def Zn (s:Stmt):List Stmt:=match s with
 | .FunctionDef _ _ b _ _ _ _ _ _ _=>b
 | _=>[]
noncomputable def Zd (s:Stmt):Scope:=match s with
 | .FunctionDef _ _ _ _ _ _ sc _ _ _=>sc
 | _=>{ kind:=.function,names:=[],isGenerator:=false,isCoroutine:=false }
noncomputable abbrev CX0:CXT:=fun _ _ _ _ _ _=>False
noncomputable abbrev E0:XK:=fun _ _ _=>False
theorem ZF {X:Cx}:ZgZ CX0 X E0:=fun _ _ _ _ _ _ _ h=>h.elim
structure Fun (K:QZa) (x qual:Str) (st:Stmt) (f:Addr) (fd:FuncData):Prop where
 ex:∃ (oc:Value) (od:Option Addr) (kV doc pm:Value) (an:Option Addr) (cdv ct:Value) (osl:Array (Option Value)),
  fd=PySem.W.fnOf x qual (Zo st) (Zn st) (Zd st) .none kV doc pm an cdv ct/\K.lookup f=some ⟨oc,od,.func fd,osl⟩/\PySem.W.codeIn K cdv qual=true
 kp:PySem.W.keepIn K (.ref f)=true
section
variable {P:Program} {w:World} {K:QZa} {mg:Str->Option Value} {base:Heap}
theorem Fun.ok {x qual:Str} {st:Stmt} {f:Addr} {fd:FuncData} {N ps:List Str} {k:Nat} {sp:Sp} (F:Fun K x qual st f fd) (S:Zs N ps (Zd st)) (len:∀ vs H Q E,sp vs H Q E->vs.length=ps.length)
  (hbody:∀ (cdv:Value) (A:Around) (outer:List Env) (s:Shared) (H:Hp) (vs:List V) (Q:VK) (E:XK),Room k (A.deeper (envOfC qual (Zd st) s.heap.objs.size f cdv))->sp vs H Q E ->
   ∃ t,PSs (Zik CX0 P w K mg base N qual (Zd st) f cdv A outer s H E).nox (Zn st) t/\t { nx:=fun _ H'=>Q .non H',rt:=Q } (start N vs) H):FnOk P w K mg base CX0 (k+1) f fd ps sp:=by
 obtain ⟨oc,od,kV,doc,pm,an,cdv,ct,osl,rfl,lk,hcd⟩:=F.ex;refine ZmP lk hcd S len fun A outer s H vs Q E hr hsp=>?_;obtain ⟨t,h,q⟩:=hbody cdv A outer s H vs Q E hr hsp;exact ⟨t,h.nox,q⟩
theorem Fun.binds {x qual:Str} {st:Stmt} {f:Addr} {fd:FuncData} {ps:List Str} (F:Fun K x qual st f fd)
  (h:∀ (kV doc pm:Value) (an:Option Addr) (cdv ct:Value) (us:List Value),us.length=ps.length->bindArgs (PySem.W.fnOf x qual (Zo st) (Zn st) (Zd st) .none kV doc pm an cdv ct) ⟨us,[]⟩=pure (ps.zip us)):Binds K fd ps []:=by
 obtain ⟨oc,od,kV,doc,pm,an,cdv,ct,osl,rfl,lk,hcd⟩:=F.ex;exact .all (h kV doc pm an cdv ct)
theorem ZH {x qual:Str} {st:Stmt} {f:Addr} {oc:Value} {od an:Option Addr} {osl:Array (Option Value)} {kV doc pm cdv ct:Value} (l:K.lookup f=some ⟨oc,od,.func (PySem.W.fnOf x qual (Zo st) (Zn st) (Zd st) .none kV doc pm an cdv ct),osl⟩)
  (c:PySem.W.codeIn K cdv qual=true) (k:PySem.W.keepIn K (.ref f)=true):Fun K x qual st f (PySem.W.fnOf x qual (Zo st) (Zn st) (Zd st) .none kV doc pm an cdv ct):=⟨⟨oc,od,kV,doc,pm,an,cdv,ct,osl,rfl,l,c⟩,k⟩
end
theorem Zw {n:Nat} (h:n<=1000):n<sizeLine:=QEd h (by decide)
section
variable {X:Cx}
theorem pv (i:Nat) {x:Str} {pos:Pos} (hN:X.N[i]? = some x:=by rfl) (hv:Vis X.env.scope x:=by first | exact Or.inl rfl | exact Or.inr (Or.inl rfl) | exact Or.inr (Or.inr rfl)) (hd:(x==("__debug__" : Str))=false:=by decide)
  (hcd:(x==("__classdict__" : Str))=false:=by decide):PE X (.Name x pos) (Zmg i):=ZlE hN hv hd hcd
end
theorem YZ {A B:Prop} (h:B):if false=true then A else B:=by
 rw [if_neg QAl];exact h
theorem ZbR {A B:Prop} (h:A):if true=true then A else B:=by
 rw [if_pos rfl];exact h
theorem ZaA {c A B:Prop} [Decidable c] (h1:c->A) (h2:¬ c->B):if c then A else B:=by
 by_cases h:c
 ·rw [if_pos h];exact h1 h
 ·rw [if_neg h];exact h2 h
noncomputable def Same (H H':Hp):Prop:=∀ b o,H b=some o->H' b=some o
theorem Same.refl (H:Hp):Same H H:=fun _ _ h=>h
theorem Same.trans {H H1 H2:Hp} (a:Same H H1) (b:Same H1 H2):Same H H2:=fun c o h=>b c o (a c o h)
theorem Same.free {H H':Hp} (e:Same H H') {l:Addr} (h:H' l=Option.none):H l=Option.none:=by
 cases q:H l with
 | none=>rfl
 | some o =>
  rw [e l o q] at h
  cases h
theorem Same.seq {K:QZa} {H H':Hp} {a:Addr} {xs:List V} (e:Same H H') (h:SqL K H a xs):SqL K H' a xs:=by
 rcases h with (h | ⟨o,h⟩) | h
 ·exact .inl (.inl (e _ _ h))
 ·exact .inl (.inr ⟨o,e _ _ h⟩)
 ·exact .inr h
end L2
namespace L2
open PySem PySem.Spec PyProof.Rows
theorem Zbr {α β:Type} {f:α->β->Sem (ForInStep β)} {g:α->β->β}:∀ (l:List α) (b:β),(∀ x∈l,∀ c,f x c=pure (.yield (g x c)))->forIn l b f=pure (l.foldl (fun c x=>g x c) b)
 | [],b,_=>rfl
 | x::l,b,h=>by
  rw [List.forIn_cons,h x QAj,pure_bind];exact Zbr l _ fun y hy=>h y (QAm _ hy)
noncomputable def Y3 (cells:List (Str × Addr)) (x:Str × NameKind) (cs:List (Str × Addr)):List (Str × Addr) :=
 if (x.2==NameKind.free)=true then (x.1,(cells.lookup x.1).getD 0)::cs else cs
noncomputable def ZN (cells:List (Str × Addr)) (names:List (Str × NameKind)) (cs:List (Str × Addr)):List (Str × Addr):=names.foldl (fun cs x=>Y3 cells x cs) cs
theorem J0 {scope:Scope} {env:Env} (h:∀ y∈scope.names,y.2 = .free->∃ c,env.cells.lookup y.1=some c):closureFor scope env=pure (ZN env.cells scope.names []):=by
 simp only [closureFor];rw [Zbr (g:=fun x cs=>Y3 env.cells x cs) scope.names [] (fun x hx c=>by
  obtain ⟨n,kind⟩:=x
  cases hk:(kind==NameKind.free) with
  | false=>simp only [hk,Y3,QDd,if_false]
  | true =>
   obtain ⟨a,ha⟩:=h (n,kind) hx (by simpa using hk);have hc:cellOf env n=pure a:=by
    unfold cellOf;have ha':env.cells.lookup n=some a:=ha;rw [ha']
   have ha':env.cells.lookup n=some a:=ha
   simp only [hk,Y3,if_true,hc,pure_bind,ha',Option.getD_some])]
 rfl
theorem Za8 {cells:List (Str × Addr)}:∀ (names:List (Str × NameKind)) (cs:List (Str × Addr)),(∀ y∈names,y.2 = .free->∃ c,cells.lookup y.1=some c) ->
  (∀ x c,cs.lookup x=some c->cells.lookup x=some c)->∀ x c,(ZN cells names cs).lookup x=some c->cells.lookup x=some c
 | [],cs,_,h=>h
 | (n,k)::r,cs,hf,h=>by
  refine Za8 r (Y3 cells (n,k) cs) (fun y hy=>hf y (QAm _ hy)) fun x c e=>?_;unfold Y3 at e
  split at e
  ·rename_i hk
   obtain ⟨a,ha⟩:=hf (n,k) QAj (by simpa using hk);have ha':cells.lookup n=some a:=ha;rw [QBl] at e
   cases hx:(x==n) with
   | true =>
    simp only [hx,ha',Option.getD_some] at e;have:x=n:=by simpa using hx
    rw [this,ha',e]
   | false =>
    simp only [hx] at e;exact h x c e
  ·exact h x c e
theorem JN {cells:List (Str × Addr)}:∀ (names:List (Str × NameKind)) (cs:List (Str × Addr)) (x:Str),((∃ c,cs.lookup x=some c)\/(x,NameKind.free)∈names)->∃ c,(ZN cells names cs).lookup x=some c
 | [],cs,x,h=>by
  rcases h with h | h
  ·exact h
  ·cases h
 | (n,k)::r,cs,x,h=>by
  refine JN r (Y3 cells (n,k) cs) x ?_
  rcases h with ⟨c,h⟩ | h
  ·left
   unfold Y3
   split
   ·rw [QBl]
    cases hx:(x==n) with
    | true=>exact ⟨_,rfl⟩
    | false=>exact ⟨c,h⟩
   ·exact ⟨c,h⟩
  ·rcases QZn.mp h with e | h
   ·left
    cases e;unfold Y3;rw [if_pos (show ((n,NameKind.free).2==NameKind.free)=true from rfl),QBl]
    simp
   ·exact .inr h
noncomputable def PTs (X:Cx) (ifs:List Expr) (t:TT):Prop :=
 ∀ (pins:List (Addr × Obj)) (s:Shared) (σ:St) (H:Hp) (Q:Bool->Hp->Prop),Inv X pins σ H s->t σ H Q ->
  wpAny (model X.prog X.w) X.A (forIn ifs true fun c r=>if r=true then do let ok <- isTrue c X.env (eval c X.env); pure (ForInStep.yield ok) else pure (ForInStep.yield r)) (TP X pins σ Q) X.xe s
noncomputable def ZmZ:TT:=fun _ H Q=>Q true H
theorem ZB {X:Cx}:PTs X [] ZmZ:=fun pins s σ H Q I h=>wpAny_tests_nil ⟨H,I,h⟩
theorem Zbg {X:Cx} {c:Expr} {t:TT} (h:PT X c t):PTs X [c] t:=fun pins s σ H Q I q=>wpAny_tests_one (h pins s σ H Q I q)
noncomputable def Yn (X:Cx) (Nc:List Str) (scope:Scope) (cl:List (Str × Addr)) (C:Addr) (s₁:Shared) (H₁:Hp) (fp:List Addr):Cx where
 prog:=X.prog
 w:=X.w
 K:=X.K
 mg:=X.mg
 base:=X.base
 A:=X.A
 N:=Nc
 s₀:=s₁
 H₀:=H₁
 env:=compEnvC scope cl C X.env
 outer:=X.stack
 stack:=X.stack
 ex:=fp
 fn:=fun _=>false
 calm:=X.calm
 pn:=[]
 xe:=fun _ _=>False
noncomputable def capt (fm:List (Option Nat)) (σ:St):St:=fm.map fun o=>match o with
 | none=>none
 | some j=>(σ[j]?).join
structure Zmf (X:Cx) (Nc:List Str) (scope:Scope) (fm:List (Option Nat)):Prop where
 kind:scope.kind = .function
 nocell:∀ y∈scope.names,y.2 ≠ .cell
 names:∀ y∈scope.names,y.2 = .local->scope.names.lookup y.1=some .local
 free:∀ y∈scope.names,y.2 = .free->X.env.kindOf y.1=some .cell\/X.env.kindOf y.1=some .free
 len:fm.length=Nc.length
 at_:∀ (p:Option Nat × Str),p∈fm.zip Nc->∀ j,p.1=some j->X.N[j]? = some p.2/\(p.2,NameKind.free)∈scope.names/\scope.names.lookup p.2=some .free
noncomputable def captOk (N:List Str) (sc:Scope) (Nc:List Str) (scope:Scope) (fm:List (Option Nat)):Bool :=
 decide (scope.kind = .function)&&scope.names.all (fun y=>decide (y.2 ≠ .cell)&&(decide (y.2 ≠ .local)||decide (scope.names.lookup y.1=some .local)) &&
  (decide (y.2 ≠ .free)||(decide (sc.names.lookup y.1=some .cell)||decide (sc.names.lookup y.1=some .free))))&&decide (fm.length=Nc.length) &&
  (fm.zip Nc).all (fun p=>match p.1 with
   | none=>true
   | some j=>decide (N[j]? = some p.2)&&decide ((p.2,NameKind.free)∈scope.names)&&decide (scope.names.lookup p.2=some .free))
theorem captOk.capt {X:Cx} {Nc:List Str} {scope:Scope} {fm:List (Option Nat)} (h:captOk X.N X.env.scope Nc scope fm=true):Zmf X Nc scope fm:=by
 unfold captOk at h;rw [QAv,QAv,QAv] at h;obtain ⟨⟨⟨h1,h2⟩,h3⟩,h4⟩:=h;rw [QBg] at h2 h4;have g:∀ y∈scope.names,(y.2 ≠ .cell/\(y.2 ≠ .local\/scope.names.lookup y.1=some .local))/\(y.2 ≠ .free\/(X.env.scope.names.lookup y.1=some .cell\/X.env.scope.names.lookup y.1=some .free)):=fun y hy=>by
  have:=h2 y hy
  simpa only [QAv,QCp,QZg] using this
 refine ⟨QZj h1,fun y hy=>(g y hy).1.1,fun y hy e=>?_,fun y hy e=>?_,QZj h3,fun p hp j e=>?_⟩
 ·rcases (g y hy).1.2 with z | z
  ·exact absurd e z
  ·exact z
 ·rcases (g y hy).2 with z | z
  ·exact absurd e z
  ·exact z
 ·have:=h4 p hp;obtain ⟨a,b⟩:=p
  cases e
  simp only [QAv,QZg] at this;exact ⟨this.1.1,this.1.2,this.2⟩
theorem YG {env:Env}:∀ {names:List (Str × NameKind)} {x:Str}, names.lookup x=some .free ->
    ((names.map fun (n, k) => if (k==NameKind.free&&env.scope.kind == .function&&env.kindOf n==some .cell) then (n, NameKind.cell) else (n, k)).lookup x=some .cell \/
     (names.map fun (n, k) => if (k==NameKind.free&&env.scope.kind == .function&&env.kindOf n==some .cell) then (n, NameKind.cell) else (n, k)).lookup x=some .free)
  | [], _, h => by simp at h
  | (n, k)::r, x, h => by
    have ih := @YG env r x;rw [QAp]
    cases hx:x==n with
    | true =>
      simp only [QBl, hx] at h
      cases h
      dsimp only
      split
      · left
        simp only [QBl, hx]
      · right
        simp only [QBl, hx]
    | false =>
      simp only [QBl, hx] at h
      dsimp only
      split
      · simp only [QBl, hx]
        exact ih h
      · simp only [QBl, hx]
        exact ih h
theorem Zao {env:Env}:∀ {names:List (Str × NameKind)} {x:Str}, (∀ y∈names, y.2 ≠ .cell) ->
    ((names.map fun (n, k) => if (k==NameKind.free&&env.scope.kind == .function&&env.kindOf n==some .cell) then (n, NameKind.cell) else (n, k)).lookup x=some .cell \/
     (names.map fun (n, k) => if (k==NameKind.free&&env.scope.kind == .function&&env.kindOf n==some .cell) then (n, NameKind.cell) else (n, k)).lookup x=some .free)->(x, NameKind.free)∈names
  | [], _, _, h => by simp at h
  | (n, k)::r, x, hc, h => by
    have ih := @Zao env r x (fun y hy => hc y (QAm _ hy));rw [QAp] at h
    cases hx:x==n with
    | true =>
      have hxn:x=n := by simpa using hx
      dsimp only at h
      split at h
      · rename_i hk
        rw [QAv, QAv] at hk;have:k = .free := by simpa using hk.1.1
        rw [hxn, this];exact QAj
      · simp only [QBl, hx] at h
        rcases h with h | h
        · cases h
          exact absurd rfl (hc (n, .cell) QAj)
        · cases h
          rw [hxn];exact QAj
    | false =>
      dsimp only at h
      split at h
      · simp only [QBl, hx] at h
        exact QAm _ (ih h)
      · simp only [QBl, hx] at h
        exact QAm _ (ih h)
noncomputable def Zix (fm:List (Option Nat)) (wi:TI) (g:TG) (tt:TT) (te:TE):TE := fun σ H Q => wi σ H fun J H1 => ∀ l, H1 l=none ->
  ∃ W:Nat->Nat->List V->St->Hp->Prop, (∃ m, W 0 m [] (capt fm σ) (upd H1 l (.lst []))) /\
    ∀ i m ys σ' H', W i m ys σ' H'->H' l=some (.lst ys) /\
      ((J.stop i H'/\Q (.ref l) H') \/
       (J.go i H'/\∃ N:List V->St->Hp->Prop, (∀ zs σ2 H2, N zs σ2 H2->∃ m', m'<m/\W (i+1) m' zs σ2 H2)/\∀ x H2, J.yld i H' x H2->g x σ' H2 fun σ3 H3 => tt σ3 H3 fun b H4 =>
          if b=true then te σ3 H4 fun y H5 => H5 l=some (.lst ys)/\ys.length<sizeLine/\N (ys++[y]) σ3 (upd H5 l (.lst (ys++[y])))
          else N ys σ3 H4))
section
variable {prog:Program} {w:World} {A:Around} {R:Result->Shared->Prop} {s:Shared}
noncomputable abbrev NoX:Value->Shared->Prop:=fun _ _=>False
theorem Zc0 {elt target iter:Expr} {ifs:List Expr} {scope:Scope} {pos:Pos} {it acc:Value} {env:Env} (I:Nat->Shared->Prop)
  (turn:∀ n s,I n s->wpAny (model prog w) A (pyNext it) (fun r s₁=>match r with
   | none=>R (.ok .next) s₁
   | some v=>wpAny (model prog w) A (letOwnedTupleGo target it v) (fun _ s₁'=>wpAny (model prog w) A (assign target env v) (fun _ s₂ =>
     wpAny (model prog w) A (forIn ifs true fun c r=>if r=true then do let ok <- isTrue c env (eval c env); pure (ForInStep.yield ok) else pure (ForInStep.yield r)) (fun ok s₃ =>
      if ok=true then wpAny (model prog w) A (eval elt env) (fun x s₄ =>
       wpAny (model prog w) A (call (.builtin "list.append") [acc,x]) (fun _ s₅=>∃ m,m<n/\I m s₅) NoX s₄) NoX s₃
      else ∃ m,m<n/\I m s₃) NoX s₂) NoX s₁') NoX s₁) NoX s)
  (n:Nat) (h:I n s) :
  codeAny (model prog w) A (.compLoop (.ListComp elt [⟨target,iter,ifs,0⟩] scope pos) 0 it acc env) R s:=by
 refine codeAny_loop rfl I (fun n s hI=>?_) n h;show wpAny _ A ((compTurn (.ListComp elt [⟨target,iter,ifs,0⟩] scope pos) 0 it acc env).onRaise (fun x=>do noteFrame x env; theTreesLotGoes x)) _ _ s;refine wpAny_noted ?_;rw [compTurn_list];refine QZq (wpAny_standAt (QZq (wpAny_mono (turn n s hI) (fun r s₁ h₁=>?_) fun _ _ f=>f.elim)))
 cases r with
 | none=>exact QZr h₁
 | some v =>
  refine QZq (wpAny_mono h₁ (fun _ s₁' h₁'=>?_) fun _ _ f=>f.elim);refine QZq (wpAny_mono h₁' (fun _ s₂ h₂=>QZq (wpAny_mono h₂ (fun ok s₃ h₃=>?_) fun _ _ f=>f.elim)) fun _ _ f=>f.elim)
  cases ok with
  | false=>exact QZr ⟨rfl,h₃⟩
  | true =>
   exact QZq (QZq (wpAny_mono h₃ (fun x s₄ h₄=>QZq (wpAny_mono h₄ (fun _ s₅ h₅=>QZr (QZr ⟨rfl,h₅⟩)) fun _ _ f=>f.elim)) fun _ _ f=>f.elim))
end
section
variable {X:Cx} {pins:List (Addr × Obj)} {σ:St} {H₁:Hp} {s₁:Shared}
theorem ZjM {Nc:List Str} {scope:Scope} {fm:List (Option Nat)} {fp:List Addr} {h₁:Heap} {tk:Nat} {m:Str->Option Value} (c:Zmf X Nc scope fm) (I:Inv X pins σ H₁ s₁) (hf:∀ b∈fp,ZaC X pins H₁ b) (hfp:∀ b∈fp,b<s₁.heap.objs.size)
  (old:∀ b o,s₁.heap.get? b=some o->h₁.get? b=some o) (hD:h₁.get? s₁.heap.objs.size=some { cls:=.type "list",data:=.seq ([]:List Value).toArray }) (hns:h₁.Ns (s₁.heap.objs.size+1) m) :
  Inv (Yn X Nc scope (ZN X.env.cells scope.names []) (s₁.heap.objs.size+1) s₁ H₁ fp) [] (capt fm σ) (upd H₁ s₁.heap.objs.size (.lst [])) { s₁ with heap:=h₁,toks:=tk }:=by
 have hfree:∀ y∈scope.names,y.2 = .free->∃ a,X.env.cells.lookup y.1=some a:=fun y hy e=>I.ok.has y.1 (c.free y hy e)
 have sub:∀ x a,(ZN X.env.cells scope.names []).lookup x=some a->X.env.cells.lookup x=some a:=Za8 _ _ hfree (fun x a e=>by simp at e);have lt:∀ x a,X.env.cells.lookup x=some a->a<s₁.heap.objs.size:=fun x a e=>(I.cell x a e).elim fun v q=>q.lt
 have hDn:H₁ s₁.heap.objs.size=none:=I.hok.fresh (QAd _);have hCn:H₁ (s₁.heap.objs.size+1)=none:=I.hok.fresh (QCk _);refine ⟨⟨I.ok.mod,c.kind,I.ok.glob,I.ok.blt,QCk _,fun x y a e1 e2=>I.ok.inj x y a (sub x a e1) (sub y a e2),fun x hx=>?_,fun x a z=>absurd z (by intro q; cases q),I.ok.hd,I.ok.frames,.inl rfl,fun b hb=>?_,I.bs,QAs I.ok.bsz I.sz,fun b o e hb=>?_,fun b hb hfs=>?_,I.stack,I.stkFree⟩,
  rfl,I.bare,Un.laid old (QAd _) hDn,⟨m,hns,fun i x v e1 e2 e3=>?_⟩,fun x a e=>?_,?_,fun x a e=>?_,fun p hp=>absurd (show p∈([]:List (Addr × Obj)) from hp) (by simp),?_,?_⟩
 ·exact JN _ _ x (.inr (Zao (env:=X.env) c.nocell hx))
 ·exact ⟨QAz (QCz (hfp b hb)),fun x a e=>(hf b hb).2.2.2.2.1 x a (sub x a e)⟩
 ·rcases (hf b hb).2.2.2.1 with z | z
  ·exact I.ok.noex b o e z
  ·exact absurd (QBb (QAi e) (QAs I.ok.bsz z)) (QCe _)
 ·rcases QZn.mp (I.stkSub b hfs) with z | z
  ·exact (hf b hb).2.1 z
  ·exact (hf b hb).2.2.1 z
 ·-- the names taken over
  have hz:∃ j,fm[i]? = some (some j)/\σ[j]? = some (some v):=by
   unfold capt at e2;rw [QAe] at e2
   cases q:fm[i]? with
   | none=>rw [q] at e2; cases e2
   | some o =>
    rw [q] at e2
    cases o with
    | none=>cases e2
    | some j =>
     refine ⟨j,rfl,?_⟩;have e2':(σ[j]?).join=some v:=QZl e2
     cases q2:σ[j]? with
     | none=>rw [q2] at e2'; cases e2'
     | some u=>rw [q2] at e2'; cases u with
      | none=>cases e2'
      | some u=>cases e2'; rfl
  obtain ⟨j,hfm,hσ⟩:=hz;have hp:((some j:Option Nat),x)∈fm.zip Nc:=by
   have:(fm.zip Nc)[i]? = some (some j,x):=by rw [List.getElem?_zip_eq_some]; exact ⟨hfm,e1⟩
   exact QAt this
  obtain ⟨hN,hmem,hlk⟩:=c.at_ _ hp j rfl;have hk:=c.free _ hmem rfl;obtain ⟨m0,hn0,hl0⟩:=I.loc;have hvis:Vis X.env.scope x:=hk.elim (fun z=>.inr (.inl z)) (fun z=>.inr (.inr z));obtain ⟨u,ru,lk⟩:=hl0 j x v hN hσ hvis;refine ⟨u,ru,.inr ⟨YG (env:=X.env) hlk,?_⟩⟩
  rcases lk with ⟨z,_⟩ | ⟨_,a,ea,o,ho,hd⟩
  ·rcases hk with q | q
   ·rw [show X.env.kindOf x=_ from q] at z; cases z
   ·rw [show X.env.kindOf x=_ from q] at z; cases z
  ·obtain ⟨a',ea'⟩:=JN (cells:=X.env.cells) scope.names [] x (.inr hmem);have:=sub x a' ea';rw [ea] at this
   cases this;exact ⟨a,ea',o,old a o ho,hd⟩
 ·obtain ⟨v,o,ho,hd⟩:=I.cell x a (sub x a e);exact ⟨v,o,old a o ho,hd⟩
 ·show upd H₁ s₁.heap.objs.size (.lst []) (s₁.heap.objs.size+1)=none;rw [Zg (Nat.succ_ne_self _)];exact hCn
 ·show upd H₁ s₁.heap.objs.size (.lst []) a=none;rw [Zg (QAz (lt x a (sub x a e)))];exact I.freeC x a (sub x a e)
 ·exact I.hok.laid old (QAd _) ⟨QAh _,[],0,.nil,hD⟩
 ·show (capt fm σ).length=Nc.length;unfold capt;rw [QAa];exact c.len
theorem ZdR {Nc:List Str} {scope:Scope} {cl:List (Str × Addr)} {C:Addr} {fp:List Addr} {σ':St} {H':Hp} {s':Shared} (I:Inv X pins σ H₁ s₁) (hf:∀ b∈fp,ZaC X pins H₁ b) (J:Inv (Yn X Nc scope cl C s₁ H₁ fp) [] σ' H' s') :
  Inv X pins σ H' s':=I.call' (ch:=fp) J.os J.base J.hok J.bare fun b hb=>⟨(hf b hb).2.2.2.1,(hf b hb).2.1,(hf b hb).2.2.2.2.1,(hf b hb).2.2.2.2.2⟩
theorem ZhH {Nc:List Str} {scope:Scope} {cl:List (Str × Addr)} {fp:List Addr} {σ':St} {H':Hp} {s':Shared} {σ2:St} {s2:Shared} {h'':Heap} (I:Inv X pins σ H₁ s₁) (J:Inv (Yn X Nc scope cl (s₁.heap.objs.size+1) s₁ H₁ fp) [] σ' H' s')
  (I2:Inv X pins σ2 H' s2) (sb:Heap.SameBut (s₁.heap.objs.size+1) s2.heap h''):Inv X pins σ2 H' { s2 with heap:=h'' }:=by
 have hle:s₁.heap.objs.size<=s₁.heap.objs.size+1:=QCk _;refine I2.turned (t':=s2.toks) (it:=s₁.heap.objs.size+1) (fun b o hb e=>(sb.2 b hb).trans e) J.free (Nat.ne_of_gt (QBb I.lt hle)) (.inr (QAs I.sz hle)) (fun x c e z=>?_) (fun p hp z=>?_)
 ·obtain ⟨v,q⟩:=I.cell x c e;exact absurd (QBb q.lt (by rw [z]; exact hle)) (QCe _)
 ·exact absurd (QBb (QAi (I.pin p hp).1) (by rw [z]; exact hle)) (QCe _)
theorem ZcZ {elt tg iter:Expr} {ifs:List Expr} {scope:Scope} {pos:Pos} {Nc:List Str} {fm:List (Option Nat)} {g:TG} {tt:TT} {te:TE} {it:Addr} {fp:List Addr} {tn:Nat->Heap->Prop} {J:It} {Q:VK} {E:Value->Shared->Prop} {RR:Value->Addr->Result->Shared->Prop}
    (hc:X.calm=true) (c:Zmf X Nc scope fm) (I:Inv X pins σ H₁ s₁) (T:Turn X.prog X.w X.K tg J fp it tn) (st:tn 0 s₁.heap) (hf:∀ b∈fp, ZaC X pins H₁ b)
    (hg:∀ cl C s₁ H₁ fp, PG (Yn X Nc scope cl C s₁ H₁ fp) tg g) (ht:∀ cl C s₁ H₁ fp, PTs (Yn X Nc scope cl C s₁ H₁ fp) ifs tt) (he:∀ cl C s₁ H₁ fp, PE (Yn X Nc scope cl C s₁ H₁ fp) elt te)
    (h:∀ l, H₁ l=none->∃ W:Nat->Nat->List V->St->Hp->Prop, (∃ m, W 0 m [] (capt fm σ) (upd H₁ l (.lst []))) /\
      ∀ i m ys σ' H', W i m ys σ' H'->H' l=some (.lst ys) /\
        ((J.stop i H'/\Q (.ref l) H') \/
         (J.go i H'/\∃ N:List V->St->Hp->Prop, (∀ zs σ2 H2, N zs σ2 H2->∃ m', m'<m/\W (i+1) m' zs σ2 H2)/\∀ x H2, J.yld i H' x H2->g x σ' H2 fun σ3 H3 => tt σ3 H3 fun b H4 =>
            if b=true then te σ3 H4 fun y H5 => H5 l=some (.lst ys)/\ys.length<sizeLine/\N (ys++[y]) σ3 (upd H5 l (.lst (ys++[y])))
            else N ys σ3 H4)))
    (fin:∀ σ' H' s', Inv (Yn X Nc scope (ZN X.env.cells scope.names []) (s₁.heap.objs.size+1) s₁ H₁ fp) [] σ' H' s'->Q (.ref s₁.heap.objs.size) H'->RR (.ref s₁.heap.objs.size) (s₁.heap.objs.size+1) (.ok .next) s') :
    wpAny (model X.prog X.w) X.A (newList []) (fun acc s₃ => wpAny (model X.prog X.w) X.A (newFunctionEnv scope X.env.globals (ZN X.env.cells scope.names []) [] X.env.qual none .none (some X.env)) (fun cenv s₄ =>
      codeAny (model X.prog X.w) X.A (.compStart (.ListComp elt [⟨tg, iter, ifs, 0⟩] scope pos) 0 (.ref it) acc { cenv with scope := relabel scope X.env }) (RR acc cenv.locals) s₄) E s₃) E s₁ := by
  have hfp:∀ b∈fp, b<s₁.heap.objs.size := fun b hb => by
    obtain ⟨o, ho, _⟩ := T.obj 0 _ st b hb;exact QAi ho
  refine wpAny_newObj_type (wpAny_newFunctionEnv c.nocell (by intro y hy; simp at hy) (fun h₁ hns₁ hsb₁ => ?_) c.kind)
  dsimp only at hns₁ hsb₁ ⊢;generalize hH2:s₁.heap.push { cls := .type "list", dict := none, data := .seq ([]:List Value).toArray }=H2 at hns₁ hsb₁ ⊢;have hC:H2.objs.size=s₁.heap.objs.size+1 := by rw [<- hH2, QCl]
  rw [hC] at hns₁ hsb₁;show codeAny _ _ (.compStart _ 0 _ _ (compEnvC scope (ZN X.env.cells scope.names []) H2.objs.size X.env)) (RR _ H2.objs.size) _;rw [hC];have old:∀ b o, s₁.heap.get? b=some o->h₁.get? b=some o := fun b o e => hsb₁.extBut b o (QAz (QCz (QAi e))) (QAk _ (hH2 ▸ QAk _ e))
  have hD:h₁.get? s₁.heap.objs.size=some { cls := .type "list", data := .seq ([]:List Value).toArray } := hsb₁.extBut _ _ (QAz (Nat.lt_succ_self _)) (QAk _ (hH2 ▸ QAy _ rfl));have st1:tn 0 h₁ := T.keep _ _ _ st fun b _ o e => old b o e
  have hDn:H₁ s₁.heap.objs.size=none := I.hok.fresh (QAd _);obtain ⟨W, ⟨m0, w0⟩, turn⟩ := h _ hDn;have loop:∀ tk:Nat, codeAny (model X.prog X.w) X.A (.compLoop (.ListComp elt [⟨tg, iter, ifs, 0⟩] scope pos) 0 (.ref it) (.ref s₁.heap.objs.size) (compEnvC scope (ZN X.env.cells scope.names []) (s₁.heap.objs.size+1) X.env))
      (RR (.ref s₁.heap.objs.size) (s₁.heap.objs.size+1)) { s₁ with heap := h₁, toks := tk } := by
    intro tk;have I0 := ZjM (tk := tk) c I hf hfp old hD hns₁;have stat:∀ {H':Hp}, (∀ b∈fp, H' b=none)->∀ b∈fp, ZaC (Yn X Nc scope (ZN X.env.cells scope.names []) (s₁.heap.objs.size+1) s₁ H₁ fp) [] H' b := fun hn b hb =>
      ⟨hn b hb, (I0.ok.exf b hb).1, I0.ok.exfs b hb, .inl hb, (I0.ok.exf b hb).2, fun p hp => absurd (show p∈([]:List (Addr × Obj)) from hp) (by simp)⟩
    refine Zc0 (fun n s' => ∃ i ys σ' H', Inv (Yn X Nc scope (ZN X.env.cells scope.names []) (s₁.heap.objs.size+1) s₁ H₁ fp) [] σ' H' s'/\tn i s'.heap/\(∀ b∈fp, H' b=none)/\W i n ys σ' H') ?_ m0
      ⟨0, [], _, _, I0, st1, fun b hb => by rw [Zg (QAz (hfp b hb))]; exact (hf b hb).1, w0⟩
    rintro n s3 ⟨i, ys, σ3, H3, I3, st3, fr3, w3⟩;obtain ⟨hl, alt⟩ := turn i n ys σ3 H3 w3
    rcases alt with ⟨stop, qn⟩ | ⟨go, N, hN, step⟩
    · refine thn (T.done (Yn X Nc scope (ZN X.env.cells scope.names []) (s₁.heap.objs.size+1) s₁ H₁ fp) rfl rfl rfl hc i [] s3 σ3 H3 NoX I3 (stat fr3) st3 stop) fun r s4 zz0 => ?_
      obtain ⟨hr, I4⟩ := zz0;subst hr;exact fin σ3 H3 s4 I4 qn
    · refine thn (T.item (Yn X Nc scope (ZN X.env.cells scope.names []) (s₁.heap.objs.size+1) s₁ H₁ fp) rfl rfl rfl hc i [] s3 σ3 H3 NoX I3 (stat fr3) st3 go) fun r s4 zz0 => ?_
      obtain ⟨u, hr, h4⟩ := zz0;subst hr;refine thn h4 fun _ s5 zz0 => ?_
      obtain ⟨x, H5, I5, r5, y5, st5, fr5⟩ := zz0;have I5' := I5.pinned (stat fr5) (T.obj _ _ st5);have again:∀ {σ7:St} {H7:Hp} {s7:Shared} {zs:List V} {m':Nat}, Inv (Yn X Nc scope (ZN X.env.cells scope.names []) (s₁.heap.objs.size+1) s₁ H₁ fp) ([]++ZbG fp s5.heap) σ7 H7 s7->m'<n->W (i+1) m' zs σ7 H7 ->
          ∃ m, m<n/\∃ i ys σ' H', Inv (Yn X Nc scope (ZN X.env.cells scope.names []) (s₁.heap.objs.size+1) s₁ H₁ fp) [] σ' H' s7/\tn i s7.heap/\(∀ b∈fp, H' b=none)/\W i m ys σ' H' := fun {σ7 H7 s7 zs m'} I7 hm w7 => by
        refine ⟨m', hm, i+1, zs, σ7, H7, I7.unpinned, T.keep _ _ _ st5 fun b hb o e => (I7.pin (b, o) (QBi _ (QBi _ (Jc hb e)))).1, fun b hb => ?_, w7⟩;obtain ⟨o, e, d⟩ := T.obj _ _ st5 b hb;exact (I7.pin (b, o) (QBi _ (QBi _ (Jc hb e)))).2.1
      refine thn (hg _ _ _ _ _ _ s5 σ3 H5 x u _ I5' r5 (step x H5 y5)) fun _ s6 zz0 => ?_
      obtain ⟨σ6, H6, I6, q6⟩ := zz0;refine thn (ht _ _ _ _ _ _ s6 σ6 H6 _ I6 q6) fun ok s7 zz0 => ?_
      obtain ⟨H7, I7, q7⟩ := zz0
      cases ok with
      | false =>
        rw [if_neg QAl] at q7 ⊢;obtain ⟨m', hm, w7⟩ := hN _ _ _ q7;exact again I7 hm w7
      | true =>
        rw [if_pos rfl] at q7 ⊢;refine thn (he _ _ _ _ _ _ s7 σ6 H7 _ I7 q7) fun y s8 zz0 => ?_
        obtain ⟨v8, H8, I8, r8, hl8, hz8, n8⟩ := zz0;obtain ⟨m', hm, w8⟩ := hN _ _ _ n8;refine thn (Ya _ s8 σ6 H8 (.ref s₁.heap.objs.size) [v8] (.ref s₁.heap.objs.size) [y] (fun v H' => H'=upd H8 s₁.heap.objs.size (.lst (ys++[v8]))) I8 rfl (.cons r8 .nil) ⟨_, ys, v8, rfl, rfl, hl8, hz8, rfl⟩) fun _ s9 zz0 => ?_
        obtain ⟨_, H9, I9, _, e9⟩ := zz0;subst e9;exact again I9 hm w8
  exact codeAny_compStart_list (loop _) (T.self _ 0 _ _ _ st1 (loop _))
end
section
variable {X:Cx} {elt tg iter:Expr} {ifs:List Expr} {scope:Scope} {pos spos:Pos} {wi:TI} {g:TG} {tt:TT} {te:TE}
theorem Yi (Nc:List Str) (fm:List (Option Nat)) (hc:X.calm=true) (hk:captOk X.N X.env.scope Nc scope fm=true) (hi:PI X tg iter wi)
  (hg:∀ cl C s₁ H₁ fp,PG (Yn X Nc scope cl C s₁ H₁ fp) tg g) (ht:∀ cl C s₁ H₁ fp,PTs (Yn X Nc scope cl C s₁ H₁ fp) ifs tt) (he:∀ cl C s₁ H₁ fp,PE (Yn X Nc scope cl C s₁ H₁ fp) elt te)
  (hs:∀ x,foldedSetIterable iter X.env x=pure x:=by intro _; rfl):PE X (.ListComp elt [⟨tg,iter,ifs,0⟩] scope pos) (Zix fm wi g tt te):=by
 intro pins s σ H Q I h;have c:=captOk.capt hk;rw [eval_ListComp];refine wpAny_comprehension_free (use:=none) rfl hs (J0 fun y hy e=>I.ok.has y.1 (c.free y hy e)) c.kind c.names (thn (hi pins s σ H _ I h) fun v s1 h1=>thn h1 fun itv s2 h2=>?_);obtain ⟨it,fp,tn,J,H2,e,I2,T,st2,f2,h⟩:=h2;subst e;refine ZcZ (RR:=fun acc C=>compPost (model X.prog X.w) X.A X.xe none (EP X pins σ Q) acc C) hc c I2 T st2 f2 hg ht he h fun σ' H' s' J' q=>?_;obtain ⟨m,hn,_⟩:=J'.loc;exact ⟨m,hn,fun h'' sb=>⟨.ref s2.heap.objs.size,H',ZhH I2 J' (ZdR I2 f2 J') sb,rfl,q⟩⟩
theorem Ze6 {i:Nat} {x:Str} {px:Pos} (Nc:List Str) (fm:List (Option Nat)) (hN:X.N.Nodup) (hi':X.N[i]? = some x) (hx:Loc X.env.scope x) (hc:X.calm=true) (hk:captOk X.N X.env.scope Nc scope fm=true) (hi:PI X tg iter wi)
  (hg:∀ cl C s₁ H₁ fp,PG (Yn X Nc scope cl C s₁ H₁ fp) tg g) (ht:∀ cl C s₁ H₁ fp,PTs (Yn X Nc scope cl C s₁ H₁ fp) ifs tt) (he:∀ cl C s₁ H₁ fp,PE (Yn X Nc scope cl C s₁ H₁ fp) elt te)
  (hsw:swapsWith (.ListComp elt [⟨tg,iter,ifs,0⟩] scope pos) (some (.Name x px)) spos.line X.env=pure true:=by rfl)
  (hs:∀ x,foldedSetIterable iter X.env x=pure x:=by intro _; rfl) (hf:X.fn x=true\/X.env.scope.names.lookup x=some .local:=by first | exact .inl rfl | exact .inr rfl | assumption) :
  PS X (.Assign [.Name x px] (.ListComp elt [⟨tg,iter,ifs,0⟩] scope pos) spos) (Zls (Zix fm wi g tt te) (J7 i)):=by
 intro pins s σ H D I h;have c:=captOk.capt hk;rw [exec_Assign_Name_used _ _ _ _ hsw];refine QZq (wpAny_standAt (QZq ?_));show wpAny _ X.A (do let _ <- comprehension (.ListComp elt [⟨tg,iter,ifs,0⟩] scope pos) scope X.env _ (newList []) false (eval iter X.env) (some (assign (.Name x px) X.env))) _ _ s;refine QZq (wpAny_mono (wpAny_comprehension_free (use:=some (assign (.Name x px) X.env)) (Q:=fun _ s'=>SP X pins D .next s') rfl hs (J0 fun y hy e=>I.ok.has y.1 (c.free y hy e)) c.kind c.names
  (thn (hi pins s σ H _ I h) fun v s1 h1=>thn h1 fun itv s2 h2=>?_)) (fun _ s' hq=>QZr (QZr hq)) fun _ _ e=>e)
 obtain ⟨it,fp,tn,J,H2,e,I2,T,st2,f2,h⟩:=h2;subst e;refine ZcZ (Q:=fun v H'=>J7 i v σ H' D.nx) (RR:=fun acc C=>compPost (model X.prog X.w) X.A X.xe (some (assign (.Name x px) X.env)) (fun _ s'=>SP X pins D .next s') acc C) hc c I2 T st2 f2 hg ht he h fun σ' H' s' J' q=>?_;obtain ⟨m,hn,_⟩:=J'.loc;have IB:=ZdR I2 f2 J';show wpAny _ X.A (assign (.Name x px) X.env _) _ _ _;refine wpAny_assign_Name (Zdq (v:=.ref s2.heap.objs.size) IB hN hi' hx rfl (fun s'' I'' zz0=>?_) hf);obtain ⟨a,sa,ha⟩:=zz0;have hle:s2.heap.objs.size<=s2.heap.objs.size+1:=QCk _;have hne:s2.heap.objs.size+1≠a:=by
  rcases ha with rfl | ha
  ·exact Nat.ne_of_gt (QBb I2.lt hle)
  ·obtain ⟨v,q⟩:=I2.cell x a ha;exact Nat.ne_of_gt (QBb q.lt hle)
 exact ⟨m,hn.sameBut sa hne,fun h'' sb=>⟨_,H',ZhH I2 J' I'' sb,q⟩⟩
end
end L2
namespace L2
open PySem PySem.Spec PyProof.Rows
section
variable {X:Cx}
theorem YK (K:QZa) (h:X.K=K:=by rfl):IxR X (ZmA K):=by subst h; exact Zaz
theorem YJ (K:QZa) (h:X.K=K:=by rfl):IxR X (ZmB K):=by subst h; exact Jl
theorem ZaM (K:QZa) (h:X.K=K:=by rfl):OpR X (compareOp .NotIn) (rIn K true):=by subst h; exact Zey
noncomputable def Znd (K:QZa):List V->Hp->VK->Prop:=fun xs H Q=>∃ p ys,xs=[.ref p]/\(SqL K H p ys\/SqT K H p ys)/\Q (.int ys.length) H
theorem Zt (K:QZa) (h:X.K=K:=by rfl):Y5 X (.builtin "len") (Znd K):=by subst h; exact ZeK
theorem ZaK {tg l:Expr} {tl:TE} (K:QZa) (hl:PE X l tl) (h:X.K=K:=by rfl):PI X tg l (ZmJ K tl):=by subst h; exact Zgy hl
theorem Z2 {tg l:Expr} {tl:TE} (K:QZa) (hl:PE X l tl) (h:X.K=K:=by rfl):PI X tg l (Zlc K tl):=by subst h; exact Zcf hl
noncomputable def Y1 (xs ys:List V):Bool:=decide (xs.length=ys.length)&&(xs.zip ys).all fun p=>eqV p.1 p.2
theorem Zfw {x:V} (h:Z5 x=true):eqV x x=true:=by
 cases x <;> simp_all [eqV,Z5]
theorem ZdQ:∀ {xs:List V},xs.all Z5=true->Y1 xs xs=true
 | [],_=>rfl
 | x::xs,h=>by
  rw [List.all_cons,QAv] at h;have ih:=ZdQ h.2;unfold Y1 at ih ⊢
  simp only [decide_true,QCf] at ih ⊢;rw [List.zip_cons_cons,List.all_cons,Zfw h.1,ih]
  rfl
theorem ZaZ {xs ys:List V} (hl:xs.length=ys.length):(List.range xs.length).all (fun j=>match xs[j]?,ys[j]? with | some a,some b=>eqV a b | _,_=>false)=Y1 xs ys:=by
 unfold Y1;rw [QZh hl,QCf,QBf,QBg,QBg]
 constructor
 ·intro h p hp;obtain ⟨i,hi,rfl⟩:=List.mem_iff_getElem.mp hp;rw [List.length_zip] at hi;have:=h i (QZe.mpr (by exact O507 hl hi));have h1:i<xs.length:=by exact O507 hl hi
  have h2:i<ys.length:=by exact Om.a2 ‹_› ‹_›
  simpa [h1,h2] using this
 ·intro h i hi;have h1:=QZe.mp hi;have h2:i<ys.length:=by exact Om.a2 ‹_› ‹_›
  have hi':i<(xs.zip ys).length:=by rw [List.length_zip]; exact O506 hl h1
  have:=h ((xs.zip ys)[i]) (QAq hi')
  simpa [h1,h2] using this
theorem Zfi {A:Around} {s:Shared} {xs ys:List V} {its its2:List Value} (r1:Vals xs its) (r2:Vals ys its2) (f1:xs.all Z5=true) (f2:ys.all Z5=true):∀ j (h1:j<its.toArray.size) (h2:j<its2.toArray.size),
  SeqAt.EqAt A s its.toArray[j] its2.toArray[j] (match xs[j]?,ys[j]? with | some a,some b=>eqV a b | _,_=>false):=fun j h1 h2=>by
 have l1:=r1.length;have l2:=r2.length;rw [QAg] at h1 h2;have hx:xs[j]? = some (xs[j]'(by exact Om.a1 ‹_› ‹_›)):=by simp
 have hy:ys[j]? = some (ys[j]'(by exact Om.a1 ‹_› ‹_›)):=by simp
 obtain ⟨u,hu,ru⟩:=r1.get hx;obtain ⟨v,hv,rv⟩:=r2.get hy;have e1:its.toArray[j]=u:=by
  have:its[j]? = some its[j]:=by simp [h1]
  rw [this] at hu
  simpa using QZl hu
 have e2:its2.toArray[j]=v:=by
  have:its2[j]? = some its2[j]:=by simp [h2]
  rw [this] at hv
  simpa using QZl hv
 rw [e1,e2,hx,hy];exact ZgR ru rv (List.all_eq_true.mp f1 _ (QAq _)) (List.all_eq_true.mp f2 _ (QAq _))
inductive ZmU (K:QZa) (neg:Bool) (x:V) (y:V) (H:Hp) (Q:VK):Prop where
 | mk (a:Addr) (b:Addr) (xs:List V) (ys:List V) (_:x = .ref a) (_:y = .ref b) (_:SqL K H a xs) (_:SqL K H b ys) (_:((xs.all Z5=true/\ys.all Z5=true)\/xs.length≠ys.length)) (_:Q (.bl (if neg then !Y1 xs ys else Y1 xs ys)) H):ZmU K neg x y H Q
noncomputable def rLL (K:QZa) (neg:Bool):R2:=fun x y H Q=>ZmU K neg x y H Q
theorem Zi1 (hu:X.A.units<cLine) (K:QZa) (hK:X.K=K:=by rfl):OpR X (compareOp .Eq) (rLL K false):=by
 subst hK;intro pins s σ H x y v u Q I rx ry h;obtain ⟨a,b,xs,ys,rfl,rfl,h1,h2,hf,q⟩:=h
 cases rx
 cases ry;obtain ⟨its,r1,p1,z1⟩:=I.list h1;obtain ⟨its2,r2,p2,z2⟩:=I.list h2;have l1:=r1.length;have l2:=r2.length
 by_cases hl:xs.length=ys.length
 ·have hf':=hf.resolve_right (fun z=>z hl);refine SeqAt.eq_listAt p1.isList p2.isList (by rw [QAg,QAg]; exact O505 l1 l2 hl) hu (Zfi r1 r2 hf'.1 hf'.2) ⟨.bl _,H,I,rfl,?_⟩;rw [QAg,<- l1,ZaZ hl];exact q
 ·have e:Y1 xs ys=false:=by unfold Y1; rw [QZi hl,QCa]
  refine SeqAt.eq_list_lengthsAt p1.isList p2.isList (by simp only [QAg,bne_iff_ne]; exact O504 l1 l2 hl) hu ⟨.bl _,H,I,rfl,?_⟩;rw [<- e];exact q
theorem ZgC (hu:X.A.units<cLine) (K:QZa) (hK:X.K=K:=by rfl):OpR X (compareOp .NotEq) (rLL K true):=by
 subst hK;intro pins s σ H x y v u Q I rx ry h;obtain ⟨a,b,xs,ys,rfl,rfl,h1,h2,hf,q⟩:=h
 cases rx
 cases ry;obtain ⟨its,r1,p1,z1⟩:=I.list h1;obtain ⟨its2,r2,p2,z2⟩:=I.list h2;have l1:=r1.length;have l2:=r2.length
 by_cases hl:xs.length=ys.length
 ·have hf':=hf.resolve_right (fun z=>z hl);refine SeqAt.RcNeAt.lists p1.isList p2.isList (by rw [QAg,QAg]; exact O505 l1 l2 hl) hu (Zfi r1 r2 hf'.1 hf'.2) _ _ _ _ ⟨.bl _,H,I,rfl,?_⟩;rw [QAg,<- l1,ZaZ hl];exact q
 ·have e:Y1 xs ys=false:=by unfold Y1; rw [QZi hl,QCa]
  refine SeqAt.RcNeAt.lists_lengths p1.isList p2.isList (by simp only [QAg,bne_iff_ne]; exact O504 l1 l2 hl) hu _ _ _ _ ⟨.bl _,H,I,rfl,?_⟩;have q':Q (.bl (!Y1 xs ys)) H:=q;rw [e] at q';exact q'
noncomputable def Zne (K:QZa):List V->Hp->VK->Prop:=fun xs H Q=>∃ x T t b,xs=[x,.ty T]/\ZbZ K H x t/\PySem.W.kitOne K t (.type T)=some b/\Q (.bl b) H
theorem Js (K:QZa) (hK:X.K=K:=by rfl):Y5 X (.builtin "isinstance") (Zne K):=by
 subst hK;intro pins s σ H xs us Q I r h;obtain ⟨x,T,t,b,rfl,ty,e,q⟩:=h;obtain ⟨u,v,rfl,rx,ry⟩:=Zk5 r
 cases ry;exact Zig I rx ty e fun tk=>⟨.bl b,H,I.tok tk,rfl,q⟩
end
structure Wlk (J:It) (xs:List V) (P:Hp->Prop):Prop where
 go:∀ i H,P H->i<xs.length->J.go i H
 yld:∀ i H x H',P H->J.yld i H x H'->i<xs.length->H'=H/\xs[i]? = some x
 stop:∀ i H,P H->xs.length<=i->J.stop i H
theorem ZaD {K:QZa} {a:Addr} {xs:List V}:Wlk (Itt K a) xs (fun H=>SqT K H a xs) :=
 ⟨fun i H h hi=>⟨xs,xs[i],h,by simp [hi]⟩,fun i H x H' h y _=>⟨y.1,y.2 xs h⟩,fun i H h hi=>⟨xs,h,hi⟩⟩
theorem Z1 {K:QZa} {a:Addr} {xs:List V}:Wlk (Itl K a) xs (fun H=>SqL K H a xs) :=
 ⟨fun i H h hi=>⟨xs,xs[i],h,by simp [hi]⟩,fun i H x H' h y _=>⟨y.1,y.2 xs h⟩,fun i H h hi=>⟨xs,h,hi⟩⟩
noncomputable def rng (n:Nat):List V:=(List.range n).map fun i:Nat=>V.int (i:Int)
theorem Zu (n:Nat):(rng n).length=n:=by unfold rng; rw [QAa,QAr]
theorem ZiO {n i:Nat} (h:i<n):(rng n)[i]? = some (.int (i:Int)):=by
 unfold rng;rw [QAe,QBj h]
 rfl
theorem Z6 {n i:Nat} {x:V} (h:(rng n)[i]? = some x):i<n/\x = .int (i:Int):=by
 have hi:i<n:=by
  have:=(QZb.mp h).1
  rwa [Zu] at this
 rw [ZiO hi] at h;exact ⟨hi,(QZl h).symm⟩
theorem ZiN (n:Nat):(rng n).all Z5=true:=by
 unfold rng;rw [List.all_map];exact List.all_eq_true.mpr fun _ _=>rfl
theorem ZO {n:Nat}:Wlk (Itr 0 n) (rng n) (fun _=>True) :=
 ⟨fun i H _ hi=>by rw [Zu] at hi; exact hi,fun i H x H' _ y hi=>by
  rw [Zu] at hi;obtain ⟨e,rfl⟩:=y;refine ⟨e,?_⟩;rw [ZiO hi,QBw],fun i H _ hi=>by rw [Zu] at hi; exact hi⟩
noncomputable def Zbw (g:TG) (tt:TT) (te:TE) (x:V) (σ:St) (H:Hp) (R:Option V->St->Hp->Prop):Prop :=
 g x σ H fun σ3 H3=>tt σ3 H3 fun b H4=>if b=true then te σ3 H4 fun y H5=>R (some y) σ3 H5 else R none σ3 H4
theorem Z8 {J:It} {xs:List V} {P:Hp->Prop} {g:TG} {tt:TT} {te:TE} {l:Addr} {QL:Hp->Prop} {σ0:St} {H0:Hp} (Wk:Wlk J xs P) (Pv:Nat->List V->St->Hp->Prop) (h0:Pv 0 [] σ0 H0)
    (hP:∀ i ys σ H, Pv i ys σ H->P H/\H l=some (.lst ys))
    (hs:∀ i x ys σ H, xs[i]? = some x->Pv i ys σ H->Zbw g tt te x σ H fun o σ3 H5 => match o with
      | some y => H5 l=some (.lst ys)/\ys.length<sizeLine/\Pv (i+1) (ys++[y]) σ3 (upd H5 l (.lst (ys++[y])))
      | none => Pv (i+1) ys σ3 H5)
    (hd:∀ ys σ H, Pv xs.length ys σ H->QL H) :
    ∃ W:Nat->Nat->List V->St->Hp->Prop, (∃ m, W 0 m [] σ0 H0) /\
    ∀ i m ys σ' H', W i m ys σ' H'->H' l=some (.lst ys) /\
      ((J.stop i H'/\QL H') \/
       (J.go i H'/\∃ N:List V->St->Hp->Prop, (∀ zs σ2 H2, N zs σ2 H2->∃ m', m'<m/\W (i+1) m' zs σ2 H2)/\∀ x H2, J.yld i H' x H2->g x σ' H2 fun σ3 H3 => tt σ3 H3 fun b H4 =>
          if b=true then te σ3 H4 fun y H5 => H5 l=some (.lst ys)/\ys.length<sizeLine/\N (ys++[y]) σ3 (upd H5 l (.lst (ys++[y])))
          else N ys σ3 H4)) := by
  refine ⟨fun i m ys σ H => m=xs.length - i/\i<=xs.length/\Pv i ys σ H, ⟨xs.length, by simp, QAh _, h0⟩, ?_⟩;rintro i m ys σ H ⟨rfl, hi, p⟩;obtain ⟨hp, hl⟩ := hP i ys σ H p;refine ⟨hl, ?_⟩
  by_cases hlt:i<xs.length
  · refine .inr ⟨Wk.go i H hp hlt, fun zs σ2 H2 => Pv (i+1) zs σ2 H2, fun zs σ2 H2 n => ⟨xs.length - (i+1), by exact O405 hlt, rfl, hlt, n⟩, fun x H2 y => ?_⟩
    obtain ⟨e, hx⟩ := Wk.yld i H x H2 hp y hlt;subst e;exact hs i x ys σ _ hx p
  · have e:i=xs.length := by exact O495 hi hlt
    subst e;exact .inl ⟨Wk.stop _ H hp (QAd _), hd ys σ H p⟩
theorem Same.upd_new {H H':Hp} {l:Addr} {o:HO} (e:Same H H') (h:H l=none):Same H (upd H' l o):=fun b u q=>by
 rw [Zg (Zi q h)];exact e b u q
theorem Same.new {H:Hp} {l:Addr} {o:HO} (h:H l=none):Same H (upd H l o):=(Same.refl H).upd_new h
theorem Zam {β:Type} {F:Nat->Option β} {i:Nat}:(List.range (i+1)).filterMap F=(List.range i).filterMap F++(F i).toList:=by
 rw [QDm,List.filterMap_append]
 cases e:F i <;> simp [e]
theorem Zdg {β:Type} {F:Nat->Option β} {i:Nat}:((List.range i).filterMap F).length<=i:=by
 have h:=List.length_filterMap_le F (List.range i);rw [QAr] at h;exact h
theorem JM {α β:Type} (h:α->β) (l:List α):(l.filterMap fun i=>some (h i))=l.map h:=by
 induction l with
 | nil=>rfl
 | cons a l ih=>rw [QDk,QAp,ih]
theorem ZD {J:It} {xs:List V} {P:Hp->Prop} {g:TG} {tt:TT} {te:TE} {l:Addr} {QL:Hp->Prop} {σ0:St} {H1:Hp} (F:Nat->Option V) (S:St->Prop) (Wk:Wlk J xs P) (hz:xs.length<=sizeLine) (hl:H1 l=none)
    (hPm:∀ H, Same H1 H->P H) (hS:S σ0)
    (hs:∀ i x σ H (R:Option V->St->Hp->Prop), xs[i]? = some x->S σ->Same H1 H->(∀ σ' H', S σ'->Same H H'->R (F i) σ' H')->Zbw g tt te x σ H R)
    (hd:∀ H, Same H1 H->H l=some (.lst ((List.range xs.length).filterMap F))->QL H) :
    ∃ W:Nat->Nat->List V->St->Hp->Prop, (∃ m, W 0 m [] σ0 (upd H1 l (.lst []))) /\
    ∀ i m ys σ' H', W i m ys σ' H'->H' l=some (.lst ys) /\
      ((J.stop i H'/\QL H') \/
       (J.go i H'/\∃ N:List V->St->Hp->Prop, (∀ zs σ2 H2, N zs σ2 H2->∃ m', m'<m/\W (i+1) m' zs σ2 H2)/\∀ x H2, J.yld i H' x H2->g x σ' H2 fun σ3 H3 => tt σ3 H3 fun b H4 =>
          if b=true then te σ3 H4 fun y H5 => H5 l=some (.lst ys)/\ys.length<sizeLine/\N (ys++[y]) σ3 (upd H5 l (.lst (ys++[y])))
          else N ys σ3 H4)) := by
  refine Z8 Wk (fun i ys σ H => Same H1 H/\H l=some (.lst ys)/\S σ/\ys=(List.range i).filterMap F) ⟨Same.new hl, Zb, hS, rfl⟩ (fun i ys σ H p => ⟨hPm H p.1, p.2.1⟩) ?_ ?_
  · rintro i x ys σ H hx ⟨sm, hl', hσ, rfl⟩
    refine hs i x σ H _ hx hσ sm fun σ' H' hσ' sm' => ?_
    have hi:i<xs.length := (QZb.mp hx).1
    cases e:F i with
    | none =>
      refine ⟨sm.trans sm', sm' _ _ hl', hσ', ?_⟩;rw [Zam, e]
      simp
    | some y =>
      refine ⟨sm' _ _ hl', ?_, (sm.trans sm').upd_new hl, Zb, hσ', ?_⟩
      · have h1 := Zdg (F := F) (i := i)
        omega
      · rw [Zam, e]
        rfl
  · rintro ys σ H ⟨sm, hl', hσ, rfl⟩
    exact hd H sm hl'
theorem Paired.getL {α β:Type} {F:α->β->Prop}:∀ {l₁:List α} {l₂:List β} {i:Nat} {a:α},Paired F l₁ l₂->l₁[i]? = some a->∃ b,l₂[i]? = some b/\F a b
 | _,_,_,_,.nil,e=>by simp at e
 | _,_,0,_,.cons r _,e=>by simp at e; subst e; exact ⟨_,rfl,r⟩
 | _,_,i+1,a,.cons _ t,e=>by
  obtain ⟨u,h1,h2⟩:=Paired.getL (i:=i) (a:=a) t (by simpa using e);exact ⟨u,by simpa using h1,h2⟩
theorem Paired.getR {α β:Type} {F:α->β->Prop}:∀ {l₁:List α} {l₂:List β} {i:Nat} {b:β},Paired F l₁ l₂->l₂[i]? = some b->∃ a,l₁[i]? = some a/\F a b
 | _,_,_,_,.nil,e=>by simp at e
 | _,_,0,_,.cons r _,e=>by simp at e; subst e; exact ⟨_,rfl,r⟩
 | _,_,i+1,b,.cons _ t,e=>by
  obtain ⟨u,h1,h2⟩:=Paired.getR (i:=i) (b:=b) t (by simpa using e);exact ⟨u,by simpa using h1,h2⟩
theorem YO {xs:List V} {i:Nat} {v:V} (h:xs[i]? = some v):atI xs (i:Int)=some v:=ZkX h
theorem Zy {n:Nat} (h:n<=1000):n<=sizeLine:=QBz (Zw h)
theorem ZM (ns:List Int):(ns.map V.int).all Z5=true:=by
 rw [List.all_map];exact List.all_eq_true.mpr fun _ _=>rfl
theorem ZjG (xs:List V):Y1 xs []=xs.isEmpty:=by
 cases xs <;> simp [Y1]
theorem Paired.append {α β:Type} {F:α->β->Prop}:∀ {l₁ m₁:List α} {l₂ m₂:List β},Paired F l₁ l₂->Paired F m₁ m₂->Paired F (l₁++m₁) (l₂++m₂)
 | _,_,_,_,.nil,s=>s
 | _,_,_,_,.cons r t,s=>.cons r (Paired.append t s)
theorem Zby:bootBuiltins "isinstance" = some (Value.builtin "isinstance"):=by decide +kernel
theorem ZaS:bootBuiltins "list" = some (Value.type "list"):=by decide +kernel
theorem ZI:bootBuiltins "tuple" = some (Value.type "tuple"):=by decide +kernel
theorem ZjO:bootBuiltins "int" = some (Value.type "int"):=by decide +kernel
theorem ZkW:bootBuiltins "bool" = some (Value.type "bool"):=by decide +kernel
theorem Yw {X:Cx} {Nc:List Str} {scope:Scope} {cl:List (Str × Addr)} {C:Addr} {s₁:Shared} {H₁:Hp} {fp:List Addr} (i:Nat) {x:Str} {pos:Pos} (hN:Nc.Nodup:=by decide +kernel) (hi:Nc[i]? = some x:=by rfl)
  (hx:(relabel scope X.env).names.lookup x=some .local:=by rfl):PG (Yn X Nc scope cl C s₁ H₁ fp) (.Name x pos) (J7 i):=ZJ hN hi (.inl hx) (.inr hx)
end L2
namespace L2
open PySem PySem.Spec PyProof.Rows
section
variable {P:Program} {w:World} {outer:List Env} {H H':Hp} {s s' s'':Shared} {e:Addr} {cls a0:Value} {B:Heap}
end
section
variable {P:Program} {w:World} {K:QZa} {mg:Str->Option Value} {base:Heap} {N:List Str} {qual:Str} {scope:Scope} {f:Addr} {cd:Value} {A:Around} {outer:List Env} {s₀:Shared} {H₀:Hp} {E:XK}
end
section
variable {X:Cx} {pins ps':List (Addr × Obj)} {σ:St} {H:Hp} {s:Shared} {xe:Value->Shared->Prop}
end
section
variable {X:Cx} {CX:CXT} {k:Nat} {f:Addr} {fd:FuncData} {ps:List Str} {sp:Sp} {dvs:List V} {ds:List Value} {E:XK} {x:Str} {p pos:Pos} {e:Expr} {es:List Expr} {t:TA}
end
section
variable {X:Cx} {pins:List (Addr × Obj)} {σ:St} {H:Hp} {s:Shared} {e:Addr}
end
section
variable {X:Cx}
end
end L2
namespace L2
open PySem
noncomputable def GridT (H:Hp) (a:Addr) (B:List (List V)):Prop:=∃ ps:List Addr,H a=some (.tup (ps.map V.ref))/\Paired (fun p row=>H p=some (.tup row)) ps B
theorem GridT.same {H H':Hp} {a:Addr} {B:List (List V)} (g:GridT H a B) (e:Same H H'):GridT H' a B :=
 let ⟨ps,h,r⟩:=g
 ⟨ps,e _ _ h,Paired.mapP r fun _ _ q=>e _ _ q⟩
theorem ZgS (xs:List V) {c:Nat} (h:c<=xs.length):Za7 xs none (some (c:Int))=xs.take c:=by
 unfold Za7;rw [HT.sIx_none,HT.sIx_nat,List.drop_zero,Nat.sub_zero]
 congr 1
 exact Om.m2 ‹_›
theorem ZcX (xs:List V) {c:Nat} (h:c<=xs.length):Za7 xs (some (c:Int)) none=xs.drop c:=by
 unfold Za7;rw [HT.sIx_none,HT.sIx_nat];have e:min c xs.length=c:=by exact Om.m2 ‹_›
 rw [e,QBd];rw [QBn];exact QAd _
end L2
namespace L2
open PySem PySem.Spec PyProof.Rows PySem.W
section
variable {prog:Program} {w:World} {A:Around} {E:Value->Shared->Prop} {K:QZa} {h:Heap} {g:Array GenState} {d:Drawn} {t:Nat} {os:OsState} {a C:Addr} {o:Obj}
end
end L2
namespace L2
open PySem PySem.Spec PyProof.Rows
section
variable {X:Cx} {pins:List (Addr × Obj)} {σ:St} {H:Hp} {s:Shared}
end
section
variable {X:Cx}
end
section
variable {X:Cx} {k:Nat} {f:Addr} {fd:FuncData} {ps:List Str} {sp:Sp} {x:Str} {p pos:Pos} {e:Expr} {es:List Expr} {t:TA}
end
end L2
namespace L2
open PySem PySem.Spec PyProof.Rows
inductive EqD (K:QZa) (H:Hp):Nat->V->V->Bool->Prop where
 | flat {d:Nat} {x y:V} (fx:Z5 x=true) (fy:Z5 y=true):EqD K H d x y (eqV x y)
 | tups {d:Nat} {a c:Addr} {xs ys:List V} {e:Nat->Bool} (h1:SqT K H a xs) (h2:SqT K H c ys) (he:∀ j x y,xs[j]? = some x->ys[j]? = some y->EqD K H d x y (e j)):EqD K H (d+1) (.ref a) (.ref c) (decide (xs.length=ys.length)&&(List.range xs.length).all fun j=>decide (j<ys.length)&&e j)
 | lsts {d:Nat} {a c:Addr} {xs ys:List V} {e:Nat->Bool} (h1:SqL K H a xs) (h2:SqL K H c ys) (he:xs.length=ys.length->∀ j x y,xs[j]? = some x->ys[j]? = some y->EqD K H d x y (e j)):EqD K H (d+1) (.ref a) (.ref c) (decide (xs.length=ys.length)&&(List.range xs.length).all fun j=>decide (j<ys.length)&&e j)
 | tupF {d:Nat} {a:Addr} {xs:List V} {y:V} (h1:SqT K H a xs) (fy:Z5 y=true):EqD K H d (.ref a) y false
 | Ftup {d:Nat} {a:Addr} {xs:List V} {y:V} (h1:SqT K H a xs) (fy:Z5 y=true):EqD K H d y (.ref a) false
 | lstF {d:Nat} {a:Addr} {xs:List V} {y:V} (h1:SqL K H a xs) (fy:Z5 y=true):EqD K H d (.ref a) y false
 | Flst {d:Nat} {a:Addr} {xs:List V} {y:V} (h1:SqL K H a xs) (fy:Z5 y=true):EqD K H d y (.ref a) false
 | tupL {d:Nat} {a c:Addr} {xs ys:List V} (h1:SqT K H a xs) (h2:SqL K H c ys):EqD K H d (.ref a) (.ref c) false
 | lstT {d:Nat} {a c:Addr} {xs ys:List V} (h1:SqL K H a xs) (h2:SqT K H c ys):EqD K H d (.ref a) (.ref c) false
theorem Zlz {A:Around} {s:Shared} {y x:V} {u v:Value} (ry:RelV y u) (rx:RelV x v) (fy:Z5 y=true) (fx:Z5 x=true):SeqAt.RcAt A s u v (eqV y x)/\SeqAt.RcNeAt A s u v (!eqV y x):=by
 cases y with
 | non =>
  cases ry
  cases x with
  | non=>cases rx; exact ⟨SeqAt.RcAt.none_none,SeqAt.RcNeAt.none_none⟩
  | bl b=>cases rx; exact ⟨SeqAt.RcAt.none_bool b,SeqAt.RcNeAt.none_bool b⟩
  | int b=>obtain ⟨t,rfl⟩:=rx; exact ⟨SeqAt.RcAt.none_int b t,SeqAt.RcNeAt.none_int b t⟩
  | str b=>obtain ⟨t,rfl⟩:=rx; exact ⟨SeqAt.RcAt.none_str b t,SeqAt.RcNeAt.none_str b t⟩
  | _=>exact absurd (show false=true from fx) QAl
 | bl a =>
  cases ry
  cases x with
  | non=>cases rx; exact ⟨SeqAt.RcAt.bool_none a,SeqAt.RcNeAt.bool_none a⟩
  | bl b=>cases rx; exact ⟨SeqAt.RcAt.bool_bool a b,SeqAt.RcNeAt.bool_bool a b⟩
  | int b=>obtain ⟨t,rfl⟩:=rx; exact ⟨SeqAt.RcAt.bool_int a b t,SeqAt.RcNeAt.bool_int a b t⟩
  | str b=>obtain ⟨t,rfl⟩:=rx; exact ⟨SeqAt.RcAt.bool_str a b t,SeqAt.RcNeAt.bool_str a b t⟩
  | _=>exact absurd (show false=true from fx) QAl
 | int a =>
  obtain ⟨t',rfl⟩:=ry
  cases x with
  | non=>cases rx; exact ⟨SeqAt.RcAt.int_none a t',SeqAt.RcNeAt.int_none a t'⟩
  | bl b=>cases rx; exact ⟨SeqAt.RcAt.int_bool a t' b,SeqAt.RcNeAt.int_bool a t' b⟩
  | int b=>obtain ⟨t,rfl⟩:=rx; exact ⟨SeqAt.RcAt.int_int a t' b t,SeqAt.RcNeAt.int_int a t' b t⟩
  | str b=>obtain ⟨t,rfl⟩:=rx; exact ⟨SeqAt.RcAt.int_str a t' b t,SeqAt.RcNeAt.int_str a t' b t⟩
  | _=>exact absurd (show false=true from fx) QAl
 | str a =>
  obtain ⟨t',rfl⟩:=ry
  cases x with
  | non=>cases rx; exact ⟨SeqAt.RcAt.str_none a t',SeqAt.RcNeAt.str_none a t'⟩
  | bl b=>cases rx; exact ⟨SeqAt.RcAt.str_bool a t' b,SeqAt.RcNeAt.str_bool a t' b⟩
  | int b=>obtain ⟨t,rfl⟩:=rx; exact ⟨SeqAt.RcAt.str_int a t' b t,SeqAt.RcNeAt.str_int a t' b t⟩
  | str b=>obtain ⟨t,rfl⟩:=rx; exact ⟨SeqAt.RcAt.str_str a t' b t,SeqAt.RcNeAt.str_str a t' b t⟩
  | _=>exact absurd (show false=true from fx) QAl
 | _=>exact absurd (show false=true from fy) QAl
section
variable {A:Around} {s:Shared} {l:Addr} {its:Array Value}
theorem Zg2 (hl:s.heap.IsTuple l its) {y:V} {v:Value} (r:RelV y v) (fy:Z5 y=true) (hu:A.units<cLine) :
  (SeqAt.EqAt A s (.ref l) v false/\SeqAt.RcAt A s (.ref l) v false/\SeqAt.RcNeAt A s (.ref l) v true)/\(SeqAt.EqAt A s v (.ref l) false/\SeqAt.RcAt A s v (.ref l) false/\SeqAt.RcNeAt A s v (.ref l) true):=by
 cases y with
 | non=>cases r; exact ⟨⟨.tuple_none hl hu,.tuple_none hl hu,.tuple_none hl hu⟩,.none_tuple hl hu,.none_tuple hl hu,.none_tuple hl hu⟩
 | bl b=>cases r; exact ⟨⟨.tuple_bool b hl hu,.tuple_bool b hl hu,.tuple_bool b hl hu⟩,.bool_tuple b hl hu,.bool_tuple b hl hu,.bool_tuple b hl hu⟩
 | int b=>obtain ⟨t,rfl⟩:=r; exact ⟨⟨.tuple_int b t hl hu,.tuple_int b t hl hu,.tuple_int b t hl hu⟩,.int_tuple b t hl hu,.int_tuple b t hl hu,.int_tuple b t hl hu⟩
 | str b=>obtain ⟨t,rfl⟩:=r; exact ⟨⟨.tuple_str b t hl hu,.tuple_str b t hl hu,.tuple_str b t hl hu⟩,.str_tuple b t hl hu,.str_tuple b t hl hu,.str_tuple b t hl hu⟩
 | _=>exact absurd (show false=true from fy) QAl
theorem Zhq (hl:s.heap.IsList l its) {y:V} {v:Value} (r:RelV y v) (fy:Z5 y=true) (hu:A.units<cLine) :
  (SeqAt.EqAt A s (.ref l) v false/\SeqAt.RcAt A s (.ref l) v false/\SeqAt.RcNeAt A s (.ref l) v true)/\(SeqAt.EqAt A s v (.ref l) false/\SeqAt.RcAt A s v (.ref l) false/\SeqAt.RcNeAt A s v (.ref l) true):=by
 cases y with
 | non=>cases r; exact ⟨⟨.list_none hl hu,.list_none hl hu,.list_none hl hu⟩,.none_list hl hu,.none_list hl hu,.none_list hl hu⟩
 | bl b=>cases r; exact ⟨⟨.list_bool b hl hu,.list_bool b hl hu,.list_bool b hl hu⟩,.bool_list b hl hu,.bool_list b hl hu,.bool_list b hl hu⟩
 | int b=>obtain ⟨t,rfl⟩:=r; exact ⟨⟨.list_int b t hl hu,.list_int b t hl hu,.list_int b t hl hu⟩,.int_list b t hl hu,.int_list b t hl hu,.int_list b t hl hu⟩
 | str b=>obtain ⟨t,rfl⟩:=r; exact ⟨⟨.list_str b t hl hu,.list_str b t hl hu,.list_str b t hl hu⟩,.str_list b t hl hu,.str_list b t hl hu,.str_list b t hl hu⟩
 | _=>exact absurd (show false=true from fy) QAl
end
theorem Zkz {n m:Nat} {e:Nat->Bool}:((List.range (min n m)).all e&&(n==m))=(decide (n=m)&&(List.range n).all fun j=>decide (j<m)&&e j):=by
 by_cases h:n=m
 ·subst h;rw [Nat.min_self,beq_self_eq_true,Bool.and_true,QZh rfl,QCf,QBf,QBg,QBg]
  constructor
  ·intro h j hj;rw [QZh (QZe.mp hj),QCf];exact h j hj
  ·intro h j hj;have:=h j hj;rw [QAv] at this;exact this.2
 ·rw [QZi h,QCa,show (n==m)=false by simpa using h,Bool.and_false]
theorem ZeM {n:Nat} {e:Nat->Bool}:((List.range n).all fun j=>decide (j<n)&&e j)=(List.range n).all e:=by
 rw [QBf,QBg,QBg]
 constructor
 ·intro h j hj;have:=h j hj;rw [QAv] at this;exact this.2
 ·intro h j hj;rw [QZh (QZe.mp hj),QCf];exact h j hj
section
variable {X:Cx} {pins:List (Addr × Obj)} {σ:St} {H:Hp} {s:Shared}
theorem EqD.refl' (I:Inv X pins σ H s) {d:Nat} {x y:V} {b:Bool} (h:EqD X.K H d x y b):x=y->b=true:=by
 induction h with
 | flat fx fy=>rintro rfl; exact Zfw fx
 | tups h1 h2 he ih =>
  intro e
  cases e;have:=I.tuple_inj h1 h2;subst this;rw [QZh rfl,QCf,ZeM,QBg];intro j hj;have hj':=QZe.mp hj;exact ih j _ _ (QAb hj') (QAb hj') rfl
 | lsts h1 h2 he ih =>
  intro e
  cases e;have:=I.list_inj h1 h2;subst this;rw [QZh rfl,QCf,ZeM,QBg];intro j hj;have hj':=QZe.mp hj;exact ih rfl j _ _ (QAb hj') (QAb hj') rfl
 | tupF h1 fy=>rintro rfl; cases fy
 | Ftup h1 fy=>rintro rfl; cases fy
 | lstF h1 fy=>rintro rfl; cases fy
 | Flst h1 fy=>rintro rfl; cases fy
 | tupL h1 h2 =>
  intro e
  cases e;obtain ⟨_,_,p,_⟩:=I.tuple h1;obtain ⟨_,_,q,_⟩:=I.list h2;obtain ⟨o,ho,hc,_⟩:=p;obtain ⟨o',_,ho',hc',_⟩:=q;rw [ho] at ho'
  cases ho';rw [hc] at hc';exact absurd hc' (by decide)
 | lstT h1 h2 =>
  intro e
  cases e;obtain ⟨_,_,p,_⟩:=I.tuple h2;obtain ⟨_,_,q,_⟩:=I.list h1;obtain ⟨o,ho,hc,_⟩:=p;obtain ⟨o',_,ho',hc',_⟩:=q;rw [ho] at ho'
  cases ho';rw [hc] at hc';exact absurd hc' (by decide)
theorem Vals.at {xs:List V} {its:List Value} (r:Vals xs its) {j:Nat} (h:j<its.toArray.size):∃ x,xs[j]? = some x/\RelV x its.toArray[j]:=by
 rw [QAg] at h;have hx:j<xs.length:=by rw [r.length]; exact h
 have e1:xs[j]? = some xs[j]:=QAb hx;obtain ⟨u,hu,ru⟩:=r.get e1;refine ⟨_,e1,?_⟩;rw [QAb h] at hu
 cases hu
 simpa using ru
theorem EqD.all (I:Inv X pins σ H s) {d:Nat} {x y:V} {b:Bool} (h:EqD X.K H d x y b):∀ {A:Around} {u v:Value},RelV x u->RelV y v->A.units+d<cLine ->
  SeqAt.EqAt A s u v b/\SeqAt.RcAt A s u v b/\SeqAt.RcNeAt A s u v (!b):=by
 induction h with
 | flat fx fy=>exact fun {A u v} rx ry hu=>⟨ZgR rx ry fx fy,Zlz rx ry fx fy⟩
 | @tups d a c xs ys e h1 h2 he ih =>
  intro A u v rx ry hu
  cases rx
  cases ry;obtain ⟨its,r1,p1,_⟩:=I.tuple h1;obtain ⟨its2,r2,p2,_⟩:=I.tuple h2;have el:∀ j (q1:j<its.toArray.size) (q2:j<its2.toArray.size),SeqAt.EqAt A.in1 s its.toArray[j] its2.toArray[j] (e j):=fun j q1 q2=>by
   obtain ⟨x,e1,rx⟩:=r1.at q1;obtain ⟨y,e2,ry⟩:=r2.at q2;exact (ih j x y e1 e2 rx ry (by show A.units+1+d<cLine; exact O32 hu)).1
  have sz:its.toArray.size=xs.length/\its2.toArray.size=ys.length:=by
   rw [QAg,QAg,r1.length,r2.length];exact ⟨rfl,rfl⟩
  have g1:=SeqAt.RcAt.tuples (A:=A) p1 p2 (by exact O33 hu) el;have g2:=SeqAt.RcNeAt.tuples (A:=A) p1 p2 (by exact O33 hu) el;rw [sz.1,sz.2,Zkz] at g1 g2;refine ⟨?_,g1,g2⟩
  by_cases hac:a=c
  ·subst hac;rw [EqD.refl' I (.tups h1 h2 he) rfl];exact SeqAt.EqAt.same _
  ·exact SeqAt.EqAt.of_refs hac g1
 | @lsts d a c xs ys e h1 h2 he ih =>
  intro A u v rx ry hu
  cases rx
  cases ry;obtain ⟨its,r1,p1,_⟩:=I.list h1;obtain ⟨its2,r2,p2,_⟩:=I.list h2;have sz:its.toArray.size=xs.length/\its2.toArray.size=ys.length:=by
   rw [QAg,QAg,r1.length,r2.length];exact ⟨rfl,rfl⟩
  have g:SeqAt.RcAt A s (.ref a) (.ref c) (decide (xs.length=ys.length)&&(List.range xs.length).all fun j=>decide (j<ys.length)&&e j)/\SeqAt.RcNeAt A s (.ref a) (.ref c) (!(decide (xs.length=ys.length)&&(List.range xs.length).all fun j=>decide (j<ys.length)&&e j)):=by
   by_cases hl:xs.length=ys.length
   ·have el:∀ j (q1:j<its.toArray.size) (q2:j<its2.toArray.size),SeqAt.EqAt A.in1 s its.toArray[j] its2.toArray[j] (e j):=fun j q1 q2=>by
     obtain ⟨x,e1,rx⟩:=r1.at q1;obtain ⟨y,e2,ry⟩:=r2.at q2;exact (ih hl j x y e1 e2 rx ry (by show A.units+1+d<cLine; exact O32 hu)).1
    have g1:=SeqAt.RcAt.lists (A:=A) p1.isList p2.isList (by rw [sz.1,sz.2,hl]) (by exact O33 hu) el;have g2:=SeqAt.RcNeAt.lists (A:=A) p1.isList p2.isList (by rw [sz.1,sz.2,hl]) (by exact O33 hu) el;rw [sz.1] at g1 g2;rw [QZh hl,QCf,<- hl,ZeM];exact ⟨g1,g2⟩
   ·rw [QZi hl,QCa];have hz:(its.toArray.size != its2.toArray.size)=true:=by rw [sz.1,sz.2]; simpa using hl
    exact ⟨.lists_lengths p1.isList p2.isList hz (by exact O33 hu),.lists_lengths p1.isList p2.isList hz (by exact O33 hu)⟩
  refine ⟨?_,g⟩
  by_cases hac:a=c
  ·subst hac;rw [EqD.refl' I (.lsts h1 h2 he) rfl];exact SeqAt.EqAt.same _
  ·exact SeqAt.EqAt.of_refs hac g.1
 | tupF h1 fy =>
  intro A u v rx ry hu
  cases rx;obtain ⟨its,r1,p1,_⟩:=I.tuple h1;exact (Zg2 p1 ry fy (by exact O430 hu)).1
 | Ftup h1 fy =>
  intro A u v rx ry hu
  cases ry;obtain ⟨its,r1,p1,_⟩:=I.tuple h1;exact (Zg2 p1 rx fy (by exact O430 hu)).2
 | lstF h1 fy =>
  intro A u v rx ry hu
  cases rx;obtain ⟨its,r1,p1,_⟩:=I.list h1;exact (Zhq p1.isList ry fy (by exact O430 hu)).1
 | Flst h1 fy =>
  intro A u v rx ry hu
  cases ry;obtain ⟨its,r1,p1,_⟩:=I.list h1;exact (Zhq p1.isList rx fy (by exact O430 hu)).2
 | tupL h1 h2 =>
  intro A u v rx ry hu
  cases rx
  cases ry;obtain ⟨its,r1,p1,_⟩:=I.tuple h1;obtain ⟨its2,r2,p2,_⟩:=I.list h2;exact ⟨.tuple_list p1 p2.isList (by exact O430 hu),.tuple_list p1 p2.isList (by exact O430 hu),.tuple_list p1 p2.isList (by exact O430 hu)⟩
 | lstT h1 h2 =>
  intro A u v rx ry hu
  cases rx
  cases ry;obtain ⟨its,r1,p1,_⟩:=I.list h1;obtain ⟨its2,r2,p2,_⟩:=I.tuple h2;exact ⟨.list_tuple p1.isList p2 (by exact O430 hu),.list_tuple p1.isList p2 (by exact O430 hu),.list_tuple p1.isList p2 (by exact O430 hu)⟩
end
noncomputable def ZmC (K:QZa) (d:Nat) (neg:Bool):R2:=fun x y H Q=>∃ b,EqD K H d x y b/\Q (.bl (if neg then !b else b)) H
section
variable {X:Cx}
theorem Zi2 {d:Nat} (hu:X.A.units+d<cLine) (K:QZa) (hK:X.K=K:=by rfl):OpR X (compareOp .Eq) (ZmC K d false):=by
 subst hK;intro pins s σ H x y v u Q I rx ry h;obtain ⟨b,e,q⟩:=h;exact (e.all I rx ry hu).2.1 _ _ _ _ ⟨.bl b,H,I,rfl,q⟩
theorem ZiZ {d:Nat} (hu:X.A.units+d<cLine) (K:QZa) (hK:X.K=K:=by rfl):OpR X (compareOp .NotEq) (ZmC K d true):=by
 subst hK;intro pins s σ H x y v u Q I rx ry h;obtain ⟨b,e,q⟩:=h;exact (e.all I rx ry hu).2.2 _ _ _ _ ⟨.bl (!b),H,I,rfl,q⟩
end
end L2
namespace L2
open PySem PySem.Spec PyProof.Rows
section
variable {prog:Program} {w:World} {A:Around} {E:Value->Shared->Prop}
end
end L2
namespace L2
open PySem PySem.Spec PyProof.Rows
theorem EqD.cast {K:QZa} {H:Hp} {d:Nat} {x y:V} {b b':Bool} (h:EqD K H d x y b) (e:b=b'):EqD K H d x y b':=e ▸ h
theorem ZgQ {xs ys:List V}:(decide (xs.length=ys.length)&&(List.range xs.length).all fun j=>decide (j<ys.length)&&eqV (xs.getD j .non) (ys.getD j .non))=Y1 xs ys:=by
 by_cases hl:xs.length=ys.length
 ·rw [QZh hl,QCf,<- hl,ZeM,<- ZaZ hl];refine Bool.eq_iff_iff.mpr ?_;rw [QBg,QBg];refine forall_congr' fun j=>forall_congr' fun hj=>?_;have h1:=QZe.mp hj;have h2:j<ys.length:=by exact Om.a2 ‹_› ‹_›
  rw [QAb h1,QAb h2,QAc,QAc,QAb h1,QAb h2]
  rfl
 ·unfold Y1;rw [QZi hl,QCa,QCa]
theorem ZhC {xs:List V} (f:xs.all Z5=true) {j:Nat} {x:V} (h:xs[j]? = some x):Z5 x=true:=List.all_eq_true.mp f _ (QAt h)
section
variable {K:QZa} {H:Hp} {d:Nat} {a c:Addr} {xs ys:List V}
theorem ZkR (h1:SqT K H a xs) (h2:SqT K H c ys) (f1:xs.all Z5=true) (f2:ys.all Z5=true):EqD K H (d+1) (.ref a) (.ref c) (Y1 xs ys):=by
 rw [<- ZgQ];refine .tups h1 h2 fun j x y e1 e2=>?_;have g1:xs.getD j .non=x:=by rw [QAc,e1]; rfl
 have g2:ys.getD j .non=y:=by rw [QAc,e2]; rfl
 rw [g1,g2];exact .flat (ZhC f1 e1) (ZhC f2 e2)
theorem ZjR {n:Nat}:(decide (n=n)&&(List.range n).all fun j=>decide (j<n)&&true)=true:=by
 rw [QZh rfl,QCf,QBg];intro j hj;rw [QZh (QZe.mp hj)]
 rfl
theorem ZjF (h1:SqL K H a xs) (h2:SqL K H c ys) (hl:xs.length=ys.length) (he:∀ (j:Nat) x y,xs[j]? = some x->ys[j]? = some y->EqD K H d x y true):EqD K H (d+1) (.ref a) (.ref c) true:=by
 have:=EqD.lsts (e:=fun _=>true) h1 h2 fun _=>he
 rw [<- hl,ZjR] at this;exact this
end
end L2
namespace L2
open PySem PySem.Spec PyProof.Rows
structure Dfn (K:QZa) (mg:Str->Option Value) (x:Str) (st:Stmt) (ps:List Str) (f:Addr) (fd:FuncData):Prop where
 F:Fun K x x st f fd
 b:Binds K fd ps []
 m:mg x=some (.ref f)
section
variable {X:Cx}
theorem Zv (K:QZa) (h:X.K=K:=by rfl):Y5 X (.type "tuple") (fun xs H Q=>∃ p ys,xs=[.ref p]/\((SqL K H p ys/\∀ l,H l=none->Q (.ref l) (upd H l (.tup ys)))\/(SqT K H p ys/\Q (.ref p) H))):=by subst h; exact Zdi
theorem Za9 (K:QZa) (h:X.K=K:=by rfl):Y5 X (.type "list") (fun xs H Q=>∃ p ys,xs=[.ref p]/\(SqL K H p ys\/SqT K H p ys)/\∀ l,H l=none->Q (.ref l) (upd H l (.lst ys))):=by subst h; exact ZeJ
end
end L2
namespace L2
open PySem PySem.Spec PyProof.Rows
section
variable {M:Model} {A:Around} {E:Value->Shared->Prop} {s:Shared}
end
end L2
namespace L2
open PySem PySem.Spec PyProof.Rows PySem.W
section
variable {prog:Program} {w:World} {A:Around} {E:Value->Shared->Prop} {h:Heap} {g:Array GenState} {d:Drawn} {t:Nat} {os:OsState}
variable {nm q:Str} {C N:Addr} {bs bm bmB:List Value} {hdct:Bool} {sn:List Str} {sub:List Value} {ab:Bool} {col:Option Bool} {dd:Option Addr} {k0 k1 k2 k3 k5:Option Value} {B newId initId:String}
end
section
variable {prog:Program} {w:World} {A:Around} {E:Value->Shared->Prop} {K:Frag} {h:Heap} {g:Array GenState} {d:Drawn} {t:Nat} {os:OsState}
variable {nm q f:Str} {C N x:Addr} {bs bm:List Value} {sn:List Str} {sub:List Value} {ab:Bool} {col:Option Bool} {dd:Option Addr} {k0 k1 k2 k3 k5:Option Value} {newId:String} {o:Obj} {v:Value}
end
end L2
namespace L2
open PySem PySem.Spec PyProof.Rows
section
variable {X:Cx} {pins:List (Addr × Obj)} {σ:St} {H:Hp} {s:Shared}
end
section
variable {X:Cx} {o e value:Expr} {f:Str} {pos pos':Pos} {ta tv:TE}
end
section
variable {X:Cx} {k:Nat} {f C:Addr} {fd:FuncData} {ps:List Str} {sp:Sp} {x:Str} {p pos:Pos} {e:Expr} {es:List Expr} {t:TA}
end
end L2
namespace L2
open PySem PySem.Spec PyProof.Rows
section
variable {M:Model} {A:Around} {E:Value->Shared->Prop} {env:Env}
variable {nm q:Str} {C N:Addr} {bs bm:List Value} {hdct:Bool} {sn:List Str} {sub:List Value} {ab:Bool} {col:Option Bool} {dd:Option Addr} {k0 k1 k2 k3 k5:Option Value} {newId:String}
end
section
variable {P:Program} {w:World} {K:QZa} {mg:Str->Option Value} {base:Heap} {N:List Str} {qual:Str} {scope:Scope} {f:Addr} {cd:Value} {A:Around} {outer:List Env} {s₀:Shared} {H₀:Hp} {E:XK}
end
section
variable {P:Program} {w:World} {K:QZa} {mg:Str->Option Value} {base:Heap} {E:XK}
end
section
variable {X:Cx}
end
end L2
namespace L2
open PySem PySem.Spec PyProof.Rows
section
variable {X:Cx}
theorem JX:Y5 X (.type "range") (fun xs H Q=>∃ n:Nat,xs=[.int (n:Int)]/\∀ p,H p=none->Q (.ref p) (upd H p (.rng 0 n))):=by
 intro pins s σ H xs us Q I r h;obtain ⟨n,rfl,q⟩:=h;obtain ⟨u,rfl,rx⟩:=J1 r;obtain ⟨t,rfl⟩:=rx;refine call_range_1 ⟨.ref s.heap.objs.size,_,I.laid (t':=s.toks+1+1) (o:=.rng 0 n) (fun b o e=>QAk _ e) (QAd _) ⟨_,_,_,QAy _ rfl⟩,rfl,q _ (I.hok.fresh (QAd _))⟩
theorem ZeX:∀ (n:Nat) (its:List Value),its.length=n->(∀ (j:Nat) v,its[j]? = some v->∃ t,v = .int (j:Int) t)->Vals (rng n) its:=by
 have go:∀ (xs:List V) (its:List Value),xs.length=its.length->(∀ (j:Nat) x v,xs[j]? = some x->its[j]? = some v->RelV x v)->Vals xs its:=by
  intro xs
  induction xs with
  | nil =>
   intro its hl _
   cases its with
   | nil=>exact .nil
   | cons _ _=>cases hl
  | cons x xs ih =>
   intro its hl h
   cases its with
   | nil=>cases hl
   | cons v its=>exact .cons (h 0 x v rfl rfl) (ih its (Nat.succ.inj hl) fun j y u e1 e2=>h (j+1) y u (by simpa using e1) (by simpa using e2))
 intro n its hl h;refine go _ _ (by rw [Zu,hl]) fun j x v e1 e2=>?_;obtain ⟨_,rfl⟩:=Z6 e1;exact h j v e2
theorem Zc4 (hc:X.calm=true):Y5 X (.type "list") (fun xs H Q=>∃ (p:Addr) (n:Nat),xs=[.ref p]/\H p=some (.rng 0 n)/\n<=1000/\∀ l,H l=none->Q (.ref l) (upd H l (.lst (rng n)))):=by
 intro pins s σ H xs us Q I r h;obtain ⟨p,n,rfl,hp,hn,q⟩:=h;obtain ⟨u,rfl,rx⟩:=J1 r
 cases rx;obtain ⟨t,u,v,e⟩:=I.hok p _ hp;have e2:Builtin.Range.rangeSize 0 (n:Int) 1=n:=by rw [rangeSize_one]; split <;> omega
 refine call_list_range (n:=n) (I.ok.hd hc) e (small_one (by exact O493 ) (by exact O492 ) (by exact Om.c2) (by exact Om.c1 ‹_› rfl)) e2 (by exact Om.b1 ‹_› rfl) fun h' tk acc c' kp e' hi=>?_;refine ⟨.ref s.heap.objs.size,_,I.laid (t':=tk) kp (QAd _) (show ObjOk X.prog X.w _ h' _ (.lst (rng n)) from ⟨by rw [Zu]; exact Zy hn,acc.toList,c',ZeX n _ (by rw [QAw]; exact hi.1) fun j w ew=>?_,by rw [e']⟩),rfl,q _ (I.hok.fresh (QAd _))⟩;obtain ⟨t',ht⟩:=hi.2 j w (by simpa using ew);refine ⟨t',?_⟩;rw [ht,QBw,Int.mul_one]
end
theorem ZbM:fillsNumberSlot (.type "tuple") "mul" = pure false :=
 PySem.fillsNumberSlot_seq (id:="tuple.__mul__") (r:=some (.builtin "tuple.__rmul__")) PySem.F.slot_tuple_mul.lookup (by decide +kernel) PySem.F.slot_tuple_rmul.lookup (by decide +kernel)
theorem Zet:seqRepeat? (.type "tuple")=pure (some (.builtin "tuple.__mul__")):=by
 unfold seqRepeat?;rw [PySem.seqSlot_of (T:="tuple") (name:="__mul__") (id:="tuple.__mul__") PySem.F.slot_tuple_mul.lookup (by decide +kernel),PySem.seqSlot_of (T:="tuple") (name:="__rmul__") (id:="tuple.__rmul__") PySem.F.slot_tuple_rmul.lookup (by decide +kernel)]
 rfl
section
variable (l:Addr) (its:List Value) (n:Nat) (dd:Option Addr) (sl:Array (Option Value)) (k:Int) (t:Tok)
theorem Zgs:Meets (Builtin.«int.__rmul__» ⟨[.int k t,.ref l],[]⟩) (fun _ R s=>s.heap.get? l=some { cls:=.type "tuple",dict:=dd,data:=.seq its.toArray n,slots:=sl }/\R (.ok (.ret Value.notImplemented)) s) :=
 .of_wp fun prog w A R s h=>by
  obtain ⟨hp,g,d,tk,os⟩:=s;obtain ⟨hl,h⟩:=h
  wp_walk using wpAny_loadPart' hl
  exact ⟨_,rfl,h⟩
theorem ZjA:List.foldl (fun x1 x2=>x1++x2) #[] (List.replicate k.toNat its.toArray)=(List.replicate k.toNat its).flatten.toArray:=by
 have:=ZdN its k.toNat [];rw [List.nil_append] at this;exact this
theorem Zie (he:its≠[]) (hk:2<=k) (hk2:k<1000) (hz:its.length*k.toNat<=sizeLine) :
  Meets (Builtin.«tuple.__mul__» ⟨[.ref l,.int k t],[]⟩) (fun _ R s=>s.heap.get? l=some { cls:=.type "tuple",dict:=dd,data:=.seq its.toArray n,slots:=sl } /\
   R (.ok (.ret (Value.ref s.heap.objs.size))) { s with heap:=s.heap.push { cls:=.type "tuple",data:=.seq (List.replicate k.toNat its).flatten.toArray } }) :=
 .of_wp fun prog w A R s h=>by
  obtain ⟨hp,g,d,tk,os⟩:=s;obtain ⟨hl,h⟩:=h;have f1:=AutoSeq1.idx_int;have f2:=AutoSeq1.sub_tuple_tuple;have he':¬ its.toArray.isEmpty=true:=by simpa using he
  have e:((its.toArray.size*k.toNat:Nat):Int)=(its.toArray.size:Int)*k:=by rw [Int.natCast_mul,Int.toNat_of_nonneg (by exact O503 hk hk2)]
  have hz':its.toArray.size*k.toNat<=sizeLine:=by rw [QAg]; exact hz
  have b1:¬ (decide (k < -(2 ^ 63))||decide (k>=2 ^ 63))=true:=by
   rw [QZi (by exact O502 hk hk2),QZi (by exact O501 hk hk2)]
   decide
  have b2:¬ (its.toArray.isEmpty||k==1)=true:=by
   rw [QCp];rintro (z | z)
   ·exact he' z
   ·have:=beq_iff_eq.mp z; exact (O500 hk hk2 this).elim
  have b3:¬ (decide (k<=0)||its.toArray.isEmpty)=true:=by
   rw [QCp];rintro (z | z)
   ·have:=QZj z; exact (O499 hk hk2 this).elim
   ·exact he' z
  have b4:¬ ((its.toArray.size:Int)*k>(2 ^ 63 - 1) / 8):=by
   have z:(sizeLine:Int)<=(2 ^ 63 - 1) / 8:=by decide
   omega
  have b5:Builtin.Tuple.tupleTooMany ((its.toArray.size:Int)*k)=false:=by
   unfold Builtin.Tuple.tupleTooMany;rw [<- e];exact QZi (by exact O498 e hz')
  have b6:¬ ((List.replicate k.toNat its).flatten.toArray.size>sizeLine):=by
   rw [QAg,Zhs,Nat.mul_comm];exact O497 hz
  wp_walk using wpAny_loadPart' hl
  rw [if_neg b1]
  wp_walk using wpAny_loadPart' hl
  rw [if_neg b2]
  wp_walk using wpAny_loadPart' hl
  rw [if_neg b3]
  wp_walk using wpAny_loadPart' hl
  rw [if_neg b4]
  wp_walk using wpAny_loadPart' hl
  rw [ZjA,if_neg (by rw [b5]; exact QAl)]
  wp_walk using wpAny_loadPart' hl
  rw [if_neg b6]
  wp_walk using wpAny_loadPart' hl
  exact ⟨_,rfl,h⟩
end
noncomputable def Zmy:R2:=fun x y H Q=>∃ l k xs,x = .ref l/\y = .int k/\H l=some (.tup xs)/\xs≠[]/\2<=k/\k<1000/\xs.length*k.toNat<=sizeLine/\∀ p,H p=none->Q (.ref p) (upd H p (.tup (List.replicate k.toNat xs).flatten))
theorem Zkp {X:Cx}:OpR X (binaryOp .Mult) Zmy:=by
 intro pins s σ H x y v u Q I rx ry h;obtain ⟨l,k,xs,rfl,rfl,hH,hne,h1,h2,hz,q⟩:=h
 cases rx;obtain ⟨t,rfl⟩:=ry;obtain ⟨_,its,r,p⟩:=I.hok l _ hH;obtain ⟨⟨cls,dd,data,sl⟩,e,hc,n,hd⟩:=IsTupN.is p
 simp only at hc hd;subst hc hd;have hits:its≠[]:=fun z=>hne (by have:=r.length; rw [z] at this; exact List.length_eq_zero_iff.mp this)
 have hl:its.length*k.toNat<=sizeLine:=by rw [<- r.length]; exact hz
 refine wpAny_binaryOp_repeat_ref (T:="tuple") (U:="int") (by decide) ⟨_,e,rfl⟩ (fun s'=>typeIs_int s' k t) ZbM PySem.F.fills_int_mul PySem.F.slot_int_rmul Zet PySem.F.slot_int_index.lookup
  (call_meets PySem.F.slot_int_rmul (typeIs_int s k t) PySem.F.entry_int_rmul (PySem.F.args_int_rmul_2 _ _) (Zgs l its n dd sl k t)
   ⟨e,rfl,⟨_,e,rfl⟩,call_meets PySem.F.slot_tuple_mul ⟨_,e,rfl⟩ PySem.F.entry_tuple_mul (PySem.F.args_tuple_mul_2 _ _) (Zie l its n dd sl k t hits h1 h2 hl) ⟨e,?_⟩⟩)
 have hl2:(List.replicate k.toNat xs).flatten.length<=sizeLine:=by rw [Zhs,Nat.mul_comm]; exact hz
 exact ⟨.ref _,_,I.laid (t':=s.toks) (o:=.tup (List.replicate k.toNat xs).flatten) (fun _ _ q=>QAk _ q) (QAd _) ⟨hl2,_,r.rep k.toNat,IsTupN.new _ _⟩,rfl,q _ I.fresh⟩
end L2
namespace L2
open PySem PySem.Spec PyProof.Rows
section
variable {κ:Type} [DecidableEq κ]
end
section
variable {P:Program} {w:World} {H:Hp} {h:Heap} {a:Addr}
end
section
variable {X:Cx} {pins:List (Addr × Obj)} {σ:St} {H:Hp} {s:Shared} {a:Addr} {y v:V} {u r:Value} {o:Option V} {A:Around} {E:Value->Shared->Prop}
end
section
variable {X:Cx} {pins:List (Addr × Obj)} {σ:St} {H:Hp} {s:Shared} {a:Addr} {kvs:List (Key × V)} {k:Key} {u:Value} {A:Around} {E:Value->Shared->Prop}
end
section
variable {X:Cx} {o i e value:Expr} {pos pos' tpos:Pos} {td ty tv:TE}
end
section
variable {X:Cx} {pos:Pos}
end
section
variable {X:Cx} {pins:List (Addr × Obj)} {σ:St} {H:Hp} {s:Shared} {a:Addr} {y d:V} {u r:Value} {o:Option V} {A:Around} {E:Value->Shared->Prop}
end
section
variable {X:Cx} {o e f:Expr} {apos cpos:Pos} {td ty tx:TE}
end
section
variable {X:Cx} {pins:List (Addr × Obj)} {σ:St} {H:Hp} {s:Shared} {a:Addr} {kvs:List (Key × V)} {A:Around} {E:Value->Shared->Prop}
end
section
variable {X:Cx} {pins:List (Addr × Obj)} {σ:St} {H:Hp} {s:Shared} {a:Addr} {y:V} {u:Value} {A:Around} {E:Value->Shared->Prop}
end
end L2
namespace L2
open PySem PySem.Spec PyProof.Rows
section
variable {X:Cx}
end
section
variable {κ:Type} [DecidableEq κ]
end
end L2
namespace L2
open PySem PySem.Spec PyProof.Rows
section
variable {X:Cx} {es:List Expr} {te:TE} {t:TA} {p:Pos}
end
end L2
namespace L2
open PySem PySem.Spec PyProof.Rows
section
variable {X:Cx} {pins:List (Addr × Obj)} {σ:St} {H:Hp} {s:Shared} {a:Addr} {kvs:List (Key × V)}
end
noncomputable def Zkc (K:QZa):List V->Hp->VK->Prop:=fun xs H Q=>∃ (p:Addr) (ns:List Int),xs=[.ref p]/\SqL K H p (ns.map V.int)/\ns.length<64/\∀ (l:Addr) (ns':List Int),H l=none->ns'.Perm ns->ns'.Pairwise (· <= ·)->Q (.ref l) (upd H l (.lst (ns'.map V.int)))
theorem ZfD {X:Cx} (K:QZa) (hK:X.K=K:=by rfl):Y5 X (.builtin "sorted") (Zkc K):=by
 subst hK;intro pins s σ H xs us Q I r h;obtain ⟨p,ns,rfl,hq,hl,q⟩:=h;obtain ⟨u,rfl,rx⟩:=J1 r
 cases rx;obtain ⟨its,rv,ht,hz⟩:=I.list hq;have hlen:its.length=ns.length:=by rw [<- rv.length,QAa]
 refine sorted_ints (vs:=its) (ns:=ns) ht.isList (YC rv) (by rw [hlen]; exact hl) fun out ns' a1 a2 a3=>?_;obtain ⟨e,he⟩:=sortedAll_at s.heap its out;have hn:H (s.heap.objs.size+1)=none:=I.hok.fresh (QCk _);have vv:=ZaF a1;refine ⟨.ref (s.heap.objs.size+1),_,I.laid (t':=s.toks) (fun b o e=>sortedAll_old e) (QCk _) ?_,rfl,q _ ns' hn a2 a3⟩;exact ⟨QAs (m:=64) (by rw [QAa,a2.length_eq]; exact Om.d1 ‹_›) (by decide),out.toList,e,vv,by simpa using he⟩
end L2
namespace L2
open PySem PySem.Spec PyProof.Rows
end L2
namespace L2
open PySem PySem.Spec PyProof.Rows
section
variable {prog:Program} {w:World} {A:Around} {R:Result->Shared->Prop} {κ:Type} [DecidableEq κ] {knd:PySem.KeyKind prog w κ}
end
end L2
namespace L2
open PySem PySem.Spec PyProof.Rows
theorem ZjL {J:It} {n:Nat} {Y:Nat->Hp->V->Hp->Prop} {P:Hp->Prop} {g:TG} {tt:TT} {te:TE} {l:Addr} {QL:Hp->Prop} {σ0:St} {H0:Hp} (hgo:∀ i H, P H->i<n->J.go i H) (hy:∀ i H x H', P H->J.yld i H x H'->i<n->Y i H x H') (hst:∀ i H, P H->n<=i->J.stop i H)
    (Pv:Nat->List V->St->Hp->Prop) (h0:Pv 0 [] σ0 H0) (hP:∀ i ys σ H, Pv i ys σ H->P H/\H l=some (.lst ys))
    (hs:∀ i x ys σ H H2, i<n->Pv i ys σ H->Y i H x H2->Zbw g tt te x σ H2 fun o σ3 H5 => match o with
      | some y => H5 l=some (.lst ys)/\ys.length<sizeLine/\Pv (i+1) (ys++[y]) σ3 (upd H5 l (.lst (ys++[y])))
      | none => Pv (i+1) ys σ3 H5)
    (hd:∀ ys σ H, Pv n ys σ H->QL H) :
    ∃ W:Nat->Nat->List V->St->Hp->Prop, (∃ m, W 0 m [] σ0 H0) /\
    ∀ i m ys σ' H', W i m ys σ' H'->H' l=some (.lst ys) /\
      ((J.stop i H'/\QL H') \/
       (J.go i H'/\∃ N:List V->St->Hp->Prop, (∀ zs σ2 H2, N zs σ2 H2->∃ m', m'<m/\W (i+1) m' zs σ2 H2)/\∀ x H2, J.yld i H' x H2->g x σ' H2 fun σ3 H3 => tt σ3 H3 fun b H4 =>
          if b=true then te σ3 H4 fun y H5 => H5 l=some (.lst ys)/\ys.length<sizeLine/\N (ys++[y]) σ3 (upd H5 l (.lst (ys++[y])))
          else N ys σ3 H4)) := by
  refine ⟨fun i m ys σ H => m=n - i/\i<=n/\Pv i ys σ H, ⟨n, by simp, QAh _, h0⟩, ?_⟩;rintro i m ys σ H ⟨rfl, hi, p⟩;obtain ⟨hp, hl⟩ := hP i ys σ H p;refine ⟨hl, ?_⟩
  by_cases hlt:i<n
  · exact .inr ⟨hgo i H hp hlt, fun zs σ2 H2 => Pv (i+1) zs σ2 H2, fun zs σ2 H2 q => ⟨n - (i+1), by exact O405 hlt, rfl, hlt, q⟩, fun x H2 y => hs i x ys σ H H2 hlt p (hy i H x H2 hp y hlt)⟩
  · have e:i=n := by exact O495 hi hlt
    subst e;exact .inl ⟨hst _ H hp (QAd _), hd ys σ H p⟩
end L2
namespace L2
open PySem PySem.Spec PyProof.Rows
theorem Inv.turnedL {X:Cx} {pins:List (Addr × Obj)} {σ:St} {H:Hp} {s:Shared} {h':Heap} {t':Nat} {fp:List Addr} (I:Inv X pins σ H s) (k:∀ b o,b∉fp->s.heap.get? b=some o->h'.get? b=some o) (hf:∀ b∈fp,ZaC X pins H b):Inv X pins σ H { s with heap:=h',toks:=t' }:=by
 have nit:∀ b u,H b=some u->b∉fp:=fun b u e z=>by rw [(hf b z).1] at e; cases e
 refine I.step (g':=s.gens) (d':=s.drawn) (ch:=fp) (fun b hb=>?_) (fun b o _ _ hc e _=>k b o hc e) (fun b o _ _ hc e _=>⟨o.slots,k b o hc e⟩) (fun _ _ _ _ n=>n)
  (fun b o hc e=>⟨o,k b o hc e⟩) (fun _ _ e=>e) (fun _ _ _ e=>e) (fun b ps e=>⟨#[],by rw [e]; simp⟩) (fun m hm=>?_) (fun b u e=>?_) I.bare
 ·obtain ⟨f0,f1,f2,f3,f4,f5⟩:=hf b hb;exact ⟨f3,f1,f4,f5⟩
 ·obtain ⟨o,es,ep,ho,r⟩:=hm;exact ⟨o,es,ep,k _ o (fun z=>(hf _ z).2.1 rfl) ho,r⟩
 ·refine (I.hok b u e).stay (fun c v hc q=>k c v ?_ q) (fun _ q=>q) fun _ _ q=>q
  rcases hc with z | z
  ·rw [z]; exact nit b u e
  ·exact nit c _ z
end L2
namespace L2
open PySem PySem.Spec PyProof.Rows
theorem Zl7:bootBuiltins "zip" = some (Value.type "zip"):=by decide +kernel
end L2
namespace L2
open PySem PySem.Spec PyProof.Rows
section
variable {prog:Program} {w:World} {A:Around} {E:Value->Shared->Prop} {s:Shared}
theorem Za3 {it t:Addr} {i:Nat} {vs:Array Value} {x:Value} {Q:Value->Shared->Prop} (gi:s.heap.IsTupleIter it t i) (gt:s.heap.IsTuple t vs) (hx:vs[i]? = some x)
  (q:∀ h',h'.IsTupleIter it t (i+1)->Heap.SameBut it s.heap h'->Q x { s with heap:=h' }):wpAny (model prog w) A (Builtin.SmallTypes.nextOf (.ref it)) Q E s:=by
 obtain ⟨o,eo,co,d⟩:=id gi;obtain ⟨ot,et,_,nt,dt⟩:=gt;unfold Builtin.SmallTypes.nextOf;refine QZq (wpAny_callSpecial?_slot (name:=Str.ofString "__next__") gi.typeIs PySem.F.slot_tuple_iterator_next (wpAny_call_entry PySem.F.slot_tuple_iterator_next gi.typeIs PySem.F.entry_tuple_iterator_next ?_ (PySem.F.args_tuple_iterator_next_1 _)));refine QZq (m:=field (.ref it) 0) (wpAny_field eo d (x:=.ref t) rfl ?_);refine (if_neg (show ¬ ((Value.ref t==Value.none)=true) from QAl)).symm ▸ QZq (m:=field (.ref it) 1) (wpAny_field eo d (x:=.int i 0) rfl (QZq (m:=seqItems? (.ref t)) (wpAny_seqItems et dt ?_)))
 simp only [QAf,hx];refine QZq (wpAny_setField eo d (by simp) (QZr ⟨x,rfl,QZr (q _ ⟨_,Heap.get?_update_self _ eo (Obj.isFreed_of_fields (Obj.data_mapFields d _)),(Obj.cls_mapFields ..).trans co,?_⟩ (Heap.SameBut.update ..))⟩));rw [Obj.data_mapFields d]
 simp [rawInt]
theorem ZdD {it t:Addr} {i:Nat} {vs:Array Value} {Q:Value->Shared->Prop} (hh:A.handled=none) (gi:s.heap.IsTupleIter it t i) (gt:s.heap.IsTuple t vs) (hx:vs[i]? = none)
  (q:∀ h' e,Heap.ExtBut it s.heap h'->(∃ o,h'.get? e=some o/\o.cls = .type "StopIteration")->E (.ref e) { s with heap:=h' }):wpAny (model prog w) A (Builtin.SmallTypes.nextOf (.ref it)) Q E s:=by
 obtain ⟨o,eo,co,d⟩:=id gi;obtain ⟨ot,et,_,nt,dt⟩:=gt;unfold Builtin.SmallTypes.nextOf;refine QZq (wpAny_callSpecial?_slot (name:=Str.ofString "__next__") gi.typeIs PySem.F.slot_tuple_iterator_next (wpAny_call_entry PySem.F.slot_tuple_iterator_next gi.typeIs PySem.F.entry_tuple_iterator_next ?_ (PySem.F.args_tuple_iterator_next_1 _)));refine QZq (m:=field (.ref it) 0) (wpAny_field eo d (x:=.ref t) rfl ?_);refine (if_neg (show ¬ ((Value.ref t==Value.none)=true) from QAl)).symm ▸ QZq (m:=field (.ref it) 1) (wpAny_field eo d (x:=.int i 0) rfl (QZq (m:=seqItems? (.ref t)) (wpAny_seqItems et dt ?_)))
 simp only [QAf,hx];refine QZq (wpAny_rule (QZq (wpAny_setField eo d (by simp) (QZq (m:=newExc (.type "StopIteration") []) ?_))))
 simp only [newExc,newTuple];refine QZq (wpAny_newObj_type (QZq (m:=firstArgMember _ _) (wpAny_of_eq (a:=Value.none) (by first | rfl | (simp only [firstArgMember]; rfl)) (wpAny_newObj_type ?_ (by size_fits)))) (by size_fits))
 simp only [raiseNew];refine QZq (wpAny_handled ?_);rw [show A.in1.handled=none from hh];exact QZq (QZr (wpAny_throw (q _ _ (((Heap.SameBut.update ..).extBut.push _).push _) ⟨_,QAy _ rfl,rfl⟩)))
theorem ZhV {z ti to i1 i2 l1 l2:Addr} {k1 k2:Nat} {xs ys:Array Value} {x y a b:Value} {Q:Value->Shared->Prop} (D:ZipApart z ti to i1 i2 l1 l2) (gz:IsZip s.heap z ti to .none) (gi:IsPair s.heap ti (.ref i1) (.ref i2)) (go:IsPair s.heap to a b)
  (g1:s.heap.IsTupleIter i1 l1 k1) (g2:s.heap.IsTupleIter i2 l2 k2) (t1:s.heap.IsTuple l1 xs) (t2:s.heap.IsTuple l2 ys) (hx:xs[k1]? = some x) (hy:ys[k2]? = some y)
  (q:∀ h',IsZip h' z ti to (rawInt s.heap.objs.size)->IsPair h' to x y->h'.IsTupleIter i1 l1 (k1+1)->h'.IsTupleIter i2 l2 (k2+1)->IsPair h' s.heap.objs.size x y ->
   (∀ c o,c≠z->c≠to->c≠i1->c≠i2->s.heap.get? c=some o->h'.get? c=some o)->Q (.ref s.heap.objs.size) { s with heap:=h' }) :
  wpAny (model prog w) A (Builtin.«zip.__next__» ⟨[.ref z],[]⟩) (fun fin s'=>∃ v,fin = .done (.ret v)/\Q v s') E s:=by
 refine QZq (m:=field (.ref z) 2) (wpAny_field gz rfl (x:=.bool false) rfl ?_);refine QZq (m:=field (.ref z) 3) (wpAny_field gz rfl (x:=.ref ti) rfl (QZq (wpAny_seqItems gi rfl ?_)));refine QZq (m:=Builtin.SmallTypes.ownedTupleIsFree (.ref z)) ?_;unfold Builtin.SmallTypes.ownedTupleIsFree;refine QZq (wpAny_field gz rfl (x:=.none) rfl (QZr ?_))
 simp only [if_true];refine QZq (wpAny_rule (QZq (wpAny_field gz rfl (x:=.ref to) rfl (QZq (wpAny_setField_rec gz (by simp) fun ha za sa=>QZq ?_)))))
 replace za:IsZip ha z ti to .ellipsis:=za
 simp only [List.zipIdx_cons,List.zipIdx_nil,List.forIn_cons,List.forIn_nil];refine QZq (QZq (wpAny_onRaise (QZq (m:=Builtin.SmallTypes.nextOf (.ref i1)) ?_)));refine Za3 (g1.extBut sa.extBut D.i1z) (t1.extBut sa.extBut D.l1z) hx fun hb g1b sb=>QZr ?_
 have ob:IsPair hb to a b:=sb.extBut _ _ D.TOi1 (sa.extBut _ _ D.TOz go);refine QZq (wpAny_seqItems ob rfl (QZq (wpAny_updateSeq_pair ob fun hc oc sc=>QZq (wpAny_letGo (QZr ?_)))))
 replace oc:IsPair hc to x b:=oc
 refine QZq (QZq (wpAny_onRaise (QZq (m:=Builtin.SmallTypes.nextOf (.ref i2)) ?_)));refine Za3 (((g2.extBut sa.extBut D.i2z).extBut sb.extBut D.i12.symm).extBut sc.extBut D.TOi2.symm) (((t2.extBut sa.extBut D.l2z).extBut sb.extBut D.l2i1).extBut sc.extBut D.l2TO) hy fun hd g2d sd=>QZr ?_
 have od:IsPair hd to x b:=sd.extBut _ _ D.TOi2 oc;refine QZq (wpAny_seqItems od rfl (QZq (wpAny_updateSeq_pair od fun he oe se=>QZq (wpAny_letGo (QZr (QZr ?_))))))
 replace oe:IsPair he to x y:=oe
 refine QZq (wpAny_seqItems oe rfl (QZq (wpAny_newTuple ?_)));have ze:IsZip he z ti to .ellipsis:=se.extBut _ _ D.TOz.symm (sd.extBut _ _ D.i2z.symm (sc.extBut _ _ D.TOz.symm (sb.extBut _ _ D.i1z.symm za)));have hsz:he.objs.size=s.heap.objs.size:=by rw [se.1,sd.1,sc.1,sb.1,sa.1]
 have zlt:z<he.objs.size:=QAi ze;have g1e:he.IsTupleIter i1 l1 (k1+1):=((g1b.extBut sc.extBut D.TOi1.symm).extBut sd.extBut D.i12).extBut se.extBut D.TOi1.symm;have g2e:he.IsTupleIter i2 l2 (k2+1):=g2d.extBut se.extBut D.TOi2.symm;refine QZq (m:=Builtin.SmallTypes.ownedTupleHandOut (.ref z) (.ref he.objs.size)) ?_;unfold Builtin.SmallTypes.ownedTupleHandOut;have zf:IsZip (he.push { cls:=.type "tuple",data:=.seq #[x,y] }) z ti to .ellipsis:=QAk _ ze;refine QZq (wpAny_setField_rec zf (by simp) fun hg zg sg=>?_)
 replace zg:IsZip hg z ti to (rawInt he.objs.size):=zg
 refine wpAny_setField_rec zg (by simp) fun hk zk sk=>QZr ⟨_,rfl,?_⟩
 replace zk:IsZip hk z ti to (rawInt he.objs.size):=zk
 have up:∀ c o,c≠z->he.get? c=some o->hk.get? c=some o:=fun c o n e=>sk.extBut _ _ n (sg.extBut _ _ n (QAk _ e))
 have pk:IsPair hk he.objs.size x y:=sk.extBut _ _ (Nat.ne_of_gt zlt) (sg.extBut _ _ (Nat.ne_of_gt zlt) (QAy _ rfl));show Q (.ref he.objs.size) _;rw [hsz] at zk pk ⊢;refine q hk zk (up _ _ D.TOz oe) ?_ ?_ pk fun c o n1 n2 n3 n4 e=>up c o n1 (se.extBut _ _ n2 (sd.extBut _ _ n4 (sc.extBut _ _ n2 (sb.extBut _ _ n3 (sa.extBut _ _ n1 e)))))
 ·exact let ⟨o,e,r⟩:=g1e; ⟨o,up _ o D.i1z e,r⟩
 ·exact let ⟨o,e,r⟩:=g2e; ⟨o,up _ o D.i2z e,r⟩
theorem Zis {z ti to i1 i2 l1 l2:Addr} {k1 k2:Nat} {xs ys:Array Value} {a b:Value} {Q:Fin->Shared->Prop} (hh:A.handled=none) (D:ZipApart z ti to i1 i2 l1 l2) (gz:IsZip s.heap z ti to .none) (gi:IsPair s.heap ti (.ref i1) (.ref i2)) (go:IsPair s.heap to a b)
  (g1:s.heap.IsTupleIter i1 l1 k1) (g2:s.heap.IsTupleIter i2 l2 k2) (t1:s.heap.IsTuple l1 xs) (t2:s.heap.IsTuple l2 ys) (hend:xs[k1]? = none\/ys[k2]? = none)
  (q:∀ h' e,(∀ c o,c≠z->c≠to->c≠i1->c≠i2->s.heap.get? c=some o->h'.get? c=some o)->(∃ o,h'.get? e=some o/\o.cls = .type "StopIteration")->E (.ref e) { s with heap:=h' }) :
  wpAny (model prog w) A (Builtin.«zip.__next__» ⟨[.ref z],[]⟩) Q E s:=by
 refine QZq (m:=field (.ref z) 2) (wpAny_field gz rfl (x:=.bool false) rfl ?_);refine QZq (m:=field (.ref z) 3) (wpAny_field gz rfl (x:=.ref ti) rfl (QZq (wpAny_seqItems gi rfl ?_)));refine QZq (m:=Builtin.SmallTypes.ownedTupleIsFree (.ref z)) ?_;unfold Builtin.SmallTypes.ownedTupleIsFree;refine QZq (wpAny_field gz rfl (x:=.none) rfl (QZr ?_))
 simp only [if_true];refine QZq (wpAny_rule (QZq (wpAny_field gz rfl (x:=.ref to) rfl (QZq (wpAny_setField_rec gz (by simp) fun ha za sa=>QZq ?_)))))
 replace za:IsZip ha z ti to .ellipsis:=za
 simp only [List.zipIdx_cons,List.zipIdx_nil,List.forIn_cons,List.forIn_nil];refine QZq (QZq (wpAny_onRaise (QZq (m:=Builtin.SmallTypes.nextOf (.ref i1)) ?_)))
 cases hx:xs[k1]? with
 | none =>
  refine ZdD hh (g1.extBut sa.extBut D.i1z) (t1.extBut sa.extBut D.l1z) hx fun hb e sb zz0=>?_;obtain ⟨oe,ee,ce⟩:=zz0;have zb:IsZip hb z ti to .ellipsis:=sb _ _ D.i1z.symm za;have ne:e≠z:=fun u=>by subst u; rw [zb] at ee; cases ee; simp at ce
  exact wpAny_setField_rec zb (by simp) fun hc _ sc=>q hc e (fun c o n1 _ n3 _ u=>sc.extBut _ _ n1 (sb _ _ n3 (sa.extBut _ _ n1 u))) ⟨oe,sc.extBut _ _ ne ee,ce⟩
 | some x =>
  have hy:ys[k2]? = none:=by
   rcases hend with u | u
   ·rw [hx] at u; cases u
   ·exact u
  refine Za3 (g1.extBut sa.extBut D.i1z) (t1.extBut sa.extBut D.l1z) hx fun hb g1b sb=>QZr ?_
  have ob:IsPair hb to a b:=sb.extBut _ _ D.TOi1 (sa.extBut _ _ D.TOz go);refine QZq (wpAny_seqItems ob rfl (QZq (wpAny_updateSeq_pair ob fun hc oc sc=>QZq (wpAny_letGo (QZr ?_)))));refine QZq (QZq (wpAny_onRaise (QZq (m:=Builtin.SmallTypes.nextOf (.ref i2)) ?_)));refine ZdD hh (((g2.extBut sa.extBut D.i2z).extBut sb.extBut D.i12.symm).extBut sc.extBut D.TOi2.symm) (((t2.extBut sa.extBut D.l2z).extBut sb.extBut D.l2i1).extBut sc.extBut D.l2TO) hy fun hd e sd zz0=>?_;obtain ⟨oe,ee,ce⟩:=zz0;have zd:IsZip hd z ti to .ellipsis:=sd _ _ D.i2z.symm (sc.extBut _ _ D.TOz.symm (sb.extBut _ _ D.i1z.symm za));have ne:e≠z:=fun u=>by subst u; rw [zd] at ee; cases ee; simp at ce
  exact wpAny_setField_rec zd (by simp) fun he _ se=>q he e (fun c o n1 n2 n3 n4 u=>se.extBut _ _ n1 (sd _ _ n4 (sc.extBut _ _ n2 (sb.extBut _ _ n3 (sa.extBut _ _ n1 u))))) ⟨oe,se.extBut _ _ ne ee,ce⟩
noncomputable abbrev zt1 (h:Heap) (l1:Addr):Heap:=h.push { cls:=.type "tuple_iterator",data:=.fields #[.ref l1,.int 0 0] }
noncomputable abbrev zt2 (h:Heap) (l1 l2:Addr):Heap:=(zt1 h l1).push { cls:=.type "tuple_iterator",data:=.fields #[.ref l2,.int 0 0] }
noncomputable abbrev zt3 (h:Heap) (l1 l2:Addr):Heap:=(zt2 h l1 l2).push { cls:=.type "tuple",data:=.seq #[.ref h.objs.size,.ref (zt1 h l1).objs.size] }
noncomputable abbrev zt4 (h:Heap) (l1 l2:Addr):Heap:=(zt3 h l1 l2).push { cls:=.type "tuple",data:=.seq #[.none,.none] }
noncomputable abbrev zt5 (h:Heap) (l1 l2:Addr):Heap:=(zt4 h l1 l2).push { cls:=.type "zip",data:=.fields #[.none,.bool false,.bool false,.ref (zt2 h l1 l2).objs.size,.ref (zt3 h l1 l2).objs.size] }
theorem ZgI (l1 l2:Addr) (xs ys:Array Value):Meets (Builtin.«zip.__new__» ⟨[.type "zip",.ref l1,.ref l2],[]⟩) (fun _ R s=>s.heap.IsTuple l1 xs/\s.heap.IsTuple l2 ys/\R (.ok (.ret (.ref (zt4 s.heap l1 l2).objs.size))) { s with heap:=zt5 s.heap l1 l2 }) :=
 .of_wp fun prog w A R s h=>by
  obtain ⟨hp,g,d,tk,os⟩:=s;obtain ⟨t1,t2,h⟩:=h;have hsub:=sub_zip;have u1:Heap.IsTuple (Shared.heap ⟨hp,g,d,tk,os⟩) l1 xs:=t1;have u2:Heap.IsTuple (Shared.heap ⟨hp.push { cls:=.type "tuple_iterator",data:=.fields #[.ref l1,.int 0 0] },g,d,tk,os⟩) l2 ys:=Heap.IsTuple.push t2 _
  wp_walk using wpAny_pyIter_tuple u1,wpAny_pyIter_tuple u2
  exact ⟨_,rfl,h⟩
theorem Zin {l1 l2:Addr} {xs ys:Array Value} {Q:Value->Shared->Prop} (t1:s.heap.IsTuple l1 xs) (t2:s.heap.IsTuple l2 ys)
  (h:∀ h',IsZip h' (s.heap.objs.size+4) (s.heap.objs.size+2) (s.heap.objs.size+3) .none->IsPair h' (s.heap.objs.size+2) (.ref s.heap.objs.size) (.ref (s.heap.objs.size+1))->IsPair h' (s.heap.objs.size+3) .none .none ->
   h'.IsTupleIter s.heap.objs.size l1 0->h'.IsTupleIter (s.heap.objs.size+1) l2 0->(∀ c o,s.heap.get? c=some o->h'.get? c=some o)->Q (.ref (s.heap.objs.size+4)) { s with heap:=h' }) :
  wpAny (model prog w) A (call (.type "zip") [.ref l1,.ref l2]) Q E s:=by
 refine callType_new PySem.F.called_zip (by decide) (PySem.F.typeCall_zip_2 _ _) (PySem.F.newCall_zip_2 _ _) (fun obj=>PySem.F.args_object_init_3 obj _ _) PySem.F.entry_zip_new (ZgI l1 l2 xs ys) ⟨t1,t2,?_⟩;have z1:(zt1 s.heap l1).objs.size=s.heap.objs.size+1:=QCl ..;have z2:(zt2 s.heap l1 l2).objs.size=s.heap.objs.size+2:=by rw [QCl,z1]
 have z3:(zt3 s.heap l1 l2).objs.size=s.heap.objs.size+3:=by rw [QCl,z2]
 have z4:(zt4 s.heap l1 l2).objs.size=s.heap.objs.size+4:=by rw [QCl,z3]
 have p5:∀ c o,(zt4 s.heap l1 l2).get? c=some o->(zt5 s.heap l1 l2).get? c=some o:=fun c o e=>QAk _ e
 have p4:∀ c o,(zt3 s.heap l1 l2).get? c=some o->(zt5 s.heap l1 l2).get? c=some o:=fun c o e=>p5 c o (QAk _ e)
 have p3:∀ c o,(zt2 s.heap l1 l2).get? c=some o->(zt5 s.heap l1 l2).get? c=some o:=fun c o e=>p4 c o (QAk _ e)
 have p2:∀ c o,(zt1 s.heap l1).get? c=some o->(zt5 s.heap l1 l2).get? c=some o:=fun c o e=>p3 c o (QAk _ e)
 have g5:(zt5 s.heap l1 l2).get? (zt4 s.heap l1 l2).objs.size=some _:=QAy _ rfl;have g4:(zt5 s.heap l1 l2).get? (zt3 s.heap l1 l2).objs.size=some _:=p5 _ _ (QAy _ rfl);have g3:(zt5 s.heap l1 l2).get? (zt2 s.heap l1 l2).objs.size=some _:=p4 _ _ (QAy _ rfl);have g2:(zt5 s.heap l1 l2).get? (zt1 s.heap l1).objs.size=some _:=p3 _ _ (QAy _ rfl);have g1:(zt5 s.heap l1 l2).get? s.heap.objs.size=some _:=p2 _ _ (QAy _ rfl);show _/\_;rw [z2,z3,z4] at g5;rw [z1,z2] at g3;rw [z3] at g4;rw [z1] at g2;rw [z4];exact ⟨⟨_,g5,rfl⟩,h _ g5 g3 g4 ⟨_,g1,rfl,rfl⟩ ⟨_,g2,rfl,rfl⟩ fun c o e=>p2 c o (QAk _ e)⟩
theorem Zff {z ti to i1 i2 l1 l2:Addr} {k1 k2:Nat} {xs ys:Array Value} {x y a b:Value} {Q:Option Value->Shared->Prop} (D:ZipApart z ti to i1 i2 l1 l2) (gz:IsZip s.heap z ti to .none) (gi:IsPair s.heap ti (.ref i1) (.ref i2)) (go:IsPair s.heap to a b)
  (g1:s.heap.IsTupleIter i1 l1 k1) (g2:s.heap.IsTupleIter i2 l2 k2) (t1:s.heap.IsTuple l1 xs) (t2:s.heap.IsTuple l2 ys) (hx:xs[k1]? = some x) (hy:ys[k2]? = some y)
  (q:∀ h',IsZip h' z ti to (rawInt s.heap.objs.size)->IsPair h' to x y->h'.IsTupleIter i1 l1 (k1+1)->h'.IsTupleIter i2 l2 (k2+1)->IsPair h' s.heap.objs.size x y ->
   (∀ c o,c≠z->c≠to->c≠i1->c≠i2->s.heap.get? c=some o->h'.get? c=some o)->Q (some (.ref s.heap.objs.size)) { s with heap:=h' }):wpAny (model prog w) A (pyNext (.ref z)) Q E s:=by
 have hT:s.TypeIs (.ref z) "zip":=⟨_,gz,rfl⟩;unfold pyNext;exact QZq (wpAny_attempt (wpAny_callSpecial?_slot (name:=Str.ofString "__next__") hT PySem.F.slot_zip_next (wpAny_call_entry PySem.F.slot_zip_next hT PySem.F.entry_zip_next (ZhV D gz gi go g1 g2 t1 t2 hx hy fun h' a1 a2 a3 a4 a5 a6=>QZr (q h' a1 a2 a3 a4 a5 a6)) (PySem.F.args_zip_next_1 _))))
theorem ZgH {z ti to i1 i2 l1 l2:Addr} {k1 k2:Nat} {xs ys:Array Value} {a b:Value} {Q:Option Value->Shared->Prop} (hh:A.handled=none) (D:ZipApart z ti to i1 i2 l1 l2) (gz:IsZip s.heap z ti to .none) (gi:IsPair s.heap ti (.ref i1) (.ref i2)) (go:IsPair s.heap to a b)
  (g1:s.heap.IsTupleIter i1 l1 k1) (g2:s.heap.IsTupleIter i2 l2 k2) (t1:s.heap.IsTuple l1 xs) (t2:s.heap.IsTuple l2 ys) (hend:xs[k1]? = none\/ys[k2]? = none)
  (q:∀ h',(∀ c o,c≠z->c≠to->c≠i1->c≠i2->s.heap.get? c=some o->h'.get? c=some o)->Q none { s with heap:=h' }):wpAny (model prog w) A (pyNext (.ref z)) Q E s:=by
 have hT:s.TypeIs (.ref z) "zip":=⟨_,gz,rfl⟩;unfold pyNext;refine QZq (wpAny_attempt (wpAny_callSpecial?_slot (name:=Str.ofString "__next__") hT PySem.F.slot_zip_next (wpAny_call_entry PySem.F.slot_zip_next hT PySem.F.entry_zip_next (Zis hh D gz gi go g1 g2 t1 t2 hend fun h' e k ⟨o,eo,co⟩=>?_) (PySem.F.args_zip_next_1 _))));exact QZq (wpAny_isInstance (T:="StopIteration") (b:=true) ⟨o,eo,co⟩ isSubtype_stop (QZr (q _ k)))
end
noncomputable def ZmY (K:QZa) (l1 l2:Addr):It :=
  ⟨fun i H => ∃ xs ys x y, SqT K H l1 xs/\SqT K H l2 ys/\xs[i]? = some x/\ys[i]? = some y,
   fun i H v H' => ∃ p x y, v = .ref p/\H p=none/\(∀ xs, SqT K H l1 xs->xs[i]? = some x)/\(∀ ys, SqT K H l2 ys->ys[i]? = some y)/\H'=upd H p (.tup [x, y]),
   fun i H => ∃ xs ys, SqT K H l1 xs/\SqT K H l2 ys/\(xs.length<=i\/ys.length<=i)⟩
structure Zno (z TI TO i1 i2 l1 l2:Addr) (i:Nat) (h:Heap):Prop where
 z:IsZip h z TI TO .none
 ti:IsPair h TI (.ref i1) (.ref i2)
 to:∃ a b,IsPair h TO a b
 i1:h.IsTupleIter i1 l1 i
 i2:h.IsTupleIter i2 l2 i
theorem ZeB {h h':Heap} {a t:Addr} {i:Nat} (x:h.IsTupleIter a t i) (k:∀ o,h.get? a=some o->h'.get? a=some o):h'.IsTupleIter a t i:=let ⟨o,e,r⟩:=x; ⟨o,k o e,r⟩
theorem ZhX {P:Program} {w:World} {K:QZa} {elts:List Expr} {x1} {tpos:Pos} {z TI TO i1 i2 l1 l2:Addr} (D:ZipApart z TI TO i1 i2 l1 l2):Turn P w K (.Tuple elts x1 tpos) (ZmY K l1 l2) [z,TI,TO,i1,i2] z (fun i h=>Zno z TI TO i1 i2 l1 l2 i h) where
 mem:=by simp
 obj:=fun i h st b hb=>by
  simp only [QBq,QCb,or_false] at hb
  rcases hb with rfl | rfl | rfl | rfl | rfl
  ·exact ⟨_,st.z,fun v q=>by cases q⟩
  ·exact ⟨_,st.ti,fun v q=>by cases q⟩
  ·obtain ⟨a,b,e⟩:=st.to;exact ⟨_,e,fun v q=>by cases q⟩
  ·obtain ⟨o,e,c,d⟩:=st.i1;exact ⟨o,e,fun v q=>by rw [d] at q; cases q⟩
  ·obtain ⟨o,e,c,d⟩:=st.i2;exact ⟨o,e,fun v q=>by rw [d] at q; cases q⟩
 keep:=fun i h h' st k=>⟨k z (by simp) _ st.z,k TI (by simp) _ st.ti,let ⟨a,b,e⟩:=st.to; ⟨a,b,k TO (by simp) _ e⟩,ZeB st.i1 fun o e=>k i1 (by simp) o e,ZeB st.i2 fun o e=>k i2 (by simp) o e⟩
 item:=by
  intro X hP hw hK hc i pins s σ H E I hf st hg;subst hP hw hK;obtain ⟨xs,ys,x,y,hq1,hq2,hx,hy⟩:=hg;obtain ⟨its1,rv1,p1,hz1⟩:=I.tuple hq1;obtain ⟨its2,rv2,p2,hz2⟩:=I.tuple hq2;obtain ⟨u,hu,ru⟩:=rv1.get hx;obtain ⟨v,hv,rv⟩:=rv2.get hy;obtain ⟨a,b,hTO⟩:=st.to;refine Zff D st.z st.ti hTO st.i1 st.i2 p1 p2 (x:=u) (y:=v) (by simpa using hu) (by simpa using hv) fun h' z1 to1 j1 j2 htup keep=>⟨_,rfl,?_⟩
  refine wpAny_letOwnedTupleGo_zip (s:={ s with heap:=h' }) z1 fun h2 z2 sb=>?_;have hnone:H s.heap.objs.size=none:=I.hok.fresh (QAd _);have hfp:∀ c∈[z,TI,TO,i1,i2],c<s.heap.objs.size:=fun c hc=>by
   simp only [QBq,QCb,or_false] at hc
   rcases hc with rfl | rfl | rfl | rfl | rfl
   ·exact QAi st.z
   ·exact QAi st.ti
   ·exact QAi hTO
   ·obtain ⟨o,e,_⟩:=st.i1; exact QAi e
   ·obtain ⟨o,e,_⟩:=st.i2; exact QAi e
  have I1:Inv X pins σ (upd H s.heap.objs.size (.tup [x,y])) { s with heap:=s.heap.push { cls:=.type "tuple",data:=.seq #[u,v] } } :=
   I.laid (t':=s.toks) (fun b u e=>QAk _ e) (QAd _) ⟨(show 2<=sizeLine by decide),[u,v],.cons ru (.cons rv .nil),⟨_,QAy _ rfl,rfl,_,rfl⟩⟩
  have hkk:∀ c o,c∉[z,TI,TO,i1,i2]->(s.heap.push { cls:=.type "tuple",data:=.seq #[u,v] }).get? c=some o->h2.get? c=some o:=fun c o hc e=>by
   simp only [QBq,QCb,or_false,not_or] at hc;rw [sb.2 c hc.1]
   by_cases q:c=s.heap.objs.size
   ·subst q;rw [QAy _ rfl] at e
    cases e;exact htup
   ·rw [Heap.get?_push_ne _ _ _ q] at e;exact keep c o hc.1 hc.2.2.1 hc.2.2.2.1 hc.2.2.2.2 e
  have hf':∀ c∈[z,TI,TO,i1,i2],ZaC X pins (upd H s.heap.objs.size (.tup [x,y])) c:=fun c hc=>by
   obtain ⟨f0,r⟩:=hf c hc;exact ⟨by rw [Zg (QAz (hfp c hc))]; exact f0,r⟩
  have I2:Inv X pins σ (upd H s.heap.objs.size (.tup [x,y])) { s with heap:=h2 }:=I1.turnedL (t':=s.toks) hkk hf';refine ⟨.ref s.heap.objs.size,_,I2,rfl,⟨_,x,y,rfl,hnone,fun l h=>by rw [I.tuple_inj h hq1]; exact hx,fun l h=>by rw [I.tuple_inj h hq2]; exact hy,rfl⟩,?_,fun c hc=>(hf' c hc).1⟩;exact ⟨z2,(sb.2 TI D.TIz).trans (keep TI _ D.TIz D.TITO D.TIi1 D.TIi2 st.ti),⟨u,v,(sb.2 TO D.TOz).trans to1⟩,ZeB j1 fun o e=>(sb.2 i1 D.i1z).trans e,ZeB j2 fun o e=>(sb.2 i2 D.i2z).trans e⟩
 done:=by
  intro X hP hw hK hc i pins s σ H E I hf st hg;subst hP hw hK;obtain ⟨xs,ys,hq1,hq2,hend⟩:=hg;obtain ⟨its1,rv1,p1,hz1⟩:=I.tuple hq1;obtain ⟨its2,rv2,p2,hz2⟩:=I.tuple hq2;obtain ⟨a,b,hTO⟩:=st.to;have h1:=rv1.length;have h2:=rv2.length;refine ZgH (I.ok.hd hc) D st.z st.ti hTO st.i1 st.i2 p1 p2 (hend.imp (fun h=>by simp; exact O496 h1 h) fun h=>by simp; exact O496 h2 h) fun h' keep=>⟨rfl,I.turnedL (t':=s.toks) (fun c o hc e=>?_) hf⟩
  simp only [QBq,QCb,or_false,not_or] at hc;exact keep c o hc.1 hc.2.2.1 hc.2.2.2.1 hc.2.2.2.2 e
 self:=fun _ _ _ _ _ st h=>wpAny_pyIter_zip st.z h
noncomputable def ZmI (K:QZa) (ta:TA):TI:=fun σ H R=>ta σ H fun vs H1=>∃ l1 l2 xs ys,vs=[.ref l1,.ref l2]/\SqT K H1 l1 xs/\SqT K H1 l2 ys/\R (ZmY K l1 l2) H1
theorem Zhj {X:Cx} {elts:List Expr} {x1} {tpos:Pos} {a b:Expr} {ta:TA} {p pos:Pos} (K:QZa) (hg:Gl X "zip") (hm:X.mg "zip" = none) (ha:PA X [a,b] ta) (hK:X.K=K:=by rfl) (hs:starEach [a,b] X.env=[(false,eval a X.env),(false,eval b X.env)]:=by rfl) (hs2:starEach [b] X.env=[(false,eval b X.env)]:=by rfl) :
  PI X (.Tuple elts x1 tpos) (.Call (.Name "zip" p) [a,b] [] pos) (ZmI K ta):=by
 subst hK;intro pins s σ H R I h;refine Call_ (Za6 I hg hm Zl7 (PyProof.Rows.callWith_type1 (thn (ha pos pins s σ H _ I h) fun us s1 zz0=>?_) (by rw [hs,hs2]) (by rw [hs2]; rfl)));obtain ⟨vs,H1,I1,r1,q1⟩:=zz0;obtain ⟨l1,l2,xs,ys,e,hq1,hq2,q⟩:=q1;subst e
 cases r1 with
 | cons r rr =>
  cases rr with
  | cons r' rr =>
   cases rr
   cases r
   cases r';obtain ⟨its1,rv1,p1,hz1⟩:=I1.tuple hq1;obtain ⟨its2,rv2,p2,hz2⟩:=I1.tuple hq2;have a1:l1<s1.heap.objs.size:=by obtain ⟨_,e,_⟩:=p1; exact QAi e
   have a2:l2<s1.heap.objs.size:=by obtain ⟨_,e,_⟩:=p2; exact QAi e
   refine Zin p1 p2 fun h' hz hTI hTO hi1 hi2 hk=>wpAny_pyIter_zip (s:={ s1 with heap:=h' }) hz ?_
   refine ⟨_,[s1.heap.objs.size+4,s1.heap.objs.size+2,s1.heap.objs.size+3,s1.heap.objs.size,s1.heap.objs.size+1],_,_,H1,rfl,I1.kept (t':=s1.toks) hk,ZhX (zipApart_new a1 a2),⟨hz,hTI,⟨_,_,hTO⟩,hi1,hi2⟩,fun c hc=>?_,q⟩
   simp only [QBq,QCb,or_false] at hc;have hge:s1.heap.objs.size<=c:=by
    have:s1.heap.objs.size+0=s1.heap.objs.size:=rfl
    rcases hc with rfl | rfl | rfl | rfl | rfl
    ·exact Nat.le_add_right _ _
    ·exact Nat.le_add_right _ _
    ·exact Nat.le_add_right _ _
    ·exact QAd _
    ·exact Nat.le_add_right _ _
   exact I1.fpOk hge (I1.hok.fresh hge)
theorem ZhB {J:It} {n:Nat} {Y:Nat->Hp->V->Hp->Prop} {P:Hp->Prop} {g:TG} {tb:TS} {D:Zdj} {σ:St} {H:Hp} (hgo:∀ i H,P H->i<n->J.go i H) (hy:∀ i H x H',P H->J.yld i H x H'->i<n->Y i H x H') (hst:∀ i H,P H->n<=i->J.stop i H)
  (Pv:Nat->St->Hp->Prop) (h0:Pv 0 σ H) (hP:∀ i σ H,Pv i σ H->P H)
  (hs:∀ i x σ H H2,i<n->Pv i σ H->Y i H x H2->g x σ H2 fun σ2 H3=>tb { D with nx:=Pv (i+1),ct:=Pv (i+1),bk:=D.nx } σ2 H3) (hd:∀ σ H,Pv n σ H->D.nx σ H) :
  ∃ W:Nat->Nat->St->Hp->Prop,(∃ m,W 0 m σ H)/\∀ i m σ H,W i m σ H ->
   (J.stop i H/\D.nx σ H)\/(J.go i H/\∃ N:St->Hp->Prop,(∀ σ' H',N σ' H'->∃ m',m'<m/\W (i+1) m' σ' H')/\∀ x H',J.yld i H x H'->g x σ H' fun σ2 H2=>tb { D with nx:=N,ct:=N,bk:=D.nx } σ2 H2):=by
 refine ⟨fun i m σ H=>m=n - i/\i<=n/\Pv i σ H,⟨n,by simp,QAh _,h0⟩,?_⟩;rintro i m σ H ⟨rfl,hi,p⟩;have hp:=hP i σ H p
 by_cases hlt:i<n
 ·exact .inr ⟨hgo i H hp hlt,fun σ2 H2=>Pv (i+1) σ2 H2,fun σ2 H2 q=>⟨n - (i+1),by exact O405 hlt,rfl,hlt,q⟩,fun x H2 y=>hs i x σ H H2 hlt p (hy i H x H2 hp y hlt)⟩
 ·have e:i=n:=by exact O495 hi hlt
  subst e;exact .inl ⟨hst _ H hp (QAd _),hd σ H p⟩
end L2
namespace L2
open PySem PySem.Spec PyProof.Rows
end L2
namespace L2
open PySem PySem.Spec PyProof.Rows
section
variable {prog:Program} {w:World} {A:Around} {E:Value->Shared->Prop} {s:Shared}
end
end L2
namespace L2
open PySem PySem.Spec PyProof.Rows
section
variable {prog:Program} {w:World} {A:Around} {R:Result->Shared->Prop} {I:Addr} {fp wr:List Addr} {G:Array GenState->Array GenState->Prop} {P:Nat->Value->Prop} {St:Nat->Shared->Prop}
end
section
variable {prog:Program} {w:World} {A:Around} {E:Value->Shared->Prop} {s:Shared}
end
end L2
namespace L2
open PySem PySem.Spec PyProof.Rows
section
variable {prog:Program} {w:World} {A:Around} {E:Value->Shared->Prop} {s:Shared}
end
end L2
namespace L2
open PySem PySem.Spec PyProof.Rows
end L2
namespace L2
open PySem PySem.Spec PyProof.Rows
section
variable {prog:Program} {w:World} {A:Around} {E:Value->Shared->Prop} {s:Shared} {d:Addr} {es:Array (Int × Value)} {ep:Nat} {ns:List Nat}
end
end L2
namespace L2
open PySem PySem.Spec PyProof.Rows
section
variable {prog:Program} {w:World} {A:Around} {E:Value->Shared->Prop} {s:Shared} {d:Addr} {ns:List Nat}
end
end L2
namespace L2
open PySem PySem.Spec PyProof.Rows
section
variable {prog:Program} {w:World} {A:Around} {E:Value->Shared->Prop} {s:Shared}
theorem Zgm {d:Addr} {vs:List Value} {ns:List Int} {Q:Value->Shared->Prop} (ht:s.heap.IsTuple d vs.toArray) (hi:IntsAre vs ns) (h64:vs.length<64)
  (h:∀ (l:Addr) (h1 h':Heap) (e:Nat) (out:Array Value) (ns':List Int),IntsAre out.toList ns'->ns'.Perm ns->ns'.Pairwise (· <= ·)->(∀ b o,s.heap.get? b=some o->h1.get? b=some o)->h1.objs.size<=l->(∀ b o,h1.get? b=some o->h'.get? b=some o)->h'.get? l=some (seqObj "list" out e)->Q (.ref l) { s with heap:=h' }) :
  wpAny (model prog w) A (call (.builtin "sorted") [.ref d]) Q E s:=by
 obtain ⟨o,ho,hc,n,hd⟩:=id ht;refine Calls.call_function_entry kind_sorted plain_sorted entry_sorted (args_sorted1 _) ?_;unfold Builtin.«sorted»;refine QZq (m:=checkCount "sorted" 1 1 _) (QZr (QZq ?_));have hz:vs.toArray.size<=sizeLine:=by rw [QAg,sizeLine_eq]; exact O494 h64
 refine wpAny_collect_seq (hsz:=hz) d (.inr rfl) ho hc hd fun h1 k1=>?_;rw [List.toList_toArray];refine QZq (wpAny_newList ?_ (by rw [sizeLine_eq]; exact O494 h64));have g:(h1.push (seqObj "list" vs.toArray 0)).get? h1.objs.size=some (seqObj "list" vs.toArray 0):=QAy _ rfl;refine QZq (wpAny_holding (wpAny_call_entry slot_list_sort ⟨_,g,rfl⟩ entry_list_sort (list_sort_tree (vs:=vs) g hi h64 fun out ns' a1 a2 a3=>⟨_,rfl,?_⟩) (args_list_sort _)));obtain ⟨e,he⟩:=sortedHeap_at (out:=out) g;refine QZr ⟨_,rfl,h h1.objs.size h1 _ e out ns' a1 a2 a3 k1 (QAd _) (fun b o x=>?_) he⟩;have hb:=QAi x;rw [sortedHeap_old (QAz hb) (by rw [size_push']; exact QCz hb)];exact QAk _ x
end
noncomputable def ZiQ (K:QZa):List V->Hp->VK->Prop:=fun xs H Q=>∃ (p:Addr) (ns:List Int),xs=[.ref p]/\SqT K H p (ns.map V.int)/\ns.length<64/\∀ (l:Addr) (ns':List Int),H l=none->ns'.Perm ns->ns'.Pairwise (· <= ·)->Q (.ref l) (upd H l (.lst (ns'.map V.int)))
theorem ZeI {X:Cx} (K:QZa) (hK:X.K=K:=by rfl):Y5 X (.builtin "sorted") (ZiQ K):=by
 subst hK;intro pins s σ H xs us Q I r h;obtain ⟨p,ns,rfl,hq,hl,q⟩:=h;obtain ⟨u,rfl,rx⟩:=J1 r
 cases rx;obtain ⟨its,rv,ht,hz⟩:=I.tuple hq;have hlen:its.length=ns.length:=by rw [<- rv.length,QAa]
 refine Zgm (vs:=its) (ns:=ns) ht (YC rv) (by rw [hlen]; exact hl) fun l h1 h' e out ns' a1 a2 a3 k1 hl1 k2 he=>?_;have I1:Inv X pins σ H { s with heap:=h1 }:=I.kept (t':=s.toks) k1;refine ⟨.ref l,_,I1.laid (t':=s.toks) (o:=.lst (ns'.map V.int)) k2 hl1 ?_,rfl,q _ ns' (I1.hok.fresh hl1) a2 a3⟩;exact ⟨QAs (m:=64) (by rw [QAa,a2.length_eq]; exact Om.d1 ‹_›) (by decide),out.toList,e,ZaF a1,by simpa using he⟩
end L2
namespace L2
open PySem PySem.Spec PyProof.Rows
open AutoSeq1 (wpAny_loadPart')
section
variable (l:Addr) (its:List Value) (n:Nat) (dd:Option Addr) (sl:Array (Option Value)) (t:Tok)
end
section
variable {prog:Program} {w:World} {A:Around} {E:Value->Shared->Prop} {s:Shared}
open HT in
end
end L2
namespace L2
open PySem PySem.Spec PyProof.Rows
open AutoSeq1 (wpAny_loadPart')
section
variable {prog:Program} {w:World} {A:Around} {E:Value->Shared->Prop} {s:Shared}
theorem Zdh {R:List Value->Shared->Prop} {r:Addr} {n:Nat} {t u v:Tok} (hh:A.handled=none) (hr:IsRange s.heap r 0 (n:Int) 1 t u v) (hn:n<=1000)
  (h:∀ (h':Heap) (tk:Nat) (acc:Array Value),(∀ b o,s.heap.get? b=some o->h'.get? b=some o)->ItemsOf (fun i v=>∃ t,v = .int (i:Int) t) acc n->R acc.toList { s with heap:=h',toks:=tk }) :
  wpAny (model prog w) A (collect (.ref r)) R E s:=by
 have e2:Builtin.Range.rangeSize 0 (n:Int) 1=n:=by rw [rangeSize_one]; split <;> omega
 unfold collect;refine QZq (wpAny_runValue (codeAny_builtin entry_proto_collect' ?_));rw [Around.under_plainId PySem.F.plain_proto_collect _];refine QZq (m:=newList []) (wpAny_newObj_type (QZr ⟨plainId_quiet PySem.F.plain_list_iadd _,codeAny_builtin entry_list_iadd' ?_⟩));rw [Around.under_plainId PySem.F.plain_list_iadd _];have g1:(s.heap.push { cls:=.type "list",data:=.seq ([]:List Value).toArray }).get? s.heap.objs.size=some { cls:=.type "list",data:=.seq #[] }:=QAy _ rfl;have key:=wpAny_extend_range (prog:=prog) (w:=w) (A:=A) (s:={ s with heap:=s.heap.push { cls:=.type "list",data:=.seq ([]:List Value).toArray } }) (n:=n)
  (R:=fun (q:Result) (s':Shared)=>∃ (h':Heap) (tk:Nat) (acc':Array Value) (c':Nat),q = .ok (.ret (.ref s.heap.objs.size))/\s'={ s with heap:=h',toks:=tk }/\(∀ b o,s.heap.get? b=some o->h'.get? b=some o) /\
   h'.get? s.heap.objs.size=some { cls:=.type "list",dict:=none,data:=.seq acc' c',slots:=#[] }/\ItemsOf (fun i v=>∃ t,v = .int (i:Int) t) acc' n)
  hh (QAk _ hr) (small_one (by exact O493 ) (by exact O492 ) (by exact Om.c2) (by exact Om.c1 ‹_› rfl)) e2 (by exact Om.b1 ‹_› rfl) s.heap.objs.size (.ref s.heap.objs.size) 0 g1
  fun h' tk acc' c' hk hS' hacc=>⟨h',tk,acc',c',rfl,rfl,fun b o e=>hk b o (QAz (QAi e)) (QAk _ e),hS',hacc.1,fun i w hw=>by
   obtain ⟨t',e⟩:=hacc.2 i w hw;exact ⟨t',by rw [e,QBw,Int.mul_one]⟩⟩
 refine wpAny_mono key (fun fin s' x=>?_) fun e s' x=>by obtain ⟨_,_,_,_,e',_⟩:=x; cases e'
 cases fin with
 | done f =>
  obtain ⟨h',tk,acc',c',e,rfl,hk,hS',hacc⟩:=x
  cases e;exact QZq (m:=load s.heap.objs.size) (wpAny_load hS' (QZr (h h' tk acc' hk hacc)))
 | again c1 =>
  refine ⟨x.1,codeAny_mono x.2 fun q s2 y=>?_⟩;obtain ⟨h',tk,acc',c',rfl,rfl,hk,hS',hacc⟩:=y;exact QZq (m:=load s.heap.objs.size) (wpAny_load hS' (QZr (h h' tk acc' hk hacc)))
theorem Zb7 {R:Value->Shared->Prop} {r:Addr} {n:Nat} {t u v:Tok} (hh:A.handled=none) (hr:IsRange s.heap r 0 (n:Int) 1 t u v) (hn:n<=1000)
  (h:∀ (h1:Heap) (tk:Nat) (acc:Array Value),(∀ b o,s.heap.get? b=some o->h1.get? b=some o)->ItemsOf (fun i v=>∃ t,v = .int (i:Int) t) acc n->R (.ref h1.objs.size) { s with heap:=h1.push { cls:=.type "tuple",data:=.seq acc },toks:=tk }) :
  wpAny (model prog w) A (Builtin.«tuple.__new__» ⟨[.type "tuple",.ref r],[]⟩) (fun fin s'=>∃ v,fin = .done (.ret v)/\R v s') E s:=by
 obtain ⟨hp,g,d,tk,os⟩:=s;have hsub:=sub_tuple_self;have hinit:=init_tuple_lookup;have hmh:=madeHere_tuple;have hT:Shared.TypeIs ⟨hp,g,d,tk,os⟩ (.ref r) "range":=⟨_,hr,rfl⟩
 wp_walk using wpAny_loadPart' hr,wpAny_typeOf hT,Zdh hh hr hn
 intro h1 tk1 acc hk hi;refine QZq (m:=Builtin.Tuple.tupleExact acc.toList.toArray) ?_;unfold Builtin.Tuple.tupleExact;refine wpAny_newObj_type ?_ (by show acc.toList.toArray.size<=sizeLine; rw [show acc.toList.toArray=acc by simp,hi.1,sizeLine_eq]; exact Om.b1 ‹_› rfl);rw [show acc.toList.toArray=acc by simp];exact QZr ⟨_,rfl,h h1 tk1 acc hk hi⟩
theorem ZbW {r:Addr} {n:Nat} {t u v:Tok} {Q:Value->Shared->Prop} (hh:A.handled=none) (hr:IsRange s.heap r 0 (n:Int) 1 t u v) (hn:n<=1000)
  (h:∀ (h1:Heap) (tk:Nat) (acc:Array Value),(∀ b o,s.heap.get? b=some o->h1.get? b=some o)->ItemsOf (fun i v=>∃ t,v = .int (i:Int) t) acc n->Q (.ref h1.objs.size) { s with heap:=h1.push { cls:=.type "tuple",data:=.seq acc },toks:=tk }) :
  wpAny (model prog w) A (call (.type "tuple") [.ref r]) Q E s:=by
 have g:Meets (Builtin.«tuple.__new__» ⟨[.type "tuple",.ref r],[]⟩) (fun A R s=>A.handled=none/\IsRange s.heap r 0 (n:Int) 1 t u v/\∀ (h1:Heap) (tk:Nat) (acc:Array Value),(∀ b o,s.heap.get? b=some o->h1.get? b=some o)->ItemsOf (fun i v=>∃ t,v = .int (i:Int) t) acc n->R (.ok (.ret (.ref h1.objs.size))) { s with heap:=h1.push { cls:=.type "tuple",data:=.seq acc },toks:=tk }) :=
  .of_wp fun prog w A R s h=>by
   obtain ⟨h1,h2,h3⟩:=h;exact Zb7 (R:=fun v s'=>R (.ok (.ret v)) s') (by simpa using h1) h2 hn h3
 exact callType_new F.called_tuple (by decide) (F.typeCall_tuple_1 _) (F.newCall_tuple_1 _) (fun obj=>F.args_object_init_2 obj _) F.entry_tuple_new g
  ⟨by simpa using hh,hr,fun h1 tk acc hk hi=>⟨⟨_,QAy _ rfl,rfl⟩,h h1 tk acc hk hi⟩⟩
theorem Zb5 {X:Cx} (hc:X.calm=true):Y5 X (.type "tuple") (fun xs H Q=>∃ (p:Addr) (n:Nat),xs=[.ref p]/\H p=some (.rng 0 n)/\n<=1000/\∀ l,H l=none->Q (.ref l) (upd H l (.tup (rng n)))):=by
 intro pins s σ H xs us Q I r h;obtain ⟨p,n,rfl,hp,hn,q⟩:=h;obtain ⟨u,rfl,rx⟩:=J1 r
 cases rx;obtain ⟨t,u,v,e⟩:=I.hok p _ hp;refine ZbW (n:=n) (I.ok.hd hc) e hn fun h1 tk acc kp hi=>?_;have I1:Inv X pins σ H { s with heap:=h1,toks:=tk }:=I.kept kp;refine ⟨.ref h1.objs.size,_,I1.laid (t':=tk) (o:=.tup (rng n)) (fun b o e=>QAk _ e) (QAd _) (show ObjOk X.prog X.w _ _ _ (.tup (rng n)) from ⟨by rw [Zu]; exact Zy hn,acc.toList,ZeX n _ (by rw [QAw]; exact hi.1) fun j w ew=>?_,by simpa using IsTupN.new _ _⟩),rfl,q _ (I1.hok.fresh (QAd _))⟩;exact hi.2 j w (by simpa using ew)
end
end L2
namespace L2
open PySem PySem.Spec PyProof.Rows
section
variable {X:Cx} {o i:Expr} {pos:Pos} {td ty:TE}
end
end L2
namespace L2
open PySem PySem.Spec PyProof.Rows
theorem no2 {n a:Nat} (h:a<n) (e:a=n+2):False:=by exact O491 h e
theorem ne2 {n a b:Nat} (h:b<n) (e:a=n+2):a≠b:=by exact O490 h e
theorem Znm (n:Nat):n+2≠n:=by exact O489 
theorem Zc2:∀ (names:List (Str × NameKind)) (n:Nat) (acc:List (Str × Addr)) (h:Heap),names.filter (fun y=>y.2 == .cell)=[]->cellsFrom n names acc=acc/\pushCells h names=h
 | [],_,_,_,_=>⟨rfl,rfl⟩
 | (x,k)::r,n,acc,h,e=>by
  unfold cellsFrom pushCells
  cases hk:(k==NameKind.cell) with
  | true=>rw [QDp (by simpa using hk)] at e; cases e
  | false =>
   rw [QDq (by simpa using hk)] at e
   simp only [QDd,if_false];exact Zc2 r n acc h e
theorem ZdS {x0:Str}:∀ (names:List (Str × NameKind)) (n:Nat) (acc:List (Str × Addr)) (h:Heap),names.filter (fun y=>y.2 == .cell)=[(x0,.cell)]->cellsFrom n names acc=(x0,n)::acc/\pushCells h names=h.push { cls:=.type "cell",data:=.cell none }
 | [],_,_,_,e=>by cases e
 | (x,k)::r,n,acc,h,e=>by
  unfold cellsFrom pushCells
  cases hk:(k==NameKind.cell) with
  | true =>
   rw [QDp (by simpa using hk)] at e
   injection e with e1 e2
   cases e1
   simp only [if_true];exact Zc2 r (n+1) ((x0,n)::acc) _ e2
  | false =>
   rw [QDq (by simpa using hk)] at e
   simp only [QDd,if_false];exact ZdS r n acc h e
section
variable {M:Model} {A:Around} {E:Value->Shared->Prop} {s:Shared}
theorem Zfg {scope:Scope} {globals:Addr} {closure:List (Str × Addr)} {qual:Str} {env:Env} {x0:Str} {Q:Env->Shared->Prop} (h1:scope.names.filter (fun y=>y.2 == .cell)=[(x0,.cell)])
  (h:Q { scope,locals:=s.heap.objs.size,globals,cells:=(x0,s.heap.objs.size+1)::closure,qual,func:=none,code:=env.code,frame:=env.frame,builtins:=env.builtins } { s with heap:=(s.heap.push { cls:=.type "dict",data:=.dict #[] }).push { cls:=.type "cell",data:=.cell none } }) :
  wpAny M A (newFunctionEnv scope globals closure [] qual none .none (some env)) Q E s:=by
 simp only [newFunctionEnv,Option.isSome_some,if_true];refine QZq (wpAny_alloc ?_);refine QZq (wpAny_layCells _ (fun name kind cells=>by cases hkc:kind==NameKind.cell <;> simp [hkc]) _ _ _ _ ?_);obtain ⟨e1,e2⟩:=ZdS scope.names (s.heap.push { cls:=.type "dict",data:=.dict #[] }).objs.size closure (s.heap.push { cls:=.type "dict",data:=.dict #[] }) h1;rw [QCl] at e1;show wpAny M A _ Q E { s with heap:=pushCells (s.heap.push { cls:=.type "dict",data:=.dict #[] }) scope.names };rw [e2];rw [List.forIn_nil];refine QZq (QZr (QZr ?_));rw [show ({ s with heap:=s.heap.push { cls:=.type "dict",data:=.dict #[] } }:Shared).heap.objs.size=s.heap.objs.size+1 from QCl ..];rw [e1];exact h
end
noncomputable def Z7 (X:Cx) (x0:Str) (Nc:List Str) (scope:Scope) (cl:List (Str × Addr)) (C:Addr) (s₁:Shared) (H₁:Hp) (fp:List Addr):Cx where
 prog:=X.prog
 w:=X.w
 K:=X.K
 mg:=X.mg
 base:=X.base
 A:=X.A
 N:=Nc
 s₀:=s₁
 H₀:=H₁
 env:=compEnvC scope cl C X.env
 outer:=X.stack
 stack:=X.stack
 ex:=fp
 fn:=fun x=>x==x0
 calm:=X.calm
 pn:=[]
 xe:=fun _ _=>False
structure ZjY (X:Cx) (x0:Str) (Nc:List Str) (scope:Scope) (fm:List (Option Nat)):Prop where
 kind:scope.kind = .function
 one:scope.names.filter (fun y=>y.2 == .cell)=[(x0,.cell)]
 nofr:(x0,NameKind.free)∉scope.names
 names:∀ y∈scope.names,y.2 = .local->scope.names.lookup y.1=some .local
 free:∀ y∈scope.names,y.2 = .free->X.env.kindOf y.1=some .cell\/X.env.kindOf y.1=some .free
 len:fm.length=Nc.length
 at_:∀ (p:Option Nat × Str),p∈fm.zip Nc->∀ j,p.1=some j->X.N[j]? = some p.2/\(p.2,NameKind.free)∈scope.names/\scope.names.lookup p.2=some .free
noncomputable def captOkC (N:List Str) (sc:Scope) (x0:Str) (Nc:List Str) (scope:Scope) (fm:List (Option Nat)):Bool :=
 decide (scope.kind = .function)&&(decide (scope.names.filter (fun y=>y.2 == .cell)=[(x0,.cell)])&&(decide ((x0,NameKind.free)∉scope.names)&&(scope.names.all (fun y=>(decide (y.2 ≠ .local)||decide (scope.names.lookup y.1=some .local)) &&
  (decide (y.2 ≠ .free)||(decide (sc.names.lookup y.1=some .cell)||decide (sc.names.lookup y.1=some .free))))&&(decide (fm.length=Nc.length) &&
  (fm.zip Nc).all (fun p=>match p.1 with
   | none=>true
   | some j=>decide (N[j]? = some p.2)&&decide ((p.2,NameKind.free)∈scope.names)&&decide (scope.names.lookup p.2=some .free))))))
theorem captOkC.capt {X:Cx} {x0:Str} {Nc:List Str} {scope:Scope} {fm:List (Option Nat)} (h:captOkC X.N X.env.scope x0 Nc scope fm=true):ZjY X x0 Nc scope fm:=by
 unfold captOkC at h;rw [QAv,QAv,QAv,QAv,QAv] at h;obtain ⟨h1,h5,h6,h2,h3,h4⟩:=h;rw [QBg] at h2 h4;have g:∀ y∈scope.names,(y.2 ≠ .local\/scope.names.lookup y.1=some .local)/\(y.2 ≠ .free\/(X.env.scope.names.lookup y.1=some .cell\/X.env.scope.names.lookup y.1=some .free)):=fun y hy=>by
  have:=h2 y hy
  simpa only [QAv,QCp,QZg] using this
 refine ⟨QZj h1,QZj h5,QZj h6,fun y hy e=>?_,fun y hy e=>?_,QZj h3,fun p hp j e=>?_⟩
 ·rcases (g y hy).1 with z | z
  ·exact absurd e z
  ·exact z
 ·rcases (g y hy).2 with z | z
  ·exact absurd e z
  ·exact z
 ·have:=h4 p hp;obtain ⟨a,b⟩:=p
  cases e
  simp only [QAv,QZg] at this;exact ⟨this.1.1,this.1.2,this.2⟩
theorem J8 {env:Env} {x0:Str}:∀ {names:List (Str × NameKind)} {x:Str}, (∀ y∈names, y.2 = .cell->y.1=x0) ->
    ((names.map fun (n, k) => if (k==NameKind.free&&env.scope.kind == .function&&env.kindOf n==some .cell) then (n, NameKind.cell) else (n, k)).lookup x=some .cell \/
     (names.map fun (n, k) => if (k==NameKind.free&&env.scope.kind == .function&&env.kindOf n==some .cell) then (n, NameKind.cell) else (n, k)).lookup x=some .free)->x=x0\/(x, NameKind.free)∈names
  | [], _, _, h => by simp at h
  | (n, k)::r, x, hc, h => by
    have ih := @J8 env x0 r x (fun y hy => hc y (QAm _ hy));rw [QAp] at h
    cases hx:x==n with
    | true =>
      have hxn:x=n := by simpa using hx
      dsimp only at h
      split at h
      · rename_i hk
        rw [QAv, QAv] at hk;have:k = .free := by simpa using hk.1.1
        rw [hxn, this];exact .inr QAj
      · simp only [QBl, hx] at h
        rcases h with h | h
        · cases h
          exact .inl (hxn.trans (hc (n, .cell) QAj rfl))
        · cases h
          rw [hxn];exact .inr QAj
    | false =>
      dsimp only at h
      split at h
      · simp only [QBl, hx] at h
        exact (ih h).imp id (QAm _)
      · simp only [QBl, hx] at h
        exact (ih h).imp id (QAm _)
section
variable {X:Cx} {pins:List (Addr × Obj)} {σ:St} {H₁:Hp} {s₁:Shared}
theorem Zim {x0:Str} {Nc:List Str} {scope:Scope} {fm:List (Option Nat)} {fp:List Addr} {h₁:Heap} {tk:Nat} {m:Str->Option Value} (c:ZjY X x0 Nc scope fm) (I:Inv X pins σ H₁ s₁) (hf:∀ b∈fp,ZaC X pins H₁ b) (hfp:∀ b∈fp,b<s₁.heap.objs.size)
  (old:∀ b o,s₁.heap.get? b=some o->h₁.get? b=some o) (hD:h₁.get? s₁.heap.objs.size=some { cls:=.type "list",data:=.seq ([]:List Value).toArray }) (hns:h₁.Ns (s₁.heap.objs.size+1) m) (hcl:h₁.IsCell (s₁.heap.objs.size+2) none) :
  Inv (Z7 X x0 Nc scope ((x0,s₁.heap.objs.size+2)::ZN X.env.cells scope.names []) (s₁.heap.objs.size+1) s₁ H₁ fp) [] (capt fm σ) (upd H₁ s₁.heap.objs.size (.lst [])) { s₁ with heap:=h₁,toks:=tk }:=by
 have hfree:∀ y∈scope.names,y.2 = .free->∃ a,X.env.cells.lookup y.1=some a:=fun y hy e=>I.ok.has y.1 (c.free y hy e)
 have sub0:∀ x a,(ZN X.env.cells scope.names []).lookup x=some a->X.env.cells.lookup x=some a:=Za8 _ _ hfree (fun x a e=>by simp at e);have lt:∀ x a,X.env.cells.lookup x=some a->a<s₁.heap.objs.size:=fun x a e=>(I.cell x a e).elim fun v q=>q.lt
 have look:∀ x a,((x0,s₁.heap.objs.size+2)::ZN X.env.cells scope.names []).lookup x=some a->(x=x0/\a=s₁.heap.objs.size+2)\/X.env.cells.lookup x=some a:=fun x a e=>by
  rw [QBl] at e
  cases hx:(x==x0) with
  | true =>
   rw [hx] at e
   cases e;exact .inl ⟨by simpa using hx,rfl⟩
  | false =>
   rw [hx] at e;exact .inr (sub0 x a e)
 have own:∀ y∈scope.names,y.2 = .cell->y.1=x0:=fun y hy e=>by
  have:y∈scope.names.filter (fun y=>y.2 == .cell):=QZo.mpr ⟨hy,by rw [e]; rfl⟩;rw [c.one] at this;rw [QZc.mp this]
 have hDn:H₁ s₁.heap.objs.size=none:=I.hok.fresh (QAd _);have hCn:H₁ (s₁.heap.objs.size+1)=none:=I.hok.fresh (QCk _);have hLn:H₁ (s₁.heap.objs.size+2)=none:=I.hok.fresh (by exact O488 );refine ⟨⟨I.ok.mod,c.kind,I.ok.glob,I.ok.blt,QCk _,fun x y a e1 e2=>?_,fun x hx=>?_,fun x a z e=>?_,I.ok.hd,I.ok.frames,.inl rfl,fun b hb=>?_,I.bs,QAs I.ok.bsz I.sz,fun b o e hb=>?_,fun b hb hfs=>?_,I.stack,I.stkFree⟩,
  rfl,I.bare,Un.laid old (QAd _) hDn,⟨m,hns,fun i x v e1 e2 e3=>?_⟩,fun x a e=>?_,?_,fun x a e=>?_,fun p hp=>absurd (show p∈([]:List (Addr × Obj)) from hp) (by simp),?_,?_⟩
 ·rcases look x a e1 with ⟨z1,z2⟩ | z1
  ·rcases look y a e2 with ⟨w1,w2⟩ | w1
   ·rw [z1,w1]
   ·exact (no2 (lt y a w1) z2).elim
  ·rcases look y a e2 with ⟨w1,w2⟩ | w1
   ·exact (no2 (lt x a z1) w2).elim
   ·exact I.ok.inj x y a z1 w1
 ·show ∃ c,((x0,s₁.heap.objs.size+2)::ZN X.env.cells scope.names []).lookup x=some c;rw [QBl]
  cases hx0:(x==x0) with
  | true=>exact ⟨_,rfl⟩
  | false =>
   rcases J8 (env:=X.env) own hx with z | z
   ·rw [z] at hx0
    simp at hx0
   ·exact JN _ _ x (.inr z)
 ·have z':x=x0:=by simpa using (show (x==x0)=true from z)
  rcases look x a e with ⟨_,w2⟩ | w
  ·show s₁.heap.objs.size<=a;exact O487 w2
  ·rw [show ((Z7 X x0 Nc scope ((x0,s₁.heap.objs.size+2)::ZN X.env.cells scope.names []) (s₁.heap.objs.size+1) s₁ H₁ fp)).env.cells.lookup x=((x0,s₁.heap.objs.size+2)::ZN X.env.cells scope.names []).lookup x from rfl,QBl,z'] at e
   simp at e
   show s₁.heap.objs.size<=a;exact O486 e
 ·refine ⟨QAz (QCz (hfp b hb)),fun x a e=>?_⟩
  rcases look x a e with ⟨_,w2⟩ | w
  ·exact ne2 (hfp b hb) w2
  ·exact (hf b hb).2.2.2.2.1 x a w
 ·rcases (hf b hb).2.2.2.1 with z | z
  ·exact I.ok.noex b o e z
  ·exact absurd (QBb (QAi e) (QAs I.ok.bsz z)) (QCe _)
 ·rcases QZn.mp (I.stkSub b hfs) with z | z
  ·exact (hf b hb).2.1 z
  ·exact (hf b hb).2.2.1 z
 ·-- the names taken over
  have hz:∃ j,fm[i]? = some (some j)/\σ[j]? = some (some v):=by
   unfold capt at e2;rw [QAe] at e2
   cases q:fm[i]? with
   | none=>rw [q] at e2; cases e2
   | some o =>
    rw [q] at e2
    cases o with
    | none=>cases e2
    | some j =>
     refine ⟨j,rfl,?_⟩;have e2':(σ[j]?).join=some v:=QZl e2
     cases q2:σ[j]? with
     | none=>rw [q2] at e2'; cases e2'
     | some u=>rw [q2] at e2'; cases u with
      | none=>cases e2'
      | some u=>cases e2'; rfl
  obtain ⟨j,hfm,hσ⟩:=hz;have hp:((some j:Option Nat),x)∈fm.zip Nc:=by
   have:(fm.zip Nc)[i]? = some (some j,x):=by rw [List.getElem?_zip_eq_some]; exact ⟨hfm,e1⟩
   exact QAt this
  obtain ⟨hN,hmem,hlk⟩:=c.at_ _ hp j rfl;have hk:=c.free _ hmem rfl;obtain ⟨m0,hn0,hl0⟩:=I.loc;have hvis:Vis X.env.scope x:=hk.elim (fun z=>.inr (.inl z)) (fun z=>.inr (.inr z));obtain ⟨u,ru,lk⟩:=hl0 j x v hN hσ hvis;have hx0:(x==x0)=false:=by
   cases q:(x==x0) with
   | false=>rfl
   | true =>
    have q':x=x0:=by simpa using q
    exact absurd (q' ▸ hmem) c.nofr
  refine ⟨u,ru,.inr ⟨YG (env:=X.env) hlk,?_⟩⟩
  rcases lk with ⟨z,_⟩ | ⟨_,a,ea,o,ho,hd⟩
  ·rcases hk with q | q
   ·rw [show X.env.kindOf x=_ from q] at z; cases z
   ·rw [show X.env.kindOf x=_ from q] at z; cases z
  ·obtain ⟨a',ea'⟩:=JN (cells:=X.env.cells) scope.names [] x (.inr hmem);have:=sub0 x a' ea';rw [ea] at this
   cases this;refine ⟨a,?_,o,old a o ho,hd⟩;show ((x0,s₁.heap.objs.size+2)::ZN X.env.cells scope.names []).lookup x=some a;rw [QBl,hx0];exact ea'
 ·rcases look x a e with ⟨_,w2⟩ | w
  ·rw [w2];exact ⟨none,hcl⟩
  ·obtain ⟨v,o,ho,hd⟩:=I.cell x a w;exact ⟨v,o,old a o ho,hd⟩
 ·show upd H₁ s₁.heap.objs.size (.lst []) (s₁.heap.objs.size+1)=none;rw [Zg (Nat.succ_ne_self _)];exact hCn
 ·show upd H₁ s₁.heap.objs.size (.lst []) a=none
  rcases look x a e with ⟨_,w2⟩ | w
  ·rw [w2,Zg (Znm _)];exact hLn
  ·rw [Zg (QAz (lt x a w))];exact I.freeC x a w
 ·exact I.hok.laid old (QAd _) ⟨QAh _,[],0,.nil,hD⟩
 ·show (capt fm σ).length=Nc.length;unfold capt;rw [QAa];exact c.len
theorem ZgV {x0:Str} {Nc:List Str} {scope:Scope} {cl:List (Str × Addr)} {C:Addr} {fp:List Addr} {σ':St} {H':Hp} {s':Shared} (I:Inv X pins σ H₁ s₁) (hf:∀ b∈fp,ZaC X pins H₁ b) (J:Inv (Z7 X x0 Nc scope cl C s₁ H₁ fp) [] σ' H' s') :
  Inv X pins σ H' s':=I.call' (ch:=fp) J.os J.base J.hok J.bare fun b hb=>⟨(hf b hb).2.2.2.1,(hf b hb).2.1,(hf b hb).2.2.2.2.1,(hf b hb).2.2.2.2.2⟩
theorem ZjN {x0:Str} {Nc:List Str} {scope:Scope} {cl:List (Str × Addr)} {fp:List Addr} {σ':St} {H':Hp} {s':Shared} {σ2:St} {s2:Shared} {h'':Heap} (I:Inv X pins σ H₁ s₁) (J:Inv (Z7 X x0 Nc scope cl (s₁.heap.objs.size+1) s₁ H₁ fp) [] σ' H' s')
  (I2:Inv X pins σ2 H' s2) (sb:Heap.SameBut (s₁.heap.objs.size+1) s2.heap h''):Inv X pins σ2 H' { s2 with heap:=h'' }:=by
 have hle:s₁.heap.objs.size<=s₁.heap.objs.size+1:=QCk _;refine I2.turned (t':=s2.toks) (it:=s₁.heap.objs.size+1) (fun b o hb e=>(sb.2 b hb).trans e) J.free (Nat.ne_of_gt (QBb I.lt hle)) (.inr (QAs I.sz hle)) (fun x c e z=>?_) (fun p hp z=>?_)
 ·obtain ⟨v,q⟩:=I.cell x c e;exact absurd (QBb q.lt (by rw [z]; exact hle)) (QCe _)
 ·exact absurd (QBb (QAi (I.pin p hp).1) (by rw [z]; exact hle)) (QCe _)
theorem ZfB {elt tg iter:Expr} {ifs:List Expr} {scope:Scope} {pos:Pos} {x0:Str} {Nc:List Str} {fm:List (Option Nat)} {g:TG} {tt:TT} {te:TE} {it:Addr} {fp:List Addr} {tn:Nat->Heap->Prop} {J:It} {Q:VK} {E:Value->Shared->Prop} {RR:Value->Addr->Result->Shared->Prop}
    (hc:X.calm=true) (c:ZjY X x0 Nc scope fm) (I:Inv X pins σ H₁ s₁) (T:Turn X.prog X.w X.K tg J fp it tn) (st:tn 0 s₁.heap) (hf:∀ b∈fp, ZaC X pins H₁ b)
    (hg:∀ cl C s₁ H₁ fp, PG (Z7 X x0 Nc scope cl C s₁ H₁ fp) tg g) (ht:∀ cl C s₁ H₁ fp, PTs (Z7 X x0 Nc scope cl C s₁ H₁ fp) ifs tt) (he:∀ cl C s₁ H₁ fp, PE (Z7 X x0 Nc scope cl C s₁ H₁ fp) elt te)
    (h:∀ l, H₁ l=none->∃ W:Nat->Nat->List V->St->Hp->Prop, (∃ m, W 0 m [] (capt fm σ) (upd H₁ l (.lst []))) /\
      ∀ i m ys σ' H', W i m ys σ' H'->H' l=some (.lst ys) /\
        ((J.stop i H'/\Q (.ref l) H') \/
         (J.go i H'/\∃ N:List V->St->Hp->Prop, (∀ zs σ2 H2, N zs σ2 H2->∃ m', m'<m/\W (i+1) m' zs σ2 H2)/\∀ x H2, J.yld i H' x H2->g x σ' H2 fun σ3 H3 => tt σ3 H3 fun b H4 =>
            if b=true then te σ3 H4 fun y H5 => H5 l=some (.lst ys)/\ys.length<sizeLine/\N (ys++[y]) σ3 (upd H5 l (.lst (ys++[y])))
            else N ys σ3 H4)))
    (fin:∀ σ' H' s', Inv (Z7 X x0 Nc scope ((x0, s₁.heap.objs.size+2)::ZN X.env.cells scope.names []) (s₁.heap.objs.size+1) s₁ H₁ fp) [] σ' H' s'->Q (.ref s₁.heap.objs.size) H'->RR (.ref s₁.heap.objs.size) (s₁.heap.objs.size+1) (.ok .next) s') :
    wpAny (model X.prog X.w) X.A (newList []) (fun acc s₃ => wpAny (model X.prog X.w) X.A (newFunctionEnv scope X.env.globals (ZN X.env.cells scope.names []) [] X.env.qual none .none (some X.env)) (fun cenv s₄ =>
      codeAny (model X.prog X.w) X.A (.compStart (.ListComp elt [⟨tg, iter, ifs, 0⟩] scope pos) 0 (.ref it) acc { cenv with scope := relabel scope X.env }) (RR acc cenv.locals) s₄) E s₃) E s₁ := by
  have hfp:∀ b∈fp, b<s₁.heap.objs.size := fun b hb => by
    obtain ⟨o, ho, _⟩ := T.obj 0 _ st b hb;exact QAi ho
  refine wpAny_newObj_type (Zfg c.one ?_)
  dsimp only;generalize hH2:s₁.heap.push { cls := .type "list", dict := none, data := .seq ([]:List Value).toArray }=H2;have hC:H2.objs.size=s₁.heap.objs.size+1 := by rw [<- hH2, QCl]
  show codeAny _ _ (.compStart _ 0 _ _ (compEnvC scope ((x0, H2.objs.size+1)::ZN X.env.cells scope.names []) H2.objs.size X.env)) (RR _ H2.objs.size) _;have hns₁:((H2.push { cls := .type "dict", data := .dict #[] }).push { cls := .type "cell", data := .cell none }).Ns (s₁.heap.objs.size+1) (fun _ => none) := by
    rw [<- hC];exact (Heap.Ns.new H2 (.type "dict")).keeps fun b o e => QAk _ e
  have old2:∀ b o, H2.get? b=some o->((H2.push { cls := .type "dict", data := .dict #[] }).push { cls := .type "cell", data := .cell none }).get? b=some o := fun b o e => QAk _ (QAk _ e)
  have hcl:((H2.push { cls := .type "dict", data := .dict #[] }).push { cls := .type "cell", data := .cell none }).IsCell (s₁.heap.objs.size+2) none := by
    have e:s₁.heap.objs.size+2=(H2.push { cls := .type "dict", data := .dict #[] }).objs.size := by rw [QCl, hC]
    rw [e];exact ⟨_, QAy _ rfl, rfl⟩
  generalize ((H2.push { cls := .type "dict", data := .dict #[] }).push { cls := .type "cell", data := .cell none })=h₁ at hns₁ old2 hcl ⊢;rw [hC];have old:∀ b o, s₁.heap.get? b=some o->h₁.get? b=some o := fun b o e => old2 b o (hH2 ▸ QAk _ e)
  have hD:h₁.get? s₁.heap.objs.size=some { cls := .type "list", data := .seq ([]:List Value).toArray } := old2 _ _ (hH2 ▸ QAy _ rfl);have st1:tn 0 h₁ := T.keep _ _ _ st fun b _ o e => old b o e
  have hDn:H₁ s₁.heap.objs.size=none := I.hok.fresh (QAd _);obtain ⟨W, ⟨m0, w0⟩, turn⟩ := h _ hDn;have loop:∀ tk:Nat, codeAny (model X.prog X.w) X.A (.compLoop (.ListComp elt [⟨tg, iter, ifs, 0⟩] scope pos) 0 (.ref it) (.ref s₁.heap.objs.size) (compEnvC scope ((x0, s₁.heap.objs.size+2)::ZN X.env.cells scope.names []) (s₁.heap.objs.size+1) X.env))
      (RR (.ref s₁.heap.objs.size) (s₁.heap.objs.size+1)) { s₁ with heap := h₁, toks := tk } := by
    intro tk;have I0 := Zim (tk := tk) c I hf hfp old hD hns₁ hcl;have stat:∀ {H':Hp}, (∀ b∈fp, H' b=none)->∀ b∈fp, ZaC (Z7 X x0 Nc scope ((x0, s₁.heap.objs.size+2)::ZN X.env.cells scope.names []) (s₁.heap.objs.size+1) s₁ H₁ fp) [] H' b := fun hn b hb =>
      ⟨hn b hb, (I0.ok.exf b hb).1, I0.ok.exfs b hb, .inl hb, (I0.ok.exf b hb).2, fun p hp => absurd (show p∈([]:List (Addr × Obj)) from hp) (by simp)⟩
    refine Zc0 (fun n s' => ∃ i ys σ' H', Inv (Z7 X x0 Nc scope ((x0, s₁.heap.objs.size+2)::ZN X.env.cells scope.names []) (s₁.heap.objs.size+1) s₁ H₁ fp) [] σ' H' s'/\tn i s'.heap/\(∀ b∈fp, H' b=none)/\W i n ys σ' H') ?_ m0
      ⟨0, [], _, _, I0, st1, fun b hb => by rw [Zg (QAz (hfp b hb))]; exact (hf b hb).1, w0⟩
    rintro n s3 ⟨i, ys, σ3, H3, I3, st3, fr3, w3⟩;obtain ⟨hl, alt⟩ := turn i n ys σ3 H3 w3
    rcases alt with ⟨stop, qn⟩ | ⟨go, N, hN, step⟩
    · refine thn (T.done (Z7 X x0 Nc scope ((x0, s₁.heap.objs.size+2)::ZN X.env.cells scope.names []) (s₁.heap.objs.size+1) s₁ H₁ fp) rfl rfl rfl hc i [] s3 σ3 H3 NoX I3 (stat fr3) st3 stop) fun r s4 zz0 => ?_
      obtain ⟨hr, I4⟩ := zz0;subst hr;exact fin σ3 H3 s4 I4 qn
    · refine thn (T.item (Z7 X x0 Nc scope ((x0, s₁.heap.objs.size+2)::ZN X.env.cells scope.names []) (s₁.heap.objs.size+1) s₁ H₁ fp) rfl rfl rfl hc i [] s3 σ3 H3 NoX I3 (stat fr3) st3 go) fun r s4 zz0 => ?_
      obtain ⟨u, hr, h4⟩ := zz0;subst hr;refine thn h4 fun _ s5 zz0 => ?_
      obtain ⟨x, H5, I5, r5, y5, st5, fr5⟩ := zz0;have I5' := I5.pinned (stat fr5) (T.obj _ _ st5);have again:∀ {σ7:St} {H7:Hp} {s7:Shared} {zs:List V} {m':Nat}, Inv (Z7 X x0 Nc scope ((x0, s₁.heap.objs.size+2)::ZN X.env.cells scope.names []) (s₁.heap.objs.size+1) s₁ H₁ fp) ([]++ZbG fp s5.heap) σ7 H7 s7->m'<n->W (i+1) m' zs σ7 H7 ->
          ∃ m, m<n/\∃ i ys σ' H', Inv (Z7 X x0 Nc scope ((x0, s₁.heap.objs.size+2)::ZN X.env.cells scope.names []) (s₁.heap.objs.size+1) s₁ H₁ fp) [] σ' H' s7/\tn i s7.heap/\(∀ b∈fp, H' b=none)/\W i m ys σ' H' := fun {σ7 H7 s7 zs m'} I7 hm w7 => by
        refine ⟨m', hm, i+1, zs, σ7, H7, I7.unpinned, T.keep _ _ _ st5 fun b hb o e => (I7.pin (b, o) (QBi _ (QBi _ (Jc hb e)))).1, fun b hb => ?_, w7⟩;obtain ⟨o, e, d⟩ := T.obj _ _ st5 b hb;exact (I7.pin (b, o) (QBi _ (QBi _ (Jc hb e)))).2.1
      refine thn (hg _ _ _ _ _ _ s5 σ3 H5 x u _ I5' r5 (step x H5 y5)) fun _ s6 zz0 => ?_
      obtain ⟨σ6, H6, I6, q6⟩ := zz0;refine thn (ht _ _ _ _ _ _ s6 σ6 H6 _ I6 q6) fun ok s7 zz0 => ?_
      obtain ⟨H7, I7, q7⟩ := zz0
      cases ok with
      | false =>
        rw [if_neg QAl] at q7 ⊢;obtain ⟨m', hm, w7⟩ := hN _ _ _ q7;exact again I7 hm w7
      | true =>
        rw [if_pos rfl] at q7 ⊢;refine thn (he _ _ _ _ _ _ s7 σ6 H7 _ I7 q7) fun y s8 zz0 => ?_
        obtain ⟨v8, H8, I8, r8, hl8, hz8, n8⟩ := zz0;obtain ⟨m', hm, w8⟩ := hN _ _ _ n8;refine thn (Ya _ s8 σ6 H8 (.ref s₁.heap.objs.size) [v8] (.ref s₁.heap.objs.size) [y] (fun v H' => H'=upd H8 s₁.heap.objs.size (.lst (ys++[v8]))) I8 rfl (.cons r8 .nil) ⟨_, ys, v8, rfl, rfl, hl8, hz8, rfl⟩) fun _ s9 zz0 => ?_
        obtain ⟨_, H9, I9, _, e9⟩ := zz0;subst e9;exact again I9 hm w8
  exact codeAny_compStart_list (loop _) (T.self _ 0 _ _ _ st1 (loop _))
end
section
variable {X:Cx} {elt tg iter:Expr} {ifs:List Expr} {scope:Scope} {pos spos:Pos} {wi:TI} {g:TG} {tt:TT} {te:TE}
theorem ZgA (x0:Str) (Nc:List Str) (fm:List (Option Nat)) (hc:X.calm=true) (hk:captOkC X.N X.env.scope x0 Nc scope fm=true) (hi:PI X tg iter wi)
  (hg:∀ cl C s₁ H₁ fp,PG (Z7 X x0 Nc scope cl C s₁ H₁ fp) tg g) (ht:∀ cl C s₁ H₁ fp,PTs (Z7 X x0 Nc scope cl C s₁ H₁ fp) ifs tt) (he:∀ cl C s₁ H₁ fp,PE (Z7 X x0 Nc scope cl C s₁ H₁ fp) elt te)
  (hs:∀ x,foldedSetIterable iter X.env x=pure x:=by intro _; rfl):PE X (.ListComp elt [⟨tg,iter,ifs,0⟩] scope pos) (Zix fm wi g tt te):=by
 intro pins s σ H Q I h;have c:=captOkC.capt hk;rw [eval_ListComp];refine wpAny_comprehension_free (use:=none) rfl hs (J0 fun y hy e=>I.ok.has y.1 (c.free y hy e)) c.kind c.names (thn (hi pins s σ H _ I h) fun v s1 h1=>thn h1 fun itv s2 h2=>?_);obtain ⟨it,fp,tn,J,H2,e,I2,T,st2,f2,h⟩:=h2;subst e;refine ZfB (RR:=fun acc C=>compPost (model X.prog X.w) X.A X.xe none (EP X pins σ Q) acc C) hc c I2 T st2 f2 hg ht he h fun σ' H' s' J' q=>?_;obtain ⟨m,hn,_⟩:=J'.loc;exact ⟨m,hn,fun h'' sb=>⟨.ref s2.heap.objs.size,H',ZjN I2 J' (ZgV I2 f2 J') sb,rfl,q⟩⟩
end
theorem Zgz {X:Cx} {x0:Str} {Nc:List Str} {scope:Scope} {cl:List (Str × Addr)} {C:Addr} {s₁:Shared} {H₁:Hp} {fp:List Addr} (i:Nat) {pos:Pos} (hN:Nc.Nodup:=by decide +kernel) (hi:Nc[i]? = some x0:=by rfl)
  (hx:(relabel scope X.env).names.lookup x0=some .cell:=by rfl):PG (Z7 X x0 Nc scope cl C s₁ H₁ fp) (.Name x0 pos) (J7 i):=ZJ hN hi (.inr hx) (.inl (by show (x0==x0)=true; simp))
end L2
namespace L2
open PySem PySem.Spec PyProof.Rows
section
variable {prog:Program} {w:World} {A:Around} {E:Value->Shared->Prop} {s:Shared}
theorem Yc:∀ {vs:List Value} {ns:List Int},IntsAre vs ns->vs.length=ns.length
 | _,_,.nil=>rfl
 | _,_,.cons _ _ r=>by rw [QAx,QAx,Yc r]
theorem Ye:∀ {vs:List Value} {ns:List Int},IntsAre vs ns->∀ (j:Nat) (h:j<ns.length),∃ t,vs[j]? = some (.int ns[j] t)
 | _,_,.cons n t r,0,_=>⟨t,rfl⟩
 | _,_,.cons n t r,j+1,h=>Ye r j (Nat.lt_of_succ_lt_succ h)
theorem ZgN {k:Int}:∀ {ns:List Int} {j:Nat},j<ns.idxOf k->∀ (h2:j<ns.length),(ns[j]==k)=false:=fun h h2=>PyProof.Rows.ne_of_lt_idxOf h h2
theorem ZbD {t:Addr} {items:Array Value} {ns:List Int} {x:Int} {u:Tok} {P:Fin->Shared->Prop} (ht:IsTup s.heap t items) (hi:IntsAre items.toList ns) (hk:x∈ns)
  (h:P (.done (.ret (.int ((ns.idxOf x:Nat):Int) s.toks))) { s with toks:=s.toks+1 }):wpAny (model prog w) A (Builtin.«tuple.index» ⟨[.ref t,.int x u],[]⟩) P E s:=by
 have hlen:items.size=ns.length:=by rw [<- QAw]; exact Yc hi
 have hj:ns.idxOf x<ns.length:=List.idxOf_lt_length_iff.mpr hk;show wpAny _ _ (Builtin.Tuple.tupleItemsOf (.ref t) >>= _) _ _ s;refine QZq (tupleItemsOf_ ht ?_);show wpAny _ _ (forIn [0:min items.size items.size] _ _ >>= _) _ _ s;rw [Std.Legacy.Range.forIn_eq_forIn_range']
 simp only [Std.Legacy.Range.size,Nat.sub_zero,Nat.add_sub_cancel,Nat.div_one,Nat.min_self];refine QZq (wpAny_forIn_list _
   (fun rest b s'=>b.1=none/\s'=s/\∃ i,rest=List.range' i (items.size - i)/\i<=ns.idxOf x)
   _ ?_ ?_ _ _ ⟨rfl,rfl,0,by simp,QAh _⟩)
 ·rintro y rest b s' ⟨hb,rfl,i,hr,hle⟩;have e:items.size - i=(items.size - (i+1))+1:=by exact O485 hlen hj hle
  rw [e,List.range'_succ] at hr
  injection hr with h1 h2
  subst h1;obtain ⟨tk,hy⟩:=Ye hi y (by exact O484 hj hle);rw [QDc] at hy
  simp only [hy];refine QZq (wpAny_eqBool_int ?_)
  cases hnx:(ns[y]'(by exact O484 hj hle)==x) with
  | true =>
   have hyi:y=ns.idxOf x:=by
    rcases QCg y (ns.idxOf x) with z | z
    ·rw [ZgN z (by exact O144 hj z)] at hnx
     cases hnx
    ·exact O143 hle z
   subst hyi;exact QZq (QZq (wpAny_mkInt (QZr (QZr (QZr h)))))
  | false =>
   refine QZr ⟨rfl,rfl,y+1,h2,?_⟩
   rcases QCg y (ns.idxOf x) with z | z
   ·exact z
   ·have:y=ns.idxOf x:=by exact O143 hle z
    subst this;have:=List.getElem_idxOf hj;rw [this] at hnx
    simp at hnx
 ·rintro ⟨b1,b2⟩ s' ⟨hb,rfl,i,hr,hle⟩;have:items.size - i=0:=by
   cases hz:items.size - i with
   | zero=>rfl
   | succ m=>rw [hz,List.range'_succ] at hr; cases hr
  exact (O483 hlen hj hle this).elim
end
noncomputable def Zm7 (to:TE) (t:TA):TE:=fun σ H Q=>to σ H fun x H1=>∃ (p:Addr) (ns:List Int),x = .ref p/\H1 p=some (.tup (ns.map V.int))/\t σ H1 fun xs H2=>∃ k:Int,xs=[.int k]/\H2 p=some (.tup (ns.map V.int))/\k∈ns/\Q (.int ((ns.idxOf k:Nat):Int)) H2
section
variable {X:Cx} {o e:Expr} {to:TE} {t:TA} {apos cpos:Pos}
theorem J6 (ho:PE X o to) (ha:PA X [e] t)
  (hbase:attributeBase o "index" X.env (eval o X.env)=eval o X.env:=by rfl)
  (hfew:((backTo cpos (starEach [e] X.env)).all (fun x=>!x.1)&&(backToKw cpos (keywordEach [] X.env)).all (fun x=>x.1.isSome)
   && decide ([e].length+([]:List Keyword).length+(if ([]:List Keyword).isEmpty then 0 else 1)<30))=true:=by rfl)
  (hline:(apos.endLine==cpos.line)=true:=by rfl) (hs:starEach [e] X.env=(false,eval e X.env)::starEach [] X.env:=by rfl) (hplain:(backTo cpos (starEach [] X.env)).any (·.1)=false:=by rfl) :
  PE X (.Call (.Attribute o "index" apos) [e] [] cpos) (Zm7 to t):=by
 intro pins s σ H Q I h;refine wpAny_Call_method_late hbase hfew hline rfl (thn (ho pins s σ H _ I h) fun v s1 zz0=>?_);obtain ⟨x,H1,I1,r1,q1⟩:=zz0;obtain ⟨p,ns,rfl,hp,q1⟩:=q1
 cases r1;obtain ⟨_,its,_,pl⟩:=I1.hok p _ hp;have pl:IsTupN s1.heap p its.toArray:=pl;refine ⟨"tuple","tuple.index",F.plainAttrs_tuple,F.slot_tuple_index,F.type_tuple_index,pl.is.typeIs,fun a e=>(by cases e; exact pl.bare),?_⟩;have hA:=ha cpos pins s1 σ H1 _ I1 q1;rw [hs] at hA ⊢;refine Calls.callWith_builtin (by show (false||(backTo cpos (starEach [] X.env)).any (·.1))=false; rw [hplain] <;> rfl) (Calls.evalArgs_plain ?_);refine thn hA fun us s2 zz0=>?_;obtain ⟨vs,H2,I2,r2,q2⟩:=zz0;obtain ⟨k,rfl,hp2,hk,q⟩:=q2;obtain ⟨u,rfl,t,rfl⟩:=r2.one;obtain ⟨_,its2,rv,pl2⟩:=I2.hok p _ hp2;have pl2:IsTupN s2.heap p its2.toArray:=pl2;exact wpAny_call_entry F.slot_tuple_index pl2.is.typeIs F.entry_tuple_index (ZbD pl2.is (YC rv) hk ⟨_,rfl,.int _,H2,I2.tok _,⟨_,rfl⟩,q⟩) (F.args_tuple_index_2 _ _)
end
end L2
namespace My
open PySem L2
theorem ZaL {X:Cx} {pos:Pos} {es:List Expr} {k:Nat} {t:TGs} {n:Nat} (K:QZa) (hc:X.calm=true) (h:PGs X es t) (hK:X.K=K:=by rfl)
  (hn:(assignEach es X.env).length=n:=by rfl) (hst:(assignEach es X.env).findIdx? (·.1)=none:=by rfl):PG X (.Tuple es k pos) (ZmN K n t):=by subst hK; exact Zev hc h hn hst
end My
namespace L2
open PySem PySem.Spec PyProof.Rows
open PySem.SeqAt
noncomputable def Zkd:V->List V->Hp->VK->Prop:=fun x vs H Q=>∃ (l:Addr) (ns:List Int) (k:Int),x = .ref l/\vs=[.int k]/\H l=some (.lst (ns.map V.int))/\k∈ns/\Q (.int ((ns.idxOf k:Nat):Int)) H
theorem ZdE {X:Cx}:MtM X "list.index" Zkd:=by
 intro pins s σ H x vs v us Q I rx rv h;obtain ⟨l,ns,k,rfl,rfl,hH,hk,q⟩:=h
 cases rx;obtain ⟨u,rfl,t,rfl⟩:=rv.one;obtain ⟨z,its,n,r,hl,e⟩:=I.lstM hH;have hi:IntsAre its ns:=YC r;have hlen:its.length=ns.length:=Yc hi;have hj:ns.idxOf k<ns.length:=List.idxOf_lt_length_iff.mpr hk;have hb:=ZbQ;have hz:ns.length<=sizeLine:=by have:=z; rw [<- hlen]; exact Om.y2 ‹_› ‹_› rfl
 refine call_meets PySem.F.slot_list_index ⟨_,e,rfl⟩ PySem.F.entry_list_index (PySem.F.args_list_index_2 _ _)
  (list_indexAt l its.toArray n none #[] (.int k t) (isInt k) (ns.idxOf k) (by simpa [hlen] using hj) (by exact O482 z hl hlen hj hb) ?_ ?_) ⟨e,fun y hy=>(eq_isInt k t hi y (by simpa using hy)).at _ _,.int _,H,I.tok _,⟨_,rfl⟩,q⟩
 ·show isInt k its[ns.idxOf k]=true;rw [isInt_at k hi _ (by exact Om.a1 ‹_› ‹_›) hj]
  simpa using List.getElem_idxOf hj
 ·intro j hjs hlt;show isInt k its[j]=false;rw [isInt_at k hi j (by simpa using hjs) (by exact O144 hj hlt)];exact ne_of_lt_idxOf hlt _
end L2
namespace My
noncomputable abbrev HS:=List (Int × Nat)
noncomputable def look (hs:HS) (x:Int):Option Nat:=(hs.find? fun p=>decide (p.1=x)).map (·.2)
noncomputable def Zap (hs:HS) (x:Int) (w:Nat):HS:=if (hs.any fun p=>decide (p.1=x))=true then hs.map (fun p=>if p.1=x then (p.1,w) else p) else hs++[(x,w)]
noncomputable def Y6 (hs:HS):List Int:=hs.map (·.1)
theorem Zfh (x:Int):look [] x=none:=rfl
theorem Yk {p:Int × Nat} {r:HS} {x:Int} (e:p.1=x):look (p::r) x=some p.2:=by simp [look,List.find?_cons,e]
theorem Yl {p:Int × Nat} {r:HS} {x:Int} (e:¬ p.1=x):look (p::r) x=look r x:=by simp [look,List.find?_cons,e]
theorem look_none {x:Int}:∀ {hs:HS},look hs x=none↔x∉Y6 hs
 | []=>by simp [Zfh,Y6]
 | p::r=>by
  by_cases e:p.1=x
  ·rw [Yk e]
   simp [Y6,e]
  ·rw [Yl e,look_none]
   simp only [Y6,QAp,QBq,not_or];exact ⟨fun h=>⟨fun z=>e z.symm,h⟩,fun h=>h.2⟩
theorem ZcK {x:Int} {v:Nat}:∀ {hs:HS},look hs x=some v->(x,v)∈hs
 | [],h=>by cases h
 | p::r,h=>by
  by_cases e:p.1=x
  ·rw [Yk e] at h
   cases h;rw [<- e];exact QAj
  ·rw [Yl e] at h;exact QAm _ (ZcK h)
theorem Zb3 {x:Int} {v:Nat}:∀ {hs:HS},(Y6 hs).Nodup->(x,v)∈hs->look hs x=some v
 | [],_,h=>by cases h
 | p::r,nd,h=>by
  rcases QZn.mp h with z | z
  ·rw [Yk (by rw [<- z])];rw [<- z]
  ·have hn:p.1∉Y6 r:=(List.nodup_cons.mp nd).1;have:¬ p.1=x:=fun e=>hn (by rw [e]; exact QZd.mpr ⟨_,z,rfl⟩)
   rw [Yl this];exact Zb3 (List.nodup_cons.mp nd).2 z
theorem Zc6 (x:Int):∀ hs:HS,(hs.any fun p=>decide (p.1=x))=(look hs x).isSome
 | []=>rfl
 | p::r=>by
  rw [List.any_cons]
  by_cases e:p.1=x
  ·simp only [Yk e,QZh e,Bool.true_or,Option.isSome_some]
  ·rw [Yl e,QZi e,Bool.false_or];exact Zc6 x r
theorem ZcL (x y:Int) (w:Nat):∀ hs:HS,look (hs.map fun p=>if p.1=x then (p.1,w) else p) y=(look hs y).map fun v=>if y=x then w else v
 | []=>rfl
 | p::r=>by
  rw [QAp]
  by_cases h:p.1=x
  ·rw [if_pos h]
   by_cases e:p.1=y
   ·rw [Yk (p:=(p.1,w)) e,Yk e,QDe,if_pos (e.symm.trans h)]
   ·rw [Yl (p:=(p.1,w)) e,Yl e,ZcL x y w r]
  ·rw [if_neg h]
   by_cases e:p.1=y
   ·rw [Yk e,Yk e,QDe,if_neg (fun z=>h (e.trans z))]
   ·rw [Yl e,Yl e,ZcL x y w r]
theorem ZdG (x y:Int) (w:Nat):∀ hs:HS,look hs x=none->look (hs++[(x,w)]) y=if y=x then some w else look hs y
 | [],_=>by
  by_cases e:x=y
  ·rw [if_pos e.symm]; exact Yk (p:=(x,w)) e
  ·rw [if_neg (fun z=>e z.symm)]; exact Yl (p:=(x,w)) e
 | p::r,hn=>by
  rw [List.cons_append];have hk:¬ p.1=x:=fun z=>by rw [Yk z] at hn; cases hn
  rw [Yl hk] at hn
  by_cases e:p.1=y
  ·rw [Yk e,Yk e,if_neg (fun z=>hk (e.trans z))]
  ·rw [Yl e,Yl e,ZdG x y w r hn]
theorem ZcJ (hs:HS) (x y:Int) (w:Nat):look (Zap hs x w) y=if y=x then some w else look hs y:=by
 unfold Zap;rw [Zc6]
 cases q:look hs x with
 | none =>
  rw [if_neg (by decide)];exact ZdG x y w hs q
 | some v =>
  rw [if_pos (show (some v).isSome=true from rfl),ZcL]
  by_cases e:y=x
  ·rw [if_pos e,e,q,QDe,if_pos rfl]
  ·rw [if_neg e]
   cases look hs y with
   | none=>rfl
   | some u=>rw [QDe,if_neg e]
theorem Zjs (x:Int) (w:Nat) (hs:HS):Y6 (hs.map fun p=>if p.1=x then (p.1,w) else p)=Y6 hs:=by
 unfold Y6;rw [QBa];refine QBx fun p _=>?_;show (if p.1=x then (p.1,w) else p).1=p.1
 split <;> rfl
theorem ZdB {hs:HS} (x:Int) (w:Nat) (h:(Y6 hs).Nodup):(Y6 (Zap hs x w)).Nodup:=by
 unfold Zap;rw [Zc6]
 cases q:look hs x with
 | none =>
  rw [if_neg (by decide)];unfold Y6;rw [QAn];refine List.nodup_append.mpr ⟨h,by simp,fun a ha b hb=>?_⟩;rw [QAp,List.map_nil,QDf] at hb;rintro rfl;have hb':a=x:=hb;exact look_none.mp q (hb' ▸ ha)
 | some v =>
  rw [if_pos (show (some v).isSome=true from rfl),Zjs];exact h
theorem ZkA {hs:HS} {x:Int} {w:Nat} {p:Int × Nat} (h:p∈Zap hs x w):p∈hs\/p=(x,w):=by
 unfold Zap at h
 split at h
 ·obtain ⟨q,hq,e⟩:=QZd.mp h
  split at e
  ·next z=>rw [<- e,z]; exact .inr rfl
  ·rw [<- e]; exact .inl hq
 ·rcases QZf.mp h with z | z
  ·exact .inl z
  ·exact .inr (QZc.mp z)
noncomputable def cnt (hs:HS) (ts:List Int) (v:Nat):Nat:=hs.countP fun p=>decide (p.1∉ts)&&decide (p.2=v)
theorem JW {y:Int} {ts:List Int} (hy:y∉ts) (v:Nat):∀ {hs:HS},(Y6 hs).Nodup->cnt hs ts v=cnt hs (ts++[y]) v+if look hs y=some v then 1 else 0
 | [],_=>by
  rw [Zfh,if_neg (by intro z; cases z)]
  rfl
 | p::r,nd=>by
  have ih:=JW hy v (List.nodup_cons.mp nd).2;unfold cnt at ih ⊢;rw [QBv,QBv]
  by_cases e:p.1=y
  ·have hn:look r y=none:=look_none.mpr (e ▸ (List.nodup_cons.mp nd).1);rw [hn,if_neg (by intro z; cases z),Nat.add_zero] at ih;rw [Yk e,ih];have h1:(decide (p.1∉ts++[y])&&decide (p.2=v))=false:=by
    rw [QZi (by rw [e]; simp),QCa]
   have h2:decide (p.1∉ts)=true:=QZh (by rw [e]; exact hy);rw [h1,h2,QCf,if_neg QAl,Nat.add_zero]
   by_cases z:p.2=v
   ·rw [if_pos (QZh z),if_pos (by rw [z])]
   ·rw [if_neg (by rw [QZi z]; exact QAl),if_neg (fun q=>z (QZl q))]
  ·rw [Yl e,ih];have h1:(decide (p.1∉ts++[y])&&decide (p.2=v))=(decide (p.1∉ts)&&decide (p.2=v)):=by
    congr 1
    refine decide_eq_decide.mpr ⟨fun h z=>h (QBh _ z),fun h z=>?_⟩
    rcases QZf.mp z with z | z
    ·exact h z
    ·exact e (QZc.mp z)
   rw [h1];omega
theorem Zc1 {v:Nat} {hs:HS} (nd:(Y6 hs).Nodup):∀ {new ts:List Int},(ts++new).Nodup->cnt hs ts v=cnt hs (ts++new) v+new.countP fun y=>decide (look hs y=some v)
 | [],ts,_=>by rw [QBu]; rfl
 | y::new,ts,h=>by
  have e:ts++y::new=(ts++[y])++new:=by rw [QBo]; rfl
  rw [e] at h ⊢;have hy:y∉ts:=fun z=>by
   have:=(List.nodup_append.mp (List.nodup_append.mp h).1).2.2 y z y (by simp);exact this rfl
  rw [JW hy v nd,Zc1 nd h,QBv]
  by_cases q:look hs y=some v
  ·rw [if_pos q,if_pos (QZh q)];omega
  ·rw [if_neg q,if_neg (by rw [QZi q]; exact QAl)];omega
theorem ZhI {y:Int} {ts:List Int} (hy:y∉ts) {hs:HS} (nd:(Y6 hs).Nodup) (w v:Nat):cnt (Zap hs y w) ts v=cnt hs (ts++[y]) v+if v=w then 1 else 0:=by
 rw [JW hy v (ZdB y w nd),ZcJ,if_pos rfl];have h2:cnt (Zap hs y w) (ts++[y]) v=cnt hs (ts++[y]) v:=by
  unfold Zap cnt
  split
  ·rw [List.countP_map];refine List.countP_congr fun p _=>?_;show ((decide ((if p.1=y then (p.1,w) else p).1∉ts++[y])&&decide ((if p.1=y then (p.1,w) else p).2=v))=true↔_)
   by_cases e:p.1=y
   ·rw [if_pos e];have:decide (p.1∉ts++[y])=false:=QZi (by rw [e]; simp);show ((decide (p.1∉ts++[y])&&_)=true↔(decide (p.1∉ts++[y])&&_)=true);rw [this,QCa,QCa]
   ·rw [if_neg e]
  ·rw [List.countP_append,QBv,List.countP_nil];have:(decide ((y,w).1∉ts++[y])&&decide ((y,w).2=v))=false:=by
    rw [QZi (by simp),QCa]
   rw [this,if_neg QAl]
   rfl
 rw [h2]
 congr 1
 by_cases z:v=w
 ·rw [if_pos z,if_pos (by rw [z])]
 ·rw [if_neg z,if_neg (fun q=>z (QZl q).symm)]
noncomputable abbrev Res:=Bool × HS × List Int
noncomputable def Jt (rc:Nat->HS->List Int->Res) (w:Nat):List Int->HS->List Int->Res
 | [],hs,ts=>(false,hs,ts)
 | x::xs,hs,ts=>if x∈ts then Jt rc w xs hs ts else
  match look hs x with
  | none=>(true,Zap hs x w,ts++[x])
  | some v =>
   match rc v hs (ts++[x]) with
   | (true,hs',ts')=>(true,Zap hs' x w,ts')
   | (false,hs',ts')=>Jt rc w xs hs' ts'
noncomputable def YM (L:List (List Int)):Nat->Nat->HS->List Int->Res
 | 0,_,hs,ts=>(false,hs,ts)
 | k+1,w,hs,ts=>Jt (YM L k) w (L.getD w []) hs ts
structure OkH (L:List (List Int)) (hs:HS):Prop where
 nd:(Y6 hs).Nodup
 ed:∀ p∈hs,p.2<L.length/\p.1∈L.getD p.2 []
structure Zme (L:List (List Int)) (U:List Int) (w:Nat) (xs:List Int) (hs:HS) (ts:List Int) (r:Res) where
 new:List Int
 pre:r.2.2=ts++new
 nd:r.2.2.Nodup
 sub:∀ y∈new,y∈U
 keep:∀ y∈ts,look r.2.1 y=look hs y
 ok:OkH L r.2.1
 yes:r.1=true->∀ v,cnt r.2.1 ts v=cnt hs ts v+if v=w then 1 else 0
 no:r.1=false->r.2.1=hs/\(∀ x∈xs,x∈r.2.2)/\∀ y∈r.2.2,y∉ts->∃ v,look hs y=some v/\∀ x∈L.getD v [],x∈r.2.2
noncomputable def free (U ts:List Int):Nat:=U.countP fun y=>decide (y∉ts)
theorem ZkO {U ts:List Int} {x:Int} (hx:x∈U) (hn:x∉ts):free U (ts++[x])<free U ts:=by
 unfold free
 induction U with
 | nil=>cases hx
 | cons y U ih =>
  rw [QBv,QBv];have mono:∀ U:List Int,U.countP (fun y=>decide (y∉ts++[x]))<=U.countP fun y=>decide (y∉ts):=fun U=>List.countP_mono_left fun y _ h=>by
   simp only [QCu,QDf,not_or,QZg] at h ⊢;exact h.1
  by_cases e:y=x
  ·subst e;rw [if_neg (by simp),if_pos (QZh hn)];have:=mono U;omega
  ·rcases QZn.mp hx with z | z
   ·exact (e z.symm).elim
   ·have h1:decide (y∉ts++[x])=decide (y∉ts):=by
     refine decide_eq_decide.mpr ⟨fun h q=>h (QBh _ q),fun h q=>?_⟩
     rcases QZf.mp q with q | q
     ·exact h q
     ·exact e (QZc.mp q)
    rw [h1];have:=ih z;omega
theorem ZkP {U ts new:List Int}:free U (ts++new)<=free U ts:=List.countP_mono_left fun y _ h=>by
 simp only [QCu,not_or,QZg] at h ⊢;exact h.1
theorem OkH.put {L:List (List Int)} {hs:HS} (o:OkH L hs) {x:Int} {w:Nat} (hw:w<L.length) (hx:x∈L.getD w []):OkH L (Zap hs x w) :=
 ⟨ZdB x w o.nd,fun p hp=>(ZkA hp).elim (o.ed p) fun e=>by rw [e]; exact ⟨hw,hx⟩⟩
theorem ZbP {L:List (List Int)} {U:List Int} (hU:∀ l∈L,∀ x∈l,x∈U) {k:Nat} (ih:∀ v hs ts,v<L.length->OkH L hs->ts.Nodup->free U ts<k->Nonempty (Zme L U v (L.getD v []) hs ts (YM L k v hs ts)))
  {w:Nat} (hw:w<L.length):∀ (xs:List Int) (hs:HS) (ts:List Int),(∀ x∈xs,x∈L.getD w [])->OkH L hs->ts.Nodup->free U ts<=k->Nonempty (Zme L U w xs hs ts (Jt (YM L k) w xs hs ts))
 | [],hs,ts,_,o,nt,_=>⟨⟨[],(QBu _).symm,nt,fun y h=>(by cases h),fun _ _=>rfl,o,fun h=>(by cases h),fun _=>⟨rfl,fun x h=>(by cases h),fun y h h'=>(h' h).elim⟩⟩⟩
 | x::xs,hs,ts,hxs,o,nt,hf=>by
  have hxw:x∈L.getD w []:=hxs x QAj;have hxs':∀ x∈xs,x∈L.getD w []:=fun y h=>hxs y (QAm _ h)
  have hxU:x∈U:=by
   rw [QAc,QAb hw] at hxw;exact hU _ (QAq hw) x hxw
  by_cases e:x∈ts
  ·have hl:Jt (YM L k) w (x::xs) hs ts=Jt (YM L k) w xs hs ts:=by
    rw [Jt,if_pos e]
   rw [hl];obtain ⟨g⟩:=ZbP hU ih hw xs hs ts hxs' o nt hf;refine ⟨⟨g.new,g.pre,g.nd,g.sub,g.keep,g.ok,g.yes,fun h=>⟨(g.no h).1,fun y hy=>?_,(g.no h).2.2⟩⟩⟩
   rcases QZn.mp hy with z | z
   ·rw [z,g.pre]; exact QBh _ e
   ·exact (g.no h).2.1 y z
  ·have nt1:(ts++[x]).Nodup:=List.nodup_append.mpr ⟨nt,by simp,fun a ha b hb=>by
    rw [QDf] at hb;rintro rfl;exact e (hb ▸ ha)⟩
   cases q:look hs x with
   | none =>
    have hl:Jt (YM L k) w (x::xs) hs ts=(true,Zap hs x w,ts++[x]):=by
     rw [Jt,if_neg e,q]
    rw [hl];refine ⟨⟨[x],rfl,nt1,fun y h=>by rw [QZc.mp h]; exact hxU,fun y hy=>?_,o.put hw hxw,fun _ v=>?_,fun h=>(by cases h)⟩⟩
    ·show look (Zap hs x w) y=look hs y;rw [ZcJ,if_neg (fun z:y=x=>e (z ▸ hy))]
    ·show cnt (Zap hs x w) ts v=_;rw [ZhI e o.nd,JW e v o.nd,q,if_neg (show ¬ (none:Option Nat)=some v from fun z=>by cases z)]
     rfl
   | some v =>
    have hv:v<L.length:=(o.ed _ (ZcK q)).1;obtain ⟨g⟩:=ih v hs (ts++[x]) hv o nt1 (QBb (ZkO hxU e) hf)
    cases hr:YM L k v hs (ts++[x]) with
    | mk b r =>
     obtain ⟨hs',ts'⟩:=r;rw [hr] at g
     cases b with
     | true =>
      have hl:Jt (YM L k) w (x::xs) hs ts=(true,Zap hs' x w,ts'):=by
       rw [Jt,if_neg e,q]
       simp only [hr]
      rw [hl];have gp:ts'=ts++[x]++g.new:=g.pre;refine ⟨⟨[x]++g.new,by rw [<- QBo]; exact gp,g.nd,fun y h=>?_,fun y hy=>?_,g.ok.put hw hxw,fun _ u=>?_,fun h=>(by cases h)⟩⟩
      ·rcases QZf.mp h with z | z
       ·rw [QZc.mp z]; exact hxU
       ·exact g.sub y z
      ·show look (Zap hs' x w) y=look hs y;rw [ZcJ,if_neg (fun z:y=x=>e (z ▸ hy))];exact g.keep y (QBh _ hy)
      ·show cnt (Zap hs' x w) ts u=_;have h1:cnt hs' (ts++[x]) u=cnt hs (ts++[x]) u+if u=v then 1 else 0:=g.yes rfl u
       rw [ZhI e g.ok.nd,h1,JW e u o.nd,q]
       congr 2
       by_cases z:u=v
       ·rw [if_pos z,if_pos (by rw [z])]
       ·rw [if_neg z,if_neg (fun y=>z (QZl y).symm)]
     | false =>
      have hl:Jt (YM L k) w (x::xs) hs ts=Jt (YM L k) w xs hs' ts':=by
       rw [Jt,if_neg e,q]
       simp only [hr]
      rw [hl];obtain ⟨n1,n2,n3⟩:=g.no rfl;have n1':hs'=hs:=n1;subst n1';have gp:ts'=ts++[x]++g.new:=g.pre;have hf':free U ts'<=k:=by
       rw [gp,QBo];exact QAs ZkP hf
      obtain ⟨g2⟩:=ZbP hU ih hw xs hs' ts' hxs' o g.nd hf';have gp2:=g2.pre;have hsub:∀ y∈ts',y∈(Jt (YM L k) w xs hs' ts').2.2:=fun y hy=>by rw [gp2]; exact QBh _ hy
      refine ⟨⟨[x]++g.new++g2.new,gp2.trans ((congrArg (· ++ g2.new) gp).trans (by simp only [QBo])),g2.nd,fun y h=>?_,fun y hy=>?_,g2.ok,fun h u=>?_,fun h=>⟨(g2.no h).1,fun y hy=>?_,fun y hy hn=>?_⟩⟩⟩
      ·rcases QZf.mp h with h | h
       ·rcases QZf.mp h with z | z
        ·rw [QZc.mp z]; exact hxU
        ·exact g.sub y z
       ·exact g2.sub y h
      ·exact g2.keep y (by rw [gp]; exact QBh _ (QBh _ hy))
      ·have h2:=g2.yes h u;have hnd:(ts++([x]++g.new)).Nodup:=by rw [<- QBo,<- gp]; exact g.nd
       have e1:=Zc1 (v:=u) g2.ok.nd hnd;have e2:=Zc1 (v:=u) o.nd hnd;rw [<- QBo,<- gp] at e1 e2;have e3:([x]++g.new).countP (fun y=>decide (look (Jt (YM L k) w xs hs' ts').2.1 y=some u))=([x]++g.new).countP fun y=>decide (look hs' y=some u):=by
        refine List.countP_congr fun y hy=>?_;rw [g2.keep y (by rw [gp,QBo]; exact QBi _ hy)]
       rw [e3] at e1;omega
      ·rcases QZn.mp hy with z | z
       ·rw [z];exact hsub _ (by rw [gp]; exact QBh _ (QBi _ (QZc.mpr rfl)))
       ·exact (g2.no h).2.1 y z
      ·by_cases hy':y∈ts'
       ·by_cases z:y=x
        ·exact ⟨v,by rw [z]; exact q,fun a ha=>hsub a (n2 a ha)⟩
        ·obtain ⟨u,hu,hc⟩:=n3 y hy' (fun m=>(QZf.mp m).elim hn fun m=>z (QZc.mp m));exact ⟨u,hu,fun a ha=>hsub a (hc a ha)⟩
       ·exact (g2.no h).2.2 y hy hy'
theorem Zco {L:List (List Int)} {U:List Int} (hU:∀ l∈L,∀ x∈l,x∈U):∀ (k v:Nat) (hs:HS) (ts:List Int),v<L.length->OkH L hs->ts.Nodup->free U ts<k->Nonempty (Zme L U v (L.getD v []) hs ts (YM L k v hs ts))
 | 0,_,_,_,_,_,_,h=>absurd h (QDs _)
 | k+1,v,hs,ts,hv,o,nt,h=>ZbP hU (Zco hU k) hv _ hs ts (fun _ h=>h) o nt (Nat.le_of_lt_succ h)
end My
namespace My
noncomputable def JD (L:List (List Int)) (k:Nat):List Nat->HS->Option (Nat × List Int) × HS
 | [],hs=>(none,hs)
 | w::ws,hs=>match YM L k w hs [] with
  | (true,hs',_)=>JD L k ws hs'
  | (false,hs',ts)=>(some (w,ts),hs')
noncomputable def valH (hs:HS) (y:Int):Nat:=(look hs y).getD 0
structure Paper (L:List (List Int)) (hs:HS) (u:Nat) (ts:List Int):Prop where
 hu:u<L.length
 nd:ts.Nodup
 held:∀ y∈ts,∃ v,look hs y=some v/\v<L.length/\v≠u/\∀ x∈L.getD v [],x∈ts
 inj:∀ y∈ts,∀ z∈ts,look hs y=look hs z->y=z
 own:∀ x∈L.getD u [],x∈ts
theorem ZkV {hs:HS} (nd:(Y6 hs).Nodup) {y:Int} {v:Nat} (h:look hs y=some v):1<=cnt hs [] v:=by
 rw [JW (y:=y) (ts:=[]) (by simp) v nd,if_pos h];exact O481
theorem ZkU {hs:HS} (nd:(Y6 hs).Nodup) {y z:Int} {v:Nat} (h:look hs y=some v) (h':look hs z=some v) (ne:y≠z):2<=cnt hs [] v:=by
 rw [JW (y:=y) (ts:=[]) (by simp) v nd,if_pos h,JW (y:=z) (ts:=[]++[y]) (by simpa using fun e=>ne e.symm) v nd,if_pos h'];exact O480
structure Held (L:List (List Int)) (hs:HS) (w:Nat):Prop where
 ok:OkH L hs
 one:∀ v,cnt hs [] v=if v<w then 1 else 0
theorem Held.inj {L:List (List Int)} {hs:HS} {w:Nat} (h:Held L hs w) {y z:Int} {v:Nat} (hy:look hs y=some v) (hz:look hs z=some v):y=z:=by
 by_cases e:y=z
 ·exact e
 ·have h2:=ZkU h.ok.nd hy hz e;rw [h.one v] at h2
  split at h2 <;> omega
theorem Held.lt {L:List (List Int)} {hs:HS} {w:Nat} (h:Held L hs w) {y:Int} {v:Nat} (hy:look hs y=some v):v<w:=by
 have h2:=ZkV h.ok.nd hy;rw [h.one v] at h2
 split at h2
 ·assumption
 ·exact (O479 h2).elim
theorem ZeP {L:List (List Int)} {U:List Int} (hU:∀ l∈L,∀ x∈l,x∈U) {k:Nat} (hk:U.length<k):∀ (m w:Nat) (hs:HS),w+m=L.length->Held L hs w ->
  ((JD L k (List.range' w m) hs).1=none->Held L (JD L k (List.range' w m) hs).2 L.length) /\
   ∀ u ts,(JD L k (List.range' w m) hs).1=some (u,ts)->Paper L (JD L k (List.range' w m) hs).2 u ts
 | 0,w,hs,hw,h=>⟨fun _=>by rw [<- hw]; exact h,fun u ts e=>by cases e⟩
 | m+1,w,hs,hw,h=>by
  have hwl:w<L.length:=by exact O478 hw
  have hfr:free U []<k:=QEd List.countP_le_length hk;obtain ⟨g⟩:=Zco hU k w hs [] hwl h.ok QBr hfr;rw [List.range'_succ]
  cases hr:YM L k w hs [] with
  | mk b r =>
   obtain ⟨hs',ts'⟩:=r;rw [hr] at g
   cases b with
   | true =>
    have e:JD L k (w::List.range' (w+1) m) hs=JD L k (List.range' (w+1) m) hs':=by
     rw [JD]
     simp only [hr]
    rw [e];refine ZeP hU hk m (w+1) hs' (by exact O477 hw) ⟨g.ok,fun v=>?_⟩;have:=g.yes rfl v;rw [show cnt hs' [] v=_ from this,h.one v]
    by_cases a:v<w
    ·rw [if_pos a,if_neg (by exact O476 hw a),if_pos (by exact Om.f2 ‹_›)]
    ·rw [if_neg a]
     by_cases b:v=w
     ·rw [if_pos b,if_pos (by exact O475 hw b)]
     ·rw [if_neg b,if_neg (by exact O474 hw a b)]
   | false =>
    have e:JD L k (w::List.range' (w+1) m) hs=(some (w,ts'),hs'):=by
     rw [JD]
     simp only [hr]
    rw [e];obtain ⟨n1,n2,n3⟩:=g.no rfl;have n1':hs'=hs:=n1;subst n1';refine ⟨fun z=>(by cases z),fun u ts z=>?_⟩
    cases z;refine ⟨hwl,g.nd,fun y hy=>?_,fun y hy z hz q=>?_,n2⟩
    ·obtain ⟨v,hv,hc⟩:=n3 y hy (by simp);have:=h.lt hv;exact ⟨v,hv,by exact O473 hw hwl this,by exact O472 hw this,hc⟩
    ·obtain ⟨v,hv,_⟩:=n3 y hy (by simp);exact h.inj hv (q ▸ hv)
theorem Zjw (L:List (List Int)):Held L [] 0:=⟨⟨QBr,fun p h=>by cases h⟩,fun v=>by rw [if_neg (by exact O471 )]; rfl⟩
theorem ZcM:∀ {T S:List Int},T.Nodup->(∀ x∈T,x∈S)->T.length<=S.length
 | [],_,_,_=>QAh _
 | x::T,S,nd,h=>by
  have hx:x∈S:=h x QAj;have ih:=ZcM (T:=T) (S:=S.erase x) (List.nodup_cons.mp nd).2 fun y hy=>by
   have:y≠x:=fun e=>(List.nodup_cons.mp nd).1 (e ▸ hy)
   exact (List.mem_erase_of_ne this).mpr (h y (QAm _ hy))
  rw [List.length_erase_of_mem hx] at ih;have:0<S.length:=QDt hx;rw [QAx];omega
noncomputable def Zex (hs:HS) (u:Nat) (ts:List Int):List Int:=(u:Int)::ts.map fun y=>((valH hs y:Nat):Int)
theorem Paper.val {L:List (List Int)} {hs:HS} {u:Nat} {ts:List Int} (p:Paper L hs u ts) {y:Int} (hy:y∈ts):look hs y=some (valH hs y):=by
 obtain ⟨v,hv,_⟩:=p.held y hy;unfold valH;rw [hv]
 rfl
theorem Paper.nodup {L:List (List Int)} {hs:HS} {u:Nat} {ts:List Int} (p:Paper L hs u ts):(Zex hs u ts).Nodup:=by
 refine List.nodup_cons.mpr ⟨fun h=>?_,?_⟩
 ·obtain ⟨y,hy,e⟩:=QZd.mp h;obtain ⟨v,hv,_,hne,_⟩:=p.held y hy;rw [p.val hy] at hv;have:=QZl hv;exact (O470 e hne this).elim
 ·refine QZk.mpr (QZm.mpr ?_);have nd:=p.nd;have go:∀ {l:List Int},(∀ x∈l,x∈ts)->l.Nodup->l.Pairwise fun a b=>((valH hs a:Nat):Int)≠((valH hs b:Nat):Int):=by
   intro l
   induction l with
   | nil=>intro _ _; exact .nil
   | cons a l ih =>
    intro hs' nd;refine .cons (fun b hb e=>?_) (ih (fun x hx=>hs' x (QAm _ hx)) (List.nodup_cons.mp nd).2);have ha:=hs' a QAj;have hb':=hs' b (QAm _ hb);have:a=b:=p.inj a ha b hb' (by rw [p.val ha,p.val hb']; congr 1; exact Om.e1 ‹_›);exact (List.nodup_cons.mp nd).1 (this ▸ hb)
  exact go (fun _ h=>h) nd
theorem Paper.mem {L:List (List Int)} {hs:HS} {u:Nat} {ts:List Int} (p:Paper L hs u ts) {z:Int} (h:z∈Zex hs u ts):∃ v:Nat,z=(v:Int)/\v<L.length/\∀ x∈L.getD v [],x∈ts:=by
 rcases QZn.mp h with e | e
 ·exact ⟨u,e,p.hu,p.own⟩
 ·obtain ⟨y,hy,e⟩:=QZd.mp e;obtain ⟨v,hv,hl,_,hc⟩:=p.held y hy;rw [p.val hy] at hv;exact ⟨v,by rw [<- e,QZl hv],hl,hc⟩
end My
namespace My
noncomputable def Yf (R:List (List Int)) (c:Nat):List Int:=R.map fun r=>r.getD c 0
noncomputable def ZG (n:Nat):List Int:=(List.range n).map fun (k:Nat)=>(k:Int)
structure OkRows (n:Nat) (R:List (List Int)):Prop where
 len:R.length<=n
 row:∀ r∈R,r.length=n/\r.Nodup/\∀ x∈r,0<=x/\x<(n:Int)
 col:∀ c,c<n->(Yf R c).Nodup
noncomputable def JJ (n:Nat) (R:List (List Int)) (c:Nat):List Int:=(ZG n).filter fun t=>decide (t∉Yf R c)
noncomputable def ZaV (n:Nat) (R:List (List Int)):List (List Int):=(List.range n).map (JJ n R)
theorem mem_rngI {n:Nat} {x:Int}:x∈ZG n↔0<=x/\x<(n:Int):=by
 unfold ZG;rw [QZd]
 constructor
 ·rintro ⟨k,hk,rfl⟩;have:=QZe.mp hk;omega
 ·intro h;exact ⟨x.toNat,QZe.mpr (by exact O469 h),by exact O468 h⟩
theorem JE (n:Nat):(ZG n).Nodup:=by
 unfold ZG;refine QZk.mpr (QZm.mpr ?_);exact (QZk.mp QCh).imp fun h e=>h (by exact Om.e1 ‹_›)
theorem Yh (n:Nat):(ZG n).length=n:=by rw [ZG,QAa,QAr]
theorem ZgX {A B:List Int} (na:A.Nodup) (h:∀ x∈A,x∈B) (hl:B.length<=A.length):∀ x∈B,x∈A:=by
 intro x hx
 by_cases e:x∈A
 ·exact e
 ·exfalso;have:=ZcM (T:=A) (S:=B.erase x) na fun y hy=>by
   have:y≠x:=fun z=>e (z ▸ hy)
   exact (List.mem_erase_of_ne this).mpr (h y hy)
  rw [List.length_erase_of_mem hx] at this;have:0<B.length:=QDt hx;exact (O467 hl ‹_› this).elim
theorem YU {n:Nat} {r:List Int} (hl:r.length=n) (nd:r.Nodup) (hr:∀ x∈r,0<=x/\x<(n:Int)) {t:Int} (ht:0<=t/\t<(n:Int)):t∈r :=
 ZgX nd (fun x hx=>mem_rngI.mpr (hr x hx)) (by rw [Yh,hl]; exact QAd _) t (mem_rngI.mpr ht)
theorem Zb1 {n:Nat} {t:Int} (ht:0<=t/\t<(n:Int)):∀ {R:List (List Int)},(∀ r∈R,r.length=n/\r.Nodup/\∀ x∈r,0<=x/\x<(n:Int))->(∀ c,c<n->(Yf R c).Nodup)->R.length<=(List.range n).countP fun c=>decide (t∈Yf R c)
 | [],_,_=>QAh _
 | r::R,hr,hc=>by
  have ih:=Zb1 ht (R:=R) (fun r' h=>hr r' (by simp [h])) fun c h=>by
   have:=hc c h;exact (List.nodup_cons.mp this).2
  obtain ⟨hl,nd,hb⟩:=hr r (by simp);have hmem:=YU hl nd hb ht;obtain ⟨i,hi,e⟩:=QBe hmem;have hin:i<n:=by exact Om.a2 ‹_› ‹_›
  have hg:r.getD i 0=t:=by rw [QAc,QAb hi]; exact e
  have hni:t∉Yf R i:=by
   have:r.getD i 0∉Yf R i:=(List.nodup_cons.mp (hc i hin)).1;rw [hg] at this;exact this
  have key:∀ (l:List Nat),l.Nodup->i∈l->l.countP (fun c=>decide (t∈Yf R c))+1<=l.countP fun c=>decide (t∈Yf (r::R) c):=by
   intro l
   induction l with
   | nil=>intro _ h; cases h
   | cons c l ih =>
    intro nd h;have hsub:∀ l:List Nat,l.countP (fun c=>decide (t∈Yf R c))<=l.countP fun c=>decide (t∈Yf (r::R) c):=fun l=>by
     refine List.countP_mono_left fun c _ hc=>?_;exact QZh (QAm _ (QZj hc))
    rw [QBv,QBv]
    by_cases e:c=i
    ·subst e;rw [QZi hni,QZh (show t∈Yf (r::R) c by show t∈r.getD c 0::_; rw [hg]; exact QAj)];have:=hsub l
     simp
     assumption
    ·have hin:i∈l:=by
      rcases QZn.mp h with z | z
      ·exact absurd z.symm e
      ·exact z
     have:=ih (List.nodup_cons.mp nd).2 hin
     by_cases q:t∈Yf R c
     ·rw [QZh q,QZh (show t∈Yf (r::R) c from QAm _ q)]
      simp
      assumption
     ·rw [QZi q]
      simp
      exact O466 hi this
  have:=key (List.range n) QCh (QZe.mpr hin);rw [QAx];omega
theorem ZgT (l:List Nat) (p:Nat->Bool):l.countP (fun c=>!p c)+l.countP p=l.length:=by
 induction l with
 | nil=>rfl
 | cons a l ih =>
  rw [QBv,QBv,QAx]
  cases p a <;> simp <;> omega
theorem Zjr {n:Nat} {R:List (List Int)} (c:Nat):n - R.length<=(JJ n R c).length:=by
 have h:(ZG n).length<=(JJ n R c).length+(Yf R c).length:=by
  have:=ZcM (T:=ZG n) (S:=JJ n R c++Yf R c) (JE n) fun x hx=>by
   by_cases e:x∈Yf R c
   ·exact QBi _ e
   ·exact QBh _ (QZo.mpr ⟨hx,QZh e⟩)
  rwa [QAo] at this
 rw [Yh] at h;unfold Yf at h;rw [QAa] at h;omega
theorem dbl (T:List Int) (m:Nat->Int->Bool):∀ P:List Nat,(P.map fun p=>T.countP fun t=>m p t).sum=(T.map fun t=>P.countP fun p=>m p t).sum
 | []=>by
  induction T with
  | nil=>rfl
  | cons t T ih=>simpa using ih
 | p::P=>by
  rw [QAp,QDg,dbl T m P];clear dbl
  induction T with
  | nil=>rfl
  | cons t T ih =>
   rw [QAp,QAp,QDg,QDg,QBv,QBv];exact O465 ih
theorem Ziz {α:Type} {f:α->Nat} {d:Nat}:∀ {l:List α},(∀ x∈l,d<=f x)->l.length*d<=(l.map f).sum
 | [],_=>by simp
 | x::l,h=>by
  have:=Ziz (l:=l) fun y hy=>h y (by simp [hy])
  have:=h x (by simp);rw [QAp,QDg,QAx,QCt];omega
theorem Ziy {α:Type} {f:α->Nat} {d:Nat}:∀ {l:List α},(∀ x∈l,f x<=d)->(l.map f).sum<=l.length*d
 | [],_=>by simp
 | x::l,h=>by
  have:=Ziy (l:=l) fun y hy=>h y (by simp [hy])
  have:=h x (by simp);rw [QAp,QDg,QAx,QCt];omega
theorem ZdJ {n:Nat} {R:List (List Int)} {c:Nat} (h:c<n):(ZaV n R).getD c []=JJ n R c:=by
 unfold ZaV;rw [QAc,QAe,QBj h]
 rfl
theorem ZdI (n:Nat) (R:List (List Int)):(ZaV n R).length=n:=by rw [ZaV,QAa,QAr]
theorem ZjD {A B:List Int} (na:A.Nodup) (h:∀ x∈A,x∈B):A.length<=B.countP fun t=>decide (t∈A):=by
 rw [List.countP_eq_length_filter];exact ZcM na fun x hx=>QZo.mpr ⟨h x hx,QZh hx⟩
theorem ZcY:∀ {A B:List Nat} (p:Nat->Bool),A.Nodup->(∀ x∈A,x∈B)->A.countP p<=B.countP p
 | [],B,p,_,_=>by simp
 | a::A,B,p,nd,h=>by
  have ha:=h a (by simp);have ih:=ZcY (A:=A) (B:=B.erase a) p (List.nodup_cons.mp nd).2 fun x hx=>by
   have:x≠a:=fun e=>(List.nodup_cons.mp nd).1 (e ▸ hx)
   exact (List.mem_erase_of_ne this).mpr (h x (by simp [hx]))
  have e:B.countP p=(B.erase a).countP p+if p a then 1 else 0:=by
   have:=(List.perm_cons_erase ha).countP_eq p;rw [this,QBv]
  rw [QBv,e];omega
theorem Zje {n:Nat} {R:List (List Int)} (ok:OkRows n R) (hlt:R.length<n) {hs:HS} {u:Nat} {ts:List Int} (pa:Paper (ZaV n R) hs u ts):False:=by
 let P:List Nat:=u::ts.map (valH hs)
 have eP:Zex hs u ts=P.map fun (k:Nat)=>(k:Int):=by
  show _=(u:Int)::(ts.map (valH hs)).map _;rw [QBa]
  rfl
 have ndP:P.Nodup:=by
  have:=pa.nodup;rw [eP] at this;exact QZk.mpr ((QZm.mp (QZk.mp this)).imp fun h e=>h (by rw [e]))
 have hP:∀ p∈P,p<n/\∀ x∈JJ n R p,x∈ts:=fun p hp=>by
  obtain ⟨v,e,hv,hx⟩:=pa.mem (z:=(p:Int)) (by rw [eP]; exact QZd.mpr ⟨p,hp,rfl⟩);have:v=p:=by exact O464 e
  subst this;rw [ZdI] at hv;rw [ZdJ hv] at hx;exact ⟨hv,hx⟩
 have h1:=Ziz (l:=P) (f:=fun p=>ts.countP fun t=>decide (t∈JJ n R p)) (d:=n - R.length) fun p hp=>by
  have nd:(JJ n R p).Nodup:=(JE n).sublist List.filter_sublist;exact QAs (Zjr p) (ZjD nd (hP p hp).2)
 rw [dbl ts (fun p t=>decide (t∈JJ n R p)) P] at h1;have h2:=Ziy (l:=ts) (f:=fun t=>P.countP fun p=>decide (t∈JJ n R p)) (d:=n - R.length) fun t _=>by
  by_cases ht:0<=t/\t<(n:Int)
  ·have hs:=Zb1 ht ok.row ok.col;have hn:=ZgT (List.range n) fun c=>decide (t∈Yf R c)
   rw [QAr] at hn;have hle:P.countP (fun p=>decide (t∈JJ n R p))<=(List.range n).countP fun c=>!decide (t∈Yf R c):=by
    refine QAs (ZcY (B:=List.range n) _ ndP fun x hx=>QZe.mpr (hP x hx).1) (List.countP_mono_left fun c _ hc=>?_);have:=(QZo.mp (QZj hc)).2
    simpa using this
   omega
  ·have:P.countP (fun p=>decide (t∈JJ n R p))=0:=by
    rw [List.countP_eq_zero];intro p _ hc;exact ht (mem_rngI.mp (QZo.mp (QZj hc)).1)
   omega
 have hl:P.length=ts.length+1:=by show (u::ts.map (valH hs)).length=_; rw [QAx,QAa]
 rw [hl,QCt] at h1;have h3:0<n - R.length:=by exact O330 hlt
 exact (O463 h1 h2 h3).elim
theorem OkRows.more {n:Nat} {R:List (List Int)} (ok:OkRows n R) (hlt:R.length<n) {r:List Int} (hl:r.length=n) (nd:r.Nodup) (hm:∀ c,c<n->r.getD c 0∈JJ n R c):OkRows n (R++[r]):=by
 have hb:∀ x∈r,0<=x/\x<(n:Int):=fun x hx=>by
  obtain ⟨i,hi,e⟩:=QBe hx;have:=hm i (by exact Om.a2 ‹_› ‹_›);rw [QAc,QAb hi] at this;have:=(QZo.mp this).1;have h2:=mem_rngI.mp this;rw [<- e];exact h2
 refine ⟨by rw [QAo]; exact hlt,fun r' h=>?_,fun c hc=>?_⟩
 ·rcases QZf.mp h with h | h
  ·exact ok.row r' h
  ·rw [QZc.mp h];exact ⟨hl,nd,hb⟩
 ·unfold Yf;rw [QAn];refine List.nodup_append.mpr ⟨ok.col c hc,by simp,fun a ha b hb' e=>?_⟩;have hb2:b=r.getD c 0:=by simpa using hb'
  have h2:=(QZo.mp (hm c hc)).2;have h3:r.getD c 0∉Yf R c:=by simpa using h2
  exact h3 (by rw [<- hb2,<- e]; exact ha)
theorem ZeY (n:Nat):(ZG n).Pairwise (· <= ·):=by
 unfold ZG;rw [QZm];exact List.pairwise_lt_range.imp fun h=>by exact O462 h
theorem ZiM {n:Nat} {r:List Int} (hl:r.length=n) (nd:r.Nodup) (hr:∀ x∈r,0<=x/\x<(n:Int)):r.Perm (ZG n) :=
 (QEr nd (JE n)).mpr fun x=>⟨fun h=>mem_rngI.mpr (hr x h),fun h=>YU hl nd hr (mem_rngI.mp h)⟩
end My
namespace My
theorem Held.has {L:List (List Int)} {hs:HS} {n v:Nat} (h:Held L hs n) (hv:v<n):∃ y,look hs y=some v:=by
 have h1:=h.one v;rw [if_pos hv] at h1;unfold cnt at h1;have h2:0<hs.countP fun p=>decide (p.1∉([]:List Int))&&decide (p.2=v):=by exact O461 h1
 obtain ⟨p,hp,hq⟩:=List.countP_pos_iff.mp h2
 simp only [QAv,QZg] at hq;exact ⟨p.1,Zb3 h.ok.nd (by rw [<- hq.2]; exact hp)⟩
structure OkRow (n:Nat) (A:List (List Int)) (r:List Int):Prop where
 len:r.length=n
 nd:r.Nodup
 at_:∀ c,c<n->r.getD c 0∈JJ n A c
theorem Zgq {n:Nat} {R:List (List Int)} (ok:OkRows n R) (hlt:R.length<n):∃ r,OkRow n R r:=by
 have hU:∀ l∈ZaV n R,∀ x∈l,x∈ZG n:=fun l hl x hx=>by
  obtain ⟨c,_,rfl⟩:=QZd.mp hl;exact (QZo.mp hx).1
 have g:=ZeP (L:=ZaV n R) (U:=ZG n) hU (k:=n+1) (by rw [Yh]; exact O460 ) (ZaV n R).length 0 [] (by exact O459 ) (Zjw _);generalize JD (ZaV n R) (n+1) (List.range' 0 (ZaV n R).length) []=z at g;obtain ⟨o,hs⟩:=z
 cases o with
 | some p=>exact (Zje ok hlt (g.2 p.1 p.2 rfl)).elim
 | none =>
  have hd:=g.1 rfl;rw [ZdI] at hd
  let pick:Nat->Int:=fun v=>if h:v<n then Classical.choose (hd.has h) else 0
  have hp:∀ v,v<n->look hs (pick v)=some v:=fun v hv=>by
   show look hs (if h:v<n then Classical.choose (hd.has h) else 0)=some v;rw [dif_pos hv];exact Classical.choose_spec (hd.has hv)
  refine ⟨(List.range n).map pick,by rw [QAa,QAr],?_,fun c hc=>?_⟩
  ·refine QZk.mpr (QZm.mpr ?_);refine List.Pairwise.imp_of_mem ?_ (QZk.mp QCh);intro a b ha hb hne e;have h1:=hp a (QZe.mp ha);rw [e,hp b (QZe.mp hb)] at h1;exact hne (QZl h1).symm
  ·have e:((List.range n).map pick).getD c 0=pick c:=by
    rw [QAc,QAe,QBj hc]
    rfl
   rw [e];have h2:=(hd.ok.ed _ (ZcK (hp c hc))).2;rw [ZdJ hc] at h2;exact h2
theorem OkRow.more {n:Nat} {R:List (List Int)} {r:List Int} (h:OkRow n R r) (ok:OkRows n R) (hlt:R.length<n):OkRows n (R++[r]):=ok.more hlt h.len h.nd h.at_
noncomputable def ZW (n:Nat) (A:List (List Int)) (row:List Int):List Int:=(ZG n).filter fun t=>decide (t∉row)&&decide (t∉Yf A row.length)
structure PRow (n:Nat) (A:List (List Int)) (row:List Int):Prop where
 len:row.length<=n
 nd:row.Nodup
 at_:∀ c,c<row.length->row.getD c 0∈JJ n A c
theorem PRow.nil (n:Nat) (A:List (List Int)):PRow n A []:=⟨QAh _,QBr,fun c h=>absurd h (QDs _)⟩
theorem PRow.full {n:Nat} {A:List (List Int)} {row:List Int} (p:PRow n A row) (h:row.length=n):OkRow n A row:=⟨h,p.nd,fun c hc=>p.at_ c (by exact Om.a1 ‹_› ‹_›)⟩
theorem PRow.next {n:Nat} {A:List (List Int)} {row:List Int} (p:PRow n A row) (h:row.length<n) {t:Int} (ht:t∈ZW n A row):PRow n A (row++[t]):=by
 obtain ⟨h1,h2⟩:=QZo.mp ht
 simp only [QAv,QZg] at h2;refine ⟨by rw [QAo]; exact h,List.nodup_append.mpr ⟨p.nd,by simp,fun a ha b hb=>by
  rw [QDf] at hb;rintro rfl;exact h2.1 (hb ▸ ha)⟩,fun c hc=>?_⟩
 rw [QAo] at hc;have hc':c<row.length+1:=hc
 by_cases e:c<row.length
 ·have:=p.at_ c e;rw [QAc,QCo e,<- QAc];exact this
 ·have ec:c=row.length:=by exact O399 hc' e
  subst ec;rw [QAc,QCs (QAd _),Nat.sub_self];exact QZo.mpr ⟨h1,QZh h2.2⟩
theorem Zkw {n:Nat} {A:List (List Int)} {row r:List Int} (h:row.length<n) (o:OkRow n A r) (hp:row <+: r):∃ t∈ZW n A row,row++[t] <+: r:=by
 obtain ⟨tl,rfl⟩:=hp;have hl:=o.len;rw [QAo] at hl
 cases tl with
 | nil=>simp at hl; exact (O418 h hl).elim
 | cons t tl =>
  refine ⟨t,?_,⟨tl,by simp⟩⟩;have h1:=o.at_ row.length (by assumption);rw [QAc,QCs (QAd _),Nat.sub_self] at h1;obtain ⟨h2,h3⟩:=QZo.mp h1;refine QZo.mpr ⟨h2,?_⟩;have h4:=List.nodup_append.mp o.nd
  simp only [QAv];exact ⟨QZh fun z=>h4.2.2 t z t QAj rfl,h3⟩
end My
namespace My
structure One (n:Nat) (s:Nat->Nat):Prop where
 lt:∀ c,c<n->s c<n
 inj:∀ c d,c<n->d<n->s c=s d->c=d
noncomputable def Z0 (acc:List Nat):Nat:=acc.getLast?.getD 0
theorem Je (acc:List Nat) (x:Nat):Z0 (acc++[x])=x:=by simp [Z0]
inductive Path (n:Nat) (s:Nat->Nat) (c:Nat):List Nat->Prop
 | one:c<n->Path n s c [c]
 | more {acc:List Nat}:Path n s c acc->s (Z0 acc)∉acc->Path n s c (acc++[s (Z0 acc)])
theorem Path.lt {n:Nat} {s:Nat->Nat} {c:Nat} (o:One n s) {acc:List Nat} (p:Path n s c acc):∀ x∈acc,x<n:=by
 induction p with
 | one h=>intro x hx; rw [QZc.mp hx]; exact h
 | @more acc p _ ih =>
  have hl:Z0 acc<n:=by
   cases p with
   | one h=>exact h
   | @more acc' p' _=>rw [Je]; exact ih _ (by simp)
  intro x hx
  rcases QZf.mp hx with hx | hx
  ·exact ih x hx
  ·rw [QZc.mp hx];exact o.lt _ hl
theorem Path.last_mem {n:Nat} {s:Nat->Nat} {c:Nat} {acc:List Nat} (p:Path n s c acc):Z0 acc∈acc:=by
 cases p with
 | one _=>exact QZc.mpr rfl
 | more _ _=>rw [Je]; simp
theorem Path.nodup {n:Nat} {s:Nat->Nat} {c:Nat} {acc:List Nat} (p:Path n s c acc):acc.Nodup:=by
 induction p with
 | one _=>simp
 | more p h ih=>exact List.nodup_append.mpr ⟨ih,by simp,fun a ha b hb e=>h (by rw [<- QZc.mp hb,<- e]; exact ha)⟩
theorem Path.head_mem {n:Nat} {s:Nat->Nat} {c:Nat} {acc:List Nat} (p:Path n s c acc):c∈acc:=by
 induction p with
 | one _=>exact QZc.mpr rfl
 | more _ _ ih=>exact QBh _ ih
theorem Path.pred {n:Nat} {s:Nat->Nat} {c:Nat} {acc:List Nat} (p:Path n s c acc):∀ x∈acc,x≠c->∃ y∈acc,y≠Z0 acc/\s y=x:=by
 induction p with
 | one _=>intro x hx hne; exact absurd (QZc.mp hx) hne
 | @more acc p h ih =>
  intro x hx hne;rw [Je]
  rcases QZf.mp hx with hx | hx
  ·obtain ⟨y,hy,_,e⟩:=ih x hx hne;exact ⟨y,QBh _ hy,fun z=>h (z ▸ hy),e⟩
  ·exact ⟨Z0 acc,QBh _ p.last_mem,fun z=>h (z ▸ p.last_mem),(QZc.mp hx).symm⟩
theorem Path.back {n:Nat} {s:Nat->Nat} {c:Nat} (o:One n s) {acc:List Nat} (p:Path n s c acc) (h:s (Z0 acc)∈acc):s (Z0 acc)=c:=by
 by_cases e:s (Z0 acc)=c
 ·exact e
 ·obtain ⟨y,hy,hne,hs⟩:=p.pred _ h e;exact absurd (o.inj _ _ (p.lt o _ hy) (p.lt o _ p.last_mem) hs) hne
theorem Zbl {l:List Nat} {n:Nat} (nd:l.Nodup) (h:∀ x∈l,x<n):l.length<=n:=by
 have nd':(l.map fun (c:Nat)=>(c:Int)).Nodup:=QZk.mpr (QZm.mpr ((QZk.mp nd).imp fun h e=>h (by exact Om.e1 ‹_›)));have:=ZcM nd' (S:=ZG n) fun x hx=>by
  obtain ⟨c,hc,rfl⟩:=QZd.mp hx;have:=h c hc;exact mem_rngI.mpr ⟨by exact Om.c6,by exact Om.c5 ‹_›⟩
 rwa [QAa,Yh] at this
noncomputable def Zal (s:Nat->Nat) (c:Nat):Nat->List Nat->List Nat
 | 0,acc=>acc
 | m+1,acc=>if s (Z0 acc)=c then acc else Zal s c m (acc++[s (Z0 acc)])
noncomputable def Yq (s:Nat->Nat) (n c:Nat):List Nat:=Zal s c n [c]
theorem Path.next {n:Nat} {s:Nat->Nat} {c:Nat} (o:One n s) {acc:List Nat} (p:Path n s c acc) (h:s (Z0 acc)≠c):Path n s c (acc++[s (Z0 acc)])/\acc.length<n:=by
 have p':Path n s c (acc++[s (Z0 acc)]):=.more p fun z=>h (p.back o z)
 refine ⟨p',?_⟩;have:=Zbl p'.nodup (p'.lt o);rw [QAo] at this;exact this
theorem Ze1 {n:Nat} {s:Nat->Nat} {c:Nat} (o:One n s):∀ (m:Nat) (acc:List Nat),Path n s c acc->n<m+acc.length+1->Path n s c (Zal s c m acc)/\s (Z0 (Zal s c m acc))=c
 | 0,acc,p,h=>by
  refine ⟨p,?_⟩
  by_cases e:s (Z0 acc)=c
  ·exact e
  ·have:=(p.next o e).2;exact (O458 h this).elim
 | m+1,acc,p,h=>by
  rw [Zal]
  by_cases e:s (Z0 acc)=c
  ·rw [if_pos e];exact ⟨p,e⟩
  ·rw [if_neg e];exact Ze1 o m _ (p.next o e).1 (by rw [QAo]; show n<m+(acc.length+1)+1; exact O457 h)
theorem Zah {n:Nat} {s:Nat->Nat} {c:Nat} (o:One n s) (hc:c<n):Path n s c (Yq s n c)/\s (Z0 (Yq s n c))=c:=Ze1 o n [c] (.one hc) (by simp; exact O456 )
theorem Ze0 {n:Nat} {s:Nat->Nat} {c:Nat} (o:One n s) (hc:c<n) {x:Nat} (hx:x∈Yq s n c):s x∈Yq s n c/\∃ y∈Yq s n c,s y=x:=by
 obtain ⟨p,e⟩:=Zah o hc
 constructor
 ·generalize Yq s n c=acc at p e hx;have go:∀ {acc:List Nat},Path n s c acc->∀ x∈acc,x=Z0 acc\/s x∈acc:=by
   intro acc p
   induction p with
   | one _=>intro x hx; exact .inl (QZc.mp hx)
   | @more acc p h ih =>
    intro x hx;rw [Je]
    rcases QZf.mp hx with hx | hx
    ·rcases ih x hx with z | z
     ·exact .inr (by rw [z]; simp)
     ·exact .inr (QBh _ z)
    ·exact .inl (QZc.mp hx)
  rcases go p x hx with z | z
  ·rw [z,e];exact p.head_mem
  ·exact z
 ·by_cases h:x=c
  ·exact ⟨_,p.last_mem,e.trans h.symm⟩
  ·obtain ⟨y,hy,_,hs⟩:=p.pred x hx h;exact ⟨y,hy,hs⟩
noncomputable def ZE (s:Nat->Nat) (n:Nat):Nat->List (List Nat)
 | 0=>[]
 | i+1=>if (ZE s n i).all (fun r=>decide (i∉r))=true then ZE s n i++[Yq s n i] else ZE s n i
end My
namespace My
structure Cyc (s:Nat->Nat) (c:List Nat):Prop where
 pos:0<c.length
 nd:c.Nodup
 nx:∀ i,i<c.length->s (c.getD i 0)=c.getD ((i+1) % c.length) 0
noncomputable def rot (c:List Nat) (k:Nat):List Nat:=c.drop k++c.take k
theorem gDN {c:List Nat} {i:Nat} (h:i<c.length):c.getD i 0=c[i]:=by rw [QAc,QAb h]; rfl
theorem YV (c:List Nat) (k:Nat):(rot c k).length=c.length:=by
 unfold rot;rw [QAo,QBn,QAu];exact O455
theorem Zct {c:List Nat} {k i:Nat} (hk:k<c.length) (hi:i<c.length):(rot c k).getD i 0=c.getD ((k+i) % c.length) 0:=by
 unfold rot;rw [QAc,QAc]
 congr 1
 by_cases h:k+i<c.length
 ·rw [QCo (by rw [QBn]; exact O454 hk h),List.getElem?_drop,QCm h]
 ·rw [QCs (by rw [QBn]; exact O453 hk h),QBn,List.getElem?_take_of_lt (by exact O452 hk hi h)]
  congr 1
  rw [Nat.mod_eq_sub_mod (by exact O451 h),QCm (by exact O450 hk hi h)];exact O449 hk h
theorem rot_mem {c:List Nat} {k x:Nat}:x∈rot c k↔x∈c:=by
 unfold rot;rw [QCu,or_comm,<- QCu,QCn]
theorem Zly {c:List Nat} {k:Nat} (h:c.Nodup):(rot c k).Nodup:=by
 have p:(rot c k).Perm c:=by
  unfold rot;refine List.perm_append_comm.trans ?_;rw [QCn]
 exact p.nodup_iff.mpr h
theorem Cyc.rot {s:Nat->Nat} {c:List Nat} (h:Cyc s c) {k:Nat} (hk:k<c.length):Cyc s (rot c k):=by
 refine ⟨by rw [YV]; exact h.pos,Zly h.nd,fun i hi=>?_⟩;rw [YV] at hi ⊢;rw [Zct hk hi,Zct hk (Nat.mod_lt _ h.pos),h.nx _ (Nat.mod_lt _ h.pos),Nat.mod_add_mod,Nat.add_mod_mod,Nat.add_assoc]
theorem Zjg {c:List Nat} (h:c.Nodup) {i j:Nat} (hi:i<c.length) (hj:j<c.length) (e:c.getD i 0=c.getD j 0):i=j:=by
 rw [gDN hi,gDN hj] at e;exact (List.getElem_inj h).mp e
theorem Zji {k m L:Nat} (hk:k<L) (h:(k+m) % L=k):m % L=0:=by
 have:(k+m) % L=k % L:=by rw [h,QCm hk]
 have:=Nat.sub_mod_eq_zero_of_mod_eq this
 rwa [Nat.add_sub_cancel_left] at this
theorem Zfy {s:Nat->Nat} {c d:List Nat} (hc:Cyc s c) (hd:Cyc s d) {k:Nat} (hk:k<d.length) (e:c.getD 0 0=d.getD k 0):c=rot d k:=by
 have all:∀ i,c.getD (i % c.length) 0=d.getD ((k+i) % d.length) 0:=by
  intro i
  induction i with
  | zero=>rw [Nat.zero_mod,Nat.add_zero,QCm hk]; exact e
  | succ i ih =>
   have h1:=hc.nx (i % c.length) (Nat.mod_lt _ hc.pos);have h2:=hd.nx ((k+i) % d.length) (Nat.mod_lt _ hd.pos);rw [ih,h2,Nat.mod_add_mod,Nat.mod_add_mod] at h1;rw [<- h1]
   rfl
 have l1:c.length % d.length=0:=by
  have h:=all c.length;rw [Nat.mod_self,e] at h;exact Zji hk (Zjg hd.nd hk (Nat.mod_lt _ hd.pos) h).symm
 have l2:d.length % c.length=0:=by
  have h:=all d.length;rw [Nat.add_mod_right,QCm hk,<- e] at h;exact Zjg hc.nd (Nat.mod_lt _ hc.pos) hc.pos h
 have hl:c.length=d.length:=Nat.dvd_antisymm (Nat.dvd_of_mod_eq_zero l2) (Nat.dvd_of_mod_eq_zero l1);refine QBs (by rw [YV,hl]) fun i h1 h2=>?_;have h:=all i;rw [QCm h1,gDN h1] at h;rw [h,<- Zct hk (by exact O419 hl h1),gDN h2]
structure Cov (s:Nat->Nat) (C:List (List Nat)) (U:Nat->Prop):Prop where
 cy:∀ c∈C,Cyc s c
 dj:C.Pairwise fun c d=>∀ x∈c,x∉d
 all:∀ x,U x↔∃ c∈C,x∈c
theorem YF {α:Type} {C:List α} {i:Nat} (h:i<C.length) {x:α}:x∈C↔x=C[i]\/x∈C.eraseIdx i:=by
 rw [QCv]
 conv=>lhs; rw [<- QCn i C,QBc h]
 simp only [QCu,QBq]
 constructor
 ·rintro (a | a | a)
  ·exact .inr (.inl a)
  ·exact .inl a
  ·exact .inr (.inr a)
 ·rintro (a | a | a)
  ·exact .inr (.inl a)
  ·exact .inl a
  ·exact .inr (.inr a)
theorem ZcV {α:Type} {C:List α} {i:Nat} (h:i<C.length):(C[i]::C.eraseIdx i).Perm C:=by
 rw [QCv]
 conv=>rhs; rw [<- QCn i C,QBc h]
 exact List.perm_middle.symm
theorem ZlB {C D:List (List Nat)} (p:C.Perm D) (h:C.Pairwise fun c d=>∀ x∈c,x∉d):D.Pairwise fun c d=>∀ x∈c,x∉d :=
 (p.pairwise_iff fun {a b} q x hx hb=>q x hb hx).mp h
theorem Cov.erase {s:Nat->Nat} {C:List (List Nat)} {U:Nat->Prop} (v:Cov s C U) {i:Nat} (h:i<C.length) {c:List Nat} (hc:∀ x,x∈c↔x∈C[i]):Cov s (C.eraseIdx i) (fun x=>U x/\x∉c):=by
 have dj:=ZlB (ZcV h).symm v.dj;rw [List.pairwise_cons] at dj;refine ⟨fun d hd=>v.cy d ((YF h).mpr (.inr hd)),dj.2,fun x=>?_⟩;rw [v.all x]
 constructor
 ·rintro ⟨⟨d,hd,hx⟩,hn⟩
  rcases (YF h).mp hd with rfl | hd
  ·exact absurd ((hc x).mpr hx) hn
  ·exact ⟨d,hd,hx⟩
 ·rintro ⟨d,hd,hx⟩;exact ⟨⟨d,(YF h).mpr (.inr hd),hx⟩,fun z=>dj.1 d hd x ((hc x).mp z) hx⟩
theorem Cov.find {s:Nat->Nat} {C:List (List Nat)} {U:Nat->Prop} (v:Cov s C U) {d:List Nat} (hd:Cyc s d) (hU:∀ x∈d,U x):∃ (i:Nat) (h:i<C.length) (k:Nat),k<C[i].length/\d=rot C[i] k:=by
 have h0:d.getD 0 0∈d:=by rw [gDN hd.pos]; exact QAq _
 obtain ⟨c,hc,hx⟩:=(v.all _).mp (hU _ h0);obtain ⟨i,hi,rfl⟩:=QBe hc;obtain ⟨k,hk,e⟩:=QBe hx;exact ⟨i,hi,k,hk,Zfy hd (v.cy _ hc) hk (by rw [gDN hk,e])⟩
inductive Alg (s:Nat->Nat):(Nat->Prop)->List Nat->List Nat->Prop
 | nil {U:Nat->Prop}:(∀ x,¬ U x)->Alg s U [] []
 | step {U:Nat->Prop} {c w ls:List Nat}:Cyc s c->(∀ x∈c,U x)->(∀ d,Cyc s d->(∀ x∈d,U x)->c.length<=d.length)->Alg s (fun x=>U x/\x∉c) w ls->Alg s U (c++w) (c.length::ls)
theorem Alg.congr {s:Nat->Nat} {U V:Nat->Prop} {w ls:List Nat} (h:∀ x,U x↔V x) (a:Alg s U w ls):Alg s V w ls:=by
 have:U=V:=funext fun x=>propext (h x)
 exact this ▸ a
theorem Zc7 {s:Nat->Nat} {U:Nat->Prop} {w ls:List Nat} (a:Alg s U w ls):∀ {C:List (List Nat)},Cov s C U->ls.Perm (C.map List.length)/\ls.Pairwise (· <= ·):=by
 induction a with
 | nil h =>
  intro C v
  cases C with
  | nil=>exact ⟨.nil,.nil⟩
  | cons c C =>
   have:=(v.cy c QAj).pos;exact absurd ((v.all (c.getD 0 0)).mpr ⟨c,QAj,by rw [gDN this]; exact QAq _⟩) (h _)
 | @step U c w ls hc hU hm _ ih =>
  intro C v;obtain ⟨i,hi,k,hk,e⟩:=v.find hc hU;have hl:c.length=C[i].length:=by rw [e,YV]
  obtain ⟨p,pw⟩:=ih (v.erase hi (c:=c) fun x=>by rw [e]; exact rot_mem)
  constructor
  ·refine ((p.cons c.length).trans ?_);rw [hl];exact (ZcV hi).map List.length
  ·refine List.pairwise_cons.mpr ⟨fun m hm'=>?_,pw⟩;obtain ⟨d,hd,rfl⟩:=QZd.mp (p.mem_iff.mp hm');have hd':=(YF hi).mpr (.inr hd);exact hm d (v.cy d hd') fun x hx=>(v.all x).mpr ⟨d,hd',hx⟩
noncomputable def ZgL (C:List (List Nat)) (m:Nat):Prop:=(∃ c∈C,c.length=m)/\∀ c∈C,m<=c.length
noncomputable def mnl (C:List (List Nat)):Nat:=(C.map List.length).foldl Nat.min (C.headD []).length
noncomputable def Zr:Nat->List (List Nat)->List (List Nat)
 | _,[]=>[[]]
 | 0,_::_=>[]
 | f+1,c::C=>(List.range (c::C).length).flatMap fun i=>if ((c::C).getD i []).length=mnl (c::C) then (List.range (mnl (c::C))).flatMap fun st=>(Zr f ((c::C).take i++(c::C).drop (i+1))).map fun w=>rot ((c::C).getD i []) st++w else []
theorem Zfs:∀ (l:List Nat) (a:Nat),(l.foldl Nat.min a=a\/l.foldl Nat.min a∈l)/\l.foldl Nat.min a<=a/\∀ x∈l,l.foldl Nat.min a<=x
 | [],a=>⟨.inl rfl,QAd _,fun x h=>by cases h⟩
 | y::l,a=>by
  obtain ⟨h1,h2,h3⟩:=Zfs l (Nat.min a y);rw [List.foldl_cons];have ha:Nat.min a y<=a:=Nat.min_le_left _ _;have hy:Nat.min a y<=y:=Nat.min_le_right _ _;refine ⟨?_,QAs h2 ha,fun x hx=>?_⟩
  ·rcases h1 with h1 | h1
   ·by_cases q:a<=y
    ·exact .inl (by rw [h1]; exact Nat.min_eq_left q)
    ·exact .inr (by rw [h1]; exact QZn.mpr (.inl (Nat.min_eq_right (by exact O448 q))))
   ·exact .inr (QAm _ h1)
  ·rcases QZn.mp hx with rfl | hx
   ·exact QAs h2 hy
   ·exact h3 x hx
theorem ZaO (c:List Nat) (C:List (List Nat)):ZgL (c::C) (mnl (c::C)):=by
 obtain ⟨h1,h2,h3⟩:=Zfs ((c::C).map List.length) c.length;refine ⟨?_,fun d hd=>h3 _ (QZd.mpr ⟨d,hd,rfl⟩)⟩
 rcases h1 with h1 | h1
 ·exact ⟨c,QAj,h1.symm⟩
 ·obtain ⟨d,hd,e⟩:=QZd.mp h1;exact ⟨d,hd,e⟩
theorem gDL {C:List (List Nat)} {i:Nat} (h:i<C.length):C.getD i []=C[i]:=by rw [QAc,QAb h]; rfl
theorem Y7 (f:Nat) (c:List Nat) (C:List (List Nat)):Zr (f+1) (c::C)=(List.range (c::C).length).flatMap fun i=>if ((c::C).getD i []).length=mnl (c::C) then (List.range (mnl (c::C))).flatMap fun st=>(Zr f ((c::C).take i++(c::C).drop (i+1))).map fun w=>rot ((c::C).getD i []) st++w else []:=rfl
theorem Cyc.head {s:Nat->Nat} {c:List Nat} (h:Cyc s c):c.getD 0 0∈c:=by rw [gDN h.pos]; exact QAq _
theorem mem_walks {f:Nat} {c:List Nat} {C:List (List Nat)} {w:List Nat}:w∈Zr (f+1) (c::C)↔∃ (i:Nat) (h:i<(c::C).length) (st:Nat) (w':List Nat),(c::C)[i].length=mnl (c::C)/\st<(c::C)[i].length/\w'∈Zr f ((c::C).eraseIdx i)/\w=rot (c::C)[i] st++w':=by
 rw [Y7,QZp]
 constructor
 ·rintro ⟨i,hi,h⟩;have hi':=QZe.mp hi;rw [gDL hi'] at h
  by_cases q:(c::C)[i].length=mnl (c::C)
  ·rw [if_pos q] at h;obtain ⟨st,hst,h⟩:=QZp.mp h;obtain ⟨w',hw,rfl⟩:=QZd.mp h;exact ⟨i,hi',st,w',q,by rw [q]; exact QZe.mp hst,by rw [QCv]; exact hw,rfl⟩
  ·rw [if_neg q] at h
   cases h
 ·rintro ⟨i,hi,st,w',q,hst,hw,rfl⟩;refine ⟨i,QZe.mpr hi,?_⟩;rw [gDL hi,if_pos q];refine QZp.mpr ⟨st,QZe.mpr (by rw [<- q]; exact hst),QZd.mpr ⟨w',?_,rfl⟩⟩;rw [<- QCv];exact hw
theorem YQ {s:Nat->Nat}:∀ {f:Nat} {C:List (List Nat)} {U:Nat->Prop} {w:List Nat},Cov s C U->C.length<=f->(w∈Zr f C↔∃ ls,Alg s U w ls)
 | f,[],U,w,v,_=>by
  have hU:∀ x,¬ U x:=fun x h=>by
   obtain ⟨c,hc,_⟩:=(v.all x).mp h
   cases hc
  have e:Zr f []=[[]]:=by cases f <;> rfl
  rw [e,QDf]
  constructor
  ·rintro rfl;exact ⟨[],.nil hU⟩
  ·rintro ⟨ls,a⟩
   cases a with
   | nil=>rfl
   | step hc hc2 _ _=>exact absurd (hc2 _ hc.head) (hU _)
 | 0,_::_,_,_,_,h=>by simp at h
 | f+1,c::C,U,w,v,hf=>by
  have lst:=ZaO c C;rw [mem_walks]
  constructor
  ·rintro ⟨i,hi,st,w',q,hst,hw,rfl⟩;have hcy:=(v.cy _ (QAq hi)).rot hst;have v':=v.erase hi (c:=rot (c::C)[i] st) fun x=>rot_mem
   obtain ⟨ls,a⟩:=(YQ v' (by rw [List.length_eraseIdx_of_lt hi]; simp at hf ⊢; assumption)).mp hw;refine ⟨_,.step hcy (fun x hx=>(v.all x).mpr ⟨_,QAq hi,rot_mem.mp hx⟩) (fun d hd hdU=>?_) a⟩;obtain ⟨j,hj,k,hk,e⟩:=v.find hd hdU;rw [YV,q,e,YV];exact lst.2 _ (QAq hj)
  ·rintro ⟨ls,a⟩
   cases a with
   | nil h=>exact absurd ((v.all _).mpr ⟨c,QAj,(v.cy c QAj).head⟩) (h _)
   | @step _ d w' ls hd hdU hm a =>
    obtain ⟨i,hi,k,hk,rfl⟩:=v.find hd hdU;have v':=v.erase hi (c:=rot (c::C)[i] k) fun x=>rot_mem
    refine ⟨i,hi,k,w',?_,hk,(YQ v' (by rw [List.length_eraseIdx_of_lt hi]; simp at hf ⊢; assumption)).mpr ⟨ls,a⟩,rfl⟩;obtain ⟨⟨d',hd',e⟩,h2⟩:=lst;have h3:=hm d' (v.cy d' hd') fun x hx=>(v.all x).mpr ⟨d',hd',hx⟩
    rw [YV,e] at h3;exact Nat.le_antisymm h3 (h2 _ (QAq hi))
termination_by f=>f
theorem Zbz {s:Nat->Nat}:∀ {f:Nat} {C:List (List Nat)},(∀ c∈C,0<c.length)->C.length<=f->∃ w,w∈Zr f C
 | f,[],_,_=>⟨[],by cases f <;> simp [Zr]⟩
 | 0,_::_,_,h=>by simp at h
 | f+1,c::C,hp,hf=>by
  obtain ⟨⟨d,hd,e⟩,_⟩:=ZaO c C;obtain ⟨i,hi,rfl⟩:=QBe hd;obtain ⟨w,hw⟩:=Zbz (s:=s) (f:=f) (C:=(c::C).eraseIdx i) (fun x hx=>hp x ((YF hi).mpr (.inr hx))) (by rw [List.length_eraseIdx_of_lt hi]; simp at hf ⊢; assumption);exact ⟨_,mem_walks.mpr ⟨i,hi,0,w,e,hp _ hd,hw,rfl⟩⟩
section
variable {n:Nat} {s s' θ θi:Nat->Nat}
structure Conj (n:Nat) (s s' θ θi:Nat->Nat):Prop where
 a:∀ x,θi (θ x)=x
 b:∀ x,θ (θi x)=x
 lt:∀ x,x<n->θ x<n
 lti:∀ x,x<n->θi x<n
 go:∀ x,x<n->s' (θ x)=θ (s x)
 sl:∀ x,x<n->s x<n
theorem Conj.sym (h:Conj n s s' θ θi):Conj n s' s θi θ:=by
 refine ⟨h.b,h.a,h.lti,h.lt,fun x hx=>?_,fun x hx=>?_⟩
 ·have:=h.go (θi x) (h.lti x hx);rw [h.b] at this;rw [this,h.a]
 ·have:=h.go (θi x) (h.lti x hx);rw [h.b] at this;rw [this];exact h.lt _ (h.sl _ (h.lti x hx))
theorem Conj.inj (h:Conj n s s' θ θi) {x y:Nat} (e:θ x=θ y):x=y:=by rw [<- h.a x,<- h.a y,e]
theorem Zjm {c:List Nat} {θ:Nat->Nat} {i:Nat} (h:i<c.length):(c.map θ).getD i 0=θ (c.getD i 0):=by
 rw [gDN (by rw [QAa]; exact h),gDN h,QBk]
theorem Conj.cyc (h:Conj n s s' θ θi) {c:List Nat} (hc:Cyc s c) (hn:∀ x∈c,x<n):Cyc s' (c.map θ):=by
 refine ⟨by rw [QAa]; exact hc.pos,?_,fun i hi=>?_⟩
 ·refine QZk.mpr (QZm.mpr ((QZk.mp hc.nd).imp fun q e=>q (h.inj e)))
 ·rw [QAa] at hi ⊢;have hm:c.getD i 0∈c:=by rw [gDN hi]; exact QAq _
  rw [Zjm hi,Zjm (Nat.mod_lt _ hc.pos),h.go _ (hn _ hm),hc.nx i hi]
theorem Conj.alg (h:Conj n s s' θ θi) {U:Nat->Prop} {w ls:List Nat} (a:Alg s U w ls):(∀ x,U x->x<n)->Alg s' (fun y=>U (θi y)) (w.map θ) ls:=by
 induction a with
 | nil hU=>intro _; exact .nil fun x=>hU _
 | @step U c w ls hc hU hm _ ih =>
  intro hn;rw [QAn];have e:c.length=(c.map θ).length:=(QAa _).symm;rw [e];refine .step (h.cyc hc fun x hx=>hn x (hU x hx)) (fun x hx=>?_) (fun d hd hdU=>?_) (Alg.congr (fun y=>?_) (ih fun x hx=>hn x hx.1))
  ·obtain ⟨z,hz,rfl⟩:=QZd.mp hx;show U (θi (θ z));rw [h.a];exact hU z hz
  ·have h2:=hm (d.map θi) (h.sym.cyc hd fun x hx=>by have:=h.lt _ (hn _ (hdU x hx)); rw [h.b] at this; exact this) fun x hx=>by
    obtain ⟨z,hz,rfl⟩:=QZd.mp hx;exact hdU z hz
   rw [QAa] at h2 ⊢;exact h2
  ·show U (θi y)/\θi y∉c↔U (θi y)/\y∉c.map θ;refine and_congr_right fun _=>not_congr ⟨fun z=>QZd.mpr ⟨_,z,h.b y⟩,fun z=>?_⟩
   obtain ⟨x,hx,rfl⟩:=QZd.mp z;rw [h.a];exact hx
theorem ZgU (h:Conj n s s' θ θi) {C C':List (List Nat)} (v:Cov s C (· < n)) (v':Cov s' C' (· < n)) {f f':Nat} (hf:C.length<=f) (hf':C'.length<=f') {w:List Nat} (hw:w∈Zr f C):w.map θ∈Zr f' C':=by
 obtain ⟨ls,a⟩:=(YQ v hf).mp hw;refine (YQ v' hf').mpr ⟨ls,Alg.congr (fun x=>?_) (h.alg a fun x hx=>hx)⟩;exact ⟨fun z=>by have:=h.lt _ z; rw [h.b] at this; exact this,fun z=>h.lti _ z⟩
theorem Zil (h:Conj n s s' θ θi) {C C':List (List Nat)} (v:Cov s C (· < n)) (v':Cov s' C' (· < n)):∃ ls:List Nat,ls.Perm (C.map List.length)/\ls.Perm (C'.map List.length)/\ls.Pairwise (· <= ·):=by
 obtain ⟨w,hw⟩:=Zbz (s:=s) (f:=C.length) (C:=C) (fun c hc=>(v.cy c hc).pos) (QAd _);obtain ⟨ls,a⟩:=(YQ v (QAd _)).mp hw;obtain ⟨p,pw⟩:=Zc7 a v;have a':Alg s' (· < n) (w.map θ) ls:=Alg.congr (fun x=>⟨fun z=>by have:=h.lt _ z; rw [h.b] at this; exact this,fun z=>h.lti _ z⟩) (h.alg a fun x hx=>hx);exact ⟨ls,p,(Zc7 a' v').1,pw⟩
end
section
variable {n:Nat} {s:Nat->Nat}
theorem Zkk {c:Nat} {acc:List Nat} (p:Path n s c acc):acc.getD 0 0=c/\0<acc.length/\Z0 acc=acc.getD (acc.length - 1) 0/\∀ i,i+1<acc.length->acc.getD (i+1) 0=s (acc.getD i 0):=by
 induction p with
 | one h=>exact ⟨rfl,by simp,rfl,fun i hi=>by simp at hi⟩
 | @more acc p _ ih =>
  obtain ⟨h1,h2,h3,h4⟩:=ih;have ap:∀ i,i<acc.length->(acc++[s (Z0 acc)]).getD i 0=acc.getD i 0:=fun i hi=>by
   rw [QAc,QCo hi,<- QAc]
  have ae:(acc++[s (Z0 acc)]).getD acc.length 0=s (Z0 acc):=by
   rw [QAc,QCs (QAd _),Nat.sub_self]
   rfl
  refine ⟨by rw [ap 0 h2]; exact h1,by simp,?_,fun i hi=>?_⟩
  ·rw [Je,QAo];exact ae.symm
  ·rw [QAo] at hi;have hi':i<acc.length:=by simp at hi; assumption
   rw [ap i hi']
   by_cases q:i+1<acc.length
   ·rw [ap (i+1) q];exact h4 i q
   ·have e:i+1=acc.length:=by exact O446 hi' q
    rw [e,ae,h3,show acc.length - 1=i by exact O447 h2 hi' q]
theorem Zcv (o:One n s) {c:Nat} (hc:c<n):Cyc s (Yq s n c):=by
 obtain ⟨p,e⟩:=Zah o hc;obtain ⟨h1,h2,h3,h4⟩:=Zkk p;refine ⟨h2,p.nodup,fun i hi=>?_⟩
 by_cases q:i+1<(Yq s n c).length
 ·rw [QCm q];exact (h4 i q).symm
 ·have e2:i+1=(Yq s n c).length:=by exact O446 hi q
  rw [e2,Nat.mod_self,h1,show i=(Yq s n c).length - 1 by exact O445 hi q,<- h3];exact e
theorem ZjK {c d:List Nat} (hc:Cyc s c) (hd:Cyc s d) {x:Nat} (h1:x∈c) (h2:x∈d):∀ y,y∈c↔y∈d:=by
 obtain ⟨i,hi,e1⟩:=QBe h1;obtain ⟨j,hj,e2⟩:=QBe h2;have h:=Zfy (hc.rot hi) hd hj (by rw [Zct hi hc.pos,Nat.add_zero,QCm hi,gDN hi,gDN hj,e1,e2]);intro y;rw [<- rot_mem (c:=c) (k:=i),h,rot_mem]
theorem Zcu (o:One n s):∀ i,i<=n->(∀ r∈ZE s n i,∃ c,c<n/\r=Yq s n c)/\(ZE s n i).Pairwise (fun c d=>∀ x∈c,x∉d)/\∀ x,x<i->∃ r∈ZE s n i,x∈r
 | 0,_=>⟨fun r h=>(by cases h),List.Pairwise.nil,fun x h=>absurd h (QDs _)⟩
 | i+1,hi=>by
  obtain ⟨h1,h2,h3⟩:=Zcu o i (by exact Om.f4 ‹_›);rw [ZE]
  by_cases q:(ZE s n i).all (fun r=>decide (i∉r))=true
  ·rw [if_pos q];rw [QBg] at q;have cyI:=Zcv o (c:=i) (by exact Om.f5 ‹_›);have inI:i∈Yq s n i:=(Zah o (by exact Om.f5 ‹_›)).1.head_mem;refine ⟨fun r hr=>?_,List.pairwise_append.mpr ⟨h2,List.pairwise_singleton _ _,fun c hc d hd x hx hxd=>?_⟩,fun x hx=>?_⟩
   ·rcases QZf.mp hr with hr | hr
    ·exact h1 r hr
    ·exact ⟨i,by exact Om.f5 ‹_›,QZc.mp hr⟩
   ·rw [QZc.mp hd] at hxd;obtain ⟨k,hk,rfl⟩:=h1 c hc;have:=(ZjK (Zcv o hk) cyI hx hxd i).mpr inI;exact QZj (q _ hc) this
   ·by_cases e:x<i
    ·obtain ⟨r,hr,hx⟩:=h3 x e;exact ⟨r,QBh _ hr,hx⟩
    ·have:x=i:=by exact O399 hx e
     subst this;exact ⟨_,QBi _ QAj,inI⟩
  ·rw [if_neg q];refine ⟨h1,h2,fun x hx=>?_⟩
   by_cases e:x<i
   ·exact h3 x e
   ·have:x=i:=by exact O399 hx e
    subst this;rw [QBg] at q
    by_cases z:∃ r∈ZE s n x,x∈r
    ·exact z
    ·exact absurd (fun (r:List Nat) hr=>QZh (p:=x∉r) fun h=>z ⟨r,hr,h⟩) q
theorem Yu (o:One n s):Cov s (ZE s n n) (· < n):=by
 obtain ⟨h1,h2,h3⟩:=Zcu o n (QAd _);refine ⟨fun c hc=>?_,h2,fun x=>⟨fun h=>h3 x h,fun ⟨c,hc,hx⟩=>?_⟩⟩
 ·obtain ⟨k,hk,rfl⟩:=h1 c hc;exact Zcv o hk
 ·obtain ⟨k,hk,rfl⟩:=h1 c hc;exact (Zah o hk).1.lt o x hx
end
end My
namespace L2
open PySem PySem.Spec PyProof.Rows
section
variable {prog:Program} {w:World} {A:Around} {E:Value->Shared->Prop} {s:Shared}
end
end L2
namespace L2
open PySem PySem.Spec PyProof.Rows
noncomputable def Zlm (K:QZa) (t:Addr):It :=
  ⟨fun i H => ∃ xs x, SqL K H t xs/\xs[i]? = some x,
   fun i H v H' => ∃ p x, v = .ref p/\H p=none/\(∀ xs, SqL K H t xs->xs[i]? = some x)/\H'=upd H p (.tup [.int (i:Int), x]),
   fun i H => ∃ xs, SqL K H t xs/\xs.length<=i⟩
theorem Zgk {P:Program} {w:World} {K:QZa} {elts:List Expr} {x1} {tpos:Pos} {e it t:Addr} (hei:e≠it) (hti:t≠it) (hte:t≠e):Turn P w K (.Tuple elts x1 tpos) (Zlm K t) [e,it] e (fun i h=>(∃ old,IsEnum h e it (i:Int) old)/\h.IsListIter it t i) where
 mem:=by simp
 obj:=fun i h st b hb=>by
  simp only [QBq,QCb,or_false] at hb
  rcases hb with rfl | rfl
  ·obtain ⟨old,z⟩:=st.1;exact ⟨_,z,fun v q=>by cases q⟩
  ·obtain ⟨o,z,c,d⟩:=st.2;exact ⟨o,z,fun v q=>by rw [d] at q; cases q⟩
 keep:=fun i h h' st k=>⟨let ⟨old,z⟩:=st.1; ⟨old,k e (by simp) _ z⟩,Heap.IsListIter.at st.2 fun o z=>k it (by simp) o z⟩
 item:=by
  intro X hP hw hK hc i pins s σ H E I hf st hg;subst hP hw hK;obtain ⟨xs,x,hq,hx⟩:=hg;obtain ⟨its,rv,p,hz⟩:=I.list hq;obtain ⟨u,hu,ru⟩:=rv.get hx;obtain ⟨⟨old,he⟩,hit⟩:=st;have hu':its.toArray[i]? = some u:=by simpa using hu
  have hlt:i<its.toArray.size:=(Array.getElem?_eq_some_iff.mp hu').1;have hef:e∉[it,t]:=fun z=>by
   simp only [QBq,QCb,or_false] at z
   rcases z with z | z
   ·exact hei z
   ·exact hte z.symm
  refine wpAny_pyNext_enum_itemD (Draws.list (A:=X.A.in1) (I.ok.hd hc) it t hti its.toArray) he ⟨hit,p.isList⟩ hlt hei hef fun x' h' tk hP ho hs' hT hsz hk=>⟨_,rfl,?_⟩
  have ex:x'=u:=by rw [hu'] at hP; cases hP; rfl
  subst ex;refine wpAny_letOwnedTupleGo_enum (s:={ s with heap:=h',toks:=tk+1 }) ho fun h2 he2 sb=>?_;have hnone:H s.heap.objs.size=none:=I.hok.fresh (QAd _);have hfp:∀ c∈[e,it],c<s.heap.objs.size:=fun c hc=>by
   simp only [QBq,QCb,or_false] at hc
   rcases hc with rfl | rfl
   ·exact QAi he
   ·obtain ⟨o,z,_⟩:=hit; exact QAi z
  have I1:Inv X pins σ (upd H s.heap.objs.size (.tup [.int (i:Int),x])) { s with heap:=s.heap.push { cls:=.type "tuple",data:=.seq #[.int (i:Int) tk,x'] },toks:=tk+1 } :=
   I.laid (t':=tk+1) (fun b u e=>QAk _ e) (QAd _) ⟨(show 2<=sizeLine by decide),[.int (i:Int) tk,x'],.cons ⟨tk,rfl⟩ (.cons ru .nil),⟨_,QAy _ rfl,rfl,_,rfl⟩⟩
  have hkk:∀ c o,c∉[e,it]->(s.heap.push { cls:=.type "tuple",data:=.seq #[.int (i:Int) tk,x'] }).get? c=some o->h2.get? c=some o:=fun c o hc z=>by
   simp only [QBq,QCb,or_false,not_or] at hc;rw [sb.2 c hc.1]
   by_cases q:c=s.heap.objs.size
   ·subst q;rw [QAy _ rfl] at z
    cases z;exact hT
   ·rw [Heap.get?_push_ne _ _ _ q] at z;exact hk c o hc.1 hc.2 z
  have hf':∀ c∈[e,it],ZaC X pins (upd H s.heap.objs.size (.tup [.int (i:Int),x])) c:=fun c hc=>by
   obtain ⟨f0,r⟩:=hf c hc;exact ⟨by rw [Zg (QAz (hfp c hc))]; exact f0,r⟩
  have I2:Inv X pins σ (upd H s.heap.objs.size (.tup [.int (i:Int),x])) { s with heap:=h2,toks:=tk+1 }:=I1.turnedL (t':=tk+1) hkk hf';refine ⟨.ref s.heap.objs.size,_,I2,rfl,⟨_,x,rfl,hnone,fun l h=>by rw [I.list_inj h hq]; exact hx,rfl⟩,?_,fun c hc=>(hf' c hc).1⟩;exact ⟨⟨_,he2⟩,Heap.IsListIter.at hs'.1 fun o z=>(sb.2 it (Ne.symm hei)).trans z⟩
 done:=by
  intro X hP hw hK hc i pins s σ H E I hf st hg;subst hP hw hK;obtain ⟨xs,hq,hend⟩:=hg;obtain ⟨its,rv,p,hz⟩:=I.list hq;obtain ⟨⟨old,he⟩,hit⟩:=st;have h1:=rv.length;refine wpAny_pyNext_enum_end (I.ok.hd hc) he hit p.isList (by simp; exact O444 hend h1) fun h' keep=>⟨rfl,I.turnedL (t':=s.toks) (fun c o hc z=>?_) hf⟩
  simp only [QBq,QCb,or_false,not_or] at hc;exact keep c o hc.2 z
 self:=fun _ _ _ _ _ st h=>let ⟨_,z⟩:=st.1; wpAny_pyIter_enum z h
noncomputable def ZlZ (K:QZa) (ta:TA):TI:=fun σ H R=>ta σ H fun vs H1=>∃ t xs,vs=[.ref t]/\SqL K H1 t xs/\R (Zlm K t) H1
theorem ZiT {X:Cx} {elts:List Expr} {x1} {tpos:Pos} {a:Expr} {ta:TA} {p pos:Pos} (K:QZa) (hg:Gl X "enumerate") (hm:X.mg "enumerate" = none) (ha:PA X [a] ta) (hK:X.K=K:=by rfl) (hs:starEach [a] X.env=[(false,eval a X.env)]:=by rfl) :
  PI X (.Tuple elts x1 tpos) (.Call (.Name "enumerate" p) [a] [] pos) (ZlZ K ta):=by
 subst hK;intro pins s σ H R I h;refine Call_ (Za6 I hg hm boot_enumerate (PyProof.Rows.callWith_type1 (thn (ha pos pins s σ H _ I h) fun us s1 zz0=>?_) (by rw [hs]; rfl) (by rfl)));obtain ⟨vs,H1,I1,r1,q1⟩:=zz0;obtain ⟨t,xs,e,hq,q⟩:=q1;subst e
 cases r1 with
 | cons r rr =>
  cases rr
  cases r;obtain ⟨its,rv,p,hz⟩:=I1.list hq;have a1:t<s1.heap.objs.size:=by obtain ⟨_,e,_⟩:=p.isList; exact QAi e
  refine call_enumerate_list p.isList fun h' he hit _ hk=>wpAny_pyIter_enum (s:={ s1 with heap:=h' }) he ?_
  refine ⟨_,[s1.heap.objs.size+1,s1.heap.objs.size],_,_,H1,rfl,I1.kept (t':=s1.toks) hk,Zgk (Nat.succ_ne_self _) (QAz a1) (QAz (QCz a1)),⟨⟨_,he⟩,hit⟩,fun c hc=>?_,q⟩
  simp only [QBq,QCb,or_false] at hc;have hge:s1.heap.objs.size<=c:=by
   rcases hc with rfl | rfl
   ·exact Nat.le_add_right _ _
   ·exact QAd _
  exact I1.fpOk hge (I1.hok.fresh hge)
end L2
namespace L2
open PySem PySem.Spec PyProof.Rows
end L2
namespace L2
open PySem PySem.Spec PyProof.Rows PySem.W
noncomputable def ZaT:List Int->List Int->Bool
 | x::xs,y::ys=>if x=y then ZaT xs ys else decide (x<y)
 | _,_=>false
section
variable {prog:Program} {w:World} {A:Around} {E:Value->Shared->Prop} {s:Shared}
end
end L2
namespace L2
open PySem PySem.Spec PyProof.Rows
section
variable {prog:Program} {w:World} {A:Around} {E:Value->Shared->Prop} {s:Shared} {κ:Type} [DecidableEq κ] {knd:KeyKind prog w κ}
end
end L2
namespace L2
open PySem PySem.Spec PyProof.Rows
section
variable {prog:Program} {w:World} {A:Around} {E:Value->Shared->Prop} {s:Shared}
end
end L2
namespace L2
open PySem PySem.Spec PyProof.Rows
section
variable {prog:Program} {w:World} {A:Around} {R:Result->Shared->Prop} {I:Addr} {fp wr:List Addr} {G:Array GenState->Array GenState->Prop} {P:Nat->Value->Prop} {St:Nat->Shared->Prop}
end
section
variable {prog:Program} {w:World} {A:Around} {E:Value->Shared->Prop} {s:Shared}
end
end L2
namespace L2
open PySem PySem.Spec PyProof.Rows
section
variable {prog:Program} {w:World} {A:Around} {E:Value->Shared->Prop} {s:Shared} {R:Result->Shared->Prop}
end
end L2
namespace L2
open PySem PySem.Spec PyProof.Rows PySem.W SeqAt
theorem Zgl (l b:Addr) (items items2:List Value) (n n2:Nat) (dd dd2:Option Addr) (sl sl2:Array (Option Value)) (xs ys:List Int) (hi:IntsAre items xs) (hi2:IntsAre items2 ys) (hlen:xs.length=ys.length) :
  Meets (Builtin.«tuple.__lt__» ⟨[.ref l,.ref b],[]⟩)
   (fun A R s=>s.heap.get? l=some { cls:=.type "tuple",dict:=dd,data:=.seq items.toArray n,slots:=sl }/\s.heap.get? b=some { cls:=.type "tuple",dict:=dd2,data:=.seq items2.toArray n2,slots:=sl2 } /\
    R (.ok (.ret (.bool (ZaT xs ys)))) s) :=
 .of_wp fun prog w A R s h=>by
  obtain ⟨hp,g,d,tk,os⟩:=s; obtain ⟨hl,hb,h⟩:=h;have f2:=AutoSeq1.sub_tuple_tuple;have hl1:=Yc hi;have hl2:=Yc hi2;have hZ:(items.zip items2).length=xs.length:=by simp; exact O443 hlen hl1 hl2
  wp_walk using wpAny_loadPart' hl,wpAny_loadPart' hb,wpAny_forIn_list _ (fun rest b s'=>b.1=none/\s'=⟨hp,g,d,tk,os⟩/\∃ i,rest=(items.zip items2).drop i /\
   R (.ok (.ret (.bool (ZaT (xs.drop i) (ys.drop i))))) ⟨hp,g,d,tk,os⟩) _
  case turn =>
   rintro ⟨y,x⟩ rest b s' ⟨hb',rfl,i,hz,hR⟩;have hlt:i<(items.zip items2).length:=by
    rcases QCg i (items.zip items2).length with h' | h'
    ·exact h'
    ·rw [QBt h'] at hz; cases hz
   have hix:i<xs.length:=hZ ▸ hlt;have hiy:i<ys.length:=by exact Om.a2 ‹_› ‹_›
   rw [QBc hlt] at hz
   injection hz with hyx hrest
   obtain ⟨t1,h1⟩:=Ye hi i hix;obtain ⟨t2,h2⟩:=Ye hi2 i hiy;have hy:y = .int xs[i] t1:=by
    have e:=congrArg Prod.fst hyx;rw [QDv] at e;rw [QAb (by exact Om.a1 ‹_› ‹_›)] at h1;exact e.trans (QZl h1)
   have hx:x = .int ys[i] t2:=by
    have e:=congrArg Prod.snd hyx;rw [QDv] at e;rw [QAb (by exact Om.a1 ‹_› ‹_›)] at h2;exact e.trans (QZl h2)
   subst hy hx;rw [QBc hix,QBc hiy] at hR;unfold ZaT at hR;refine QZq (wpAny_eqBool_int ?_)
   by_cases he:xs[i]=ys[i]
   ·rw [if_pos he] at hR;have hb:(xs[i]==ys[i])=true:=by simpa using he
    rw [hb]
    wp_walk
    exact ⟨rfl,rfl,i+1,hrest,hR⟩
   ·rw [if_neg he] at hR;have hb:(xs[i]==ys[i])=false:=by simpa using he
    rw [hb];generalize hRC:richCompare=RC
    wp_walk
    subst hRC;refine PyProof.Rows.lt_int (a:=xs[i]) (b:=ys[i]) ?_
    wp_walk
    exact ⟨_,rfl,hR⟩
  case fin =>
   rintro ⟨b1,b2⟩ s' ⟨hb',rfl,i,hz,hR⟩
   simp only at hb';subst hb';have hge:xs.length<=i:=by
    rcases QCg i (items.zip items2).length with h' | h'
    ·rw [QBc h'] at hz; cases hz
    ·exact hZ ▸ h'
   rw [QBt hge] at hR;have hsz:items.length=items2.length:=by exact Om.u2 ‹_› ‹_› ‹_›
   wp_walk
   refine ⟨_,rfl,?_⟩
   simpa [Builtin.Tuple.tupleCompareSizes,ZaT,hsz] using hR
  case h =>
   exact ⟨rfl,rfl,0,by simp,by simpa using h⟩
section
variable {A:Around} {s:Shared}
theorem ZkC {prog:Program} {w:World} {E:Value->Shared->Prop} {Q:Value->Shared->Prop} {l b:Addr} {items items2:List Value} {xs ys:List Int} (hl:s.heap.IsTuple l items.toArray) (hb:s.heap.IsTuple b items2.toArray) (hi:IntsAre items xs) (hi2:IntsAre items2 ys) (hlen:xs.length=ys.length) (hu:A.units<cLine) (h:Q (.bool (ZaT xs ys)) s) :
  wpAny (model prog w) A (compareOp .Lt (.ref l) (.ref b)) Q E s:=by
 obtain ⟨⟨cls,dd,data,sl⟩,ho,hc,n,hd⟩:=id hl;obtain ⟨⟨cls2,dd2,data2,sl2⟩,ho2,hc2,n2,hd2⟩:=id hb
 simp only at hc hd hc2 hd2;subst hc hd hc2 hd2;exact richCompare_meets_room (op:=.Lt) ⟨_,ho,rfl⟩ ⟨_,ho2,rfl⟩ F.slot_tuple_lt F.entry_tuple_lt (F.args_tuple_lt_2 _ _) (Zgl l b items items2 n n2 dd dd2 sl sl2 xs ys hi hi2 hlen)
  ⟨ho,ho2,show Value.bool (ZaT xs ys)≠Value.notImplemented/\Q (.bool (ZaT xs ys)) s from ⟨(fun x=>nomatch x),h⟩⟩ hu
theorem ZkS {l b:Addr} {items items2:List Value} {xs ys:List Int} (hl:s.heap.IsTuple l items.toArray) (hb:s.heap.IsTuple b items2.toArray) (hi:IntsAre items xs) (hi2:IntsAre items2 ys) (hlen:xs.length=ys.length) (hu:A.units<cLine):EqAt A s (.ref l) (.ref b) (decide (xs=ys)):=by
 have z1:=Yc hi;have z2:=Yc hi2
 by_cases hne:l=b
 ·subst hne;have e:items=items2:=by
   obtain ⟨o,ho,_,n,hd⟩:=id hl;obtain ⟨o2,ho2,_,n2,hd2⟩:=id hb;rw [ho] at ho2
   cases ho2;rw [hd] at hd2
   injection hd2 with h1 h2
   have:=congrArg Array.toList h1
   simpa using this
  subst e;have e2:xs=ys:=by
   refine QBs hlen fun j h1 h2=>?_;obtain ⟨t1,g1⟩:=Ye hi j h1;obtain ⟨t2,g2⟩:=Ye hi2 j h2;rw [g1] at g2;have:=QZl g2
   injection this
  rw [QZh e2];exact EqAt.same _
 ·have hr:=RcAt.tuples (A:=A) (s:=s) (e:=fun j=>decide (xs.getD j 0=ys.getD j 0)) hl hb hu fun j h1 h2=>by
   have j1:j<xs.length:=by simpa [z1] using h1
   have j2:j<ys.length:=by exact Om.a2 ‹_› ‹_›
   obtain ⟨t1,g1⟩:=Ye hi j j1;obtain ⟨t2,g2⟩:=Ye hi2 j j2;have e1:items.toArray[j] = .int xs[j] t1:=by
    rw [QAb (by exact Om.a1 ‹_› ‹_›)] at g1
    simpa using QZl g1
   have e2:items2.toArray[j] = .int ys[j] t2:=by
    rw [QAb (by exact Om.a1 ‹_› ‹_›)] at g2
    simpa using QZl g2
   rw [e1,e2];intro prog w E Q hq;refine wpAny_eqBool_int ?_;have e3:(xs[j]==ys[j])=decide (xs.getD j 0=ys.getD j 0):=by
    rw [QAc,QAc,QAb j1,QAb j2];show (xs[j]==ys[j])=decide (xs[j]=ys[j]);rw [QBf]
    simp
   rw [e3];exact hq
  have e:((List.range (min items.toArray.size items2.toArray.size)).all (fun j=>decide (xs.getD j 0=ys.getD j 0))&&items.toArray.size==items2.toArray.size)=decide (xs=ys):=by
   have s1:items.toArray.size=xs.length:=by simp [z1]
   have s2:items2.toArray.size=xs.length:=by simp [z2,hlen]
   rw [s1,s2,Nat.min_self,beq_self_eq_true,Bool.and_true,QBf,QBg,QZg]
   constructor
   ·intro h;refine QBs hlen fun j h1 h2=>?_;have:=QZj (h j (QZe.mpr h1));rw [QAc,QAc,QAb h1,QAb h2] at this;exact this
   ·intro h j _;rw [h];exact QZh rfl
  rw [<- e];exact EqAt.of_refs hne hr
end
end L2
namespace L2
open PySem PySem.Spec PyProof.Rows
section
variable {prog:Program} {w:World} {A:Around} {R:Result->Shared->Prop} {it:Addr} {fp wr:List Addr} {n:Nat} {P:Nat->Value->Prop} {St:Nat->Heap->Prop} {G:Shared->Prop} {lt:Nat->Nat->Bool} {bx:Addr}
theorem Zch:(toString "min" ++ toString ".loop" : String) = "min.loop":=by decide
theorem Zky (Wk:Walks prog w A.in1 it fp wr n P St) (hG:∀ (s:Shared) h' tk,G s->(∀ b o,b∉wr->b≠bx->s.heap.get? b=some o->h'.get? b=some o)->G { s with heap:=h',toks:=tk })
  (cmp:∀ i j u v (s:Shared) (Q:Value->Shared->Prop) (E:Value->Shared->Prop),G s->P i u->P j v->Q (.bool (lt i j)) s->wpAny (model prog w) A.in1 (richCompare .Lt u v) Q E s) (hb:bx∉fp) :
  ∀ (r i:Nat) (s:Shared) (u:Value) (c:Nat),n - (i+1)=r->i+1<=n->St (i+1) s.heap->G s->P (argBest lt i) u ->
  s.heap.get? bx=some { cls:=.type "list",dict:=none,data:=.seq #[u,u] c,slots:=#[] } ->
  (∀ v h' tk,P (argBest lt (n - 1)) v->(∀ b o,b∉wr->b≠bx->s.heap.get? b=some o->h'.get? b=some o)->R (.ok (.ret v)) { s with heap:=h',toks:=tk }) ->
  codeAny (model prog w) A (.builtin "min.loop" ⟨[.ref it,.none,.ref bx],[]⟩) R s:=by
 have hw:bx∉wr:=fun z=>hb (Wk.sub _ z)
 intro r
 induction r with
 | zero =>
  intro i s u c hr hi st g hp hx q;have e:i+1=n:=by exact O442 hr hi
  refine codeAny_builtin PySem.F.entry_min_loop ?_;rw [Around.under_plainId PySem.F.plain_min_loop _];refine QZq (m:=seqItems? (.ref bx)) (wpAny_seqItems hx rfl ?_);refine QZq (m:=tryCatch (pyNext (.ref it)) _) (wpAny_tryCatch (Wk.done s _ _ (e ▸ st) fun h2 tk k2=>?_));have hx2:=k2 bx _ hw hx;refine QZq (m:=updateSeq bx fun _=>#[]) (wpAny_updateSeq hx2 rfl (QZq (wpAny_letGo (QZr ?_))));exact q u _ tk (by rw [<- e]; exact hp) fun b o n1 n2 z=>(QDz _ _ (Ne.symm n2)).trans (k2 b o n1 z)
 | succ r ih =>
  intro i s u c hr hi st g hp hx q;have hlt:i+1<n:=by exact O441 hr hi
  refine codeAny_builtin PySem.F.entry_min_loop ?_;rw [Around.under_plainId PySem.F.plain_min_loop _];refine QZq (m:=seqItems? (.ref bx)) (wpAny_seqItems hx rfl ?_);refine QZq (m:=tryCatch (pyNext (.ref it)) _) (wpAny_tryCatch (Wk.item (i+1) s _ _ hlt st fun x h2 tk px st2 k2=>?_));have hx2:=k2 bx _ hw hx;have g2:G { s with heap:=h2,toks:=tk }:=hG s _ _ g fun b o n1 _ z=>k2 b o n1 z
  refine QZq (m:=tryCatch (holding [x,x] (richCompare .Lt x u >>= _)) _) (wpAny_tryCatch (wpAny_holding (QZq (cmp (i+1) (argBest lt i) x u _ _ _ g2 px hp ?_))));refine QZq (wpAny_holding (wpAny_truthy_bool (QZq (wpAny_letGo (QZr ?_)))))
  cases hl:lt (i+1) (argBest lt i) with
  | true =>
   simp only [if_true];refine QZq (wpAny_updateSeq hx2 rfl (QZq (wpAny_letGo ?_)));rw [Zch];have up:∀ b o,b≠bx->h2.get? b=some o->(h2.update bx (Obj.mapSeq fun _=>#[x,x])).get? b=some o:=fun b o n2 z=>(QDz _ _ (Ne.symm n2)).trans z
   refine QZr ⟨plainId_quiet PySem.F.plain_min_loop _,ih (i+1) _ x _ (by exact O440 hr hlt) hlt (Wk.frame _ _ _ st2 fun b hf o z=>up b o (fun e=>hb (e ▸ hf)) z) (hG _ _ _ g2 fun b o _ n2 z=>up b o n2 z) (by simp only [argBest,hl,if_true]; exact px) (Heap.get?_update_self _ hx2 rfl) fun v h3 tk3 pv k3=>?_⟩;exact q v h3 tk3 pv fun b o n1 n2 z=>k3 b o n1 n2 (up b o n2 (k2 b o n1 z))
  | false =>
   simp only [QDd,if_false];refine QZq (wpAny_letGo ?_);rw [Zch];exact QZr ⟨plainId_quiet PySem.F.plain_min_loop _,ih (i+1) _ u c (by exact O440 hr hlt) hlt st2 g2 (by simp only [argBest,hl,QDd,if_false]; exact hp) hx2 fun v h3 tk3 pv k3=>q v h3 tk3 pv fun b o n1 n2 z=>k3 b o n1 n2 (k2 b o n1 z)⟩
theorem Zjj (Wk:Walks prog w A.in1 it fp wr n P St) (hG:∀ (s:Shared) h' tk,G s->(∀ b o,b∉wr->b≠bx->s.heap.get? b=some o->h'.get? b=some o)->G { s with heap:=h',toks:=tk })
  (cmp:∀ i j u v (s:Shared) (Q:Value->Shared->Prop) (E:Value->Shared->Prop),G s->P i u->P j v->Q (.bool (lt i j)) s->wpAny (model prog w) A.in1 (richCompare .Lt u v) Q E s) (hb:bx∉fp) (hn:0<n)
  {s:Shared} {c:Nat} (st:St 0 s.heap) (g:G s) (hx:s.heap.get? bx=some { cls:=.type "list",dict:=none,data:=.seq #[] c,slots:=#[] })
  (q:∀ v h' tk,P (argBest lt (n - 1)) v->(∀ b o,b∉wr->b≠bx->s.heap.get? b=some o->h'.get? b=some o)->R (.ok (.ret v)) { s with heap:=h',toks:=tk }) :
  codeAny (model prog w) A (.builtin "min.loop" ⟨[.ref it,.none,.ref bx],[]⟩) R s:=by
 have hw:bx∉wr:=fun z=>hb (Wk.sub _ z)
 refine codeAny_builtin PySem.F.entry_min_loop ?_;rw [Around.under_plainId PySem.F.plain_min_loop _];refine QZq (m:=seqItems? (.ref bx)) (wpAny_seqItems hx rfl ?_);refine QZq (m:=tryCatch (pyNext (.ref it)) _) (wpAny_tryCatch (Wk.item 0 s _ _ hn st fun x h2 tk px st2 k2=>?_));have hx2:=k2 bx _ hw hx;have g2:G { s with heap:=h2,toks:=tk }:=hG s _ _ g fun b o n1 _ z=>k2 b o n1 z
 have up:∀ b o,b≠bx->h2.get? b=some o->(h2.update bx (Obj.mapSeq fun _=>#[x,x])).get? b=some o:=fun b o n2 z=>(QDz _ _ (Ne.symm n2)).trans z
 refine QZq (m:=updateSeq bx fun _=>#[x,x]) (wpAny_updateSeq hx2 rfl ?_);rw [Zch];refine QZr ⟨plainId_quiet PySem.F.plain_min_loop _,Zky Wk hG cmp hb _ 0 _ x _ rfl hn (Wk.frame _ _ _ st2 fun b hf o z=>up b o (fun e=>hb (e ▸ hf)) z) (hG _ _ _ g2 fun b o _ n2 z=>up b o n2 z) px (Heap.get?_update_self _ hx2 rfl) fun v h3 tk3 pv k3=>?_⟩;exact q v h3 tk3 pv fun b o n1 n2 z=>k3 b o n1 n2 (up b o n2 (k2 b o n1 z))
end
section
variable {prog:Program} {w:World} {A:Around} {E:Value->Shared->Prop} {s:Shared}
theorem Zhp {l:Addr} {vs:Array Value} {lt:Nat->Nat->Bool} {Q:Value->Shared->Prop} (hh:A.handled=none) (hl:s.heap.IsList l vs) (hn:0<vs.size)
  (cmp:∀ i j u v h' tk (Q:Value->Shared->Prop) (E:Value->Shared->Prop),(∀ b o,s.heap.get? b=some o->h'.get? b=some o)->vs[i]? = some u->vs[j]? = some v->Q (.bool (lt i j)) { s with heap:=h',toks:=tk }->wpAny (model prog w) A.in1 (richCompare .Lt u v) Q E { s with heap:=h',toks:=tk })
  (q:∀ v h' tk,vs[argBest lt (vs.size - 1)]? = some v->(∀ b o,s.heap.get? b=some o->h'.get? b=some o)->Q v { s with heap:=h',toks:=tk }) :
  wpAny (model prog w) A (call (.builtin "min") [.ref l]) Q E s:=by
 refine call_function_tree PySem.F.kind_min PySem.F.plain_min PySem.F.entry_min (PySem.F.args_min1 _) ?_;refine QZq (wpAny_of_eq (a:=[none,none]) rfl (QZq (QZr (QZq (m:=pyIter (.ref l)) ?_))));refine wpAny_pyIter_list hl ?_;obtain ⟨ol,el,_⟩:=id hl;have ll:l<s.heap.objs.size:=QAi el;refine QZq (wpAny_newObj_type ?_);rw [Zch];have k1:∀ b o,s.heap.get? b=some o->(s.heap.push { cls:=.type "list_iterator",data:=.fields #[.ref l,.int 0 0] }).get? b=some o:=fun b o e=>QAk _ e
 have z1:(s.heap.push { cls:=.type "list_iterator",data:=.fields #[.ref l,.int 0 0] }).objs.size=s.heap.objs.size+1:=QCl ..;have k2:∀ b o,s.heap.get? b=some o->((s.heap.push { cls:=.type "list_iterator",data:=.fields #[.ref l,.int 0 0] }).push { cls:=.type "list",data:=.seq #[] }).get? b=some o:=fun b o e=>QAk _ (k1 b o e)
 refine QZr ⟨plainId_quiet PySem.F.plain_min_loop _,Zjj (bx:=(s.heap.push { cls:=.type "list_iterator",data:=.fields #[.ref l,.int 0 0] }).objs.size) (G:=fun t=>∃ h' tk,t={ s with heap:=h',toks:=tk }/\∀ b o,s.heap.get? b=some o->h'.get? b=some o) (Walks.list (A:=A.in1) hh s.heap.objs.size l (QAz ll) vs)
  (fun t h' tk ⟨h1,tk1,e1,g⟩ k=>⟨h',tk,by rw [e1],fun b o e=>k b o ?_ ?_ (by rw [e1]; exact g b o e)⟩) (fun i j u v t Q E zz0 hu hv z=> by obtain ⟨h1,tk1,e1,g⟩ := zz0; exact by subst e1; exact cmp i j u v h1 tk1 Q E g hu hv z) ?_ hn ⟨⟨_,QAk _ (QAy _ rfl),rfl,rfl⟩,hl.at fun o e=>k2 l o e⟩ ⟨_,_,rfl,k2⟩ (QAy _ rfl) fun v h' tk hv k=>q v h' tk hv fun b o e=>k b o ?_ ?_ (k2 b o e)⟩
 ·exact fun z=>QAz (QAi e) (by simpa using z)
 ·exact fun z=>by
   have:=QAi e;rw [z,z1] at this;exact Nat.not_succ_lt_self this
 ·intro z;rw [z1] at z
  simp only [QBq,QCb,or_false] at z
  rcases z with z | z
  ·exact Nat.succ_ne_self _ z
  ·rw [<- z] at ll;exact Nat.not_succ_lt_self ll
 ·exact fun z=>QAz (QAi e) (by simpa using z)
 ·exact fun z=>by
   have:=QAi e;rw [z,z1] at this;exact Nat.not_succ_lt_self this
end
end L2
namespace L2
open PySem PySem.Spec PyProof.Rows PySem.W SeqAt
theorem ZkE (l b:Addr) (us vs:List Value) (n n2:Nat) (dd dd2:Option Addr) (sl sl2:Array (Option Value)) (xs ys:List Int) (hx:IntsAre us xs) (hy:IntsAre vs ys) :
  ∀ (k i:Nat),xs.length - i=k->i<=xs.length->i<=ys.length->Meets (Builtin.«list.__eq__.loop» ⟨[.ref l,.ref b,rawInt i,rawInt 0],[]⟩)
   (fun _ R s=>s.heap.get? l=some { cls:=.type "list",dict:=dd,data:=.seq us.toArray n,slots:=sl }/\s.heap.get? b=some { cls:=.type "list",dict:=dd2,data:=.seq vs.toArray n2,slots:=sl2 } /\
    R (.ok (.ret (.bool (HT.lexLt (xs.drop i) (ys.drop i))))) s):=by
 have zx:=Yc hx;have zy:=Yc hy;have ends:∀ i,i<=xs.length->i<=ys.length->(xs.length=i\/ys.length=i)->HT.lexLt (xs.drop i) (ys.drop i)=decide (xs.length<ys.length):=fun i h1 h2 h=>by
  rcases h with h | h
  ·rw [QBt (by exact Om.l1 ‹_›)]
   by_cases q:ys.length=i
   ·rw [QBt (by exact Om.l1 ‹_›)];exact (QZi (by exact O439 h q)).symm
   ·rw [QBc (by exact O436 h2 q)];exact (QZh (by exact O438 h2 h q)).symm
  ·rw [QBt (l:=ys) (by exact Om.l1 ‹_›)]
   by_cases q:xs.length=i
   ·rw [QBt (by exact Om.l1 ‹_›)];exact (QZi (by exact O437 h q)).symm
   ·rw [QBc (by exact O436 h1 q)];exact (QZi (by exact O435 h1 h)).symm
 intro k
 induction k with
 | zero =>
  intro i hk h1 h2 prog w A R s h;obtain ⟨hp,g,d,tk,os⟩:=s;obtain ⟨hl,hb,h⟩:=h
  wp_walk using AutoSeq1.wpAny_loadPart' hl,AutoSeq1.wpAny_loadPart' hb
  have e1:us.toArray[((i:Nat):Int).toNat]? = none:=by simp; exact O434 zx hk
  rw [e1]
  wp_walk using AutoSeq1.wpAny_loadPart' hl,AutoSeq1.wpAny_loadPart' hb
  rw [ends i h1 h2 (.inl (by exact O433 hk h1))] at h;show R (.ok (.ret (.bool (decide (us.toArray.size<vs.toArray.size))))) _;rw [QAg,QAg,zx,zy];exact h
 | succ k ih =>
  intro i hk h1 h2 prog w A R s h;obtain ⟨hp,g,d,tk,os⟩:=s;obtain ⟨hl,hb,h⟩:=h;have lx:i<xs.length:=by exact O432 hk h1
  obtain ⟨t1,g1⟩:=Ye hx i lx;have e1:us.toArray[((i:Nat):Int).toNat]? = some (.int xs[i] t1):=by simpa using g1
  wp_walk using AutoSeq1.wpAny_loadPart' hl,AutoSeq1.wpAny_loadPart' hb
  by_cases ly:i<ys.length
  ·obtain ⟨t2,g2⟩:=Ye hy i ly;have e2:vs.toArray[((i:Nat):Int).toNat]? = some (.int ys[i] t2):=by simpa using g2
   rw [e1,e2];rw [QBc lx,QBc ly] at h;unfold HT.lexLt at h;refine QZq (wpAny_eqBool_int ?_)
   by_cases he:xs[i]=ys[i]
   ·rw [if_pos he] at h;rw [show (xs[i]==ys[i])=true by simpa using he]
    wp_walk
    rw [show ((i:Int)+1)=((i+1:Nat):Int) from rfl];exact ⟨plainId_quiet MeetsSeq3.plain_eq_loop _,codeAny_builtin MeetsSeq3.entry_eq_loop (by
     rw [Around.under_plainId MeetsSeq3.plain_eq_loop _];exact ih (i+1) (by exact O431 hk lx ly) lx ly prog w A R _ ⟨hl,hb,h⟩)⟩
   ·rw [if_neg he] at h;rw [show (xs[i]==ys[i])=false by simpa using he];generalize hRC:richCompare=RC
    wp_walk using AutoSeq1.wpAny_loadPart' hl,AutoSeq1.wpAny_loadPart' hb
    rw [e1,e2];subst hRC;refine QZq (PyProof.Rows.lt_int (a:=xs[i]) (b:=ys[i]) ?_)
    wp_walk
    exact h
  ·have e2:vs.toArray[((i:Nat):Int).toNat]? = none:=by simp; omega
   rw [e1,e2]
   wp_walk using AutoSeq1.wpAny_loadPart' hl,AutoSeq1.wpAny_loadPart' hb
   rw [ends i h1 h2 (.inr (by omega))] at h;show R (.ok (.ret (.bool (decide (us.toArray.size<vs.toArray.size))))) _;rw [QAg,QAg,zx,zy];exact h
theorem ZkF (l b:Addr) (us vs:List Value) (n n2:Nat) (dd dd2:Option Addr) (sl sl2:Array (Option Value)) (xs ys:List Int) (hx:IntsAre us xs) (hy:IntsAre vs ys) :
  Meets (Builtin.«list.__lt__» ⟨[.ref l,.ref b],[]⟩)
   (fun _ R s=>s.heap.get? l=some { cls:=.type "list",dict:=dd,data:=.seq us.toArray n,slots:=sl }/\s.heap.get? b=some { cls:=.type "list",dict:=dd2,data:=.seq vs.toArray n2,slots:=sl2 } /\
    R (.ok (.ret (.bool (HT.lexLt xs ys)))) s):=by
 intro prog w A R s h;obtain ⟨hp,g,d,tk,os⟩:=s;obtain ⟨hl,hb,h⟩:=h;have f3:=AutoSeq1.sub_list_list
 wp_walk using AutoSeq1.wpAny_loadPart' hl,AutoSeq1.wpAny_loadPart' hb
 exact ⟨plainId_quiet MeetsSeq3.plain_eq_loop _,codeAny_builtin MeetsSeq3.entry_eq_loop (by
  rw [Around.under_plainId MeetsSeq3.plain_eq_loop _];exact ZkE l b us vs n n2 dd dd2 sl sl2 xs ys hx hy _ 0 rfl (QAh _) (QAh _) prog w A R _ ⟨hl,hb,h⟩)⟩
theorem Zjo {prog:Program} {w:World} {A:Around} {s:Shared} {E:Value->Shared->Prop} {Q:Value->Shared->Prop} {l b:Addr} {us vs:List Value} {xs ys:List Int} (hl:s.heap.IsList l us.toArray) (hb:s.heap.IsList b vs.toArray) (hx:IntsAre us xs) (hy:IntsAre vs ys) (hu:A.units<cLine) (h:Q (.bool (HT.lexLt xs ys)) s) :
  wpAny (model prog w) A (richCompare .Lt (.ref l) (.ref b)) Q E s:=by
 obtain ⟨⟨cls,dd,data,sl⟩,ho,hc,n,hd⟩:=id hl;obtain ⟨⟨cls2,dd2,data2,sl2⟩,ho2,hc2,n2,hd2⟩:=id hb
 simp only at hc hd hc2 hd2;subst hc hd hc2 hd2;exact richCompare_meets_room (op:=.Lt) ⟨_,ho,rfl⟩ ⟨_,ho2,rfl⟩ F.slot_list_lt F.entry_list_lt (F.args_list_lt_2 _ _) (ZkF l b us vs n n2 dd dd2 sl sl2 xs ys hx hy)
  ⟨ho,ho2,show Value.bool (HT.lexLt xs ys)≠Value.notImplemented/\Q (.bool (HT.lexLt xs ys)) s from ⟨(fun x=>nomatch x),h⟩⟩ hu
end L2
namespace L2
open PySem PySem.Spec PyProof.Rows PySem.W SeqAt
noncomputable def Jh (e r:Nat->Bool):Nat->Nat->Bool
 | 0,_=>false
 | k+1,i=>if e i then Jh e r k (i+1) else r i
noncomputable def Zk2 (A:Around) (s:Shared) (u v:Value) (b:Bool):Prop:=∀ (prog:Program) (w:World) (E:Value->Shared->Prop) (Q:Value->Shared->Prop),Q (.bool b) s->wpAny (model prog w) A (richCompare .Lt u v) Q E s
theorem ZhZ (l b:Addr) (us vs:List Value) (n n2:Nat) (dd dd2:Option Addr) (sl sl2:Array (Option Value)) (e r:Nat->Bool) (hlen:us.length=vs.length) :
  Meets (Builtin.«tuple.__lt__» ⟨[.ref l,.ref b],[]⟩)
   (fun A R s=>s.heap.get? l=some { cls:=.type "tuple",dict:=dd,data:=.seq us.toArray n,slots:=sl }/\s.heap.get? b=some { cls:=.type "tuple",dict:=dd2,data:=.seq vs.toArray n2,slots:=sl2 } /\
    (∀ i u v,us[i]? = some u->vs[i]? = some v->EqAt A.in1 s u v (e i)/\(e i=false->Zk2 A.in1 s u v (r i))) /\
    R (.ok (.ret (.bool (Jh e r us.length 0)))) s) :=
 .of_wp fun prog w A R s h=>by
  obtain ⟨hp,g,d,tk,os⟩:=s;obtain ⟨hl,hb,hc,h⟩:=h;have f2:=AutoSeq1.sub_tuple_tuple;have hZ:(us.zip vs).length=us.length:=by simp; exact O37 hlen
  wp_walk using AutoSeq1.wpAny_loadPart' hl,AutoSeq1.wpAny_loadPart' hb,wpAny_forIn_list _ (fun rest b s'=>b.1=none/\s'=⟨hp,g,d,tk,os⟩/\∃ i,rest=(us.zip vs).drop i /\
   R (.ok (.ret (.bool (Jh e r (us.length - i) i)))) ⟨hp,g,d,tk,os⟩) _
  case turn =>
   rintro ⟨y,x⟩ rest b s' ⟨hb',rfl,i,hz,hR⟩;have hlt:i<(us.zip vs).length:=by
    rcases QCg i (us.zip vs).length with z | z
    ·exact z
    ·rw [QBt z] at hz; cases hz
   have hix:i<us.length:=hZ ▸ hlt;have hiy:i<vs.length:=by exact Om.a2 ‹_› ‹_›
   rw [QBc hlt] at hz
   injection hz with hyx hrest
   have hy:y=us[i]:=by
    have q:=congrArg Prod.fst hyx;rw [QDv] at q;exact q
   have hx:x=vs[i]:=by
    have q:=congrArg Prod.snd hyx;rw [QDv] at q;exact q
   subst hy hx;obtain ⟨c1,c2⟩:=hc i _ _ (QAb hix) (QAb hiy);rw [show us.length - i=(us.length - (i+1))+1 by exact O36 hlen hZ hlt] at hR;unfold Jh at hR;refine QZq (c1 prog w _ _ ?_)
   cases he:e i with
   | true =>
    rw [he] at hR
    wp_walk
    exact ⟨rfl,rfl,i+1,hrest,hR⟩
   | false =>
    rw [he] at hR;generalize hRC:richCompare=RC
    wp_walk
    subst hRC;refine c2 he prog w _ _ ?_
    wp_walk
    exact ⟨_,rfl,hR⟩
  case fin =>
   rintro ⟨b1,b2⟩ s' ⟨hb',rfl,i,hz,hR⟩
   simp only at hb';subst hb';have hge:us.length<=i:=by
    rcases QCg i (us.zip vs).length with z | z
    ·rw [QBc z] at hz; cases hz
    ·exact hZ ▸ z
   rw [show us.length - i=0 by exact O35 hlen hZ hge] at hR
   wp_walk
   refine ⟨_,rfl,?_⟩
   simpa [Builtin.Tuple.tupleCompareSizes,Jh,hlen] using hR
  case h =>
   exact ⟨rfl,rfl,0,by simp,by simpa using h⟩
theorem ZkD {A:Around} {s:Shared} {l b:Addr} {us vs:List Value} {e r:Nat->Bool} (hl:s.heap.IsTuple l us.toArray) (hb:s.heap.IsTuple b vs.toArray) (hlen:us.length=vs.length) (hu:A.units<cLine)
  (hc:∀ i u v,us[i]? = some u->vs[i]? = some v->EqAt A.in1 s u v (e i)/\(e i=false->Zk2 A.in1 s u v (r i))):Zk2 A s (.ref l) (.ref b) (Jh e r us.length 0):=fun prog w E Q h=>by
 obtain ⟨⟨cls,dd,data,sl⟩,ho,hc1,n,hd⟩:=id hl;obtain ⟨⟨cls2,dd2,data2,sl2⟩,ho2,hc2,n2,hd2⟩:=id hb
 simp only at hc1 hd hc2 hd2;subst hc1 hd hc2 hd2;exact richCompare_meets_room (op:=.Lt) ⟨_,ho,rfl⟩ ⟨_,ho2,rfl⟩ F.slot_tuple_lt F.entry_tuple_lt (F.args_tuple_lt_2 _ _) (ZhZ l b us vs n n2 dd dd2 sl sl2 e r hlen)
  ⟨ho,ho2,hc,show Value.bool (Jh e r us.length 0)≠Value.notImplemented/\Q (.bool (Jh e r us.length 0)) s from ⟨(fun x=>nomatch x),h⟩⟩ hu
end L2
namespace HT
open PySem PyProof.Rows
section
variable {prog:Program} {w:World} {A:Around} {E:Value->Shared->Prop} {s:Shared}
end
end HT
namespace L2
open PySem PySem.Spec PyProof.Rows
theorem Zdm:∀ {ps:List Addr} {us:List Value},Vals (ps.map V.ref) us->us=ps.map Value.ref
 | [],_,.nil=>rfl
 | p::ps,_,.cons r t=>by
  cases r;rw [Zdm t]
  rfl
end L2
namespace L2
open PySem PySem.Spec PyProof.Rows PySem.W SeqAt
inductive LtD (K:QZa) (H:Hp):Nat->V->V->Bool->Prop where
 | nums {d:Nat} (x y:Int):LtD K H d (.int x) (.int y) (decide (x<y))
 | lsts {d:Nat} {a c:Addr} {xs ys:List Int} (h1:SqL K H a (xs.map V.int)) (h2:SqL K H c (ys.map V.int)):LtD K H d (.ref a) (.ref c) (HT.lexLt xs ys)
 | tups {d:Nat} {a c:Addr} {us vs:List V} {e r:Nat->Bool} (h1:SqT K H a us) (h2:SqT K H c vs) (hl:us.length=vs.length) (he:∀ i u v,us[i]? = some u->vs[i]? = some v->EqD K H d u v (e i)) (hr:∀ i u v,us[i]? = some u->vs[i]? = some v->e i=false->LtD K H d u v (r i)):LtD K H (d+1) (.ref a) (.ref c) (Jh e r us.length 0)
section
variable {X:Cx} {pins:List (Addr × Obj)} {σ:St} {H:Hp} {s:Shared}
theorem LtD.at (I:Inv X pins σ H s) {d:Nat} {x y:V} {b:Bool} (h:LtD X.K H d x y b):∀ {A:Around} {u v:Value},RelV x u->RelV y v->A.units+d<cLine->Zk2 A s u v b:=by
 induction h with
 | nums x y =>
  intro A u v rx ry hu prog w E Q q;obtain ⟨t1,rfl⟩:=rx;obtain ⟨t2,rfl⟩:=ry;exact PyProof.Rows.lt_int (a:=x) (b:=y) q
 | @lsts d a c xs ys h1 h2 =>
  intro A u v rx ry hu prog w E Q q
  cases rx
  cases ry;obtain ⟨its,r1,p1,_⟩:=I.list h1;obtain ⟨its2,r2,p2,_⟩:=I.list h2;exact Zjo p1.isList p2.isList (YC r1) (YC r2) (by exact O430 hu) q
 | @tups d a c us vs e r h1 h2 hl he hr ih =>
  intro A u v rx ry hu
  cases rx
  cases ry;obtain ⟨its,r1,p1,_⟩:=I.tuple h1;obtain ⟨its2,r2,p2,_⟩:=I.tuple h2;have e1:=r1.length;have e2:=r2.length;rw [e1];refine ZkD p1 p2 (by exact O34 hl e1 e2) (by exact O33 hu) fun i u v hu1 hv1=>?_;have l1:i<us.length:=by rw [e1]; exact (QZb.mp hu1).1
  have l2:i<vs.length:=by rw [e2]; exact (QZb.mp hv1).1
  obtain ⟨u',g1,ru⟩:=r1.get (QAb l1);obtain ⟨v',g2,rv⟩:=r2.get (QAb l2);have z1:u'=u:=by
   rw [hu1] at g1
   cases g1
   rfl
  have z2:v'=v:=by
   rw [hv1] at g2
   cases g2
   rfl
  subst z1;subst z2;exact ⟨((he i _ _ (QAb l1) (QAb l2)).all I (A:=A.in1) ru rv (by show A.units+1+d<cLine; exact O32 hu)).1,fun q=>ih i _ _ (QAb l1) (QAb l2) q ru rv (by show A.units+1+d<cLine; exact O32 hu)⟩
end
noncomputable def Znc (K:QZa) (d:Nat):List V->Hp->VK->Prop:=fun xs H Q=>∃ (l:Addr) (ps:List Addr) (lt:Nat->Nat->Bool) (p:Addr),xs=[.ref l]/\SqL K H l (ps.map V.ref)/\0<ps.length/\(∀ i j p q,ps[i]? = some p->ps[j]? = some q->LtD K H d (.ref p) (.ref q) (lt i j))/\ps[argBest lt (ps.length - 1)]? = some p/\Q (.ref p) H
theorem ZfE {X:Cx} {d:Nat} (K:QZa) (hc:X.calm=true) (hu:X.A.units+1+d<cLine) (hK:X.K=K:=by rfl):Y5 X (.builtin "min") (Znc K d):=by
 subst hK;intro pins s σ H xs us Q I r h;obtain ⟨l,ps,lt,p,rfl,hl,hn,hlt,hp,q⟩:=h;obtain ⟨u,rfl,ru⟩:=J1 r
 cases ru;obtain ⟨its,rv,pl,_⟩:=I.list hl;have hits:=Zdm rv;subst hits;have ext:∀ {h':Heap} {tk:Nat},(∀ b o,s.heap.get? b=some o->h'.get? b=some o)->Inv X pins σ H { s with heap:=h',toks:=tk }:=fun k=>I.kept k
 refine Zhp (lt:=lt) (I.ok.hd hc) pl.isList (by simp; exact hn) (fun i j u v h' tk Q E k hu1 hv1 z=>?_) (fun v h' tk hv k=>?_)
 ·have hu2:(ps.map Value.ref)[i]? = some u:=by simpa using hu1
  have hv2:(ps.map Value.ref)[j]? = some v:=by simpa using hv1
  rw [QAe] at hu2 hv2
  cases h1:ps[i]? with
  | none=>rw [h1] at hu2; cases hu2
  | some a =>
   cases h2:ps[j]? with
   | none=>rw [h2] at hv2; cases hv2
   | some c =>
    rw [h1] at hu2;rw [h2] at hv2
    cases hu2
    cases hv2;exact (hlt i j a c h1 h2).at (ext k) (A:=X.A.in1) rfl rfl (by show X.A.units+1+d<cLine; exact hu) _ _ _ _ z
 ·have hv2:(ps.map Value.ref)[argBest lt (ps.length - 1)]? = some v:=by simpa using hv
  rw [QAe,hp] at hv2
  cases hv2;exact ⟨.ref p,H,ext k,rfl,q⟩
end L2
namespace L2
open PySem PySem.Spec PyProof.Rows
structure W (p:Prop):Prop where
 h:p
section
variable {X:Cx} {es:List Expr} {te:TE} {t:TA} {p:Pos} {e:Expr}
end
end L2
namespace L2
open PySem PySem.Spec PyProof.Rows
section
variable {X:Cx} {es:List Expr} {t:TA} {p:Pos}
theorem Yg {st:Stmt} {rest:List Stmt} {u v:TS} (h1:W (PS X st u)) (h2:W (PSs X rest v)):W (PSs X (st::rest) (Zj3 u v)):=⟨Ze h1.h h2.h⟩
theorem ZjZ {st:Stmt} {u:TS} (h1:W (PS X st u)):W (PSs X [st] u):=⟨Zf h1.h⟩
end
end L2
namespace My
open PySem L2
noncomputable def top (i:Nat):Stmt:=PySem.Challenge.pw_latinclose_k54_own_renamings.main.body.getD i (.Pass ⟨0,0,0,0⟩)
noncomputable abbrev Zas:Stmt:=top 1
noncomputable abbrev Yp:Stmt:=top 2
noncomputable abbrev JS:Stmt:=top 3
noncomputable abbrev ZT:Stmt:=top 4
noncomputable abbrev Ji:Stmt:=top 5
noncomputable abbrev Zae:Stmt:=top 6
noncomputable abbrev Jn:Stmt:=top 7
noncomputable abbrev YE:Stmt:=top 9
noncomputable abbrev JQ:Stmt:=top 10
noncomputable abbrev Jp:Stmt:=top 12
noncomputable abbrev Zar:Stmt:=top 13
noncomputable abbrev Jm:Stmt:=top 14
noncomputable abbrev JT:Stmt:=top 15
noncomputable abbrev YI:Stmt:=top 16
noncomputable abbrev YH:Stmt:=top 17
noncomputable abbrev Zdb:Stmt:=top 19
noncomputable abbrev Jo:Stmt:=top 20
noncomputable abbrev Zb2:Stmt:=top 21
noncomputable abbrev Zat:Stmt:=top 23
noncomputable abbrev JY:Stmt:=top 24
noncomputable abbrev Jv:Stmt:=top 25
noncomputable abbrev ZaU:Stmt:=top 26
noncomputable abbrev YR:Stmt:=top 27
noncomputable abbrev Zbc:Stmt:=top 28
noncomputable abbrev Zbd:Stmt:=top 29
noncomputable abbrev Zaf:Stmt:=top 30
noncomputable abbrev Zem:Stmt:=top 31
noncomputable abbrev JR:Stmt:=top 32
noncomputable abbrev Jq:Stmt:=top 33
noncomputable abbrev JP:Stmt:=top 34
noncomputable abbrev Zac:Stmt:=top 35
noncomputable abbrev Zad:Stmt:=top 36
noncomputable abbrev Jw:Stmt:=top 37
noncomputable abbrev Zb8:Stmt:=top 38
structure Blt (mg:Str->Option Value):Prop where
 len:mg "len" = none
 range:mg "range" = none
 tuple:mg "tuple" = none
 list:mg "list" = none
 isin:mg "isinstance" = none
 int:mg "int" = none
 bool:mg "bool" = none
 zip:mg "zip" = none
 max:mg "max" = none
 sorted:mg "sorted" = none
 enum:mg "enumerate" = none
 min:mg "min" = none
end My
namespace My
open PySem L2
theorem Zbx:bootBuiltins "range" = some (Value.type "range"):=by decide +kernel
inductive ZhS (K:QZa) (vs:List V) (H:Hp) (Q:VK):Prop where
 | mk (a:Addr) (ns:List Int) (k:Nat) (_:vs=[.ref a,.int k]) (_:SqL K H a (ns.map V.int)) (_:∀ z:Int,Q (.int z) H):ZhS K vs H Q
noncomputable def ZbF (K:QZa):Sp:=fun vs H Q _=>ZhS K vs H Q
section
variable {P:Program} {w:World} {K:QZa} {mg:Str->Option Value} {base:Heap}
theorem Zlu:Zs ["_law_script","_law_k"] ["_law_script","_law_k"] (Zd Zat):=⟨rfl,rfl,rfl,by decide +kernel,rfl,by decide +kernel,by decide +kernel⟩
theorem Zho {f:Addr} {fd:FuncData} (F:Fun K "_law_cell_at" "_law_cell_at" Zat f fd) (T:Blt mg):FnOk P w K mg base CX0 1 f fd ["_law_script","_law_k"] (ZbF K):=by
 refine F.ok Zlu (fun vs H Q E h=>?_) (fun cdv A outer s H vs Q E hr h=>?_)
 ·obtain ⟨a,ns,k,rfl,_⟩:=h
  rfl
 ·obtain ⟨a,ns,k,rfl,hS,q⟩:=h;refine ⟨_,Ze (Yy (ZC Zk9 (pv 1) (Zl (Zt K) rfl T.len PySem.boot_len (Za (pv 0) Zc)) (ZV _)) (Zf (Zq (ZU Jl (pv 0) (pv 1) (fun _ _=>rfl)))) ZR)
   (Zf (Zq Zh)),?_⟩
  refine ⟨_,rfl,_,rfl,a,_,rfl,.inl hS,_,_,rfl,rfl,_,rfl,?_⟩;refine ZaA (fun hc=>?_) (fun _=>q 0);have hlt:k<ns.length:=by
   have:=QZj hc;rw [QAa] at this;omega
  have hat:(ns.map V.int)[k]? = some (.int ns[k]):=by rw [QAe]; simp [hlt]
  exact ⟨_,rfl,_,rfl,a,_,_,_,rfl,rfl,hS,YO hat,q _⟩
theorem scNumber:Zs ["_law_script","_law_k","_law_cell","_law_number_here","_law_turn_here","_law_mixed"] ["_law_script","_law_k"] (Zd Jv):=⟨rfl,rfl,rfl,by decide +kernel,rfl,by decide +kernel,by decide +kernel⟩
inductive Zgd (H:Hp) (a:Addr) (k:Nat) (z:Int) (i:Nat) (σ:St) (H2:Hp):Prop where
 | mk (num:Int) (kk mx:Option V) (_:σ=[some (.ref a),some (.int (k:Int)),some (.int z),some (.int num),kk,mx]) (_:H2=H):Zgd H a k z i σ H2
theorem Zdz {f fC:Addr} {fd dC:FuncData} (F:Fun K "_law_number" "_law_number" Jv f fd) (T:Blt mg) (DC:Dfn K mg "_law_cell_at" Zat ["_law_script","_law_k"] fC dC):FnOk P w K mg base CX0 2 f fd ["_law_script","_law_k"] (ZbF K):=by
 have GC:FnOk P w K mg base CX0 1 fC dC ["_law_script","_law_k"] (ZbF K):=Zho DC.F T;refine F.ok scNumber (fun vs H Q E h=>?_) (fun cdv A outer s H vs Q E hr h=>?_)
 ·obtain ⟨a,ns,k,rfl,_⟩:=h
  rfl
 ·obtain ⟨a,ns,k,rfl,hS,q⟩:=h
  refine' ⟨_,Ze ?s0 (Ze (Zk (i:=3) scNumber.nd rfl (Or.inl rfl) Zh) (Ze (Yv PassesOwn.never rfl (Zx rfl T.range (Za Zh Zc)) (ZJ (i:=4) scNumber.nd rfl (Or.inl rfl)) (Ze ?b0 (Zf ?b1))) (Ze ?s3 (Zf ?s4)))),?rd⟩
  case s0=>exact Zk (i:=2) scNumber.nd rfl (Or.inl rfl) (Zm GC hr rfl DC.m DC.F.kp DC.b .nil ZF (Za (pv 0) (Za (pv 1) Zc)))
  case b0=>exact Zk (i:=5) scNumber.nd rfl (Or.inl rfl) (Zj Z3 (Zj JG (Zj Yj (Zj Yj (Zj Yj (Zj Z3 (pv 2) (Zj Za2 Zh Zh)) (Zj JG Zh (pv 1))) (Zj JG Zh (pv 4))) Zh) Zh) Zh)
  case b1=>exact Zk (i:=3) scNumber.nd rfl (Or.inl rfl) (Zj Yj (Zj JG (pv 3) (Zj Za2 Zh Zh)) (Zj Z3 (Zj JG (Zj Z3 (Zj JG (Zj Yj (Zj Yj (Zj Ys (pv 5) Zh) (pv 1)) Zh) Zh) Zh) Zh) (Zj Za2 Zh Zh)))
  case s3=>exact Yy (ZC Zay (Zj Z3 (Zm GC hr rfl DC.m DC.F.kp DC.b .nil ZF (Za (pv 0) (Za Zh Zc))) Zh) Zh (ZV _)) (Zf (Zq (pv 3))) ZR
  case s4=>exact Zq (Zj Yj (pv 2) (Zj JG (Zj JG (Zj Za2 Zh Zh) (pv 3)) (Zp Zip rfl T.int ZjO (Za (Zcg Zk9 (pv 2) (Zj Za2 Zh Zh) (ZV _)) Zc))))
  case rd =>
   refine ⟨_,rfl,_,rfl,a,ns,k,rfl,hS,fun z=>?_⟩;refine ⟨2,rfl,by decide,by decide,?_⟩;refine Ym (lo:=0) (n:=2) (Zgd H a k z) ⟨0,none,none,rfl,rfl⟩ ?_ ?_
   ·rintro i σ H2 hi ⟨num,kk,mx,rfl,rfl⟩;rw [QBw];refine ⟨_,rfl,_,_,rfl,rfl,⟨by decide,by decide,by decide⟩,_,_,rfl,rfl,(by show (0:Int)<10 ^ 24; decide),_,rfl,_,_,rfl,rfl,.inl ⟨by decide,by decide⟩,_,_,rfl,rfl,_,rfl,_,_,rfl,rfl,.inl ⟨by decide,by decide⟩,_,_,rfl,rfl,_,_,rfl,rfl,_,_,rfl,rfl,.inr ⟨by decide,by decide⟩,_,_,rfl,rfl,(by show (0:Int)<2305843009213693951; decide),?_⟩;refine ⟨_,rfl,_,_,rfl,rfl,⟨by decide,by decide,by decide⟩,_,_,rfl,rfl,.inr ⟨by decide,by decide⟩,_,rfl,_,_,rfl,rfl,⟨by decide,by decide⟩,_,rfl,_,_,rfl,rfl,_,_,rfl,rfl,_,_,rfl,rfl,.inr ⟨by decide,by decide⟩,_,_,rfl,rfl,(by show (0:Int)<2305843009213693921; decide),_,_,rfl,rfl,.inr ⟨by decide,by decide⟩,_,_,rfl,rfl,⟨by decide,by decide,by decide⟩,_,_,rfl,rfl,(by show (0:Int)<10 ^ 18; decide),_,_,rfl,rfl,?_⟩;exact ⟨_,_,_,rfl,rfl⟩
   ·rintro σ H2 ⟨num,kk,mx,rfl,rfl⟩;refine ⟨_,rfl,a,ns,1,rfl,hS,fun z1=>⟨_,_,rfl,rfl,(by show (0:Int)<2; decide),rfl,_,rfl,ZaA (fun _=>⟨_,rfl,q num⟩) (fun _=>?_)⟩⟩;refine ⟨_,rfl,_,_,rfl,rfl,⟨by decide,by decide,by decide⟩,_,rfl,_,_,rfl,rfl,.inl ⟨by decide,by decide⟩,_,rfl,_,_,rfl,rfl,⟨by decide,by decide,by decide⟩,_,_,rfl,rfl,.inr ⟨_,rfl,_,_,rfl,rfl,.inr ?_,_,_,rfl,rfl,q _⟩⟩
    split <;> decide
end
end My
namespace My
open PySem L2
theorem ZdP {α β:Type} (f:α->β):∀ (l:List α) (k:Nat),(l.map f).eraseIdx k=(l.eraseIdx k).map f
 | [],_=>rfl
 | _::_,0=>rfl
 | x::l,k+1=>by rw [QAp,List.eraseIdx_cons_succ,List.eraseIdx_cons_succ,QAp,ZdP f l k]
theorem ZcA:∀ (l:List Int) (k:Nat) (h:k<l.length),([l[k]]++l.eraseIdx k).Perm l
 | x::l,0,_=>List.Perm.refl _
 | x::l,k+1,h=>by
  have ih:=ZcA l k (by simpa using h);show ([l[k]'(by simpa using h)]++(x::l.eraseIdx k)).Perm (x::l);exact (List.Perm.swap x _ _).trans (ih.cons x)
theorem Zep (n:Nat):rng n=(ZG n).map V.int:=by
 unfold rng ZG;rw [QBa]
 rfl
structure Turn (n:Nat) (r:List Int):Prop where
 len:r.length=n
 nd:r.Nodup
 rg:∀ x∈r,0<=x/\x<(n:Int)
theorem Turn.of_perm {n:Nat} {r:List Int} (h:r.Perm (ZG n)):Turn n r:=⟨by rw [h.length_eq,Yh],h.nodup_iff.mpr (JE n),fun x hx=>mem_rngI.mp (h.mem_iff.mp hx)⟩
inductive ZhM (vs:List V) (H:Hp) (Q:VK):Prop where
 | mk (n:Nat) (z:Int) (_:vs=[.int (n:Int),.int z]) (_:n<=8) (_:∀ (t:Addr) (H':Hp) (r:List Int),Same H H'->H t=none->H' t=some (.tup (r.map V.int))->Turn n r->Q (.ref t) H'):ZhM vs H Q
noncomputable def ZiA:Sp:=fun vs H Q _=>ZhM vs H Q
noncomputable def Zle (H:Hp) (n:Nat) (lp lf:Addr) (m:Nat) (σ:St) (H2:Hp):Prop :=
 ∃ (num:Int) (pool found:List Int),σ=[some (.int (n:Int)),some (.int num),some (.ref lp),some (.ref lf)]/\Same H H2/\H2 lp=some (.lst (pool.map V.int))/\H2 lf=some (.lst (found.map V.int))/\(found++pool).Perm (ZG n)/\m=pool.length
section
variable {P:Program} {w:World} {K:QZa} {mg:Str->Option Value} {base:Heap}
theorem scTurn:Zs ["_law_n","_law_number_here","_law_pool","_law_found"] ["_law_n","_law_number_here"] (Zd ZaU):=⟨rfl,rfl,rfl,by decide +kernel,rfl,by decide +kernel,by decide +kernel⟩
theorem Zkq {f:Addr} {fd:FuncData} (F:Fun K "_law_turn" "_law_turn" ZaU f fd) (T:Blt mg):FnOk P w K mg base CX0 1 f fd ["_law_n","_law_number_here"] ZiA:=by
 refine F.ok scTurn (fun vs H Q E h=>?_) (fun cdv A outer s H vs Q E hr h=>?_)
 ·obtain ⟨_,_,rfl,_⟩:=h
  rfl
 ·obtain ⟨n,z,rfl,h8,q⟩:=h;have hu:((A.deeper (PyProof.Rows.envOfC "_law_turn" (Zd ZaU) s.heap.objs.size f cdv))).units<cLine:=by have:=hr.un; omega
  refine' ⟨_,Ze ?s0 (Ze (Zk (i:=3) scTurn.nd rfl (Or.inl rfl) (Yd Zc)) (Ze (Zcy PassesOwn.never ?c (Ze ?b0 (Zf ?b1))) (Zf ?r))),?rd⟩
  case s0=>exact Zk (i:=2) scTurn.nd rfl (Or.inl rfl) (Zp (Zc4 rfl) rfl T.list ZaS (Za (Zp JX rfl T.range Zbx (Za (pv 0) Zc)) Zc))
  case c=>exact ZC (ZgC hu K) (pv 2) (Yd Zc) (ZV _)
  case b0=>exact Yz (Jr PySem.F.plainAttrs_list PySem.F.slot_list_append PySem.F.type_list_append Ya (pv 3) (Za (Jr PySem.F.plainAttrs_list PySem.F.slot_list_pop PySem.F.type_list_pop Zjh (pv 2) (Za (Zj Z3 (pv 1) (Zl (Zt K) rfl T.len PySem.boot_len (Za (pv 2) Zc))) Zc)) Zc))
  case b1=>exact Zk (i:=1) scTurn.nd rfl (Or.inl rfl) (Zj Ys (pv 1) (Zj Yj (Zl (Zt K) rfl T.len PySem.boot_len (Za (pv 2) Zc)) Zh))
  case r=>exact Zq (Zp (Zv K) rfl T.tuple ZI (Za (pv 3) Zc))
  case rd =>
   refine ⟨_,rfl,n,rfl,fun lr hlr=>⟨lr,n,rfl,Zb,by exact Om.b1 ‹_› rfl,fun lp hlp=>⟨QAh _,fun lf hlf=>?_⟩⟩⟩;rw [Zep] at hlf ⊢;have s0:Same H (upd H lr (.rng 0 (n:Int))):=Same.new hlr;have s1:Same (upd H lr (.rng 0 (n:Int))) (upd (upd H lr (.rng 0 (n:Int))) lp (.lst ((ZG n).map V.int))):=Same.new hlp;have s2:Same (upd (upd H lr (.rng 0 (n:Int))) lp (.lst ((ZG n).map V.int))) (upd (upd (upd H lr (.rng 0 (n:Int))) lp (.lst ((ZG n).map V.int))) lf (.lst [])):=Same.new hlf;have fp:H lp=none:=s0.free hlp;have ff:H lf=none:=(s0.trans s1).free hlf;have hne:lp≠lf:=fun e=>by rw [<- e,Zb] at hlf; cases hlf
   refine ⟨Zle H n lp lf,⟨_,z,ZG n,[],rfl,s0.trans (s1.trans s2),s2 _ _ Zb,Zb,List.Perm.refl _,rfl⟩,?_⟩;rintro m σ H2 ⟨num,pool,found,rfl,sH,hp,hf,hpm,rfl⟩;have hlen:found.length+pool.length=n:=by rw [<- QAo,hpm.length_eq,Yh]
   refine ⟨_,rfl,QAh _,fun le hle=>⟨lp,le,pool.map V.int,[],rfl,rfl,SqL.of ((Same.new hle) _ _ hp),SqL.of Zb,.inl ⟨ZM pool,rfl⟩,_,rfl,?_⟩⟩;have s3:Same H2 (upd H2 le (.lst [])):=Same.new hle;have hp3:=s3 _ _ hp;have hf3:=s3 _ _ hf;have sH3:=sH.trans s3;generalize upd H2 le (.lst [])=H3 at hp3 hf3 sH3 ⊢
   cases pool with
   | nil =>
    refine YZ ⟨_,rfl,lf,_,rfl,.inl ⟨SqL.of hf3,fun t ht=>?_⟩⟩;rw [QBu] at hpm;exact q t _ found (sH3.trans (Same.new ht)) (sH3.free ht) Zb (Turn.of_perm hpm)
   | cons x pool =>
    have hb:(if true=true then !Y1 ((x::pool).map V.int) [] else Y1 ((x::pool).map V.int) [])=true:=by rw [if_pos rfl,ZjG]; rfl
    rw [hb];refine ZbR ⟨fun σ' H'=>∃ m',m'<(x::pool).length/\Zle H n lp lf m' σ' H',fun _ _ z=>z,?_⟩;have hpos:0<(x::pool).length:=Nat.succ_pos _;generalize x::pool=pl at hp3 hpm hlen hpos ⊢;have hml:(pl.map V.int).length=pl.length:=QAa _;have hp1:(0:Int)<(pl.length:Int):=by exact O429 hpos hml
    obtain ⟨i,hi,hil⟩:∃ i:Nat,num % (pl.length:Int)=(i:Int)/\i<pl.length:=by
     have e1:=QCq num (show (pl.length:Int)≠0 by exact O428 hpos hml);have e2:=QDw num hp1;exact ⟨(num % (pl.length:Int)).toNat,by exact Om.z1 ‹_›,by exact O427 h8 hlen hpos hml e2⟩
    have hsi:seqIndex? (i:Int) (pl.map V.int).length=some i:=by
     have:=PySem.StrLaws.seqIndex_nonneg (i:=(i:Int)) (n:=(pl.map V.int).length) (by exact Om.c6) (by rw [hml]; exact Om.c5 ‹_›)
     simpa using this
    refine ⟨_,rfl,.inl ⟨rfl,_,SqL.of hf3⟩,_,rfl,.inl ⟨rfl,_,SqL.of hp3⟩,_,rfl,_,rfl,lp,_,rfl,.inl (SqL.of hp3),_,_,rfl,rfl,by rw [hml]; exact hp1,lp,_,(i:Int),i,.int pl[i],rfl,?_,hp3,by exact O426 ,by exact O425 h8 hlen hpos hml hil,hsi,by rw [QAe,QAb hil]; rfl,?_⟩
    ·show [V.int (num % ((pl.map V.int).length:Int))]=_;rw [hml,hi]
    have hf4:(upd H3 lp (.lst ((pl.map V.int).eraseIdx i))) lf=some (.lst (found.map V.int)):=by rw [Zg (Ne.symm hne)]; exact hf3
    refine ⟨lf,_,_,rfl,rfl,hf4,by rw [QAa]; exact Zw (by exact O424 h8 hlen hpos hml),?_⟩;have hp5:(upd (upd H3 lp (.lst ((pl.map V.int).eraseIdx i))) lf (.lst (found.map V.int++[.int pl[i]]))) lp=some (.lst ((pl.eraseIdx i).map V.int)):=by rw [Zg hne,Zb,ZdP]
    refine ⟨_,rfl,_,rfl,lp,_,rfl,.inl (SqL.of hp5),_,_,rfl,rfl,_,_,rfl,rfl,⟨?_,?_⟩,(pl.eraseIdx i).length,?_,_,pl.eraseIdx i,found++[pl[i]],rfl,fun b u e=>?_,hp5,?_,?_,rfl⟩
    ·show (0:Int)<(((pl.eraseIdx i).map V.int).length:Int)+1;exact O423
    ·show (((pl.eraseIdx i).map V.int).length:Int)+1<1073741824;rw [QAa,List.length_eraseIdx]
     split <;> omega
    ·rw [List.length_eraseIdx,if_pos hil];exact O422 hpos hml
    ·rw [Zg (Zi e ff),Zg (Zi e fp)];exact sH3 _ _ e
    ·rw [Zb,QAn]
     rfl
    ·rw [QBo];exact (List.Perm.append_left found (ZcA pl i hil)).trans hpm
end
end My
namespace My
open PySem L2
theorem JO:∀ {a b:List Int},a.Perm b->a.Pairwise (· <= ·)->b.Pairwise (· <= ·)->a=b
 | [],b,p,_,_=>(List.Perm.nil_eq p)
 | x::a,[],p,_,_=>by have:=p.length_eq; cases this
 | x::a,y::b,p,ha,hb=>by
  have hxy:x=y:=by
   have h1:y∈x::a:=p.mem_iff.mpr QAj;have h2:x∈y::b:=p.mem_iff.mp QAj;have l1:x<=y:=by
    rcases QZn.mp h1 with z | z
    ·exact O421 z
    ·exact (List.pairwise_cons.mp ha).1 y z
   have l2:y<=x:=by
    rcases QZn.mp h2 with z | z
    ·exact O421 z
    ·exact (List.pairwise_cons.mp hb).1 x z
   omega
  subst hxy;rw [JO (List.Perm.cons_inv p) (List.pairwise_cons.mp ha).2 (List.pairwise_cons.mp hb).2]
noncomputable def TG (H:Hp) (a:Addr) (R:List (List Int)):Prop:=∃ ps:List Addr,H a=some (.tup (ps.map V.ref))/\Paired (fun p (r:List Int)=>H p=some (.tup (r.map V.int))) ps R
theorem TG.same {c:Addr} {H H1:Hp} {R:List (List Int)} (g:TG H c R) (x:Same H H1):TG H1 c R :=
 let ⟨ps,h,r⟩:=g
 ⟨ps,x _ _ h,Paired.mapP r fun _ _ z=>x _ _ z⟩
theorem TG.at {c:Addr} {H:Hp} {R:List (List Int)} (g:TG H c R) {k:Nat} (hk:k<R.length):∃ xs p,H c=some (.tup xs)/\xs.length=R.length/\atI xs (k:Int)=some (.ref p)/\H p=some (.tup ((R.getD k []).map V.int)):=by
 obtain ⟨ps,h,r⟩:=g;obtain ⟨p,hp,hH⟩:=Paired.getR r (QAb hk);refine ⟨_,p,h,by rw [QAa,r.length],YO (by rw [QAe,hp]; rfl),?_⟩;rw [hH]
 simp [QAc,QAb hk]
structure Ren (n:Nat) (R:List (List Int)):Prop where
 len:R.length=3
 row:∀ r∈R,Turn n r
theorem Ren.at {n:Nat} {R:List (List Int)} (h:Ren n R) {k:Nat} (hk:k<3):Turn n (R.getD k []):=by
 have hk':k<R.length:=by rw [h.len]; exact hk
 have:R.getD k []=R[k]:=by simp [QAc,QAb hk']
 rw [this];exact h.row _ (QAq hk')
theorem JL {r:List Int} {i:Nat} (h:i<r.length):atI (r.map V.int) (i:Int)=some (.int (r.getD i 0)):=by
 refine YO ?_;rw [QAe,QAb h]
 simp [QAc,QAb h]
inductive Zb6 (K:QZa) (vs:List V) (H:Hp) (Q:VK):Prop where
 | mk (a:Addr) (ns:List Int) (k n:Nat) (_:vs=[.ref a,.int (k:Int),.int (n:Int)]) (_:SqL K H a (ns.map V.int)) (_:n<=8) (_:∀ (t:Addr) (H':Hp) (R:List (List Int)),Same H H'->H t=none->TG H' t R->Ren n R->Q (.ref t) H'):Zb6 K vs H Q
noncomputable def Zcr (K:QZa):Sp:=fun vs H Q _=>Zb6 K vs H Q
section
variable {P:Program} {w:World} {K:QZa} {mg:Str->Option Value} {base:Heap}
theorem Zgp:Zs ["_law_script","_law_k","_law_n"] ["_law_script","_law_k","_law_n"] (Zd YR):=⟨rfl,rfl,rfl,by decide +kernel,rfl,by decide +kernel,by decide +kernel⟩
inductive Zgc (H:Hp) (a:Addr) (k:Nat) (n:Nat) (l:Addr) (i:Nat) (ys:List V) (σ:St) (H2:Hp):Prop where
 | mk (v:Option V) (qs:List Addr) (R:List (List Int)) (_:σ=[v,some (.int (n:Int)),some (.ref a),some (.int (k:Int))]) (_:ys=qs.map V.ref) (_:Same H H2) (_:H2 l=some (.lst ys)) (_:Paired (fun q (x:List Int)=>H2 q=some (.tup (x.map V.int))) qs R) (_:R.length=i) (_:∀ r∈R,Turn n r):Zgc H a k n l i ys σ H2
theorem Zfd {f fC fN fT:Addr} {fd dC dN dT:FuncData} (F:Fun K "_law_renaming" "_law_renaming" YR f fd) (T:Blt mg) (DC:Dfn K mg "_law_cell_at" Zat ["_law_script","_law_k"] fC dC) (DN:Dfn K mg "_law_number" Jv ["_law_script","_law_k"] fN dN) (DT:Dfn K mg "_law_turn" ZaU ["_law_n","_law_number_here"] fT dT) :
  FnOk P w K mg base CX0 3 f fd ["_law_script","_law_k","_law_n"] (Zcr K):=by
 have GN:FnOk P w K mg base CX0 2 fN dN ["_law_script","_law_k"] (ZbF K):=Zdz DN.F T DC;have GT:FnOk P w K mg base CX0 2 fT dT ["_law_n","_law_number_here"] ZiA:=(Zkq DT.F T).mono (by decide);refine F.ok Zgp (fun vs H Q E h=>?_) (fun cdv A outer s H vs Q E hr h=>?_)
 ·obtain ⟨_,_,_,_,rfl,_⟩:=h
  rfl
 ·obtain ⟨a,ns,k,n,rfl,hS,h8,q⟩:=h;refine ⟨_,Zf (Zq (Zp (Zv K) rfl T.tuple ZI (Za (Yi ["_law_j","_law_n","_law_script","_law_k"] [none,some 2,some 0,some 1] rfl rfl (Zx rfl T.range (Za Zh Zc)) (fun _ _ _ _ _=>Yw 0) (fun _ _ _ _ _=>ZB)
   (fun _ _ _ _ _=>Zm GT hr rfl DT.m DT.F.kp DT.b .nil ZF (Za (pv 1) (Za (Zm GN hr rfl DN.m DN.F.kp DN.b .nil ZF (Za (pv 2) (Za (Zj Yj (pv 3) (pv 0)) Zc))) Zc)))) Zc))),?_⟩
  refine ⟨3,rfl,by decide,by decide,fun l hl=>?_⟩;refine Z8 (ZO (n:=3)) (Zgc H a k n l)
   ⟨none,[],[],rfl,rfl,Same.new hl,Zb,.nil,rfl,fun r h=>by cases h⟩ (fun i ys σ H2 zz0=> by obtain ⟨_,_,_,_,_,_,h2,_,_,_⟩ := zz0; exact ⟨trivial,h2⟩) ?_ ?_
  ·rintro i x ys σ H2 hx ⟨v,qs,R,rfl,rfl,s2,h2,hQ,hRl,hRt⟩;obtain ⟨hi,rfl⟩:=Z6 hx;refine ⟨_,rfl,_,rfl,_,rfl,_,rfl,_,_,rfl,rfl,a,ns,k+i,rfl,s2.seq hS,fun z=>?_⟩;refine ⟨n,z,rfl,h8,fun t H3 r s3 _ ht3 tr=>?_⟩;have h3:=s3 _ _ h2;have up:∀ b row,H3 b=some (.tup row)->(upd H3 l (.lst (qs.map V.ref++[.ref t]))) b=some (.tup row):=fun b row e=>by
    rw [Zg (JH e h3 (by intro z; cases z))];exact e
   refine ⟨h3,by rw [QAa,hQ.length,hRl]; exact Zw (by exact O420 hRl hi),_,qs++[t],R++[r],rfl,by rw [QAn]; rfl,fun b u e=>?_,Zb,Paired.snoc (Paired.mapP hQ fun _ _ e=>up _ _ (s3 _ _ e)) (up _ _ ht3),by rw [QAo,hRl]; rfl,fun x hx=>?_⟩
   ·rw [Zg (Zi e hl)];exact s3 _ _ (s2 _ _ e)
   ·rcases QZf.mp hx with hx | hx
    ·exact hRt x hx
    ·rw [QZc.mp hx];exact tr
  ·rintro ys σ H2 ⟨v,qs,R,rfl,rfl,s2,h2,hQ,hRl,hRt⟩;rw [Zu] at hRl;refine ⟨l,_,rfl,.inl ⟨SqL.of h2,fun t ht=>?_⟩⟩;exact q t _ R (s2.trans (Same.new ht)) (s2.free ht) ⟨qs,Zb,Paired.mapP hQ fun _ _ z=>(Same.new ht) _ _ z⟩ ⟨hRl,hRt⟩
end
end My
namespace My
noncomputable def cmp (r s:List Int):List Int:=r.map fun x=>s.getD x.toNat 0
noncomputable def inv (r:List Int):List Int:=(List.range r.length).map fun (i:Nat)=>((r.idxOf (i:Int):Nat):Int)
theorem ZK {r:List Int} {i:Nat} (h:i<r.length):r.getD i 0=r[i]:=by rw [QAc,QAb h]; rfl
theorem ZcU {n:Nat} {r s:List Int} (hr:r.length=n) (hs:s.length=n) (h:∀ i,i<n->r.getD i 0=s.getD i 0):r=s:=by
 refine QBs (by exact Om.g2 ‹_› ‹_›) fun i h1 h2=>?_;rw [<- ZK h1,<- ZK h2];exact h i (by exact Om.a2 ‹_› ‹_›)
theorem Turn.val {n:Nat} {r:List Int} (t:Turn n r) {i:Nat} (h:i<n):∃ x:Nat,r.getD i 0=(x:Int)/\x<n:=by
 have hi:i<r.length:=by rw [t.len]; exact h
 have:=t.rg _ (QAq hi);rw [<- ZK hi] at this;exact ⟨(r.getD i 0).toNat,by exact O41 this,by exact O380 h this⟩
theorem Turn.inj {n:Nat} {r:List Int} (t:Turn n r) {i j:Nat} (hi:i<n) (hj:j<n) (e:r.getD i 0=r.getD j 0):i=j:=by
 have hi':i<r.length:=by rw [t.len]; exact hi
 have hj':j<r.length:=by rw [t.len]; exact hj
 rw [ZK hi',ZK hj'] at e
 by_cases h:i=j
 ·exact h
 ·have p:=List.pairwise_iff_getElem.mp (QZk.mp t.nd)
  rcases Nat.lt_or_gt_of_ne h with z | z
  ·exact absurd e (p i j hi' hj' z)
  ·exact absurd e.symm (p j i hj' hi' z)
theorem Turn.of {n:Nat} {r:List Int} (hl:r.length=n) (hv:∀ i,i<n->∃ x:Nat,r.getD i 0=(x:Int)/\x<n) (hi:∀ i j,i<n->j<n->r.getD i 0=r.getD j 0->i=j):Turn n r:=by
 refine ⟨hl,?_,fun x hx=>?_⟩
 ·refine QZk.mpr (List.pairwise_iff_getElem.mpr fun i j h1 h2 hij e=>?_);rw [<- ZK h1,<- ZK h2] at e;have:=hi i j (by exact O419 hl h1) (by exact Om.a2 ‹_› ‹_›) e;exact (O418 hij this).elim
 ·obtain ⟨i,h,e⟩:=QBe hx;obtain ⟨y,hy,hyn⟩:=hv i (by exact Om.a2 ‹_› ‹_›);rw [ZK h,e] at hy;exact O417 h hy hyn
theorem Y2 (r s:List Int):(cmp r s).length=r.length:=QAa _
theorem YN {n:Nat} {r s:List Int} (t:Turn n r) {i:Nat} (h:i<n):(cmp r s).getD i 0=s.getD (r.getD i 0).toNat 0:=by
 have hi:i<r.length:=by rw [t.len]; exact h
 rw [ZK (by rw [Y2]; exact hi),ZK hi];exact QBk _
theorem Turn.cmp {n:Nat} {r s:List Int} (t:Turn n r) (u:Turn n s):Turn n (cmp r s):=by
 refine Turn.of (by rw [Y2,t.len]) (fun i h=>?_) fun i j hi hj e=>?_
 ·obtain ⟨x,hx,hxn⟩:=t.val h;rw [YN t h,hx,QAf];exact u.val hxn
 ·obtain ⟨x,hx,hxn⟩:=t.val hi;obtain ⟨y,hy,hyn⟩:=t.val hj;rw [YN t hi,YN t hj,hx,hy,QAf,QAf] at e;have:=u.inj hxn hyn e;exact t.inj hi hj (by rw [hx,hy,this])
theorem ZbV {n:Nat} {r s u:List Int} (tr:Turn n r) (ts:Turn n s):cmp (cmp r s) u=cmp r (cmp s u):=by
 refine ZcU (n:=n) (by rw [Y2,Y2,tr.len]) (by rw [Y2,tr.len]) fun i h=>?_;obtain ⟨x,hx,hxn⟩:=tr.val h;rw [YN (tr.cmp ts) h,YN tr h,YN tr h,hx,QAf,YN ts hxn]
theorem ZaI {n i:Nat} (h:i<n):(ZG n).getD i 0=(i:Int):=by
 have hi:i<(ZG n).length:=by rw [Yh]; exact h
 rw [ZK hi]
 simp [ZG]
theorem J5 (n:Nat):Turn n (ZG n):=⟨Yh n,JE n,fun x hx=>mem_rngI.mp hx⟩
theorem ZbU {n:Nat} {r:List Int} (t:Turn n r):cmp r (ZG n)=r:=by
 refine ZcU (n:=n) (by rw [Y2,t.len]) t.len fun i h=>?_;obtain ⟨x,hx,hxn⟩:=t.val h;rw [YN t h,hx,QAf,ZaI hxn]
theorem ZbE {n:Nat} {r:List Int} (t:Turn n r):cmp (ZG n) r=r:=by
 refine ZcU (n:=n) (by rw [Y2,Yh]) t.len fun i h=>?_;rw [YN (J5 n) h,ZaI h,QAf]
theorem Jz (r:List Int):(inv r).length=r.length:=by unfold inv; rw [QAa,QAr]
theorem JK {n:Nat} {r:List Int} (t:Turn n r) {i:Nat} (h:i<n):(inv r).getD i 0=((r.idxOf (i:Int):Nat):Int):=by
 have hi:i<r.length:=by rw [t.len]; exact h
 rw [ZK (by rw [Jz]; exact hi)]
 simp [inv]
theorem Y0 {n:Nat} {r:List Int} (t:Turn n r) {i:Nat} (h:i<n):r.idxOf (i:Int)<n/\r.getD (r.idxOf (i:Int)) 0=(i:Int):=by
 have hm:(i:Int)∈r:=YU t.len t.nd t.rg ⟨by exact Om.c6,by exact Om.c5 ‹_›⟩;have h1:=List.idxOf_lt_length_of_mem hm;refine ⟨by rw [<- t.len]; exact h1,?_⟩;rw [ZK h1];exact List.getElem_idxOf h1
theorem Jf {n:Nat} {r:List Int} (t:Turn n r) {i x:Nat} (h:i<n) (hx:x<n) (e:r.getD i 0=(x:Int)):r.idxOf (x:Int)=i:=by
 obtain ⟨h1,h2⟩:=Y0 t hx;exact t.inj h1 h (h2.trans e.symm)
theorem Turn.inv {n:Nat} {r:List Int} (t:Turn n r):Turn n (inv r):=by
 refine Turn.of (by rw [Jz,t.len]) (fun i h=>⟨_,JK t h,(Y0 t h).1⟩) fun i j hi hj e=>?_;rw [JK t hi,JK t hj] at e;have e':r.idxOf (i:Int)=r.idxOf (j:Int):=by exact Om.e1 ‹_›
 have h1:=(Y0 t hi).2;rw [e',(Y0 t hj).2] at h1;omega
theorem ZeH {n:Nat} {r:List Int} (t:Turn n r):cmp r (inv r)=ZG n:=by
 refine ZcU (n:=n) (by rw [Y2,t.len]) (Yh n) fun i h=>?_;obtain ⟨x,hx,hxn⟩:=t.val h;rw [YN t h,hx,QAf,JK t hxn,ZaI h,Jf t h hxn hx]
theorem ZeC {n:Nat} {r:List Int} (t:Turn n r):cmp (inv r) r=ZG n:=by
 refine ZcU (n:=n) (by rw [Y2,Jz,t.len]) (Yh n) fun i h=>?_;rw [YN t.inv h,JK t h,QAf,(Y0 t h).2,ZaI h]
theorem Zbo {n:Nat} {r:List Int} (t:Turn n r):inv (inv r)=r:=by
 refine ZcU (n:=n) (by rw [Jz,Jz,t.len]) t.len fun i h=>?_;obtain ⟨x,hx,hxn⟩:=t.val h;rw [JK t.inv h,hx,Jf t.inv hxn h];rw [JK t hxn,Jf t h hxn hx]
noncomputable def Z9 (R S:List (List Int)):List (List Int):=(List.range 3).map fun k=>cmp (R.getD k []) (S.getD k [])
noncomputable def Yo (R:List (List Int)):List (List Int):=R.map inv
noncomputable def YT (n:Nat):List (List Int):=[ZG n,ZG n,ZG n]
theorem Ren.three {n:Nat} {R:List (List Int)} (h:Ren n R):∃ a b c,R=[a,b,c]/\Turn n a/\Turn n b/\Turn n c:=by
 obtain ⟨hl,hr⟩:=h
 match R,hl,hr with
 | [a,b,c],_,hr=>exact ⟨a,b,c,rfl,hr a (by simp),hr b (by simp),hr c (by simp)⟩
theorem Ren.of3 {n:Nat} {a b c:List Int} (ha:Turn n a) (hb:Turn n b) (hc:Turn n c):Ren n [a,b,c]:=⟨rfl,fun r hr=>by
 rcases QZn.mp hr with rfl | hr
 ·exact ha
 ·rcases QZn.mp hr with rfl | hr
  ·exact hb
  ·rw [QZc.mp hr];exact hc⟩
theorem Znl (a b c d e f:List Int):Z9 [a,b,c] [d,e,f]=[cmp a d,cmp b e,cmp c f]:=rfl
theorem ZaG (n:Nat):Ren n (YT n):=Ren.of3 (J5 n) (J5 n) (J5 n)
theorem Ren.beh {n:Nat} {R S:List (List Int)} (hR:Ren n R) (hS:Ren n S):Ren n (Z9 R S):=by
 obtain ⟨a,b,c,rfl,ha,hb,hc⟩:=hR.three;obtain ⟨d,e,f,rfl,hd,he,hf⟩:=hS.three;exact Ren.of3 (ha.cmp hd) (hb.cmp he) (hc.cmp hf)
theorem Ren.und {n:Nat} {R:List (List Int)} (hR:Ren n R):Ren n (Yo R):=by
 obtain ⟨a,b,c,rfl,ha,hb,hc⟩:=hR.three;exact Ren.of3 ha.inv hb.inv hc.inv
theorem Y4 {n:Nat} {R:List (List Int)} (hR:Ren n R):Z9 R (Yo R)=YT n/\Z9 (Yo R) R=YT n/\Yo (Yo R)=R/\Z9 R (YT n)=R/\Z9 (YT n) R=R:=by
 obtain ⟨a,b,c,rfl,ha,hb,hc⟩:=hR.three;refine ⟨?_,?_,?_,?_,?_⟩
 ·show [cmp a (inv a),cmp b (inv b),cmp c (inv c)]=_;rw [ZeH ha,ZeH hb,ZeH hc]; rfl
 ·show [cmp (inv a) a,cmp (inv b) b,cmp (inv c) c]=_;rw [ZeC ha,ZeC hb,ZeC hc]; rfl
 ·show [inv (inv a),inv (inv b),inv (inv c)]=_;rw [Zbo ha,Zbo hb,Zbo hc]
 ·show [cmp a (ZG n),cmp b (ZG n),cmp c (ZG n)]=_;rw [ZbU ha,ZbU hb,ZbU hc]
 ·show [cmp (ZG n) a,cmp (ZG n) b,cmp (ZG n) c]=_;rw [ZbE ha,ZbE hb,ZbE hc]
theorem JB {n:Nat} {R S U:List (List Int)} (hR:Ren n R) (hS:Ren n S) (hU:Ren n U):Z9 (Z9 R S) U=Z9 R (Z9 S U):=by
 obtain ⟨a,b,c,rfl,ha,hb,hc⟩:=hR.three;obtain ⟨d,e,f,rfl,hd,he,hf⟩:=hS.three;obtain ⟨g,h,i,rfl,hg,hh,hi⟩:=hU.three;show [cmp (cmp a d) g,cmp (cmp b e) h,cmp (cmp c f) i]=[cmp a (cmp d g),cmp b (cmp e h),cmp c (cmp f i)];rw [ZbV ha hd,ZbV hb he,ZbV hc hf]
end My
namespace My
open PySem L2
noncomputable def ZhU (n:Nat) (v:V):Prop:=v = .non\/∃ x:Nat,v = .int (x:Int)/\x<n
noncomputable def en (B:List (List V)) (i j:Nat):V:=(B.getD i []).getD j .non
structure EG (n:Nat) (B:List (List V)):Prop where
 len:B.length=n
 row:∀ i,i<n->(B.getD i []).length=n
 ent:∀ i j,i<n->j<n->ZhU n (en B i j)
noncomputable def mkB (n:Nat) (f:Nat->Nat->V):List (List V):=(List.range n).map fun i=>(List.range n).map fun j=>f i j
theorem Zbm (n:Nat) (f:Nat->Nat->V):(mkB n f).length=n:=by unfold mkB; rw [QAa,QAr]
theorem Zci {n:Nat} (f:Nat->Nat->V) {i:Nat} (h:i<n):(mkB n f).getD i []=(List.range n).map fun j=>f i j:=by
 unfold mkB;rw [QAc,QAe,QBj h]
 rfl
theorem ZlQ {n:Nat} (f:Nat->Nat->V) {i j:Nat} (h:i<n) (h':j<n):en (mkB n f) i j=f i j:=by
 unfold en;rw [Zci f h,QAc,QAe,QBj h']
 rfl
theorem ZbO {n:Nat} {f g:Nat->Nat->V} (h:∀ i j,i<n->j<n->f i j=g i j):mkB n f=mkB n g:=by
 unfold mkB;refine QBx fun i hi=>QBx fun j hj=>h i j (QZe.mp hi) (QZe.mp hj)
theorem EG.is {n:Nat} {B:List (List V)} (e:EG n B):B=mkB n (en B):=by
 refine QBs (by rw [Zbm,e.len]) fun i h1 h2=>?_;have hi:i<n:=by rw [<- e.len]; exact h1
 have e1:B[i]=B.getD i []:=by rw [QAc,QAb h1]; rfl
 have e2:(mkB n (en B))[i]=(mkB n (en B)).getD i []:=by rw [QAc,QAb h2]; rfl
 rw [e1,e2,Zci _ hi];refine QBs (by rw [e.row i hi,QAa,QAr]) fun j h3 h4=>?_;rw [QBk,QCw];unfold en;rw [QAc (l:=B.getD i []),QAb h3]
 rfl
noncomputable def Za4 (t:List Int):V->V
 | .int x=>.int (t.getD x.toNat 0)
 | v=>v
theorem Zjn {n:Nat} {t u:List Int} (ht:Turn n t) {v:V} (h:ZhU n v):Za4 u (Za4 t v)=Za4 (cmp t u) v:=by
 rcases h with rfl | ⟨x,rfl,hx⟩
 ·rfl
 ·show V.int (u.getD (t.getD (x:Int).toNat 0).toNat 0)=V.int ((cmp t u).getD (x:Int).toNat 0);rw [QAf,YN ht hx]
theorem ZgK {n:Nat} {v:V} (h:ZhU n v):Za4 (ZG n) v=v:=by
 rcases h with rfl | ⟨x,rfl,hx⟩
 ·rfl
 ·show V.int ((ZG n).getD (x:Int).toNat 0)=_;rw [QAf,ZaI hx]
noncomputable def ixo (r:List Int) (i:Nat):Nat:=r.idxOf (i:Int)
noncomputable def YX (n:Nat) (B:List (List V)) (R:List (List Int)):List (List V):=mkB n fun i j=>Za4 (R.getD 2 []) (en B (ixo (R.getD 0 []) i) (ixo (R.getD 1 []) j))
theorem Z4 {n:Nat} {r:List Int} (t:Turn n r) {i:Nat} (h:i<n):ixo r i<n:=(Y0 t h).1
theorem Zhu {n:Nat} {r s:List Int} (t:Turn n r) (u:Turn n s) {i:Nat} (h:i<n):ixo (cmp r s) i=ixo r (ixo s i):=by
 obtain ⟨h1,h2⟩:=Y0 u h;obtain ⟨h3,h4⟩:=Y0 t h1;refine Jf (t.cmp u) h3 h ?_;show (cmp r s).getD (r.idxOf ((s.idxOf (i:Int):Nat):Int)) 0=_;rw [YN t h3,h4,QAf,h2]
theorem ZdK {n i:Nat} (h:i<n):ixo (ZG n) i=i:=Jf (J5 n) h h (ZaI h)
theorem Zbn {n:Nat} {r:List Int} (t:Turn n r) {i:Nat} (h:i<n):(inv r).getD i 0=((ixo r i:Nat):Int):=JK t h
theorem Zdt {n:Nat} {B:List (List V)} (e:EG n B):YX n B (YT n)=B:=by
 conv=>rhs; rw [e.is]
 refine ZbO fun i j hi hj=>?_;show Za4 (ZG n) (en B (ixo (ZG n) i) (ixo (ZG n) j))=_;rw [ZdK hi,ZdK hj,ZgK (e.ent i j hi hj)]
theorem Zhh {n:Nat} {B:List (List V)} {R S:List (List Int)} (e:EG n B) (hR:Ren n R) (hS:Ren n S):YX n (YX n B R) S=YX n B (Z9 R S):=by
 obtain ⟨a,b,c,rfl,ha,hb,hc⟩:=hR.three;obtain ⟨a',b',c',rfl,ha',hb',hc'⟩:=hS.three;rw [Znl];refine ZbO fun i j hi hj=>?_;show Za4 c' (en (YX n B [a,b,c]) (ixo a' i) (ixo b' j))=Za4 (cmp c c') (en B (ixo (cmp a a') i) (ixo (cmp b b') j));rw [Zhu ha ha' hi,Zhu hb hb' hj];have h1:=Z4 ha' hi;have h2:=Z4 hb' hj;unfold YX;rw [ZlQ _ h1 h2];show Za4 c' (Za4 c (en B (ixo a (ixo a' i)) (ixo b (ixo b' j))))=_;rw [Zjn hc (e.ent _ _ (Z4 ha h1) (Z4 hb h2))]
theorem Zka {n:Nat} {B:List (List V)} {R:List (List Int)} (e:EG n B) (hR:Ren n R):YX n (YX n B R) (Yo R)=B:=by
 rw [Zhh e hR hR.und,(Y4 hR).1,Zdt e]
theorem GridT.at' {c:Addr} {H:Hp} {B:List (List V)} (g:GridT H c B) {k:Nat} (hk:k<B.length):∃ xs p,H c=some (.tup xs)/\xs.length=B.length/\atI xs (k:Int)=some (.ref p)/\H p=some (.tup (B.getD k [])):=by
 obtain ⟨ps,h,r⟩:=g;obtain ⟨p,hp,hH⟩:=Paired.getR r (QAb hk);refine ⟨_,p,h,by rw [QAa,r.length],YO (by rw [QAe,hp]; rfl),?_⟩;rw [hH]
 simp [QAc,QAb hk]
theorem Zld {n:Nat} {B:List (List V)} (e:EG n B) {i j:Nat} (hi:i<n) (hj:j<n):atI (B.getD i []) (j:Int)=some (en B i j):=by
 refine YO ?_;have:j<(B.getD i []).length:=by rw [e.row i hi]; exact hj
 unfold en;rw [QAc (l:=B.getD i []),QAb this]
 rfl
end My
namespace My
open PySem L2
theorem YA {α β:Type} (g:α->β) (l:List α):l.filterMap (fun i=>some (g i))=l.map g:=by
 induction l with
 | nil=>rfl
 | cons a l ih=>rw [QDk,QAp,ih]
theorem Yr {α:Type} (l:List α) {i:Nat} (h:i<l.length):l.take (i+1)=l.take i++[l[i]]:=(List.take_append_getElem h).symm
inductive ZfK (vs:List V) (H:Hp) (Q:VK):Prop where
 | mk (n:Nat) (_:vs=[.int (n:Int)]) (_:1<=n) (_:n<=8) (_:∀ t H',Same H H'->TG H' t (YT n)->Q (.ref t) H'):ZfK vs H Q
noncomputable def Zg6:Sp:=fun vs H Q _=>ZfK vs H Q
inductive ZdY (vs:List V) (H:Hp) (Q:VK):Prop where
 | mk (a:Addr) (n:Nat) (R:List (List Int)) (_:vs=[.ref a]) (_:TG H a R) (_:Ren n R) (_:1<=n) (_:n<=8) (_:∀ t H',Same H H'->TG H' t (Yo R)->Q (.ref t) H'):ZdY vs H Q
noncomputable def Zcq:Sp:=fun vs H Q _=>ZdY vs H Q
inductive Zlg (vs:List V) (H:Hp) (Q:VK):Prop where
 | mk (a:Addr) (n:Nat) (r:List Int) (_:vs=[.ref a]) (_:H a=some (.tup (r.map V.int))) (_:Turn n r) (_:n<=8) (_:∀ t H',Same H H'->H t=none->H' t=some (.tup ((inv r).map V.int))->Q (.ref t) H'):Zlg vs H Q
noncomputable def Zmq:Sp:=fun vs H Q _=>Zlg vs H Q
inductive ZfO (vs:List V) (H:Hp) (Q:VK):Prop where
 | mk (v:V) (p:Addr) (n:Nat) (t:List Int) (_:vs=[v,.ref p]) (_:H p=some (.tup (t.map V.int))) (_:Turn n t) (_:ZhU n v) (_:Q (Za4 t v) H):ZfO vs H Q
noncomputable def Zhb:Sp:=fun vs H Q _=>ZfO vs H Q
inductive Zc8 (vs:List V) (H:Hp) (Q:VK):Prop where
 | mk (g a:Addr) (n:Nat) (B:List (List V)) (R:List (List Int)) (_:vs=[.ref g,.ref a]) (_:GridT H g B) (_:EG n B) (_:TG H a R) (_:Ren n R) (_:1<=n) (_:n<=8) (_:∀ t H',Same H H'->GridT H' t (YX n B R)->Q (.ref t) H'):Zc8 vs H Q
noncomputable def J3:Sp:=fun vs H Q _=>Zc8 vs H Q
section
variable {P:Program} {w:World} {K:QZa} {mg:Str->Option Value} {base:Heap}
theorem scStill:Zs ["n","turn"] ["n"] (Zd Zas):=⟨rfl,rfl,rfl,by decide +kernel,rfl,by decide +kernel,by decide +kernel⟩
theorem Zi3 {f:Addr} {fd:FuncData} (F:Fun K "still" "still" Zas f fd) (T:Blt mg):FnOk P w K mg base CX0 1 f fd ["n"] Zg6:=by
 refine F.ok scStill (fun vs H Q E h=>?_) (fun cdv A outer s H vs Q E hr h=>?_)
 ·obtain ⟨_,rfl,_⟩:=h
  rfl
 ·obtain ⟨n,rfl,h1,h8,q⟩:=h
  refine' ⟨_,Ze ?s0 (Zf (Zq (Za0 (Za (pv 1) (Za (pv 1) (Za (pv 1) Zc)))))),?rd⟩
  case s0=>exact Zk (i:=1) scStill.nd rfl (Or.inl rfl) (Zp (Zb5 rfl) rfl T.tuple ZI (Za (Zp JX rfl T.range Zbx (Za (pv 0) Zc)) Zc))
  case rd =>
   refine ⟨_,rfl,n,rfl,fun lr hlr=>⟨lr,n,rfl,Zb,by exact Om.b1 ‹_› rfl,fun lt hlt=>?_⟩⟩;refine ⟨_,rfl,_,rfl,_,rfl,(show 3<=sizeLine from Zy (by decide)),fun lp hlp=>?_⟩;have s0:Same H (upd H lr (.rng 0 (n:Int))):=Same.new hlr;have s1:Same (upd H lr (.rng 0 (n:Int))) (upd (upd H lr (.rng 0 (n:Int))) lt (.tup (rng n))):=Same.new hlt;have s2:Same (upd (upd H lr (.rng 0 (n:Int))) lt (.tup (rng n))) (upd (upd (upd H lr (.rng 0 (n:Int))) lt (.tup (rng n))) lp (.tup [.ref lt,.ref lt,.ref lt])):=Same.new hlp;have ht:(upd (upd (upd H lr (.rng 0 (n:Int))) lt (.tup (rng n))) lp (.tup [.ref lt,.ref lt,.ref lt])) lt=some (.tup ((ZG n).map V.int)):=by
    rw [<- Zep];exact s2 _ _ Zb
   exact q lp _ (s0.trans (s1.trans s2)) ⟨[lt,lt,lt],Zb,.cons ht (.cons ht (.cons ht .nil))⟩
theorem Zmt:Zs ["turn"] ["turn"] (Zd ZT):=⟨rfl,rfl,rfl,by decide +kernel,rfl,by decide +kernel,by decide +kernel⟩
theorem Zdc {f:Addr} {fd:FuncData} (F:Fun K "turn_undone" "turn_undone" ZT f fd) (T:Blt mg):FnOk P w K mg base CX0 1 f fd ["turn"] Zmq:=by
 refine F.ok Zmt (fun vs H Q E h=>?_) (fun cdv A outer s H vs Q E hr h=>?_)
 ·obtain ⟨_,_,_,rfl,_⟩:=h
  rfl
 ·obtain ⟨a,n,r,rfl,ha,tr,h8,q⟩:=h;refine ⟨_,Zf (Zq (Zp (Zv K) rfl T.tuple ZI (Za (Yi ["number","turn"] [none,some 0] rfl rfl (Zx rfl T.range (Za (Zl (Zt K) rfl T.len PySem.boot_len (Za (pv 0) Zc)) Zc)) (fun _ _ _ _ _=>Yw 0) (fun _ _ _ _ _=>ZB) (fun _ _ _ _ _=>J6 (pv 1) (Za (pv 0) Zc))) Zc))),?_⟩;refine ⟨_,rfl,a,_,rfl,.inr (SqT.of ha),_,rfl,by exact Om.c2,by rw [QAa,tr.len]; exact Om.c1 ‹_› rfl,fun l hl=>?_⟩;rw [QAa,tr.len,QAf];refine ZD (fun i=>some (.int ((r.idxOf (i:Int):Nat):Int))) (fun σ=>∃ v,σ=[v,some (.ref a)]) (ZO (n:=n)) (by rw [Zu]; exact Zy (by exact Om.b1 ‹_› rfl)) hl (fun H' sm=>trivial) ⟨none,rfl⟩ ?_ ?_
  ·rintro j x σ H' R' hj ⟨v,rfl⟩ sm kk;obtain ⟨hjn,rfl⟩:=Z6 hj;refine ⟨_,rfl,a,r,rfl,sm _ _ ha,_,rfl,_,rfl,sm _ _ ha,YU tr.len tr.nd tr.rg ⟨by exact Om.c6,by exact Om.c5 ‹_›⟩,?_⟩;exact kk [some (.int (j:Int)),some (.ref a)] H' ⟨_,rfl⟩ (Same.refl _)
  ·intro H2 s2 h2;have e0:(List.range (rng n).length).filterMap (fun i:Nat=>some (V.int ((r.idxOf (i:Int):Nat):Int)))=(inv r).map V.int:=by
    rw [YA,Zu];unfold inv;rw [tr.len,QBa]
    rfl
   rw [e0] at h2;exact ⟨l,_,rfl,.inl ⟨SqL.of h2,fun t ht=>q t _ (s2.trans (Same.new ht)) (s2.free ht) Zb⟩⟩
theorem ZiI:Zs ["renaming"] ["renaming"] (Zd Ji):=⟨rfl,rfl,rfl,by decide +kernel,rfl,by decide +kernel,by decide +kernel⟩
inductive Zgb (H:Hp) (R:List (List Int)) (lz:Addr) (i:Nat) (ys:List V) (σ:St) (H4:Hp):Prop where
 | mk (v0:Option V) (zs:List Addr) (_:σ=[v0]) (_:ys=zs.map V.ref) (_:Same H H4) (_:H4 lz=some (.lst ys)) (_:Paired (fun q (r:List Int)=>H4 q=some (.tup (r.map V.int))) zs ((Yo R).take i)):Zgb H R lz i ys σ H4
theorem ZbK {f fU:Addr} {fd dU:FuncData} (F:Fun K "undone" "undone" Ji f fd) (T:Blt mg) (DU:Dfn K mg "turn_undone" ZT ["turn"] fU dU):FnOk P w K mg base CX0 2 f fd ["renaming"] Zcq:=by
 have GU:FnOk P w K mg base CX0 1 fU dU ["turn"] Zmq:=Zdc DU.F T;refine F.ok ZiI (fun vs H Q E h=>?_) (fun cdv A outer s H vs Q E hr h=>?_)
 ·obtain ⟨_,_,_,rfl,_⟩:=h
  rfl
 ·obtain ⟨a,n,R,rfl,hA,rR,h1,h8,q⟩:=h;refine ⟨_,Zf (Zq (Zp (Zv K) rfl T.tuple ZI (Za (Yi ["turn"] [none] rfl rfl (ZaK K (pv 0)) (fun _ _ _ _ _=>Yw 0) (fun _ _ _ _ _=>ZB) (fun _ _ _ _ _=>Zm GU hr rfl DU.m DU.F.kp DU.b .nil ZF (Za (pv 0) Zc))) Zc))),?_⟩;obtain ⟨ps,hps,hPs⟩:=id hA;have lp:(ps.map V.ref).length=3:=by rw [QAa,hPs.length,rR.len]
  have lu:(Yo R).length=3:=by unfold Yo; rw [QAa,rR.len]
  refine ⟨_,rfl,a,rfl,⟨_,SqT.of hps⟩,fun lz hlz=>?_⟩;refine Z8 (ZaD (xs:=ps.map V.ref)) (Zgb H R lz)
   ⟨none,[],rfl,rfl,Same.new hlz,Zb,.nil⟩ (fun i ys σ H4 zz0=> by obtain ⟨_,_,_,_,s4,hl,_⟩ := zz0; exact ⟨SqT.of (s4 _ _ hps),hl⟩) ?_ ?_
  ·rintro i x ys σ H4 hx ⟨v0,zs,rfl,rfl,s4,hl4,hZ⟩;have hi:i<3:=by rw [<- lp]; exact (QZb.mp hx).1
   rw [QAe] at hx
   cases hpi:ps[i]? with
   | none=>rw [hpi] at hx; cases hx
   | some p1 =>
    rw [hpi] at hx
    cases hx;obtain ⟨r,hr1,hp1⟩:=Paired.getL hPs hpi;have tr:=rR.row r (QAt hr1);refine ⟨_,rfl,p1,n,r,rfl,s4 _ _ hp1,tr,h8,fun z H6 s6 hz0 hz=>?_⟩;have hl6:=s6 _ _ hl4;have up:∀ b row,H6 b=some (.tup row)->(upd H6 lz (.lst (zs.map V.ref++[.ref z]))) b=some (.tup row):=fun b row e=>by
     rw [Zg (JH e hl6 (by intro z; cases z))];exact e
    have hzl:zs.length=i:=by rw [hZ.length,QAu,lu]; exact Om.m1 ‹_›
    refine ⟨hl6,by rw [QAa,hzl]; exact Zw (by exact O338 hi hzl),_,zs++[z],rfl,by rw [QAn]; rfl,fun b u e=>?_,Zb,?_⟩
    ·rw [Zg (Zi e hlz)];exact s6 _ _ (s4 _ _ e)
    ·have eb:(Yo R)[i]? = some (inv r):=by
      unfold Yo;rw [QAe,hr1]
      rfl
     have hib:i<(Yo R).length:=by exact Om.a1 ‹_› ‹_›
     rw [QAb hib] at eb;rw [Yr _ hib,QZl eb];exact Paired.snoc (Paired.mapP hZ fun _ _ e=>up _ _ (s6 _ _ e)) (up _ _ hz)
  ·rintro ys σ H4 ⟨v0,zs,rfl,rfl,s4,hl4,hZ⟩;rw [lp,QBd (by exact Om.l1 ‹_›)] at hZ;exact ⟨lz,_,rfl,.inl ⟨SqL.of hl4,fun t ht=>q t _ (s4.trans (Same.new ht)) ⟨zs,Zb,Paired.mapP hZ fun _ _ e=>(Same.new ht) _ _ e⟩⟩⟩
theorem Zj8:Zs ["entry","things"] ["entry","things"] (Zd Zae):=⟨rfl,rfl,rfl,by decide +kernel,rfl,by decide +kernel,by decide +kernel⟩
theorem Zi9 {f:Addr} {fd:FuncData} (F:Fun K "entry_renamed" "entry_renamed" Zae f fd):FnOk P w K mg base CX0 1 f fd ["entry","things"] Zhb:=by
 refine F.ok Zj8 (fun vs H Q E h=>?_) (fun cdv A outer s H vs Q E hr h=>?_)
 ·obtain ⟨_,_,_,_,rfl,_⟩:=h
  rfl
 ·obtain ⟨v,p,n,t,rfl,hp,ht,he,q⟩:=h;refine ⟨_,Zf (Zq (Ze9 (Zgw (ZiX (pv 0))) Zew (ZU Zaz (pv 1) (pv 0) (fun _ _=>rfl)))),?_⟩
  rcases he with rfl | ⟨x,rfl,hx⟩
  ·exact ⟨_,rfl,_,rfl,ZbR q⟩
  ·refine ⟨_,rfl,_,rfl,YZ ⟨_,rfl,_,rfl,p,_,_,_,rfl,rfl,SqT.of hp,JL (i:=x) (by rw [ht.len]; exact hx),?_⟩⟩;exact q
theorem scRenamed:Zs ["begun","renaming","sources","told","row"] ["begun","renaming"] (Zd Jn):=⟨rfl,rfl,rfl,by decide +kernel,rfl,by decide +kernel,by decide +kernel⟩
inductive Zga (g:Addr) (a:Addr) (n:Nat) (B:List (List V)) (R:List (List Int)) (su:Addr) (lt:Addr) (H2:Hp) (i:Nat) (σ:St) (H3:Hp):Prop where
 | mk (v4:Option V) (qs:List Addr) (_:σ=[some (.ref g),some (.ref a),some (.ref su),some (.ref lt),v4]) (_:(∀ b o,b≠lt->H2 b=some o->H3 b=some o)) (_:H3 lt=some (.lst (qs.map V.ref))) (_:Paired (fun p row=>H3 p=some (.tup row)/\p≠lt) qs ((YX n B R).take i)):Zga g a n B R su lt H2 i σ H3
theorem ZgD {f fU fT fE:Addr} {fd dU dT dE:FuncData} (F:Fun K "renamed" "renamed" Jn f fd) (T:Blt mg) (DU:Dfn K mg "undone" Ji ["renaming"] fU dU) (DT:Dfn K mg "turn_undone" ZT ["turn"] fT dT) (DE:Dfn K mg "entry_renamed" Zae ["entry","things"] fE dE):FnOk P w K mg base CX0 3 f fd ["begun","renaming"] J3:=by
 have GU:FnOk P w K mg base CX0 2 fU dU ["renaming"] Zcq:=ZbK DU.F T DT;have GE:FnOk P w K mg base CX0 2 fE dE ["entry","things"] Zhb:=(Zi9 DE.F).mono (by decide);refine F.ok scRenamed (fun vs H Q E h=>?_) (fun cdv A outer s H vs Q E hr h=>?_)
 ·obtain ⟨_,_,_,_,_,rfl,_⟩:=h
  rfl
 ·obtain ⟨g,a,n,B,R,rfl,hG,eg,hA,rn,h1,h8,q⟩:=h
  refine' ⟨_,Ze ?s0 (Ze (Zk (i:=3) scRenamed.nd rfl (Or.inl rfl) (Yd Zc)) (Ze (Yv PassesOwn.never rfl (Zgy (ZU Zaz (pv 2) Zh (fun _ _=>rfl))) (ZJ (i:=4) scRenamed.nd rfl (Or.inr rfl)) (Zf ?b)) (Zf (Zq (Zp (Zv K) rfl T.tuple ZI (Za (pv 3) Zc)))))),?rd⟩
  case s0=>exact Zk (i:=2) scRenamed.nd rfl (Or.inl rfl) (Zm GU hr rfl DU.m DU.F.kp DU.b .nil ZF (Za (pv 1) Zc))
  case b=>exact Yz (Jr PySem.F.plainAttrs_list PySem.F.slot_list_append PySem.F.type_list_append Ya (pv 3) (Za (Zp (Zv K) rfl T.tuple ZI (Za (Yi ["column","begun","row","renaming"] [none,some 0,some 4,some 1] rfl rfl (ZaK K (ZU Zaz (pv 2) Zh (fun _ _=>rfl))) (fun _ _ _ _ _=>Yw 0) (fun _ _ _ _ _=>ZB) (fun _ _ _ _ _=>Zm GE hr rfl DE.m DE.F.kp DE.b .nil ZF (Za (ZU (YK K) (ZU (YK K) (pv 1) (pv 2) (fun _ _=>rfl)) (pv 0) (fun _ _=>rfl)) (Za (ZU (YK K) (pv 3) Zh (fun _ _=>rfl)) Zc)))) Zc)) Zc))
  case rd =>
   refine ⟨_,rfl,a,n,R,rfl,hA,rn,h1,h8,fun su H1 s1 hS=>⟨QAh _,fun lt hlt=>?_⟩⟩;have s2:Same H1 (upd H1 lt (.lst [])):=Same.new hlt;have hlt0:H lt=none:=s1.free hlt;have hl2:(upd H1 lt (.lst [])) lt=some (.lst []):=Zb;generalize upd H1 lt (.lst [])=H2 at s2 hl2 ⊢;have hS2:=hS.same s2;have rU:=rn.und;have g0:(Yo R).getD 0 []=inv (R.getD 0 []):=by
    obtain ⟨x,y,z,rfl,_⟩:=rn.three
    rfl
   have g1:(Yo R).getD 1 []=inv (R.getD 1 []):=by
    obtain ⟨x,y,z,rfl,_⟩:=rn.three
    rfl
   obtain ⟨xs0,p0,a1,a2,a3,a4⟩:=hS2.at (k:=0) (by rw [rU.len]; decide);obtain ⟨xs1,p1,b1,b2,b3,b4⟩:=hS2.at (k:=1) (by rw [rU.len]; decide);rw [g0] at a4;rw [g1] at b4;have t0:=rn.at (k:=0) (by decide);have t1:=rn.at (k:=1) (by decide);have t2:=rn.at (k:=2) (by decide);have l0:((inv (R.getD 0 [])).map V.int).length=n:=by rw [QAa,Jz,t0.len]
   have l1:((inv (R.getD 1 [])).map V.int).length=n:=by rw [QAa,Jz,t1.len]
   have hG2:=(hG.same s1).same s2;have hA2:=(hA.same s1).same s2;refine ⟨_,rfl,su,_,0,_,rfl,rfl,SqT.of a1,a3,p0,rfl,⟨_,SqT.of a4⟩,?_⟩;refine ZhA (xs:=(inv (R.getD 0 [])).map V.int) (Zga g a n B R su lt H2)
    ⟨none,[],rfl,fun _ _ _ e=>e,hl2,.nil⟩ (fun i σ H3 _ zz0=> by obtain ⟨_,_,_,s3,_,_⟩ := zz0; exact SqT.of (s3 _ _ (fun z=>by rw [z,hl2] at a4; cases a4) a4)) ?_ ?_
   ·rintro i x σ H3 hx ⟨v4,qs,rfl,s3,hl3,hQ⟩;have hi:i<n:=by rw [<- l0]; exact (QZb.mp hx).1
    have hx':x = .int ((ixo (R.getD 0 []) i:Nat):Int):=by
     have hil:i<(inv (R.getD 0 [])).length:=by rw [Jz,t0.len]; exact hi
     rw [QAe,QAb hil] at hx;have:=Zbn t0 hi;rw [ZK hil] at this;rw [this] at hx
     cases hx
     rfl
    subst hx';have up:∀ {b:Addr} {row:List V},H2 b=some (.tup row)->H3 b=some (.tup row):=fun {b row} e=>s3 _ _ (fun z=>by rw [z,hl2] at e; cases e) e
    have hio:=Z4 t0 hi;obtain ⟨xg,pg,c1,c2,c3,c4⟩:=GridT.at' hG2 (k:=ixo (R.getD 0 []) i) (by rw [eg.len]; exact hio);obtain ⟨xr,pr,d1,d2,d3,d4⟩:=hA2.at (k:=2) (by rw [rn.len]; decide);refine ⟨_,rfl,.inl ⟨rfl,_,SqL.of hl3⟩,_,rfl,su,_,1,_,rfl,rfl,SqT.of (up b1),b3,p1,rfl,⟨_,SqT.of (up b4)⟩,fun lc hlc=>?_⟩;refine ZD (fun j=>some (Za4 (R.getD 2 []) (en B (ixo (R.getD 0 []) i) (ixo (R.getD 1 []) j)))) (fun σ=>∃ v,σ=[v,some (.ref g),some (.int ((ixo (R.getD 0 []) i:Nat):Int)),some (.ref a)]) (ZaD (xs:=(inv (R.getD 1 [])).map V.int)) (by rw [l1]; exact Zy (by exact Om.b1 ‹_› rfl)) hlc (fun H' sm=>SqT.of (sm _ _ (up b4))) ⟨none,rfl⟩ ?_ ?_
    ·rintro j y σ H4 R' hj ⟨v,rfl⟩ sm kk;have hjn:j<n:=by rw [<- l1]; exact (QZb.mp hj).1
     have hy':y = .int ((ixo (R.getD 1 []) j:Nat):Int):=by
      have hil:j<(inv (R.getD 1 [])).length:=by rw [Jz,t1.len]; exact hjn
      rw [QAe,QAb hil] at hj;have:=Zbn t1 hjn;rw [ZK hil] at this;rw [this] at hj
      cases hj
      rfl
     subst hy';have hjo:=Z4 t1 hjn;refine ⟨_,rfl,_,rfl,g,_,_,_,rfl,rfl,SqT.of (sm _ _ (up c1)),c3,_,rfl,pg,_,_,_,rfl,rfl,SqT.of (sm _ _ (up c4)),Zld eg hio hjo,_,rfl,a,_,2,_,rfl,rfl,SqT.of (sm _ _ (up d1)),d3,_,pr,n,R.getD 2 [],rfl,sm _ _ (up d4),t2,eg.ent _ _ hio hjo,?_⟩;exact kk [some (.int ((ixo (R.getD 1 []) j:Nat):Int)),some (.ref g),some (.int ((ixo (R.getD 0 []) i:Nat):Int)),some (.ref a)] H4 ⟨_,rfl⟩ (Same.refl _)
    ·intro H4 s4 h4;have er:(List.range ((inv (R.getD 1 [])).map V.int).length).filterMap (fun j:Nat=>some (Za4 (R.getD 2 []) (en B (ixo (R.getD 0 []) i) (ixo (R.getD 1 []) j))))=(YX n B R).getD i []:=by
      rw [YA,l1];unfold YX;rw [Zci _ hi]
     rw [er] at h4;have hib:i<(YX n B R).length:=by unfold YX; rw [Zbm]; exact hi
     have eb:(YX n B R)[i]=(YX n B R).getD i []:=by rw [QAc,QAb hib]; rfl
     generalize (YX n B R).getD i []=rw' at h4 eb;refine ⟨lc,_,rfl,.inl ⟨SqL.of h4,fun tp htp=>?_⟩⟩;have s5:Same H4 (upd H4 tp (.tup rw')):=Same.new htp;have hl5:=s5 _ _ (s4 _ _ hl3);have htl:tp≠lt:=fun z=>by rw [z,s4 _ _ hl3] at htp; cases htp
     have hql:qs.length=i:=by rw [hQ.length,QAu]; exact Om.m1 ‹_›
     refine ⟨lt,_,_,rfl,rfl,hl5,by rw [QAa,hql]; exact Zw (by exact O416 h1 h8 l0 l1 hi hql),_,qs++[tp],rfl,fun b o hb e=>?_,by rw [Zb,QAn]; rfl,?_⟩
     ·rw [Zg hb];exact s5 _ _ (s4 _ _ (s3 _ _ hb e))
     ·rw [Yr _ hib,eb];refine Paired.snoc (Paired.mapP hQ fun b row z=>⟨?_,z.2⟩) ⟨?_,htl⟩
      ·rw [Zg z.2];exact s5 _ _ (s4 _ _ z.1)
      ·rw [Zg htl,Zb]
   ·rintro σ H3 ⟨v4,qs,rfl,s3,hl3,hQ⟩;rw [l0,QBd (by unfold YX; rw [Zbm]; exact QAd _)] at hQ;refine ⟨_,rfl,lt,_,rfl,.inl ⟨SqL.of hl3,fun t ht=>q t _ (fun b o e=>?_) ⟨qs,Zb,Paired.mapP hQ fun _ _ z=>(Same.new ht) _ _ z.1⟩⟩⟩;exact Same.new ht _ _ (s3 _ _ (Zi e hlt0) (s2 _ _ (s1 _ _ e)))
end
end My
namespace My
open PySem L2
theorem TG.three {H:Hp} {a:Addr} {x y z:List Int} (g:TG H a [x,y,z]):∃ p q r:Addr,H a=some (.tup [.ref p,.ref q,.ref r])/\H p=some (.tup (x.map V.int))/\H q=some (.tup (y.map V.int))/\H r=some (.tup (z.map V.int)):=by
 obtain ⟨ps,h,pr⟩:=g
 cases pr with
 | cons h1 t1 =>
  cases t1 with
  | cons h2 t2 =>
   cases t2 with
   | cons h3 t3 =>
    cases t3;exact ⟨_,_,_,h,h1,h2,h3⟩
section
variable {P:Program} {w:World} {K:QZa} {mg:Str->Option Value} {base:Heap}
theorem scRenL:Zs ["_law_begun","_law_renaming_here","_law_rows","_law_columns","_law_things","_law_n","_law_made","_law_row_here","_law_line","_law_entries"] ["_law_begun","_law_renaming_here"] (Zd Zbc):=⟨rfl,rfl,rfl,by decide +kernel,rfl,by decide +kernel,by decide +kernel⟩
inductive Zf9 (g:Addr) (a:Addr) (n:Nat) (B:List (List V)) (r:List Int) (c:List Int) (t:List Int) (p0:Addr) (p1:Addr) (p2:Addr) (lt:Addr) (H2:Hp) (i:Nat) (σ:St) (H3:Hp):Prop where
 | mk (v7 v8 v9:Option V) (qs:List Addr) (_:σ=[some (.ref g),some (.ref a),some (.ref p0),some (.ref p1),some (.ref p2),some (.int (n:Int)),some (.ref lt),v7,v8,v9]) (_:(∀ b o,b≠lt->H2 b=some o->H3 b=some o)) (_:H3 lt=some (.lst (qs.map V.ref))) (_:Paired (fun p row=>H3 p=some (.tup row)/\p≠lt) qs ((YX n B [r,c,t]).take i)):Zf9 g a n B r c t p0 p1 p2 lt H2 i σ H3
theorem Zhm {f:Addr} {fd:FuncData} (F:Fun K "_law_renamed" "_law_renamed" Zbc f fd) (T:Blt mg):FnOk P w K mg base CX0 1 f fd ["_law_begun","_law_renaming_here"] J3:=by
 refine F.ok scRenL (fun vs H Q E h=>?_) (fun cdv A outer s H vs Q E hr h=>?_)
 ·obtain ⟨_,_,_,_,_,rfl,_⟩:=h
  rfl
 ·obtain ⟨g,a,n,B,R,rfl,hG,eg,hA,rn,h1,h8,q⟩:=h
  refine' ⟨_,Ze ?s0 (Ze ?s1 (Ze (Zk (i:=6) scRenL.nd rfl (Or.inl rfl) (Yd Zc)) (Ze (Yv PassesOwn.never rfl (Zx rfl T.range (Za (pv 5) Zc)) (ZJ (i:=7) scRenL.nd rfl (Or.inl rfl)) (Ze ?b0 (Ze ?b1 (Zf ?b2)))) (Zf (Zq (Zp (Zv K) rfl T.tuple ZI (Za (pv 6) Zc))))))),?rd⟩
  case s0=>exact Zgx (pv 1) (ZaL (n:=3) K rfl (ZS (ZJ (i:=2) scRenL.nd rfl (Or.inl rfl)) (ZS (ZJ (i:=3) scRenL.nd rfl (Or.inr rfl)) (ZS (ZJ (i:=4) scRenL.nd rfl (Or.inr rfl)) Jx))))
  case s1=>exact Zk (i:=5) scRenL.nd rfl (Or.inl rfl) (Zl (Zt K) rfl T.len PySem.boot_len (Za (pv 0) Zc))
  case b0=>exact Zk (i:=8) scRenL.nd rfl (Or.inr rfl) (ZU Zaz (pv 0) (J6 (pv 2) (Za (pv 7) Zc)) (fun _ _=>rfl))
  case b1=>exact Ze6 (i:=9) ["_law_column","_law_line","_law_columns"] [none,some 8,some 3] scRenL.nd rfl (Or.inl rfl) rfl rfl (Zx rfl T.range (Za (pv 5) Zc)) (fun _ _ _ _ _=>Yw 0) (fun _ _ _ _ _=>ZB) (fun _ _ _ _ _=>ZU (YK K) (pv 1) (J6 (pv 2) (Za (pv 0) Zc)) (fun _ _=>rfl))
  case b2=>exact Yz (Jr PySem.F.plainAttrs_list PySem.F.slot_list_append PySem.F.type_list_append Ya (pv 6) (Za (Zp (Zv K) rfl T.tuple ZI (Za (Yi ["_law_thing","_law_things"] [none,some 4] rfl rfl (Z2 K (pv 9)) (fun _ _ _ _ _=>Yw 0) (fun _ _ _ _ _=>ZB) (fun _ _ _ _ _=>Ze9 (Zgw (ZiX (pv 0))) Zew (ZU (YK K) (pv 1) (pv 0) (fun _ _=>rfl)))) Zc)) Zc))
  case rd =>
   obtain ⟨r,c,t,rfl,t0,t1,t2⟩:=rn.three;obtain ⟨p0,p1,p2,ha,hp0,hp1,hp2⟩:=hA.three;obtain ⟨gs,hgs,hGs⟩:=id hG;have hgl:(gs.map V.ref).length=n:=by rw [QAa,hGs.length,eg.len]
   refine ⟨_,rfl,a,_,rfl,SqT.of ha,rfl,_,_,rfl,_,_,rfl,_,_,rfl,rfl,?_⟩;refine ⟨_,rfl,g,_,rfl,.inr (SqT.of hgs),?_⟩;show J7 5 (V.int ((gs.map V.ref).length:Int)) _ _ _;rw [hgl];refine ⟨QAh _,fun lt hlt=>?_⟩;have s2:Same H (upd H lt (.lst [])):=Same.new hlt;have hl2:(upd H lt (.lst [])) lt=some (.lst []):=Zb;generalize upd H lt (.lst [])=H2 at s2 hl2 ⊢;refine ⟨_,rfl,(n:Int),rfl,by exact Om.c2,by exact Om.c1 ‹_› rfl,?_⟩;rw [QAf];refine Ym (lo:=0) (n:=n) (Zf9 g a n B r c t p0 p1 p2 lt H2)
    ⟨none,none,none,[],rfl,fun _ _ _ e=>e,hl2,.nil⟩ ?_ ?_
   ·rintro i σ H3 hi ⟨v7,v8,v9,qs,rfl,s3,hl3,hQ⟩;rw [QBw];have up:∀ {b:Addr} {row:List V},H b=some (.tup row)->H3 b=some (.tup row):=fun {b row} e=>s3 _ _ (fun z=>by rw [z,hlt] at e; cases e) (s2 _ _ e)
    have hio:=Z4 t0 hi;obtain ⟨xg,pg,c1,c2,c3,c4⟩:=GridT.at' hG (k:=ixo r i) (by rw [eg.len]; exact hio);refine ⟨_,rfl,_,rfl,p0,r,rfl,up hp0,_,rfl,(i:Int),rfl,up hp0,YU t0.len t0.nd t0.rg ⟨by exact Om.c6,by exact Om.c5 ‹_›⟩,g,_,_,_,rfl,rfl,SqT.of (up c1),c3,?_⟩;refine ⟨_,rfl,(n:Int),rfl,by exact Om.c2,by exact Om.c1 ‹_› rfl,fun le hle=>?_⟩;rw [QAf];refine ZD (fun j=>some (en B (ixo r i) (ixo c j))) (fun σ=>∃ v,σ=[v,some (.ref pg),some (.ref p1)]) (ZO (n:=n)) (by rw [Zu]; exact Zy (by exact Om.b1 ‹_› rfl)) hle (fun H' sm=>trivial) ⟨none,rfl⟩ ?_ ?_
    ·rintro j y σ H4 R' hj ⟨v,rfl⟩ sm kk;obtain ⟨hjn,rfl⟩:=Z6 hj;have hjo:=Z4 t1 hjn;refine ⟨_,rfl,_,rfl,p1,c,rfl,sm _ _ (up hp1),_,rfl,(j:Int),rfl,sm _ _ (up hp1),YU t1.len t1.nd t1.rg ⟨by exact Om.c6,by exact Om.c5 ‹_›⟩,pg,_,_,_,rfl,rfl,SqT.of (sm _ _ (up c4)),Zld eg hio hjo,?_⟩;exact kk [some (.int (j:Int)),some (.ref pg),some (.ref p1)] H4 ⟨_,rfl⟩ (Same.refl _)
    intro H4 s4 hle4;rw [YA,Zu] at hle4;refine ⟨_,rfl,.inl ⟨rfl,_,SqL.of (s4 _ _ hl3)⟩,_,rfl,le,rfl,⟨_,SqL.of hle4⟩,fun lc hlc=>?_⟩;refine ZD (fun j=>some (Za4 t (en B (ixo r i) (ixo c j)))) (fun σ=>∃ v,σ=[v,some (.ref p2)]) (Z1 (xs:=(List.range n).map fun j=>en B (ixo r i) (ixo c j))) (by rw [QAa,QAr]; exact Zy (by exact Om.b1 ‹_› rfl)) hlc (fun H' sm=>SqL.of (sm _ _ hle4)) ⟨none,rfl⟩ ?_ ?_
    ·rintro j y σ H5 R' hj ⟨v,rfl⟩ sm kk;have hjn:j<n:=by
      have:=(QZb.mp hj).1;rw [QAa,QAr] at this;exact this
     rw [QAe,QBj hjn] at hj
     cases hj;have kk':=fun v'=>kk [v',some (.ref p2)] H5 ⟨v',rfl⟩ (Same.refl _)
     show Zbw _ _ _ (en B (ixo r i) (ixo c j)) _ _ _
     rcases eg.ent _ _ hio (Z4 t1 hjn) with e | ⟨x,e,hx⟩
     ·rw [e] at kk' ⊢;exact ⟨_,rfl,_,rfl,ZbR (kk' _)⟩
     ·rw [e] at kk' ⊢;exact ⟨_,rfl,_,rfl,YZ ⟨_,rfl,_,rfl,p2,_,_,_,rfl,rfl,SqT.of (sm _ _ (s4 _ _ (up hp2))),JL (i:=x) (by rw [t2.len]; exact hx),kk' _⟩⟩
    ·intro H5 s5 h5;have er:(List.range ((List.range n).map fun j=>en B (ixo r i) (ixo c j)).length).filterMap (fun j:Nat=>some (Za4 t (en B (ixo r i) (ixo c j))))=(YX n B [r,c,t]).getD i []:=by
      rw [YA,QAa,QAr];unfold YX;rw [Zci _ hi]
      rfl
     rw [er] at h5;have hib:i<(YX n B [r,c,t]).length:=by unfold YX; rw [Zbm]; exact hi
     have eb:(YX n B [r,c,t])[i]=(YX n B [r,c,t]).getD i []:=by rw [QAc,QAb hib]; rfl
     generalize (YX n B [r,c,t]).getD i []=rw' at h5 eb;refine ⟨lc,_,rfl,.inl ⟨SqL.of h5,fun tp htp=>?_⟩⟩;have s6:Same H5 (upd H5 tp (.tup rw')):=Same.new htp;have hl5:=s6 _ _ (s5 _ _ (s4 _ _ hl3));have htl:tp≠lt:=fun z=>by rw [z,s5 _ _ (s4 _ _ hl3)] at htp; cases htp
     have hql:qs.length=i:=by rw [hQ.length,QAu]; exact Om.m1 ‹_›
     refine ⟨lt,_,_,rfl,rfl,hl5,by rw [QAa,hql]; exact Zw (by exact O415 h1 h8 hgl hi hql),_,_,_,qs++[tp],rfl,fun b o hb e=>?_,by rw [Zb,QAn]; rfl,?_⟩
     ·rw [Zg hb];exact s6 _ _ (s5 _ _ (s4 _ _ (s3 _ _ hb e)))
     ·rw [Yr _ hib,eb];refine Paired.snoc (Paired.mapP hQ fun b row z=>⟨?_,z.2⟩) ⟨?_,htl⟩
      ·rw [Zg z.2];exact s6 _ _ (s5 _ _ (s4 _ _ z.1))
      ·rw [Zg htl,Zb]
   ·rintro σ H3 ⟨v7,v8,v9,qs,rfl,s3,hl3,hQ⟩;rw [QBd (by unfold YX; rw [Zbm]; exact QAd _)] at hQ;refine ⟨_,rfl,lt,_,rfl,.inl ⟨SqL.of hl3,fun tt htt=>q tt _ (fun b o e=>?_) ⟨qs,Zb,Paired.mapP hQ fun _ _ z=>(Same.new htt) _ _ z.1⟩⟩⟩;exact Same.new htt _ _ (s3 _ _ (Zi e hlt) (s2 _ _ e))
end
end My
namespace My
open PySem L2
structure MG (H:Hp) (a:Addr) (ps:List Addr) (R:List (List Int)):Prop where
 out:H a=some (.lst (ps.map V.ref))
 rows:Paired (fun p (r:List Int)=>H p=some (.lst (r.map V.int))) ps R
 nd:ps.Nodup
 ap:a∉ps
noncomputable def mkI (n:Nat) (f:Nat->Nat->Int):List (List Int):=(List.range n).map fun k=>(List.range n).map fun c=>f k c
theorem ZX (n:Nat) (f:Nat->Nat->Int):(mkI n f).length=n:=by unfold mkI; rw [QAa,QAr]
theorem ZcH {n:Nat} (f:Nat->Nat->Int) {i:Nat} (h:i<n):(mkI n f)[i]? = some ((List.range n).map fun c=>f i c):=by
 unfold mkI;rw [QAe,QBj h]
 rfl
theorem ZcG {f:Nat->Int} {n:Nat} (h:∀ i j,i<n->j<n->f i=f j->i=j):((List.range n).map f).Nodup:=by
 refine QZk.mpr (QZm.mpr ?_);refine List.Pairwise.imp_of_mem ?_ (QZk.mp QCh);intro a b ha hb hne e;exact hne (h a b (QZe.mp ha) (QZe.mp hb) e)
theorem ZlP {n:Nat} {f:Nat->Nat->Int} (hv:∀ k c,k<n->c<n->0<=f k c/\f k c<(n:Int)) (hr:∀ k c d,k<n->c<n->d<n->f k c=f k d->c=d) (hcol:∀ k l c,k<n->l<n->c<n->f k c=f l c->k=l):OkRows n (mkI n f):=by
 refine ⟨by rw [ZX]; exact QAd _,fun r hr'=>?_,fun c hc=>?_⟩
 ·obtain ⟨k,hk,rfl⟩:=QZd.mp hr';have hk':=QZe.mp hk;refine ⟨by rw [QAa,QAr],ZcG fun i j hi hj e=>hr k i j hk' hi hj e,fun x hx=>?_⟩;obtain ⟨c,hc,rfl⟩:=QZd.mp hx;exact hv k c hk' (QZe.mp hc)
 ·have e:Yf (mkI n f) c=(List.range n).map fun k=>f k c:=by
   unfold Yf mkI;rw [QBa];refine QBx fun k _=>?_;show ((List.range n).map fun c=>f k c).getD c 0=f k c;rw [QAc,QAe,QBj hc]
   rfl
  rw [e];exact ZcG fun i j hi hj e=>hcol i j c hi hj hc e
noncomputable def okF (n:Nat) (f:Nat->Nat->Int):Bool:=(List.range n).all fun k=>(List.range n).all fun c=>decide (0<=f k c)&&decide (f k c<(n:Int))&&(List.range n).all fun d=>(!decide (f k c=f k d)||decide (c=d))&&(!decide (f c k=f d k)||decide (c=d))
theorem ZgG {n:Nat} {f:Nat->Nat->Int} (h:okF n f=true):OkRows n (mkI n f):=by
 unfold okF at h;rw [QBg] at h;have g:∀ k c,k<n->c<n->(0<=f k c/\f k c<(n:Int))/\∀ d,d<n->(f k c=f k d->c=d)/\(f c k=f d k->c=d):=fun k c hk hc=>by
  have h1:=h k (QZe.mpr hk);rw [QBg] at h1;have h2:=h1 c (QZe.mpr hc);rw [QAv,QAv,QZg,QZg,QBg] at h2;refine ⟨h2.1,fun d hd=>?_⟩;have h3:=h2.2 d (QZe.mpr hd);rw [QAv,QCp,QCp,Bool.not_eq_true',Bool.not_eq_true',decide_eq_false_iff_not,decide_eq_false_iff_not,QZg] at h3;exact ⟨fun e=>h3.1.elim (fun z=>absurd e z) id,fun e=>h3.2.elim (fun z=>absurd e z) id⟩
 exact ZlP (fun k c hk hc=>(g k c hk hc).1) (fun k c d hk hc hd e=>((g k c hk hc).2 d hd).1 e) (fun k l c hk hl hc e=>((g c k hc hk).2 l hl).2 e)
noncomputable def fX (i j:Nat):Int:=Builtin.bitXor (i:Int) (j:Int)
noncomputable def fS (i j:Nat):Int:=2*(((i:Int) / 2+(j:Int) / 2) % 3)+((i:Int)+(j:Int)) % 2
noncomputable def fC (n i j:Nat):Int:=((i:Int)+(j:Int)) % (n:Int)
theorem ZmF:OkRows 4 (mkI 4 fX):=ZgG (by decide +kernel)
theorem ZmG:OkRows 6 (mkI 6 fS):=ZgG (by decide +kernel)
theorem Zi8 {n:Nat} (h:n<=8):OkRows n (mkI n (fC n)):=by
 refine ZgG ?_;have:∀ n,n<9->okF n (fC n)=true:=by decide +kernel
 exact this n (by exact Om.f3 ‹_›)
theorem Jb {α β:Type} {F G:α->β->Prop}:∀ {as:List α} {bs:List β},Paired F as bs->(∀ a∈as,∀ b,F a b->G a b)->Paired G as bs
 | _,_,.nil,_=>.nil
 | _,_,.cons h t,k=>.cons (k _ QAj _ h) (Jb t fun a ha b e=>k a (QAm _ ha) b e)
inductive ZhT (vs:List V) (H:Hp) (Q:VK):Prop where
 | mk (n:Nat) (z:Int) (_:vs=[.int (n:Int),.int z]) (_:1<=n) (_:n<=8) (_:∀ (l:Addr) (ps:List Addr) (R:List (List Int)) (H':Hp),Same H H'->H l=none->(∀ p∈ps,H p=none)->MG H' l ps R->OkRows n R->R.length=n->Q (.ref l) H'):ZhT vs H Q
noncomputable def ZiH:Sp:=fun vs H Q _=>ZhT vs H Q
section
variable {P:Program} {w:World} {K:QZa} {mg:Str->Option Value} {base:Heap}
theorem Zlv:Zs ["_law_n","_law_number_here"] ["_law_n","_law_number_here"] (Zd Zbd):=⟨rfl,rfl,rfl,by decide +kernel,rfl,by decide +kernel,by decide +kernel⟩
inductive Zf7 (H:Hp) (l:Addr) (i:Nat) (ys:List V) (σ:St) (H2:Hp):Prop where
 | mk (v:Option V) (qs:List Addr) (_:σ=[v]) (_:ys=qs.map V.ref) (_:Same H H2) (_:H2 l=some (.lst ys)) (_:Paired (fun p (r:List Int)=>H2 p=some (.lst (r.map V.int))) qs ((mkI 4 fX).take i)) (_:qs.Nodup) (_:l∉qs) (_:∀ p∈qs,H p=none):Zf7 H l i ys σ H2
inductive Zf6 (H:Hp) (n:Nat) (l:Addr) (i:Nat) (ys:List V) (σ:St) (H2:Hp):Prop where
 | mk (v:Option V) (qs:List Addr) (_:σ=[v,some (.int (n:Int))]) (_:ys=qs.map V.ref) (_:Same H H2) (_:H2 l=some (.lst ys)) (_:Paired (fun p (r:List Int)=>H2 p=some (.lst (r.map V.int))) qs ((mkI n (fC n)).take i)) (_:qs.Nodup) (_:l∉qs) (_:∀ p∈qs,H p=none):Zf6 H n l i ys σ H2
inductive Zf5 (H:Hp) (l:Addr) (i:Nat) (ys:List V) (σ:St) (H2:Hp):Prop where
 | mk (v:Option V) (qs:List Addr) (_:σ=[v]) (_:ys=qs.map V.ref) (_:Same H H2) (_:H2 l=some (.lst ys)) (_:Paired (fun p (r:List Int)=>H2 p=some (.lst (r.map V.int))) qs ((mkI 6 fS).take i)) (_:qs.Nodup) (_:l∉qs) (_:∀ p∈qs,H p=none):Zf5 H l i ys σ H2
inductive Zf4 (H:Hp) (n:Nat) (l:Addr) (i:Nat) (ys:List V) (σ:St) (H2:Hp):Prop where
 | mk (v:Option V) (qs:List Addr) (_:σ=[v,some (.int (n:Int))]) (_:ys=qs.map V.ref) (_:Same H H2) (_:H2 l=some (.lst ys)) (_:Paired (fun p (r:List Int)=>H2 p=some (.lst (r.map V.int))) qs ((mkI n (fC n)).take i)) (_:qs.Nodup) (_:l∉qs) (_:∀ p∈qs,H p=none):Zf4 H n l i ys σ H2
inductive Zf3 (H:Hp) (n:Nat) (l:Addr) (i:Nat) (ys:List V) (σ:St) (H2:Hp):Prop where
 | mk (v:Option V) (qs:List Addr) (_:σ=[v,some (.int (n:Int))]) (_:ys=qs.map V.ref) (_:Same H H2) (_:H2 l=some (.lst ys)) (_:Paired (fun p (r:List Int)=>H2 p=some (.lst (r.map V.int))) qs ((mkI n (fC n)).take i)) (_:qs.Nodup) (_:l∉qs) (_:∀ p∈qs,H p=none):Zf3 H n l i ys σ H2
theorem Zku {f:Addr} {fd:FuncData} (F:Fun K "_law_base" "_law_base" Zbd f fd) (T:Blt mg):FnOk P w K mg base CX0 1 f fd ["_law_n","_law_number_here"] ZiH:=by
 refine F.ok Zlv (fun vs H Q E h=>?_) (fun cdv A outer s H vs Q E hr h=>?_)
 ·obtain ⟨_,_,rfl,_⟩:=h
  rfl
 ·obtain ⟨n,z,rfl,h1,h8,q⟩:=h
  refine' ⟨_,Ze (Yy (PW.pt (Zgv ?c0 (Zeu ?c1))) (Zf (Zq ?r0)) ZR) (Ze (Yy (PW.pt (Zgv ?d0 (Zeu ?d1))) (Zf (Zq ?r1)) ZR) (Zf (Zq ?r2))),?rd⟩
  case c0=>exact ZC Zay (pv 0) Zh (ZV _)
  case c1=>exact ZC Zay (Zj Z3 (pv 1) Zh) Zh (ZV _)
  case d0=>exact ZC Zay (pv 0) Zh (ZV _)
  case d1=>exact ZC Zay (Zj Z3 (pv 1) Zh) Zh (ZV _)
  case r0=>exact ZgA "_law_i" ["_law_i"] [none] rfl rfl (Zx rfl T.range (Za Zh Zc)) (fun _ _ _ _ _=>Zgz 0) (fun _ _ _ _ _=>ZB) (fun _ _ _ _ _=>Yi ["_law_j","_law_i"] [none,some 0] rfl rfl (Zx rfl T.range (Za Zh Zc)) (fun _ _ _ _ _=>Yw 0) (fun _ _ _ _ _=>ZB) (fun _ _ _ _ _=>Zj ZlI (pv 1) (pv 0)))
  case r1=>exact ZgA "_law_i" ["_law_i"] [none] rfl rfl (Zx rfl T.range (Za Zh Zc)) (fun _ _ _ _ _=>Zgz 0) (fun _ _ _ _ _=>ZB) (fun _ _ _ _ _=>Yi ["_law_j","_law_i"] [none,some 0] rfl rfl (Zx rfl T.range (Za Zh Zc)) (fun _ _ _ _ _=>Yw 0) (fun _ _ _ _ _=>ZB) (fun _ _ _ _ _=>Zj Yj (Zj JG Zh (Zj Z3 (Zj Yj (Zj Ys (pv 1) Zh) (Zj Ys (pv 0) Zh)) Zh)) (Zj Z3 (Zj Yj (pv 1) (pv 0)) Zh)))
  case r2=>exact ZgA "_law_i" ["_law_i","_law_n"] [none,some 0] rfl rfl (Zx rfl T.range (Za (pv 0) Zc)) (fun _ _ _ _ _=>Zgz 0) (fun _ _ _ _ _=>ZB) (fun _ _ _ _ _=>Yi ["_law_j","_law_i","_law_n"] [none,some 0,some 1] rfl rfl (Zx rfl T.range (Za (pv 1) Zc)) (fun _ _ _ _ _=>Yw 0) (fun _ _ _ _ _=>ZB) (fun _ _ _ _ _=>Zj Z3 (Zj Yj (pv 1) (pv 0)) (pv 2)))
  case rd =>
   refine ⟨_,rfl,rfl,_,rfl,?_⟩;refine ZaA (fun hd=>?_) (fun hd=>YZ ?_)
   ·have e4:n=4:=by
     have e:=QZj hd
     injection e with e
     omega
    refine ⟨_,rfl,_,_,rfl,rfl,(by show (0:Int)<3; decide),rfl,_,rfl,ZaA (fun _=>?_) (fun _=>?_)⟩
    ·subst e4;refine ⟨4,rfl,by decide,by decide,fun l hl=>?_⟩;refine Z8 (ZO (n:=4)) (Zf7 H l)
      ⟨none,[],rfl,rfl,Same.new hl,Zb,.nil,QBr,by simp,fun p hp=>by cases hp⟩ (fun i ys σ H2 zz0=> by obtain ⟨_,_,_,_,_,h2,_,_,_,_⟩ := zz0; exact ⟨trivial,h2⟩) ?_ ?_
     ·rintro i x ys σ H2 hx ⟨v,qs,rfl,rfl,s2,h2,hQ,hnd,hap,hfr⟩;obtain ⟨hi,rfl⟩:=Z6 hx;refine ⟨4,rfl,by decide,by decide,fun l2 hl2=>?_⟩
      skip
      refine ZD (fun j=>some (.int (fX i j))) (fun σ=>∃ v,σ=[v,some (.int (i:Int))]) (ZO (n:=4)) (by rw [Zu]; exact Zy (by decide)) hl2 (fun _ _=>trivial) ⟨none,rfl⟩ ?_ ?_
      ·rintro j y σ H3 R' hj ⟨v,rfl⟩ sm kk;obtain ⟨hjn,rfl⟩:=Z6 hj;have kk':=kk [some (.int (j:Int)),some (.int (i:Int))] H3 ⟨_,rfl⟩ (Same.refl _);exact ⟨_,rfl,_,rfl,_,_,rfl,rfl,kk'⟩
      ·intro H3 s3 h3;rw [YA,Zu] at h3;have h23:=s3 _ _ h2;have e3:H3 l2=some (.lst (((List.range 4).map fun c=>fX i c).map V.int)):=by rw [h3,QBa]; rfl
       have hne:l2≠l:=fun z=>by rw [z,h2] at hl2; cases hl2
       have hnq:l2∉qs:=fun z=>by
        obtain ⟨k,hk,e⟩:=QBe z;obtain ⟨r,_,hp⟩:=Paired.getL hQ (QAb hk);rw [e,hl2] at hp
        cases hp
       have hql:qs.length=i:=by rw [hQ.length,QAu,ZX]; exact Om.m1 ‹_›
       have hib:i<(mkI 4 fX).length:=by rw [ZX]; exact hi
       have eb:(mkI 4 fX)[i]=(List.range 4).map fun c=>fX i c:=by
        have:=ZcH (n:=4) fX hi;rw [QAb hib] at this;exact QZl this
       have up:∀ b,b≠l->(upd H3 l (.lst (qs.map V.ref++[.ref l2]))) b=H3 b:=fun b hb=>Zg hb
       have ap:∀ p∈qs,p≠l:=fun p hp z=>hap (z ▸ hp)
       refine ⟨h23,by rw [QAa,hql]; exact Zw (by exact O414 hi hql),_,qs++[l2],rfl,by rw [QAn]; rfl,fun b u e=>?_,Zb,?_,List.nodup_append.mpr ⟨hnd,by simp,fun a ha b hb e=>hnq (by rw [<- QZc.mp hb,<- e]; exact ha)⟩,?_,?_⟩
       ·rw [up _ (Zi e hl)];exact s3 _ _ (s2 _ _ e)
       ·rw [Yr _ hib,eb];refine Paired.snoc ?_ (by rw [up _ hne]; exact e3);exact Jb hQ fun p hp r e=>by rw [up _ (ap p hp)]; exact s3 _ _ e
       ·intro z
        rcases QZf.mp z with z | z
        ·exact hap z
        ·exact hne (QZc.mp z).symm
       ·intro p hp
        rcases QZf.mp hp with hp | hp
        ·exact hfr p hp
        ·rw [QZc.mp hp];exact s2.free hl2
     ·rintro ys σ H2 ⟨v,qs,rfl,rfl,s2,h2,hQ,hnd,hap,hfr⟩;rw [Zu,QBd (by rw [ZX]; exact QAd _)] at hQ;exact q l qs _ H2 s2 hl hfr ⟨h2,hQ,hnd,hap⟩ (ZmF) (ZX _ _)
    ·refine ⟨_,rfl,rfl,_,rfl,?_⟩;refine ZaA (fun hd2=>?_) (fun hd2=>YZ ?_)
     ·have e:=QZj hd2
      injection e with e
      exact (O413 e4 e).elim
     refine ⟨_,rfl,(n:Int),rfl,by exact Om.c2,by exact Om.c1 ‹_› rfl,fun l hl=>?_⟩;rw [QAf];refine Z8 (ZO (n:=n)) (Zf6 H n l)
      ⟨none,[],rfl,rfl,Same.new hl,Zb,.nil,QBr,by simp,fun p hp=>by cases hp⟩ (fun i ys σ H2 zz0=> by obtain ⟨_,_,_,_,_,h2,_,_,_,_⟩ := zz0; exact ⟨trivial,h2⟩) ?_ ?_
     ·rintro i x ys σ H2 hx ⟨v,qs,rfl,rfl,s2,h2,hQ,hnd,hap,hfr⟩;obtain ⟨hi,rfl⟩:=Z6 hx;refine ⟨_,rfl,(n:Int),rfl,by exact Om.c2,by exact Om.c1 ‹_› rfl,fun l2 hl2=>?_⟩;rw [QAf];refine ZD (fun j=>some (.int ((fC n) i j))) (fun σ=>∃ v,σ=[v,some (.int (i:Int)),some (.int (n:Int))]) (ZO (n:=n)) (by rw [Zu]; exact Zy (by exact Om.b1 ‹_› rfl)) hl2 (fun _ _=>trivial) ⟨none,rfl⟩ ?_ ?_
      ·rintro j y σ H3 R' hj ⟨v,rfl⟩ sm kk;obtain ⟨hjn,rfl⟩:=Z6 hj;have kk':=kk [some (.int (j:Int)),some (.int (i:Int)),some (.int (n:Int))] H3 ⟨_,rfl⟩ (Same.refl _);exact ⟨_,rfl,_,rfl,_,_,rfl,rfl,_,rfl,_,_,rfl,rfl,(by show (0:Int)<(n:Int); exact Om.c3 ‹_›),kk'⟩
      ·intro H3 s3 h3;rw [YA,Zu] at h3;have h23:=s3 _ _ h2;have e3:H3 l2=some (.lst (((List.range n).map fun c=>(fC n) i c).map V.int)):=by rw [h3,QBa]; rfl
       have hne:l2≠l:=fun z=>by rw [z,h2] at hl2; cases hl2
       have hnq:l2∉qs:=fun z=>by
        obtain ⟨k,hk,e⟩:=QBe z;obtain ⟨r,_,hp⟩:=Paired.getL hQ (QAb hk);rw [e,hl2] at hp
        cases hp
       have hql:qs.length=i:=by rw [hQ.length,QAu,ZX]; exact Om.m1 ‹_›
       have hib:i<(mkI n (fC n)).length:=by rw [ZX]; exact hi
       have eb:(mkI n (fC n))[i]=(List.range n).map fun c=>(fC n) i c:=by
        have:=ZcH (n:=n) (fC n) hi;rw [QAb hib] at this;exact QZl this
       have up:∀ b,b≠l->(upd H3 l (.lst (qs.map V.ref++[.ref l2]))) b=H3 b:=fun b hb=>Zg hb
       have ap:∀ p∈qs,p≠l:=fun p hp z=>hap (z ▸ hp)
       refine ⟨h23,by rw [QAa,hql]; exact Zw (by exact O412 e4 hi hql),_,qs++[l2],rfl,by rw [QAn]; rfl,fun b u e=>?_,Zb,?_,List.nodup_append.mpr ⟨hnd,by simp,fun a ha b hb e=>hnq (by rw [<- QZc.mp hb,<- e]; exact ha)⟩,?_,?_⟩
       ·rw [up _ (Zi e hl)];exact s3 _ _ (s2 _ _ e)
       ·rw [Yr _ hib,eb];refine Paired.snoc ?_ (by rw [up _ hne]; exact e3);exact Jb hQ fun p hp r e=>by rw [up _ (ap p hp)]; exact s3 _ _ e
       ·intro z
        rcases QZf.mp z with z | z
        ·exact hap z
        ·exact hne (QZc.mp z).symm
       ·intro p hp
        rcases QZf.mp hp with hp | hp
        ·exact hfr p hp
        ·rw [QZc.mp hp];exact s2.free hl2
     ·rintro ys σ H2 ⟨v,qs,rfl,rfl,s2,h2,hQ,hnd,hap,hfr⟩;rw [Zu,QBd (by rw [ZX]; exact QAd _)] at hQ;exact q l qs _ H2 s2 hl hfr ⟨h2,hQ,hnd,hap⟩ (Zi8 h8) (ZX _ _)
   ·refine ⟨_,rfl,rfl,_,rfl,?_⟩;refine ZaA (fun hd2=>?_) (fun hd2=>YZ ?_)
    ·have e6:n=6:=by
      have e:=QZj hd2
      injection e with e
      omega
     refine ⟨_,rfl,_,_,rfl,rfl,(by show (0:Int)<3; decide),rfl,_,rfl,ZaA (fun _=>?_) (fun _=>?_)⟩
     ·subst e6;refine ⟨6,rfl,by decide,by decide,fun l hl=>?_⟩;refine Z8 (ZO (n:=6)) (Zf5 H l)
       ⟨none,[],rfl,rfl,Same.new hl,Zb,.nil,QBr,by simp,fun p hp=>by cases hp⟩ (fun i ys σ H2 zz0=> by obtain ⟨_,_,_,_,_,h2,_,_,_,_⟩ := zz0; exact ⟨trivial,h2⟩) ?_ ?_
      ·rintro i x ys σ H2 hx ⟨v,qs,rfl,rfl,s2,h2,hQ,hnd,hap,hfr⟩;obtain ⟨hi,rfl⟩:=Z6 hx;refine ⟨6,rfl,by decide,by decide,fun l2 hl2=>?_⟩
       skip
       refine ZD (fun j=>some (.int (fS i j))) (fun σ=>∃ v,σ=[v,some (.int (i:Int))]) (ZO (n:=6)) (by rw [Zu]; exact Zy (by decide)) hl2 (fun _ _=>trivial) ⟨none,rfl⟩ ?_ ?_
       ·rintro j y σ H3 R' hj ⟨v,rfl⟩ sm kk;obtain ⟨hjn,rfl⟩:=Z6 hj;have kk':=kk [some (.int (j:Int)),some (.int (i:Int))] H3 ⟨_,rfl⟩ (Same.refl _);exact ⟨_,rfl,_,_,rfl,rfl,⟨by decide,by decide⟩,_,rfl,_,_,rfl,rfl,⟨by decide,by decide⟩,_,_,rfl,rfl,_,_,rfl,rfl,(by show (0:Int)<3; decide),_,_,rfl,rfl,.inl ⟨by decide,by decide⟩,_,rfl,_,rfl,_,_,rfl,rfl,_,_,rfl,rfl,(by show (0:Int)<2; decide),_,_,rfl,rfl,kk'⟩
       ·intro H3 s3 h3;rw [YA,Zu] at h3;have h23:=s3 _ _ h2;have e3:H3 l2=some (.lst (((List.range 6).map fun c=>fS i c).map V.int)):=by rw [h3,QBa]; rfl
        have hne:l2≠l:=fun z=>by rw [z,h2] at hl2; cases hl2
        have hnq:l2∉qs:=fun z=>by
         obtain ⟨k,hk,e⟩:=QBe z;obtain ⟨r,_,hp⟩:=Paired.getL hQ (QAb hk);rw [e,hl2] at hp
         cases hp
        have hql:qs.length=i:=by rw [hQ.length,QAu,ZX]; exact Om.m1 ‹_›
        have hib:i<(mkI 6 fS).length:=by rw [ZX]; exact hi
        have eb:(mkI 6 fS)[i]=(List.range 6).map fun c=>fS i c:=by
         have:=ZcH (n:=6) fS hi;rw [QAb hib] at this;exact QZl this
        have up:∀ b,b≠l->(upd H3 l (.lst (qs.map V.ref++[.ref l2]))) b=H3 b:=fun b hb=>Zg hb
        have ap:∀ p∈qs,p≠l:=fun p hp z=>hap (z ▸ hp)
        refine ⟨h23,by rw [QAa,hql]; exact Zw (by exact O411 hi hql),_,qs++[l2],rfl,by rw [QAn]; rfl,fun b u e=>?_,Zb,?_,List.nodup_append.mpr ⟨hnd,by simp,fun a ha b hb e=>hnq (by rw [<- QZc.mp hb,<- e]; exact ha)⟩,?_,?_⟩
        ·rw [up _ (Zi e hl)];exact s3 _ _ (s2 _ _ e)
        ·rw [Yr _ hib,eb];refine Paired.snoc ?_ (by rw [up _ hne]; exact e3);exact Jb hQ fun p hp r e=>by rw [up _ (ap p hp)]; exact s3 _ _ e
        ·intro z
         rcases QZf.mp z with z | z
         ·exact hap z
         ·exact hne (QZc.mp z).symm
        ·intro p hp
         rcases QZf.mp hp with hp | hp
         ·exact hfr p hp
         ·rw [QZc.mp hp];exact s2.free hl2
      ·rintro ys σ H2 ⟨v,qs,rfl,rfl,s2,h2,hQ,hnd,hap,hfr⟩;rw [Zu,QBd (by rw [ZX]; exact QAd _)] at hQ;exact q l qs _ H2 s2 hl hfr ⟨h2,hQ,hnd,hap⟩ (ZmG) (ZX _ _)
     ·refine ⟨_,rfl,(n:Int),rfl,by exact Om.c2,by exact Om.c1 ‹_› rfl,fun l hl=>?_⟩;rw [QAf];refine Z8 (ZO (n:=n)) (Zf4 H n l)
       ⟨none,[],rfl,rfl,Same.new hl,Zb,.nil,QBr,by simp,fun p hp=>by cases hp⟩ (fun i ys σ H2 zz0=> by obtain ⟨_,_,_,_,_,h2,_,_,_,_⟩ := zz0; exact ⟨trivial,h2⟩) ?_ ?_
      ·rintro i x ys σ H2 hx ⟨v,qs,rfl,rfl,s2,h2,hQ,hnd,hap,hfr⟩;obtain ⟨hi,rfl⟩:=Z6 hx;refine ⟨_,rfl,(n:Int),rfl,by exact Om.c2,by exact Om.c1 ‹_› rfl,fun l2 hl2=>?_⟩;rw [QAf];refine ZD (fun j=>some (.int ((fC n) i j))) (fun σ=>∃ v,σ=[v,some (.int (i:Int)),some (.int (n:Int))]) (ZO (n:=n)) (by rw [Zu]; exact Zy (by exact Om.b1 ‹_› rfl)) hl2 (fun _ _=>trivial) ⟨none,rfl⟩ ?_ ?_
       ·rintro j y σ H3 R' hj ⟨v,rfl⟩ sm kk;obtain ⟨hjn,rfl⟩:=Z6 hj;have kk':=kk [some (.int (j:Int)),some (.int (i:Int)),some (.int (n:Int))] H3 ⟨_,rfl⟩ (Same.refl _);exact ⟨_,rfl,_,rfl,_,_,rfl,rfl,_,rfl,_,_,rfl,rfl,(by show (0:Int)<(n:Int); exact Om.c3 ‹_›),kk'⟩
       ·intro H3 s3 h3;rw [YA,Zu] at h3;have h23:=s3 _ _ h2;have e3:H3 l2=some (.lst (((List.range n).map fun c=>(fC n) i c).map V.int)):=by rw [h3,QBa]; rfl
        have hne:l2≠l:=fun z=>by rw [z,h2] at hl2; cases hl2
        have hnq:l2∉qs:=fun z=>by
         obtain ⟨k,hk,e⟩:=QBe z;obtain ⟨r,_,hp⟩:=Paired.getL hQ (QAb hk);rw [e,hl2] at hp
         cases hp
        have hql:qs.length=i:=by rw [hQ.length,QAu,ZX]; exact Om.m1 ‹_›
        have hib:i<(mkI n (fC n)).length:=by rw [ZX]; exact hi
        have eb:(mkI n (fC n))[i]=(List.range n).map fun c=>(fC n) i c:=by
         have:=ZcH (n:=n) (fC n) hi;rw [QAb hib] at this;exact QZl this
        have up:∀ b,b≠l->(upd H3 l (.lst (qs.map V.ref++[.ref l2]))) b=H3 b:=fun b hb=>Zg hb
        have ap:∀ p∈qs,p≠l:=fun p hp z=>hap (z ▸ hp)
        refine ⟨h23,by rw [QAa,hql]; exact Zw (by exact O410 e6 hi hql),_,qs++[l2],rfl,by rw [QAn]; rfl,fun b u e=>?_,Zb,?_,List.nodup_append.mpr ⟨hnd,by simp,fun a ha b hb e=>hnq (by rw [<- QZc.mp hb,<- e]; exact ha)⟩,?_,?_⟩
        ·rw [up _ (Zi e hl)];exact s3 _ _ (s2 _ _ e)
        ·rw [Yr _ hib,eb];refine Paired.snoc ?_ (by rw [up _ hne]; exact e3);exact Jb hQ fun p hp r e=>by rw [up _ (ap p hp)]; exact s3 _ _ e
        ·intro z
         rcases QZf.mp z with z | z
         ·exact hap z
         ·exact hne (QZc.mp z).symm
        ·intro p hp
         rcases QZf.mp hp with hp | hp
         ·exact hfr p hp
         ·rw [QZc.mp hp];exact s2.free hl2
      ·rintro ys σ H2 ⟨v,qs,rfl,rfl,s2,h2,hQ,hnd,hap,hfr⟩;rw [Zu,QBd (by rw [ZX]; exact QAd _)] at hQ;exact q l qs _ H2 s2 hl hfr ⟨h2,hQ,hnd,hap⟩ (Zi8 h8) (ZX _ _)
    ·refine ⟨_,rfl,(n:Int),rfl,by exact Om.c2,by exact Om.c1 ‹_› rfl,fun l hl=>?_⟩;rw [QAf];refine Z8 (ZO (n:=n)) (Zf3 H n l)
      ⟨none,[],rfl,rfl,Same.new hl,Zb,.nil,QBr,by simp,fun p hp=>by cases hp⟩ (fun i ys σ H2 zz0=> by obtain ⟨_,_,_,_,_,h2,_,_,_,_⟩ := zz0; exact ⟨trivial,h2⟩) ?_ ?_
     ·rintro i x ys σ H2 hx ⟨v,qs,rfl,rfl,s2,h2,hQ,hnd,hap,hfr⟩;obtain ⟨hi,rfl⟩:=Z6 hx;refine ⟨_,rfl,(n:Int),rfl,by exact Om.c2,by exact Om.c1 ‹_› rfl,fun l2 hl2=>?_⟩;rw [QAf];refine ZD (fun j=>some (.int ((fC n) i j))) (fun σ=>∃ v,σ=[v,some (.int (i:Int)),some (.int (n:Int))]) (ZO (n:=n)) (by rw [Zu]; exact Zy (by exact Om.b1 ‹_› rfl)) hl2 (fun _ _=>trivial) ⟨none,rfl⟩ ?_ ?_
      ·rintro j y σ H3 R' hj ⟨v,rfl⟩ sm kk;obtain ⟨hjn,rfl⟩:=Z6 hj;have kk':=kk [some (.int (j:Int)),some (.int (i:Int)),some (.int (n:Int))] H3 ⟨_,rfl⟩ (Same.refl _);exact ⟨_,rfl,_,rfl,_,_,rfl,rfl,_,rfl,_,_,rfl,rfl,(by show (0:Int)<(n:Int); exact Om.c3 ‹_›),kk'⟩
      ·intro H3 s3 h3;rw [YA,Zu] at h3;have h23:=s3 _ _ h2;have e3:H3 l2=some (.lst (((List.range n).map fun c=>(fC n) i c).map V.int)):=by rw [h3,QBa]; rfl
       have hne:l2≠l:=fun z=>by rw [z,h2] at hl2; cases hl2
       have hnq:l2∉qs:=fun z=>by
        obtain ⟨k,hk,e⟩:=QBe z;obtain ⟨r,_,hp⟩:=Paired.getL hQ (QAb hk);rw [e,hl2] at hp
        cases hp
       have hql:qs.length=i:=by rw [hQ.length,QAu,ZX]; exact Om.m1 ‹_›
       have hib:i<(mkI n (fC n)).length:=by rw [ZX]; exact hi
       have eb:(mkI n (fC n))[i]=(List.range n).map fun c=>(fC n) i c:=by
        have:=ZcH (n:=n) (fC n) hi;rw [QAb hib] at this;exact QZl this
       have up:∀ b,b≠l->(upd H3 l (.lst (qs.map V.ref++[.ref l2]))) b=H3 b:=fun b hb=>Zg hb
       have ap:∀ p∈qs,p≠l:=fun p hp z=>hap (z ▸ hp)
       refine ⟨h23,by rw [QAa,hql]; exact Zw (by exact O409 h1 h8 hi hql),_,qs++[l2],rfl,by rw [QAn]; rfl,fun b u e=>?_,Zb,?_,List.nodup_append.mpr ⟨hnd,by simp,fun a ha b hb e=>hnq (by rw [<- QZc.mp hb,<- e]; exact ha)⟩,?_,?_⟩
       ·rw [up _ (Zi e hl)];exact s3 _ _ (s2 _ _ e)
       ·rw [Yr _ hib,eb];refine Paired.snoc ?_ (by rw [up _ hne]; exact e3);exact Jb hQ fun p hp r e=>by rw [up _ (ap p hp)]; exact s3 _ _ e
       ·intro z
        rcases QZf.mp z with z | z
        ·exact hap z
        ·exact hne (QZc.mp z).symm
       ·intro p hp
        rcases QZf.mp hp with hp | hp
        ·exact hfr p hp
        ·rw [QZc.mp hp];exact s2.free hl2
     ·rintro ys σ H2 ⟨v,qs,rfl,rfl,s2,h2,hQ,hnd,hap,hfr⟩;rw [Zu,QBd (by rw [ZX]; exact QAd _)] at hQ;exact q l qs _ H2 s2 hl hfr ⟨h2,hQ,hnd,hap⟩ (Zi8 h8) (ZX _ _)
end
end My
namespace My
open PySem L2
structure Row (n:Nat) (r:List Int):Prop where
 len:r.length=n
 nd:r.Nodup
 rg:∀ x∈r,0<=x/\x<(n:Int)
theorem OkRows.rowAt {n:Nat} {R:List (List Int)} (ok:OkRows n R) {k:Nat} (hk:k<R.length):Row n (R.getD k []):=by
 have:R.getD k []=R[k]:=by simp [QAc,QAb hk]
 rw [this];obtain ⟨h1,h2,h3⟩:=ok.row _ (QAq hk);exact ⟨h1,h2,h3⟩
theorem Row.inj {n:Nat} {r:List Int} (t:Row n r) {i j:Nat} (hi:i<n) (hj:j<n) (e:r.getD i 0=r.getD j 0):i=j:=by
 have hi':i<r.length:=by rw [t.len]; exact hi
 have hj':j<r.length:=by rw [t.len]; exact hj
 rw [ZK hi',ZK hj'] at e
 by_cases h:i=j
 ·exact h
 ·have p:=List.pairwise_iff_getElem.mp (QZk.mp t.nd)
  rcases Nat.lt_or_gt_of_ne h with z | z
  ·exact absurd e (p i j hi' hj' z)
  ·exact absurd e.symm (p j i hj' hi' z)
theorem Row.has {n:Nat} {r:List Int} (t:Row n r) {x:Int} (h:0<=x/\x<(n:Int)):r.idxOf x<n/\r.getD (r.idxOf x) 0=x:=by
 have hm:x∈r:=YU t.len t.nd t.rg h;have h1:=List.idxOf_lt_length_of_mem hm;refine ⟨by rw [<- t.len]; exact h1,?_⟩;rw [ZK h1];exact List.getElem_idxOf h1
theorem Row.val {n:Nat} {r:List Int} (t:Row n r) {i:Nat} (h:i<n):0<=r.getD i 0/\r.getD i 0<(n:Int):=by
 have hi:i<r.length:=by rw [t.len]; exact h
 rw [ZK hi];exact t.rg _ (QAq hi)
noncomputable def stp (a b:List Int) (c:Nat):Nat:=a.idxOf (b.getD c 0)
theorem Zbb {n:Nat} {a b:List Int} (ha:Row n a) (hb:Row n b):One n (stp a b):=by
 refine ⟨fun c hc=>(ha.has (hb.val hc)).1,fun c d hc hd e=>?_⟩;have h1:=(ha.has (hb.val hc)).2;have h2:=(ha.has (hb.val hd)).2;unfold stp at e;rw [e,h2] at h1;exact (hb.inj hd hc h1).symm
noncomputable def toI (l:List Nat):List Int:=l.map fun (c:Nat)=>(c:Int)
theorem Zj2 (l:List Nat) (x:Nat):toI (l++[x])=toI l++[(x:Int)]:=by unfold toI; rw [QAn]; rfl
noncomputable def ent (R:List (List Int)) (k c:Nat):Int:=(R.getD k []).getD c 0
noncomputable def mk (n:Nat) (f:Nat->Nat->Int):List (List Int):=(List.range n).map fun k=>(List.range n).map fun c=>f k c
theorem ZlO {n:Nat} {f:Nat->Nat->Int} {k c:Nat} (hk:k<n) (hc:c<n):ent (mk n f) k c=f k c:=by
 unfold ent mk
 simp [QAc,QAe,QBj hk,QBj hc]
theorem ZdC {α:Type} {f:Nat->α} {n:Nat} (h:∀ i j,i<n->j<n->f i=f j->i=j):((List.range n).map f).Nodup:=by
 refine QZk.mpr (QZm.mpr ?_);refine List.Pairwise.imp_of_mem ?_ (QZk.mp QCh);intro a b ha hb hne e;exact hne (h a b (QZe.mp ha) (QZe.mp hb) e)
theorem Zla {n:Nat} {f:Nat->Nat->Int} (hv:∀ k c,k<n->c<n->0<=f k c/\f k c<(n:Int)) (hr:∀ k c d,k<n->c<n->d<n->f k c=f k d->c=d) (hcol:∀ k l c,k<n->l<n->c<n->f k c=f l c->k=l):OkRows n (mk n f)/\(mk n f).length=n:=by
 have hl:(mk n f).length=n:=by unfold mk; rw [QAa,QAr]
 refine ⟨⟨Nat.le_of_eq hl,fun r h=>?_,fun c hc=>?_⟩,hl⟩
 ·obtain ⟨k,hk,rfl⟩:=QZd.mp h;have hk':=QZe.mp hk;refine ⟨by rw [QAa,QAr],ZdC fun i j hi hj e=>hr k i j hk' hi hj e,fun x hx=>?_⟩;obtain ⟨c,hc,rfl⟩:=QZd.mp hx;exact hv k c hk' (QZe.mp hc)
 ·have e:Yf (mk n f) c=(List.range n).map fun k=>f k c:=by
   unfold Yf mk;rw [QBa];refine QBx fun k hk=>?_;show ((List.range n).map fun c=>f k c).getD c 0=f k c
   simp [QAc,QAe,QBj hc]
  rw [e];exact ZdC fun i j hi hj e=>hcol i j c hi hj hc e
theorem YB {n:Nat} {R:List (List Int)} (ok:OkRows n R) (hl:R.length=n) {k:Nat} (hk:k<n):Row n (R.getD k []):=ok.rowAt (by exact Om.a1 ‹_› ‹_›)
theorem Zbv {n:Nat} {R:List (List Int)} (ok:OkRows n R) (hl:R.length=n) {k l c:Nat} (hk:k<n) (hl':l<n) (hc:c<n) (e:ent R k c=ent R l c):k=l:=by
 have nd:=ok.col c hc;have k1:k<(Yf R c).length:=by unfold Yf; rw [QAa]; exact Om.a1 ‹_› ‹_›
 have k2:l<(Yf R c).length:=by unfold Yf; rw [QAa]; exact Om.a1 ‹_› ‹_›
 by_cases h:k=l
 ·exact h
 ·have p:=List.pairwise_iff_getElem.mp (QZk.mp nd);have e1:(Yf R c)[k]=ent R k c:=by simp [Yf,ent,QAc,QAb (show k<R.length by exact Om.a1 ‹_› ‹_›)]
  have e2:(Yf R c)[l]=ent R l c:=by simp [Yf,ent,QAc,QAb (show l<R.length by exact Om.a1 ‹_› ‹_›)]
  rcases Nat.lt_or_gt_of_ne h with z | z
  ·exact absurd (e1.trans (e.trans e2.symm)) (p k l k1 k2 z)
  ·exact absurd (e2.trans (e.symm.trans e1.symm)) (p l k k2 k1 z)
theorem ZmH {n:Nat} {R:List (List Int)} (ok:OkRows n R) (hl:R.length=n):mk n (ent R)=R:=by
 refine QBs (by unfold mk; rw [QAa,QAr,hl]) fun k h1 h2=>?_;have hk:k<n:=by exact Om.a2 ‹_› ‹_›
 have e:(mk n (ent R))[k]=(List.range n).map fun c=>ent R k c:=by simp [mk]
 rw [e];have hr:=(ok.row _ (QAq h2)).1;refine QBs (by rw [QAa,QAr,hr]) fun c h3 h4=>?_
 simp [ent,QAc,QAb h2,QAb h4]
noncomputable def other (o1 o2:Nat) (S:List Nat) (k c:Nat):Nat:=if c∈S/\(k=o1\/k=o2) then o1+o2 - k else k
noncomputable def ZgP (n:Nat) (R:List (List Int)) (o1 o2:Nat) (S:List Nat):List (List Int):=mk n fun k c=>ent R (other o1 o2 S k c) c
theorem ZcD {n o1 o2:Nat} {S:List Nat} (h1:o1<n) (h2:o2<n) {k c:Nat} (hk:k<n):other o1 o2 S k c<n:=by
 unfold other
 split
 ·next h=>rcases h.2 with e | e <;> omega
 ·exact hk
theorem Zh6 {o1 o2:Nat} {S:List Nat} {k l c:Nat} (e:other o1 o2 S k c=other o1 o2 S l c):k=l:=by
 unfold other at e
 split at e <;> split at e
 ·next h h'=>rcases h.2 with a | a <;> rcases h'.2 with b | b <;> omega
 ·next h h' =>
  exact absurd ⟨h.1,by rcases h.2 with a | a <;> omega⟩ h'
 ·next h h' =>
  exact absurd ⟨h'.1,by rcases h'.2 with a | a <;> omega⟩ h
 ·exact e
theorem ZbJ {o1 o2:Nat} {S:List Nat} (c:Nat):other o1 o2 S o1 c=if c∈S then o2 else o1:=by
 unfold other
 by_cases h:c∈S
 ·rw [if_pos ⟨h,.inl rfl⟩,if_pos h]; exact O297 
 ·rw [if_neg (fun z=>h z.1),if_neg h]
theorem ZbI {o1 o2:Nat} {S:List Nat} (c:Nat):other o1 o2 S o2 c=if c∈S then o1 else o2:=by
 unfold other
 by_cases h:c∈S
 ·rw [if_pos ⟨h,.inr rfl⟩,if_pos h]; exact O408 
 ·rw [if_neg (fun z=>h z.1),if_neg h]
theorem Za1 {o1 o2:Nat} {S:List Nat} {k:Nat} (h1:k≠o1) (h2:k≠o2) (c:Nat):other o1 o2 S k c=k:=by
 unfold other;rw [if_neg (fun z=>z.2.elim h1 h2)]
theorem Zei {n:Nat} {a b:List Int} (ha:Row n a) (hb:Row n b) {c:Nat} (hc:c<n):a.getD (stp a b c) 0=b.getD c 0:=(ha.has (hb.val hc)).2
theorem ZmQ {n:Nat} {R:List (List Int)} (ok:OkRows n R) (hl:R.length=n) {o1 o2 c0:Nat} (h1:o1<n) (h2:o2<n) (hc0:c0<n) :
  OkRows n (ZgP n R o1 o2 (Yq (stp (R.getD o1 []) (R.getD o2 [])) n c0))/\(ZgP n R o1 o2 (Yq (stp (R.getD o1 []) (R.getD o2 [])) n c0)).length=n:=by
 have ra:=YB ok hl h1;have rb:=YB ok hl h2;have so:=Zbb ra rb;have cl:=fun {x} hx=>Ze0 (x:=x) so hc0 hx
 have hse:∀ c,c<n->ent R o1 (stp (R.getD o1 []) (R.getD o2 []) c)=ent R o2 c:=fun c hc=>Zei ra rb hc
 generalize stp (R.getD o1 []) (R.getD o2 [])=s at so cl hse;have hlt:∀ x∈Yq s n c0,x<n:=(Zah so hc0).1.lt so;generalize Yq s n c0=S at cl hlt;have x1:∀ c d,c∈S->d∉S->d<n->ent R o2 c≠ent R o1 d:=fun c d hc hd hdn e=>by
  have:=hse c (hlt c hc);have e2:stp (R.getD o1 []) (R.getD o2 []) c=stp (R.getD o1 []) (R.getD o2 []) c:=rfl;have e3:=ra.inj (so.lt c (hlt c hc)) hdn (this.trans e);exact hd (e3 ▸ (cl hc).1)
 have x2:∀ c d,c∈S->d∉S->d<n->ent R o1 c≠ent R o2 d:=fun c d hc hd hdn e=>by
  have h3:=hse d hdn;have e3:=ra.inj (hlt c hc) (so.lt d hdn) (e.trans h3.symm);obtain ⟨y,hy,e4⟩:=(cl hc).2;have:=so.inj y d (hlt y hy) hdn (e4.trans e3);exact hd (this ▸ hy)
 refine Zla (fun k c hk hc=>(YB ok hl (ZcD h1 h2 hk)).val hc) (fun k c d hk hc hd e=>?_) fun k l c hk hl' hc e=>Zh6 (Zbv ok hl (ZcD h1 h2 hk) (ZcD h1 h2 hl') hc e)
 by_cases k1:k=o1
 ·subst k1;rw [ZbJ,ZbJ] at e
  by_cases hcS:c∈S <;> by_cases hdS:d∈S
  ·rw [if_pos hcS,if_pos hdS] at e; exact rb.inj hc hd e
  ·rw [if_pos hcS,if_neg hdS] at e; exact absurd e (x1 c d hcS hdS hd)
  ·rw [if_neg hcS,if_pos hdS] at e; exact absurd e.symm (x1 d c hdS hcS hc)
  ·rw [if_neg hcS,if_neg hdS] at e; exact ra.inj hc hd e
 ·by_cases k2:k=o2
  ·subst k2;rw [ZbI,ZbI] at e
   by_cases hcS:c∈S <;> by_cases hdS:d∈S
   ·rw [if_pos hcS,if_pos hdS] at e; exact ra.inj hc hd e
   ·rw [if_pos hcS,if_neg hdS] at e; exact absurd e (x2 c d hcS hdS hd)
   ·rw [if_neg hcS,if_pos hdS] at e; exact absurd e.symm (x2 d c hdS hcS hc)
   ·rw [if_neg hcS,if_neg hdS] at e; exact rb.inj hc hd e
  ·rw [Za1 k1 k2,Za1 k1 k2] at e;exact (YB ok hl hk).inj hc hd e
theorem Zjt {n i:Nat} (h:i<n):ixN n (i:Int)=some i:=by
 unfold ixN;rw [if_pos (by exact Om.c6),if_pos (by exact Om.c5 ‹_›),QAf]
noncomputable def ZL (n:Nat) (x y:List Int) (S:List Nat):List Int:=(List.range n).map fun c=>if c∈S then y.getD c 0 else x.getD c 0
theorem Zlx {n:Nat} {R:List (List Int)} (ok:OkRows n R) (hl:R.length=n) {k:Nat} (hk:k<n):R[k]? = some ((List.range n).map fun c=>ent R k c):=by
 have e:(mk n (ent R))[k]? = R[k]?:=by rw [ZmH ok hl]
 rw [<- e];unfold mk;rw [QAe,QBj hk]
 rfl
theorem Zl3 {n:Nat} {R:List (List Int)} (ok:OkRows n R) (hl:R.length=n) {o1 o2:Nat} (h1:o1<n) (h2:o2<n) (S:List Nat) :
  (R.set o1 (ZL n (R.getD o1 []) (R.getD o2 []) S)).set o2 (ZL n (R.getD o2 []) (R.getD o1 []) S)=ZgP n R o1 o2 S:=by
 refine QDi fun k=>?_
 by_cases hk:k<n
 ·have er:(ZgP n R o1 o2 S)[k]? = some ((List.range n).map fun c=>ent R (other o1 o2 S k c) c):=by
   unfold ZgP mk;rw [QAe,QBj hk]
   rfl
  rw [er,QCx,QCx]
  by_cases e2:o2=k
  ·subst e2;rw [if_pos rfl,QDb,if_pos (by exact Om.a1 ‹_› ‹_›)];unfold ZL
   congr 1
   refine QBx fun c _=>?_;rw [ZbI]
   by_cases hc:c∈S
   ·rw [if_pos hc,if_pos hc]; rfl
   ·rw [if_neg hc,if_neg hc]; rfl
  ·rw [if_neg e2]
   by_cases e1:o1=k
   ·subst e1;rw [if_pos rfl,if_pos (by exact Om.a1 ‹_› ‹_›)];unfold ZL
    congr 1
    refine QBx fun c _=>?_;rw [ZbJ]
    by_cases hc:c∈S
    ·rw [if_pos hc,if_pos hc]; rfl
    ·rw [if_neg hc,if_neg hc]; rfl
   ·rw [if_neg e1,Zlx ok hl hk]
    congr 1
    refine QBx fun c _=>?_;rw [Za1 (fun z=>e1 z.symm) (fun z=>e2 z.symm)]
 ·rw [QCr (by rw [QDb,QDb]; exact O407 hl hk),QCr (by unfold ZgP mk; rw [QAa,QAr]; exact O356 hk)]
end My
namespace My
open PySem L2
theorem Zdo {n:Nat} {x y:List Int} (h:x.length=n):ZL n x y []=x:=by
 unfold ZL;refine QBs (by rw [QAa,QAr,h]) fun i h1 h2=>?_;rw [QBk,QCw,if_neg (by simp),ZK h2]
theorem Zdn {n:Nat} {x y:List Int} {S:List Nat} {c:Nat} (hc:c<n):(ZL n x y S).set c (y.getD c 0)=ZL n x y (S++[c]):=by
 unfold ZL;refine QBs (by rw [QDb,QAa,QAa]) fun i h1 h2=>?_;rw [List.getElem_set,QBk,QCw,QBk,QCw]
 by_cases e:c=i
 ·subst e;rw [if_pos rfl,if_pos (by simp)]
 ·rw [if_neg e]
  by_cases h:i∈S
  ·rw [if_pos h,if_pos (QBh _ h)]
  ·rw [if_neg h,if_neg (by
    intro z
    rcases QZf.mp z with z | z
    ·exact h z
    ·exact e (QZc.mp z).symm)]
theorem Zdp (n:Nat) (x y:List Int) (S:List Nat):(ZL n x y S).length=n:=by unfold ZL; rw [QAa,QAr]
inductive ZfP (vs:List V) (H:Hp) (Q:VK):Prop where
 | mk (a:Addr) (ps:List Addr) (n o1 o2 c:Nat) (R:List (List Int)) (_:vs=[.ref a,.int (o1:Int),.int (o2:Int),.int (c:Int)]) (_:MG H a ps R) (_:OkRows n R) (_:R.length=n) (_:n<=8) (_:o1<n) (_:o2<n) (_:o1≠o2) (_:c<n) (_:∀ H',(∀ b o,b∉ps->H b=some o->H' b=some o)->MG H' a ps (ZgP n R o1 o2 (Yq (stp (R.getD o1 []) (R.getD o2 [])) n c))->Q (.ref a) H'):ZfP vs H Q
noncomputable def Zhc:Sp:=fun vs H Q _=>ZfP vs H Q
noncomputable def Zag (n:Nat) (R:List (List Int)) (o1 o2:Nat) (S:List Nat):List (List Int):=(R.set o1 (ZL n (R.getD o1 []) (R.getD o2 []) S)).set o2 (ZL n (R.getD o2 []) (R.getD o1 []) S)
noncomputable def WAl (H:Hp) (a:Addr) (ps:List Addr) (n o1 o2 c0:Nat) (R:List (List Int)) (l1 l2:Addr) (m:Nat) (σ:St) (H2:Hp):Prop :=
 ∃ (acc:List Nat) (c:Nat) (v7:Option V),σ=[some (.ref a),some (.int (o1:Int)),some (.int (o2:Int)),some (.int (c:Int)),some (.ref l1),some (.ref l2),some (.int ((R.getD o1 []).getD c0 0)),v7] /\
  (∀ b o,b∉ps->H b=some o->H2 b=some o)/\H2 l1=some (.lst ((R.getD o1 []).map V.int))/\H2 l2=some (.lst ((R.getD o2 []).map V.int))/\MG H2 a ps (Zag n R o1 o2 acc) /\
  Path n (stp (R.getD o1 []) (R.getD o2 [])) c0 (acc++[c])/\Zal (stp (R.getD o1 []) (R.getD o2 [])) c0 (n - acc.length) (acc++[c])=Yq (stp (R.getD o1 []) (R.getD o2 [])) n c0/\m=n - acc.length
theorem Zax {H H':Hp} {q:Addr} {row:List Int}:∀ {ps:List Addr} {R:List (List Int)} {i:Nat},Paired (fun p (r:List Int)=>H p=some (.lst (r.map V.int))) ps R->ps.Nodup->ps[i]? = some q->(∀ b,b≠q->H' b=H b)->H' q=some (.lst (row.map V.int))->Paired (fun p (r:List Int)=>H' p=some (.lst (r.map V.int))) ps (R.set i row)
 | _,_,_,.nil,_,h,_,_=>by cases h
 | p::ps,r::R,0,.cons h t,nd,hi,ho,hq=>by
  rw [List.getElem?_cons_zero] at hi
  cases hi;rw [List.nodup_cons] at nd;exact .cons hq (Jb t fun x hx y e=>by rw [ho x (fun z=>nd.1 (z ▸ hx))]; exact e)
 | p::ps,r::R,i+1,.cons h t,nd,hi,ho,hq=>by
  rw [List.getElem?_cons_succ] at hi;rw [List.nodup_cons] at nd;have hne:p≠q:=fun z=>nd.1 (z ▸ QAt hi)
  exact .cons (by rw [ho p hne]; exact h) (Zax t nd.2 hi ho hq)
section
variable {P:Program} {w:World} {K:QZa} {mg:Str->Option Value} {base:Heap}
theorem scAlong:Zs ["_law_rows","_law_one","_law_other","_law_column","_law_first","_law_second","_law_start","_law_thing"] ["_law_rows","_law_one","_law_other","_law_column"] (Zd Zaf):=⟨rfl,rfl,rfl,by decide +kernel,rfl,by decide +kernel,by decide +kernel⟩
theorem Zja {f:Addr} {fd:FuncData} (F:Fun K "_law_along" "_law_along" Zaf f fd) (T:Blt mg):FnOk P w K mg base CX0 1 f fd ["_law_rows","_law_one","_law_other","_law_column"] Zhc:=by
 refine F.ok scAlong (fun vs H Q E h=>?_) (fun cdv A outer s H vs Q E hr h=>?_)
 ·obtain ⟨_,_,_,_,_,_,_,rfl,_⟩:=h
  rfl
 ·obtain ⟨a,ps,n,o1,o2,c0,R,rfl,hM,ok,hRl,h8,h1,h2,hne,hc0,q⟩:=h
  refine' ⟨_,Ze ?s0 (Ze ?s1 (Ze ?s2 (Zf (Zcy PassesOwn.never (Zai Zan) (Ze ?b0 (Ze ?b1 (Ze ?b2 (Ze ?b3 (Zf ?b4))))))))),?rd⟩
  case s0=>exact Zk (i:=4) scAlong.nd rfl (Or.inl rfl) (Zp (Za9 K) rfl T.list ZaS (Za (ZU Jl (pv 0) (pv 1) (fun _ _=>rfl)) Zc))
  case s1=>exact Zk (i:=5) scAlong.nd rfl (Or.inl rfl) (Zp (Za9 K) rfl T.list ZaS (Za (ZU Jl (pv 0) (pv 2) (fun _ _=>rfl)) Zc))
  case s2=>exact Zk (i:=6) scAlong.nd rfl (Or.inl rfl) (ZU Jl (pv 4) (pv 3) (fun _ _=>rfl))
  case b0=>exact Zk (i:=7) scAlong.nd rfl (Or.inl rfl) (ZU Jl (pv 5) (pv 3) (fun _ _=>rfl))
  case b1=>exact Zgx (pv 7) (ZiU (ZU Jl (pv 0) (pv 1) (fun _ _=>rfl)) (pv 3) ZeW)
  case b2=>exact Zgx (ZU Jl (pv 4) (pv 3) (fun _ _=>rfl)) (ZiU (ZU Jl (pv 0) (pv 2) (fun _ _=>rfl)) (pv 3) ZeW)
  case b3=>exact Yy (ZC Zay (pv 7) (pv 6) (ZV _)) (Zf (Zq (pv 0))) ZR
  case b4=>exact Zk (i:=3) scAlong.nd rfl (Or.inl rfl) (Jr PySem.F.plainAttrs_list PySem.F.slot_list_index PySem.F.type_list_index ZdE (pv 4) (Za (pv 7) Zc))
  case rd =>
   have ra:Row n (R.getD o1 []):=ok.rowAt (by exact Om.a1 ‹_› ‹_›);have rb:Row n (R.getD o2 []):=ok.rowAt (by exact Om.a1 ‹_› ‹_›);have so:=Zbb ra rb;have exS:=Zl3 ok hRl h1 h2;have rl1:R[o1]? = some (R.getD o1 []):=by rw [QAc,QAb (by exact Om.a1 ‹_› ‹_›)]; rfl
   have rl2:R[o2]? = some (R.getD o2 []):=by rw [QAc,QAb (by exact Om.a1 ‹_› ‹_›)]; rfl
   obtain ⟨p1,hp1,hr1⟩:=Paired.getR hM.rows rl1;obtain ⟨p2,hp2,hr2⟩:=Paired.getR hM.rows rl2;have hat1:atI (ps.map V.ref) (o1:Int)=some (.ref p1):=YO (by rw [QAe,hp1]; rfl);have hat2:atI (ps.map V.ref) (o2:Int)=some (.ref p2):=YO (by rw [QAe,hp2]; rfl);have m1:p1∈ps:=QAt hp1;have m2:p2∈ps:=QAt hp2;have hpne:p1≠p2:=fun e=>by
    have hi1:o1<ps.length:=(QZb.mp hp1).1;have hi2:o2<ps.length:=(QZb.mp hp2).1;have e1:ps[o1]=ps[o2]:=by
     rw [QAb hi1] at hp1;rw [QAb hi2] at hp2;rw [QZl hp1,QZl hp2,e]
    exact hne ((List.getElem_inj hM.nd).mp e1)
   have hrow0:Zag n R o1 o2 []=R:=by
    unfold Zag;rw [Zdo ra.len,Zdo rb.len];have e1:R.set o1 (R.getD o1 [])=R:=by
     refine QDi fun i=>?_;rw [QCx]
     by_cases e:o1=i
     ·subst e;rw [if_pos rfl,if_pos (by exact Om.a1 ‹_› ‹_›),rl1]
     ·rw [if_neg e]
    rw [e1];refine QDi fun i=>?_;rw [QCx]
    by_cases e:o2=i
    ·subst e;rw [if_pos rfl,if_pos (by exact Om.a1 ‹_› ‹_›),rl2]
    ·rw [if_neg e]
   generalize hA:R.getD o1 []=A0 at ra so rl1 hr1 q exS;generalize hB:R.getD o2 []=B0 at rb so rl2 hr2 q exS;refine ⟨_,rfl,_,rfl,a,_,_,_,rfl,rfl,SqL.of hM.out,hat1,p1,_,rfl,.inl (SqL.of hr1),fun l1 hl1=>?_⟩;have s1:Same H (upd H l1 (.lst (A0.map V.int))):=Same.new hl1;refine ⟨_,rfl,_,rfl,a,_,_,_,rfl,rfl,SqL.of (s1 _ _ hM.out),hat2,p2,_,rfl,.inl (SqL.of (s1 _ _ hr2)),fun l2 hl2=>?_⟩;have s2:Same (upd H l1 (.lst (A0.map V.int))) (upd (upd H l1 (.lst (A0.map V.int))) l2 (.lst (B0.map V.int))):=Same.new hl2;have sH:=s1.trans s2;have hl1':(upd (upd H l1 (.lst (A0.map V.int))) l2 (.lst (B0.map V.int))) l1=some (.lst (A0.map V.int)):=s2 _ _ Zb;have hl2':(upd (upd H l1 (.lst (A0.map V.int))) l2 (.lst (B0.map V.int))) l2=some (.lst (B0.map V.int)):=Zb;have psn:∀ b∈ps,∃ r:List Int,H b=some (.lst (r.map V.int)):=fun b hb=>by
    obtain ⟨i,hi,e⟩:=QBe hb;obtain ⟨r,_,hr'⟩:=Paired.getL hM.rows (QAb hi);exact ⟨r,by rw [<- e]; exact hr'⟩
   have nl1:l1∉ps:=fun z=>by obtain ⟨r,e⟩:=psn _ z; rw [hl1] at e; cases e
   have nl2:l2∉ps:=fun z=>by obtain ⟨r,e⟩:=psn _ z; rw [s1.free hl2] at e; cases e
   generalize upd (upd H l1 (.lst (A0.map V.int))) l2 (.lst (B0.map V.int))=Hs at sH hl1' hl2' ⊢;refine ⟨_,rfl,_,rfl,l1,_,_,_,rfl,rfl,SqL.of hl1',JL (by rw [ra.len]; exact hc0),?_⟩;refine ⟨WAl H a ps n o1 o2 c0 R l1 l2,⟨_,[],c0,none,by rw [hA]; rfl,fun b o _ e=>sH _ _ e,by rw [hA]; exact hl1',by rw [hB]; exact hl2',⟨sH _ _ hM.out,?_,hM.nd,hM.ap⟩,.one hc0,rfl,rfl⟩,?_⟩
   ·rw [hrow0];exact Paired.mapP hM.rows fun _ _ e=>sH _ _ e
   rintro m σ H2 ⟨acc,c,v7,rfl,keep,k1,k2,M2,pa,hrf,rfl⟩;rw [hA,hB] at pa hrf;rw [hA] at k1;rw [hB] at k2;rw [hA];have hcn:c<n:=pa.lt so _ (by simp);have hal:acc.length<n:=by
    have:=Zbl pa.nodup (pa.lt so);rw [QAo,QDl] at this;exact Om.f5 ‹_›
   refine ⟨true,rfl,ZbR ⟨fun σ' H'=>∃ m',m'<n - acc.length/\WAl H a ps n o1 o2 c0 R l1 l2 m' σ' H',fun _ _ z=>z,?_⟩⟩;have eR:Zag n R o1 o2 acc=(R.set o1 (ZL n A0 B0 acc)).set o2 (ZL n B0 A0 acc):=by unfold Zag; rw [hA,hB]
   have g1:(Zag n R o1 o2 acc)[o1]? = some (ZL n A0 B0 acc):=by
    rw [eR,QCx,if_neg (Ne.symm hne),QCx,if_pos rfl,if_pos (by exact Om.a1 ‹_› ‹_›)]
   obtain ⟨p1',hp1',hq1⟩:=Paired.getR M2.rows g1;rw [hp1] at hp1'
   cases hp1';refine ⟨_,rfl,_,rfl,l2,_,_,_,rfl,rfl,SqL.of k2,JL (by rw [rb.len]; exact hcn),?_⟩;refine ⟨_,rfl,_,rfl,_,rfl,a,_,_,_,rfl,rfl,SqL.of M2.out,hat1,_,rfl,p1,_,_,c,rfl,rfl,hq1,Zjt (by rw [QAa,Zdp]; exact hcn),?_⟩;have c3:(upd H2 p1 (.lst (((ZL n A0 B0 acc).map V.int).set c (.int (B0.getD c 0))))) p1=some (.lst ((ZL n A0 B0 (acc++[c])).map V.int)):=by rw [Zb,<- Zdn hcn,List.map_set]
   have o3:∀ b,b≠p1->(upd H2 p1 (.lst (((ZL n A0 B0 acc).map V.int).set c (.int (B0.getD c 0))))) b=H2 b:=fun b hb=>Zg hb
   generalize upd H2 p1 (.lst (((ZL n A0 B0 acc).map V.int).set c (.int (B0.getD c 0))))=H3 at c3 o3 ⊢;have na1:a≠p1:=fun z=>hM.ap (z ▸ m1)
   have na2:a≠p2:=fun z=>hM.ap (z ▸ m2)
   have P3:=Zax (H':=H3) (row:=ZL n A0 B0 (acc++[c])) M2.rows hM.nd hp1 o3 c3;have g2:((Zag n R o1 o2 acc).set o1 (ZL n A0 B0 (acc++[c])))[o2]? = some (ZL n B0 A0 acc):=by
    rw [QCx,if_neg hne,eR,QCx,if_pos rfl,if_pos (by rw [QDb]; exact Om.a1 ‹_› ‹_›)]
   obtain ⟨p2',hp2',hq2⟩:=Paired.getR P3 g2;rw [hp2] at hp2'
   cases hp2';have nn1:l1≠p1:=fun z=>nl1 (z ▸ m1)
   have nn2:l1≠p2:=fun z=>nl1 (z ▸ m2)
   have nm1:l2≠p1:=fun z=>nl2 (z ▸ m1)
   have nm2:l2≠p2:=fun z=>nl2 (z ▸ m2)
   refine ⟨_,rfl,_,rfl,l1,_,_,_,rfl,rfl,SqL.of ((o3 _ nn1).trans k1),JL (by rw [ra.len]; exact hcn),_,rfl,_,rfl,a,_,_,_,rfl,rfl,SqL.of ((o3 _ na1).trans M2.out),hat2,_,rfl,p2,_,_,c,rfl,rfl,hq2,Zjt (by rw [QAa,Zdp]; exact hcn),?_⟩;have c4:(upd H3 p2 (.lst (((ZL n B0 A0 acc).map V.int).set c (.int (A0.getD c 0))))) p2=some (.lst ((ZL n B0 A0 (acc++[c])).map V.int)):=by rw [Zb,<- Zdn hcn,List.map_set]
   have o4:∀ b,b≠p2->(upd H3 p2 (.lst (((ZL n B0 A0 acc).map V.int).set c (.int (A0.getD c 0))))) b=H3 b:=fun b hb=>Zg hb
   generalize upd H3 p2 (.lst (((ZL n B0 A0 acc).map V.int).set c (.int (A0.getD c 0))))=H4 at c4 o4 ⊢;have P4:=Zax (H':=H4) (row:=ZL n B0 A0 (acc++[c])) P3 hM.nd hp2 o4 c4;have eS:((Zag n R o1 o2 acc).set o1 (ZL n A0 B0 (acc++[c]))).set o2 (ZL n B0 A0 (acc++[c]))=(R.set o1 (ZL n A0 B0 (acc++[c]))).set o2 (ZL n B0 A0 (acc++[c])):=by
    rw [eR,List.set_comm _ _ (Ne.symm hne),List.set_set,List.set_set]
   rw [eS] at P4;have k14:H4 l1=some (.lst (A0.map V.int)):=(o4 _ nn2).trans ((o3 _ nn1).trans k1);have k24:H4 l2=some (.lst (B0.map V.int)):=(o4 _ nm2).trans ((o3 _ nm1).trans k2);have out4:H4 a=some (.lst (ps.map V.ref)):=(o4 _ na2).trans ((o3 _ na1).trans M2.out);have keep4:∀ b o,b∉ps->H b=some o->H4 b=some o:=fun b o hb e=>(o4 b (fun z=>hb (by rw [z]; exact m2))).trans ((o3 b (fun z=>hb (by rw [z]; exact m1))).trans (keep b o hb e))
   refine ⟨_,rfl,_,rfl,rfl,_,rfl,?_⟩;have hlast:Z0 (acc++[c])=c:=Je _ _;have estp:stp A0 B0 c=A0.idxOf (B0.getD c 0):=rfl;have hst:=Zei ra rb hcn;refine ZaA (fun hd=>?_) (fun hd=>?_)
   ·have e:=QZj hd
    injection e with e
    have e':stp A0 B0 (Z0 (acc++[c]))=c0:=by
     rw [hlast];exact ra.inj (so.lt _ hcn) hc0 (hst.trans e)
    have ringe:acc++[c]=Yq (stp A0 B0) n c0:=by
     rw [show n - acc.length=(n - acc.length - 1)+1 by exact O406 hal,Zal,if_pos e'] at hrf;exact hrf
    refine ⟨_,rfl,q H4 keep4 ⟨out4,?_,hM.nd,hM.ap⟩⟩;rw [<- ringe,<- exS];exact P4
   ·have e':stp A0 B0 (Z0 (acc++[c]))≠c0:=fun z=>hd (by
     rw [hlast] at z;rw [z] at hst;rw [hst];exact QZh rfl)
    obtain ⟨p',hlt⟩:=pa.next so e';rw [hlast] at p' e';rw [show n - acc.length=(n - acc.length - 1)+1 by exact O406 hal,Zal,if_neg (by rw [hlast]; exact e'),hlast] at hrf;refine ⟨_,rfl,.inl ⟨rfl,_,SqL.of k14⟩,_,rfl,l1,A0,_,rfl,rfl,k14,YU ra.len ra.nd ra.rg (rb.val hcn),?_⟩;refine ⟨n - (acc++[c]).length,by rw [QAo,QDl]; exact O405 hal,acc++[c],stp A0 B0 c,_,by rw [hA]; rfl,keep4,by rw [hA]; exact k14,by rw [hB]; exact k24,⟨out4,?_,hM.nd,hM.ap⟩,by rw [hA,hB]; exact p',?_,rfl⟩
    ·unfold Zag;rw [hA,hB];exact P4
    ·rw [hA,hB,QAo,QDl,show n - (acc.length+1)=n - acc.length - 1 by exact O404 ];exact hrf
end
end My
namespace My
open PySem L2
noncomputable def LLs (H:Hp) (a:Addr) (L:List (List Int)):Prop:=∃ ps:List Addr,H a=some (.lst (ps.map V.ref))/\Paired (fun p l=>H p=some (.lst (l.map V.int))) ps L
theorem LLs.same {c:Addr} {H H1:Hp} {L:List (List Int)} (g:LLs H c L) (x:Same H H1):LLs H1 c L :=
 let ⟨ps,h,r⟩:=g
 ⟨ps,x _ _ h,Paired.mapP r fun _ _ z=>x _ _ z⟩
theorem Zbp (t:Int):∀ xs:List Int,inV (.int t) (xs.map V.int)=decide (t∈xs)
 | []=>rfl
 | x::xs=>by
  have ih:=Zbp t xs;unfold inV at ih ⊢;rw [QAp,List.any_cons,ih];show ((x==t)||_)=_;rw [QBf]
  simp only [QCp,beq_iff_eq,QZg,QBq];exact ⟨fun h=>h.elim (fun e=>.inl e.symm) .inr,fun h=>h.elim (fun e=>.inl e.symm) .inr⟩
theorem Zl6 {R:List (List Int)} {c:Nat}:((List.range R.length).map fun i=>V.int ((R.getD i []).getD c 0))=(Yf R c).map V.int:=by
 unfold Yf;refine QDi fun i=>?_;rw [QBa,QAe,QAe]
 by_cases h:i<R.length
 ·rw [QBj h,QAb h]
  simp [QAc,QAb h]
 ·rw [QCr (by simpa using h),QCr (by simpa using h)]
  rfl
theorem Zii {r:List Int} {ps:List Addr} (h:r≠[]):r.map V.int≠ps.map V.ref:=by
 cases r with
 | nil=>exact absurd rfl h
 | cons x r=>cases ps <;> intro e <;> cases e
theorem LLs.push {a t:Addr} {H:Hp} {R:List (List Int)} {r:List Int} {ps:List Addr} (h:H a=some (.lst (ps.map V.ref))) (hp:Paired (fun p (r:List Int)=>H p=some (.lst (r.map V.int))) ps R) (hR:∀ r∈R,r≠[]) (hr:r≠[]) (ht:H t=some (.lst (r.map V.int))):LLs (upd H a (.lst (ps.map V.ref++[.ref t]))) a (R++[r]):=by
 have ne:∀ (b:Addr) (x:List Int),x≠[]->H b=some (.lst (x.map V.int))->b≠a:=fun b x hx e c=>by
  rw [c,h] at e
  injection e with e
  injection e with e
  exact Zii hx e.symm
 refine ⟨ps++[t],by rw [Zb,QAn]; rfl,Paired.snoc ?_ ?_⟩
 ·have go:∀ (qs:List Addr) (S:List (List Int)),Paired (fun p (r:List Int)=>H p=some (.lst (r.map V.int))) qs S->(∀ r∈S,r≠[])->Paired (fun p (r:List Int)=>upd H a (.lst (ps.map V.ref++[.ref t])) p=some (.lst (r.map V.int))) qs S:=by
   intro qs S x
   induction x with
   | nil=>intro _; exact .nil
   | cons e _ ih =>
    intro hS;refine .cons ?_ (ih fun r hr=>hS r (QAm _ hr));rw [Zg (ne _ _ (hS _ QAj) e)];exact e
  exact go _ _ hp hR
 ·rw [Zg (ne _ _ hr ht)];exact ht
theorem Zgt (l:List Int):(List.range l.length).map (fun j=>l.getD j 0)=l:=by
 refine QBs (by rw [QAa,QAr]) fun i h1 h2=>?_;rw [QBk,QCw,ZK h2]
theorem ZbS (p:Int->Bool):∀ l:List Int,l.filterMap (fun x=>if p x=true then some (V.int x) else none)=(l.filter p).map V.int
 | []=>rfl
 | x::l=>by
  rw [QDk,List.filter_cons,ZbS p l]
  cases h:p x with
  | true=>rw [if_pos rfl,if_pos rfl,QAp]
  | false=>rw [if_neg QAl,if_neg QAl]
theorem ZjB (p:Int->Bool) (l:List Int):(List.range l.length).filterMap (fun j=>if p (l.getD j 0)=true then some (V.int (l.getD j 0)) else none)=(l.filter p).map V.int:=by
 rw [<- ZbS p l]
 conv=>rhs; rw [<- Zgt l]
 rw [List.filterMap_map]
 rfl
theorem ZkQ (p:Int->Bool) (n:Nat):(List.range n).filterMap (fun j:Nat=>if p (j:Int)=true then some (V.int (j:Int)) else none)=((ZG n).filter p).map V.int:=by
 rw [<- ZbS p (ZG n)];unfold ZG;rw [List.filterMap_map]
 rfl
theorem Zjf (n:Nat) (A:List (List Int)) (row:List Int):((ZG n).filter fun t=>decide (t∉row)).filter (fun t=>decide (t∉Yf A row.length))=ZW n A row:=by
 unfold ZW;rw [List.filter_filter]
 congr 1
 funext t
 rw [Bool.and_comm]
inductive ZjV (k:Nat) (vs:List V) (H:Hp) (Q:VK):Prop where
 | mk (aA ar at_:Addr) (n:Nat) (A:List (List Int)) (row ts:List Int) (_:vs=[.ref aA,.ref ar,.ref at_]) (_:LLs H aA A) (_:(∀ o∈A,o.length=n)) (_:A.length<=8) (_:H ar=some (.lst (row.map V.int))) (_:PRow n A row) (_:n<=8) (_:H at_=some (.lst (ts.map V.int))) (_:ts.length=n) (_:n - row.length<k) (_:(∀ (p:Addr) (H':Hp) (r:List Int),Same H H'->H' p=some (.lst (r.map V.int))->OkRow n A r->row <+: r->Q (.ref p) H')) (_:(∀ H',Same H H'->(∀ r,OkRow n A r->row <+: r->False)->Q .non H')):ZjV k vs H Q
noncomputable def Zk8 (k:Nat):Sp:=fun vs H Q _=>ZjV k vs H Q
section
variable {P:Program} {w:World} {K:QZa} {mg:Str->Option Value} {base:Heap}
theorem scRow:Zs ["_law_rows","_law_made","_law_digits","_law_column","_law_pool","_law_turn_here","_law_thing","_law_found"] ["_law_rows","_law_made","_law_digits"] (Zd Zem):=⟨rfl,rfl,rfl,by decide +kernel,rfl,by decide +kernel,by decide +kernel⟩
inductive Zf2 (aA:Addr) (ar:Addr) (at_:Addr) (n:Nat) (A:List (List Int)) (row:List Int) (l5:Addr) (m:Nat) (H9:Hp) (xs:List V) (i:Nat) (σ:St) (H7:Hp):Prop where
 | mk (v6 v7:Option V) (_:σ=[some (.ref aA),some (.ref ar),some (.ref at_),some (.int (row.length:Int)),some (.ref l5),some (.int (m:Int)),v6,v7]) (_:Same H9 H7) (_:∀ j:Nat,j<i->∀ x,xs[j]? = some (.int x)->∀ r,OkRow n A r->row++[x] <+: r->False):Zf2 aA ar at_ n A row l5 m H9 xs i σ H7
theorem Zi4 {f:Addr} {fd:FuncData} (D:Dfn K mg "_law_row" Zem ["_law_rows","_law_made","_law_digits"] f fd) (T:Blt mg):∀ k:Nat,FnOk P w K mg base CX0 k f fd ["_law_rows","_law_made","_law_digits"] (Zk8 k)
 | 0=>⟨fun vs H Q E h=>by obtain ⟨_,_,_,_,_,_,_,rfl,_⟩:=h; rfl,fun A outer s H args us vs Q E _ _ _ _ h=>by obtain ⟨_,_,_,_,_,_,_,rfl,_,_,_,_,_,_,_,_,z,_⟩:=h; exact absurd z (QDs _)⟩
 | k+1=>by
  have G:=Zi4 D T k;refine D.F.ok scRow (fun vs H Q E h=>?_) (fun cdv A0 outer s H vs Q E hr h=>?_)
  ·obtain ⟨_,_,_,_,_,_,_,rfl,_⟩:=h
   rfl
  ·obtain ⟨aA,ar,at_,n,A,row,ts,rfl,hA,hAn,hA8,hrow,pr,h8,hts,htl,hk,q1,q2⟩:=h
   refine' ⟨_,Ze ?s0 (Ze ?s1 (Ze ?s2 (Ze ?s3 (Ze ?s4 (Ze (Yv PassesOwn.never rfl ?i (ZJ (i:=6) scRow.nd rfl (Or.inl rfl)) (Ze ?b0 (Zf ?b1))) (Zf (Zq Zew))))))),?rd⟩
   case s0=>exact Zk (i:=3) scRow.nd rfl (Or.inr rfl) (Zl (Zt K) rfl T.len PySem.boot_len (Za (pv 1) Zc))
   case s1=>exact Yy (ZC Zay (pv 3) (Zl (Zt K) rfl T.len PySem.boot_len (Za (pv 2) Zc)) (ZV _)) (Zf (Zq (pv 1))) ZR
   case s2=>exact Ze6 (i:=4) ["_law_thing","_law_made"] [none,some 1] scRow.nd rfl (Or.inl rfl) rfl rfl (Zx rfl T.range (Za (Zl (Zt K) rfl T.len PySem.boot_len (Za (pv 2) Zc)) Zc)) (fun _ _ _ _ _=>Yw 0) (fun _ _ _ _ _=>Zbg (ZC (ZaM K) (pv 0) (pv 1) rfl)) (fun _ _ _ _ _=>pv 0)
   case s3=>exact Ze6 (i:=4) ["_law_thing","_law_rows","_law_column"] [none,some 0,some 3] scRow.nd rfl (Or.inl rfl) rfl rfl (Z2 K (pv 4)) (fun _ _ _ _ _=>Yw 0) (fun _ _ _ _ _=>Zbg (ZC (ZaM K) (pv 0) (Yi ["_law_row_here","_law_column"] [none,some 2] rfl rfl (Z2 K (pv 1)) (fun _ _ _ _ _=>Yw 0) (fun _ _ _ _ _=>ZB) (fun _ _ _ _ _=>ZU (YJ K) (pv 0) (pv 1) (fun _ _=>rfl))) rfl)) (fun _ _ _ _ _=>pv 0)
   case s4=>exact Zk (i:=5) scRow.nd rfl (Or.inl rfl) (Zj Z3 (ZU Jl (pv 2) (pv 3) (fun _ _=>rfl)) (Zl (ZbX rfl) rfl T.max PyProof.Rows.boot_max (Za Zh (Za (Zl (Zt K) rfl T.len PySem.boot_len (Za (pv 4) Zc)) Zc))))
   case i=>exact Zcf (Zj ZcE (JF ZaH (pv 4) (JU (pv 5)) ZaJ) (JF ZaH (pv 4) ZaJ (JU (pv 5))))
   case b0=>exact Zk (i:=7) scRow.nd rfl (Or.inl rfl) (Zm G hr rfl D.m D.F.kp D.b .nil ZF (Za (pv 0) (Za (Zj ZcE (pv 1) (Yd (Za (pv 6) Zc))) (Za (pv 2) Zc))))
   case b1=>exact Yy (Zgw (Zkj (pv 7))) (Zf (Zq (pv 7))) ZR
   case rd =>
    have hrl:(row.map V.int).length=row.length:=QAa _;have htl':(ts.map V.int).length=n:=by rw [QAa,htl]
    refine ⟨_,rfl,ar,_,rfl,.inl (SqL.of hrow),?_⟩;show J7 3 (V.int ((row.map V.int).length:Int)) _ _ _;rw [hrl];refine ⟨_,rfl,_,rfl,at_,_,rfl,.inl (SqL.of hts),rfl,_,rfl,?_⟩;rw [htl'];refine ZaA (fun hc=>?_) (fun hc=>?_)
    ·have e:row.length=n:=by
      have e:=QZj hc
      injection e with e
      exact Om.e1 ‹_›
     exact ⟨_,rfl,q1 ar H row (Same.refl H) hrow (pr.full e) (List.prefix_refl _)⟩
    have hlt:row.length<n:=by
     have h1:row.length≠n:=fun e=>hc (QZh (by rw [e]))
     have:=pr.len;omega
    obtain ⟨ps,hps,hPs⟩:=id hA;have hpl:(ps.map V.ref).length=A.length:=by rw [QAa,hPs.length]
    refine ⟨_,rfl,at_,_,rfl,.inl (SqL.of hts),_,rfl,by exact Om.c2,by rw [htl']; exact Om.c1 ‹_› rfl,fun l4 hl4=>?_⟩;rw [htl',QAf];refine ZD (fun j=>if (fun t:Int=>decide (t∉row)) ((j:Nat):Int)=true then some (V.int ((j:Nat):Int)) else none) (fun σ=>∃ v,σ=[v,some (.ref ar)]) (ZO (n:=n)) (by rw [Zu]; exact Zy (by exact Om.b1 ‹_› rfl)) hl4 (fun _ _=>trivial) ⟨none,rfl⟩ ?_ ?_
    ·rintro i x σ H' R' hi ⟨v,rfl⟩ sm kk;obtain ⟨hin,rfl⟩:=Z6 hi;have kk':=fun v'=>kk [v',some (.ref ar)] H' ⟨v',rfl⟩ (Same.refl _)
     refine ⟨_,rfl,_,rfl,ar,row.map V.int,rfl,.inl (SqL.of (sm _ _ hrow)),rfl,ZM row,_,rfl,?_⟩;have e1:(if true=true then !inV (.int (i:Int)) (row.map V.int) else inV (.int (i:Int)) (row.map V.int))=decide ((i:Int)∉row):=by rw [if_pos rfl,Zbp]; simp
     rw [e1];refine ZaA (fun hc3=>?_) (fun hc3=>?_)
     ·rw [if_pos hc3] at kk';exact ⟨_,rfl,kk' _⟩
     ·rw [if_neg hc3] at kk';exact kk' _
    intro H4 s4 h4;rw [Zu] at h4
    replace h4:H4 l4=some (.lst (((ZG n).filter (fun t:Int=>decide (t∉row))).map V.int)):=by rw [h4]; exact congrArg (fun x=>some (HO.lst x)) (ZkQ (fun t:Int=>decide (t∉row)) n)
    have hm1:∀ t∈(ZG n).filter (fun t:Int=>decide (t∉row)),0<=t/\t<(n:Int):=fun t ht=>mem_rngI.mp (QZo.mp ht).1
    have hln:((ZG n).filter (fun t:Int=>decide (t∉row))).length<=n:=QAs (List.length_filter_le _ _) (by rw [Yh]; exact QAd _);generalize hpo:(ZG n).filter (fun t:Int=>decide (t∉row))=po at h4 hm1 hln;have hps4:=s4 _ _ hps;refine ⟨_,rfl,l4,rfl,⟨_,SqL.of h4⟩,fun l5 hl5=>?_⟩;refine ZD (fun j=>if (fun t:Int=>decide (t∉Yf A row.length)) (po.getD j 0)=true then some (V.int (po.getD j 0)) else none) (fun σ=>∃ v,σ=[v,some (.ref aA),some (.int (row.length:Int))]) (Z1 (xs:=po.map V.int)) (by rw [QAa]; exact Zy (by exact Om.b3 ‹_› ‹_› rfl)) hl5 (fun H' sm=>SqL.of (sm _ _ h4)) ⟨none,rfl⟩ ?_ ?_
    ·rintro i x σ H' R' hi ⟨v,rfl⟩ sm kk;have hil:i<po.length:=by
      have:=(QZb.mp hi).1;rw [QAa] at this;exact this
     have ex:x = .int (po.getD i 0):=by
      rw [QAe,QAb hil] at hi;rw [ZK hil]
      cases hi
      rfl
     subst ex;generalize po.getD i 0=t at kk ⊢;have hps5:=sm _ _ hps4;refine ⟨_,rfl,_,rfl,aA,rfl,⟨_,SqL.of hps5⟩,fun l6 hl6=>ZD (fun i=>some (V.int ((A.getD i []).getD row.length 0))) (fun σ=>∃ v,σ=[v,some (.int (row.length:Int))]) (Z1 (xs:=ps.map V.ref)) (by rw [hpl]; exact Zy (by exact Om.b1 ‹_› rfl)) hl6 (fun H' sm=>SqL.of (sm _ _ hps5)) ⟨none,rfl⟩ ?_ ?_⟩
     ·rintro i x σ H2 R2 hi ⟨v,rfl⟩ sm2 kk2;rw [QAe] at hi
      cases hpi:ps[i]? with
      | none=>rw [hpi] at hi; cases hi
      | some p =>
       rw [hpi] at hi
       cases hi;obtain ⟨o,ho,hp⟩:=Paired.getL hPs hpi;have hol:o.length=n:=hAn o (QAt ho);have hat:(o.map V.int)[row.length]? = some (.int ((A.getD i []).getD row.length 0)):=by
        rw [QAe,QAb (by exact Om.a1 ‹_› ‹_›)]
        simp [QAc,ho,QAb (show row.length<o.length by exact Om.a1 ‹_› ‹_›)]
       exact ⟨_,rfl,_,rfl,p,o.map V.int,(row.length:Int),_,rfl,rfl,SqL.of (sm2 _ _ (sm _ _ (s4 _ _ hp))),YO hat,kk2 _ _ ⟨_,rfl⟩ (Same.refl _)⟩
     ·intro H2 s2 h2;rw [YA,hpl,Zl6] at h2;refine ⟨l6,_,rfl,.inl (SqL.of h2),rfl,ZM _,_,rfl,?_⟩;have e2:(if true=true then !inV (.int t) ((Yf A row.length).map V.int) else inV (.int t) ((Yf A row.length).map V.int))=decide (t∉Yf A row.length):=by rw [if_pos rfl,Zbp]; simp
      rw [e2];have kk':=fun v'=>kk [v',some (.ref aA),some (.int (row.length:Int))] H2 ⟨v',rfl⟩ s2
      refine ZaA (fun hc4=>?_) (fun hc4=>?_)
      ·rw [if_pos hc4] at kk';exact ⟨_,rfl,kk' _⟩
      ·rw [if_neg hc4] at kk';exact kk' _
    intro H5 s5 h5;rw [QAa] at h5
    replace h5:H5 l5=some (.lst ((ZW n A row).map V.int)):=by
     rw [h5,<- Zjf n A row,hpo];exact congrArg (fun x=>some (HO.lst x)) (ZjB (fun t:Int=>decide (t∉Yf A row.length)) po)
    have s45:=s4.trans s5;have hpl2:(ZW n A row).length<=n:=by
     unfold ZW;refine QAs (List.length_filter_le _ _) ?_;rw [Yh];exact QAd _
    have hnl:((ZW n A row).map V.int).length=(ZW n A row).length:=QAa _;have htat:(ts.map V.int)[row.length]? = some (.int (ts.getD row.length 0)):=by
     rw [QAe,QAb (by exact Om.a1 ‹_› ‹_›)]
     simp [QAc,QAb (show row.length<ts.length by exact Om.a1 ‹_› ‹_›)]
    generalize ts.getD row.length 0=t at htat;obtain ⟨M,hM,hM1,hMl⟩:∃ M:Int,(if ((ZW n A row).length:Int)>1 then ((ZW n A row).length:Int) else 1)=M/\0<M/\M<=max 1 ((ZW n A row).length:Int):=by
     refine ⟨_,rfl,?_,?_⟩
     ·split <;> omega
     ·split <;> omega
    obtain ⟨m,hm,hml⟩:∃ m:Nat,t % M=(m:Int)/\m<=(ZW n A row).length:=by
     have e1:=QCq t (show M≠0 by exact O403 hM1);have e2:=QDw t hM1;exact ⟨(t % M).toNat,by exact Om.z1 ‹_›,by exact O402 hnl hMl e2⟩
    refine ⟨_,rfl,_,rfl,at_,_,_,_,rfl,rfl,SqL.of (s45 _ _ hts),YO htat,_,rfl,l5,_,rfl,.inl (SqL.of h5),1,_,rfl,_,_,rfl,rfl,?_,?_⟩
    ·rw [hnl,hM];exact hM1
    show J7 5 (V.int (t % (if (((ZW n A row).map V.int).length:Int)>1 then (((ZW n A row).map V.int).length:Int) else 1))) _ _ _;rw [hnl,hM,hm];refine ⟨_,rfl,_,rfl,(m:Int),rfl,l5,_,rfl,SqL.of h5,fun l7 hl7=>?_⟩;rw [ZcX _ (by rw [hnl]; exact hml)];have s7:Same H5 (upd H5 l7 (.lst (((ZW n A row).map V.int).drop m))):=Same.new hl7;refine ⟨_,rfl,_,rfl,(m:Int),rfl,l5,_,rfl,SqL.of (s7 _ _ h5),fun l8 hl8=>?_⟩;rw [ZgS _ (by rw [hnl]; exact hml)];have s8:Same (upd H5 l7 (.lst (((ZW n A row).map V.int).drop m))) (upd (upd H5 l7 (.lst (((ZW n A row).map V.int).drop m))) l8 (.lst (((ZW n A row).map V.int).take m))):=Same.new hl8;refine ⟨l7,l8,_,_,rfl,rfl,s8 _ _ Zb,Zb,Zy (by rw [QBn,QAu,hnl]; exact O401 h8 htl hrl htl' hlt hpl2 hnl hml),fun l9 hl9=>?_⟩;have s9:=(s7.trans s8).trans (Same.new (o:=.lst (((ZW n A row).map V.int).drop m++((ZW n A row).map V.int).take m)) hl9);have h9:(upd (upd (upd H5 l7 (.lst (((ZW n A row).map V.int).drop m))) l8 (.lst (((ZW n A row).map V.int).take m))) l9 (.lst (((ZW n A row).map V.int).drop m++((ZW n A row).map V.int).take m))) l9=some (.lst (((ZW n A row).map V.int).drop m++((ZW n A row).map V.int).take m)):=Zb;generalize upd (upd (upd H5 l7 (.lst (((ZW n A row).map V.int).drop m))) l8 (.lst (((ZW n A row).map V.int).take m))) l9 (.lst (((ZW n A row).map V.int).drop m++((ZW n A row).map V.int).take m))=H9 at s9 h9 ⊢;have memx:∀ y:V,y∈((ZW n A row).map V.int).drop m++((ZW n A row).map V.int).take m↔y∈(ZW n A row).map V.int:=fun y=>by
     conv=>rhs; rw [<- QCn m ((ZW n A row).map V.int)]
     rw [QCu,QCu,or_comm]
    generalize ((ZW n A row).map V.int).drop m++((ZW n A row).map V.int).take m=xs at h9 memx ⊢;have sH9:=s45.trans s9;refine ⟨l9,rfl,⟨_,SqL.of h9⟩,ZcS (xs:=xs) (Zf2 aA ar at_ n A row l5 m H9 xs)
     ⟨none,none,rfl,Same.refl _,fun j h=>absurd h (QDs _)⟩ (fun i σ H7 _ zz0=> by obtain ⟨_,_,_,s7,_⟩ := zz0; exact SqL.of (s7 _ _ h9)) ?_ ?_⟩
    ·rintro i y σ H7 hy ⟨v6,v7,rfl,s7,hno⟩;obtain ⟨x,hxm,rfl⟩:=QZd.mp ((memx y).mp (QAt hy));have sH7:=sH9.trans s7;refine ⟨_,rfl,_,rfl,_,rfl,(show 1<=sizeLine from Zy (by decide)),fun lA hlA=>?_⟩;have sA:Same H7 (upd H7 lA (.lst [.int x])):=Same.new hlA;refine ⟨ar,lA,_,_,rfl,rfl,sA _ _ (sH7 _ _ hrow),Zb,by rw [hrl]; exact Zy (by simp; exact Om.b2 ‹_› ‹_› rfl),fun lB hlB=>?_⟩;have sB:Same (upd H7 lA (.lst [.int x])) (upd (upd H7 lA (.lst [.int x])) lB (.lst (row.map V.int++[.int x]))):=Same.new hlB;have sAB:=sA.trans sB;refine ⟨_,rfl,aA,lB,at_,n,A,row++[x],ts,rfl,hA.same (sH7.trans sAB),hAn,hA8,by rw [Zb,QAn]; rfl,pr.next hlt hxm,h8,sAB _ _ (sH7 _ _ hts),htl,by rw [QAo]; simp; exact O400 htl hk htl' hlt hnl,fun p HC r sC hp o pf=>?_,fun HC sC hnone=>?_⟩
     ·refine ⟨_,rfl,_,rfl,ZbR ⟨_,rfl,?_⟩⟩;exact q1 p HC r (sH7.trans (sAB.trans sC)) hp o (List.IsPrefix.trans (List.prefix_append _ _) pf)
     ·refine ⟨_,rfl,_,rfl,YZ ⟨_,_,rfl,s7.trans (sAB.trans sC),fun j hj z hz r o pf=>?_⟩⟩
      by_cases e:j<i
      ·exact hno j e z hz r o pf
      ·have ej:j=i:=by exact O399 hj e
       subst ej;rw [hy] at hz
       cases hz;exact hnone r o pf
    ·rintro σ H7 ⟨v6,v7,rfl,s7,hno⟩;refine q2 H7 (sH9.trans s7) fun r o pf=>?_;obtain ⟨x,hx,pf2⟩:=Zkw hlt o pf;obtain ⟨j,hj,hje⟩:=QBe ((memx _).mpr (QZd.mpr ⟨x,hx,rfl⟩));exact hno j hj x (by rw [QAb hj,hje]) r o pf2
end
end My
namespace My
open PySem L2
inductive Zli (vs:List V) (H:Hp) (Q:VK):Prop where
 | mk (n:Nat) (z:Int) (_:vs=[.int (n:Int),.int z]) (_:1<=n) (_:n<=8) (_:∀ (l:Addr) (R:List (List Int)) (H':Hp),Same H H'->LLs H' l R->OkRows n R->R.length=n->Q (.ref l) H'):Zli vs H Q
noncomputable def Zj5:Sp:=fun vs H Q _=>Zli vs H Q
section
variable {P:Program} {w:World} {K:QZa} {mg:Str->Option Value} {base:Heap}
theorem scByRows:Zs ["_law_n","_law_number_here","_law_rows","_law_row_here","_law_digits","_law_column"] ["_law_n","_law_number_here"] (Zd JR):=⟨rfl,rfl,rfl,by decide +kernel,rfl,by decide +kernel,by decide +kernel⟩
inductive Zf1 (H:Hp) (n:Nat) (lr:Addr) (i:Nat) (σ:St) (H2:Hp):Prop where
 | mk (z:Int) (v3 v4 v5:Option V) (R:List (List Int)) (_:σ=[some (.int (n:Int)),some (.int z),some (.ref lr),v3,v4,v5]) (_:Same H H2) (_:LLs H2 lr R) (_:OkRows n R) (_:R.length=i):Zf1 H n lr i σ H2
inductive Zf0 (n:Nat) (lr:Addr) (i:Nat) (H2:Hp) (ld:Addr) (j:Nat) (σ:St) (H3:Hp):Prop where
 | mk (z:Int) (v5:Option V) (ts:List Int) (_:σ=[some (.int (n:Int)),some (.int z),some (.ref lr),some (.int (i:Int)),some (.ref ld),v5]) (_:Same H2 H3) (_:H3 ld=some (.lst (ts.map V.int))) (_:ts.length=j):Zf0 n lr i H2 ld j σ H3
theorem Zib {f fR:Addr} {fd dR:FuncData} (F:Fun K "_law_by_rows" "_law_by_rows" JR f fd) (T:Blt mg) (DR:Dfn K mg "_law_row" Zem ["_law_rows","_law_made","_law_digits"] fR dR):FnOk P w K mg base CX0 10 f fd ["_law_n","_law_number_here"] Zj5:=by
 have GR:FnOk P w K mg base CX0 9 fR dR ["_law_rows","_law_made","_law_digits"] (Zk8 9):=Zi4 DR T 9;refine F.ok scByRows (fun vs H Q E h=>?_) (fun cdv A outer s H vs Q E hr h=>?_)
 ·obtain ⟨_,_,rfl,_⟩:=h
  rfl
 ·obtain ⟨n,z,rfl,h1,h8,q⟩:=h
  refine' ⟨_,Ze (Zk (i:=2) scByRows.nd rfl (Or.inl rfl) (Yd Zc)) (Ze (Yv PassesOwn.never rfl (Zx rfl T.range (Za (pv 0) Zc)) (ZJ (i:=3) scByRows.nd rfl (Or.inl rfl)) (Ze (Zk (i:=4) scByRows.nd rfl (Or.inl rfl) (Yd Zc)) (Ze (Yv PassesOwn.never rfl (Zx rfl T.range (Za (pv 0) Zc)) (ZJ (i:=5) scByRows.nd rfl (Or.inl rfl)) (Ze ?c0 (Zf ?c1))) (Zf ?b2)))) (Zf (Zq (pv 2)))),?rd⟩
  case c0=>exact Yz (Jr PySem.F.plainAttrs_list PySem.F.slot_list_append PySem.F.type_list_append Ya (pv 4) (Za (Zj Z3 (pv 1) Zh) Zc))
  case c1=>exact Zk (i:=1) scByRows.nd rfl (Or.inl rfl) (Zj Ys (pv 1) Zh)
  case b2=>exact Yz (Jr PySem.F.plainAttrs_list PySem.F.slot_list_append PySem.F.type_list_append Ya (pv 2) (Za (Zm GR hr rfl DR.m DR.F.kp DR.b .nil ZF (Za (pv 2) (Za (Yd Zc) (Za (pv 4) Zc)))) Zc))
  case rd =>
   refine ⟨QAh _,fun lr hlr=>?_⟩;refine ⟨_,rfl,(n:Int),rfl,by exact Om.c2,by exact Om.c1 ‹_› rfl,?_⟩;rw [QAf];refine Ym (lo:=0) (n:=n) (Zf1 H n lr)
    ⟨z,none,none,none,[],rfl,Same.new hlr,⟨[],Zb,.nil⟩,⟨QAh _,(fun r h=>by cases h),fun c _=>QBr⟩,rfl⟩ ?_ ?_
   ·rintro i σ H2 hi ⟨z,v3,v4,v5,R,rfl,s2,hL,ok,hRl⟩;rw [QBw];refine ⟨QAh _,fun ld hld=>?_⟩;refine ⟨_,rfl,(n:Int),rfl,by exact Om.c2,by exact Om.c1 ‹_› rfl,?_⟩;rw [QAf];refine Ym (lo:=0) (n:=n) (Zf0 n lr i H2 ld)
     ⟨z,_,[],rfl,Same.new hld,Zb,rfl⟩ ?_ ?_
    ·rintro j σ H3 hj ⟨z,v5,ts,rfl,s3,h3,htl⟩;rw [QBw];refine ⟨_,rfl,.inl ⟨rfl,_,SqL.of h3⟩,_,rfl,_,_,rfl,rfl,(by show (0:Int)<6; decide),ld,_,_,rfl,rfl,h3,by rw [QAa]; exact Zw (by exact Om.b5 ‹_› ‹_› ‹_› rfl),?_⟩;refine ⟨_,rfl,_,_,rfl,rfl,⟨by decide,by decide⟩,_,_,ts++[z % 6],rfl,fun b u e=>?_,by rw [Zb,QAn]; rfl,by rw [QAo,htl]; rfl⟩;rw [Zg (Zi e hld)];exact s3 _ _ e
    ·rintro σ H3 ⟨z,v5,ts,rfl,s3,h3,htl⟩;have hL3:=hL.same s3;obtain ⟨ps,hps,hPs⟩:=id hL3;have hpl:(ps.map V.ref).length=R.length:=by rw [QAa,hPs.length]
     refine ⟨_,rfl,.inl ⟨rfl,_,SqL.of hps⟩,_,rfl,QAh _,fun l5 hl5=>?_⟩;have s5:Same H3 (upd H3 l5 (.lst [])):=Same.new hl5;refine ⟨_,rfl,lr,l5,ld,n,R,[],ts,rfl,hL3.same s5,fun o ho=>(ok.row o ho).1,by exact Om.b5 ‹_› ‹_› ‹_› rfl,Zb,PRow.nil n R,h8,s5 _ _ h3,htl,by simp; exact Om.f3 ‹_›,fun p H7 r s7 hp o _=>?_,fun H7 s7 hno=>?_⟩
     ·have hR7:=hL3.same (s5.trans s7);obtain ⟨ps7,hps7,hPs7⟩:=hR7;have e7:ps7.map V.ref=ps.map V.ref:=by
       have:=(s5.trans s7) _ _ hps;rw [hps7] at this
       injection this with this
       injection this
      refine ⟨lr,_,_,rfl,rfl,hps7,by rw [e7,hpl]; exact Zw (by exact Om.b5 ‹_› ‹_› ‹_› rfl),_,_,_,_,R++[r],rfl,fun b u e=>?_,?_,o.more ok (by exact Om.x1 ‹_› ‹_›),by rw [QAo,hRl]; rfl⟩
      ·rw [Zg (Zi e hlr)];exact s7 _ _ (s5 _ _ (s3 _ _ (s2 _ _ e)))
      ·refine LLs.push hps7 hPs7 (fun x hx=>?_) ?_ hp
       ·have:=(ok.row x hx).1;exact fun z=>by rw [z] at this; simp at this; exact O398 h1 h8 htl this
       ·have:=o.len;exact fun z=>by rw [z] at this; simp at this; exact O398 h1 h8 htl this
     ·obtain ⟨r,hr'⟩:=Zgq ok (by exact Om.x1 ‹_› ‹_›);exact (hno r hr' List.nil_prefix).elim
   ·rintro σ H2 ⟨z,v3,v4,v5,R,rfl,s2,hL,ok,hRl⟩;exact ⟨_,rfl,q lr R H2 s2 hL ok hRl⟩
theorem scByRings:Zs ["_law_n","_law_number_here","_law_rows","_law_turn_here","_law_one","_law_other"] ["_law_n","_law_number_here"] (Zd Jq):=⟨rfl,rfl,rfl,by decide +kernel,rfl,by decide +kernel,by decide +kernel⟩
inductive ZfZ (H:Hp) (n:Nat) (l:Addr) (ps:List Addr) (i:Nat) (σ:St) (H2:Hp):Prop where
 | mk (z:Int) (v3 v4 v5:Option V) (R:List (List Int)) (_:σ=[some (.int (n:Int)),some (.int z),some (.ref l),v3,v4,v5]) (_:Same H H2) (_:MG H2 l ps R) (_:OkRows n R) (_:R.length=n):ZfZ H n l ps i σ H2
theorem ZgF {f fB fA:Addr} {fd dB dA:FuncData} (F:Fun K "_law_by_rings" "_law_by_rings" Jq f fd) (T:Blt mg) (DB:Dfn K mg "_law_base" Zbd ["_law_n","_law_number_here"] fB dB) (DA:Dfn K mg "_law_along" Zaf ["_law_rows","_law_one","_law_other","_law_column"] fA dA):FnOk P w K mg base CX0 2 f fd ["_law_n","_law_number_here"] Zj5:=by
 have GB:FnOk P w K mg base CX0 1 fB dB ["_law_n","_law_number_here"] ZiH:=Zku DB.F T;have GA:FnOk P w K mg base CX0 1 fA dA ["_law_rows","_law_one","_law_other","_law_column"] Zhc:=Zja DA.F T;refine F.ok scByRings (fun vs H Q E h=>?_) (fun cdv A outer s H vs Q E hr h=>?_)
 ·obtain ⟨_,_,rfl,_⟩:=h
  rfl
 ·obtain ⟨n,z,rfl,h1,h8,q⟩:=h
  refine' ⟨_,Ze ?s0 (Ze ?s1 (Ze (Yv PassesOwn.never rfl (Zx rfl T.range (Za (Zj Z3 (pv 1) Zh) Zc)) (ZJ (i:=3) scByRings.nd rfl (Or.inl rfl)) (Ze ?b0 (Ze ?b1 (Ze ?b2 (Zf (Yy ?c (Zf ?d) ZR)))))) (Zf (Zq (pv 2))))),?rd⟩
  case s0=>exact Zk (i:=2) scByRings.nd rfl (Or.inl rfl) (Zm GB hr rfl DB.m DB.F.kp DB.b .nil ZF (Za (pv 0) (Za (pv 1) Zc)))
  case s1=>exact Zk (i:=1) scByRings.nd rfl (Or.inl rfl) (Zj Ys (pv 1) Zh)
  case b0=>exact Zk (i:=1) scByRings.nd rfl (Or.inl rfl) (Zj Ys (pv 1) Zh)
  case b1=>exact Zk (i:=4) scByRings.nd rfl (Or.inl rfl) (Zj Z3 (pv 1) (pv 0))
  case b2=>exact Zk (i:=5) scByRings.nd rfl (Or.inl rfl) (Zj Z3 (Zj Yj (Zj Yj (pv 4) Zh) (Zj Z3 (Zj Ys (pv 1) (pv 0)) (Zl (ZbX rfl) rfl T.max PyProof.Rows.boot_max (Za Zh (Za (Zj ZgB (pv 0) Zh) Zc))))) (pv 0))
  case c=>exact ZC Zhl (pv 4) (pv 5) (ZV _)
  case d=>exact Zk (i:=2) scByRings.nd rfl (Or.inl rfl) (Zm GA hr rfl DA.m DA.F.kp DA.b .nil ZF (Za (pv 2) (Za (pv 4) (Za (pv 5) (Za (Zj Z3 (Zj Ys (Zj Ys (pv 1) (pv 0)) (Zl (ZbX rfl) rfl T.max PyProof.Rows.boot_max (Za Zh (Za (Zj ZgB (pv 0) Zh) Zc)))) (pv 0)) Zc)))))
  case rd =>
   refine ⟨_,rfl,_,rfl,n,z,rfl,h1,h8,fun l ps R H1 s1 hl hfr M1 ok hRl=>?_⟩;refine ⟨_,rfl,_,_,rfl,rfl,⟨by decide,by decide⟩,?_⟩;obtain ⟨m,hm,hm7⟩:∃ m:Nat,z / 3 % 7=(m:Int)/\m<7:=⟨(z / 3 % 7).toNat,by exact O397 ,by exact O396 ⟩;refine ⟨_,rfl,_,_,rfl,rfl,(by show (0:Int)<7; decide),(m:Int),?_,by exact Om.c2,by exact O395 hm,?_⟩
   ·show [V.int (z / 3 % 7)]=_;rw [hm]
   rw [QAf];refine Ym (lo:=0) (n:=m) (ZfZ H n l ps)
    ⟨_,none,none,none,R,rfl,s1,M1,ok,hRl⟩ ?_ ?_
   ·clear M1 ok hRl;rintro i σ H2 hi ⟨z,v3,v4,v5,R,rfl,s2,M2,ok,hRl⟩;rw [QBw];refine ⟨_,rfl,_,_,rfl,rfl,⟨by decide,by decide⟩,?_⟩;generalize hz:z / 7=y;obtain ⟨o1,e1,ho1⟩:∃ o1:Nat,y % (n:Int)=(o1:Int)/\o1<n:=⟨(y % (n:Int)).toNat,by have:=QCq y (show (n:Int)≠0 by exact O394 h1 h8 hRl); exact Om.z1 ‹_›,by have:=QDw y (show (0:Int)<n by exact Om.c3 ‹_›); have:=QCq y (show (n:Int)≠0 by exact O394 h1 h8 hRl); omega⟩;obtain ⟨M,hM,hM1,hM2⟩:∃ M:Int,(if (n:Int) - 1>1 then (n:Int) - 1 else 1)=M/\0<M/\M<=8:=by
     refine ⟨_,rfl,?_,?_⟩
     ·split <;> omega
     ·split <;> omega
    refine ⟨_,rfl,_,rfl,_,_,rfl,rfl,(by show (0:Int)<(n:Int); exact Om.c3 ‹_›),?_⟩;show J7 4 (V.int (y % (n:Int))) _ _ _;rw [e1];obtain ⟨o2,e2,ho2⟩:∃ o2:Nat,((o1:Int)+1+y / (n:Int) % M) % (n:Int)=(o2:Int)/\o2<n:=⟨(((o1:Int)+1+y / (n:Int) % M) % (n:Int)).toNat,by have:=QCq ((o1:Int)+1+y / (n:Int) % M) (show (n:Int)≠0 by exact O394 h1 h8 hRl); exact Om.z1 ‹_›,by have:=QDw ((o1:Int)+1+y / (n:Int) % M) (show (0:Int)<n by exact Om.c3 ‹_›); have:=QCq ((o1:Int)+1+y / (n:Int) % M) (show (n:Int)≠0 by exact O394 h1 h8 hRl); omega⟩;refine ⟨_,rfl,_,_,rfl,rfl,_,rfl,_,rfl,_,_,rfl,rfl,⟨(by show (0:Int)<(n:Int); exact Om.c3 ‹_›),(by show (n:Int)<1073741824; exact O393 h1 h8 hRl)⟩,_,rfl,_,_,rfl,rfl,1,_,rfl,_,_,rfl,rfl,(by rw [hM]; exact hM1),_,_,rfl,rfl,_,rfl,_,_,rfl,rfl,(by show (0:Int)<(n:Int); exact Om.c3 ‹_›),?_⟩;show J7 5 (V.int (((o1:Int)+1+y / (n:Int) % (if (n:Int) - 1>1 then (n:Int) - 1 else 1)) % (n:Int))) _ _ _;rw [hM,e2];refine ⟨_,rfl,_,rfl,rfl,_,rfl,ZaA (fun hd=>?_) (fun _=>⟨_,_,_,_,R,rfl,s2,M2,ok,hRl⟩)⟩;have hne:o1≠o2:=fun e=>by
     rw [e,QZh rfl] at hd
     cases hd
    obtain ⟨c0,e3,hc0⟩:∃ c0:Nat,y / (n:Int) / M % (n:Int)=(c0:Int)/\c0<n:=⟨(y / (n:Int) / M % (n:Int)).toNat,by have:=QCq (y / (n:Int) / M) (show (n:Int)≠0 by exact O394 h1 h8 hRl); exact Om.z1 ‹_›,by have:=QDw (y / (n:Int) / M) (show (0:Int)<n by exact Om.c3 ‹_›); have:=QCq (y / (n:Int) / M) (show (n:Int)≠0 by exact O394 h1 h8 hRl); omega⟩;refine ⟨_,rfl,_,rfl,_,rfl,_,rfl,_,rfl,_,_,rfl,rfl,⟨(by show (0:Int)<(n:Int); exact Om.c3 ‹_›),(by show (n:Int)<1073741824; exact O393 h1 h8 hRl)⟩,_,rfl,_,_,rfl,rfl,1,_,rfl,_,_,rfl,rfl,⟨(by rw [hM]; exact hM1),(by rw [hM]; exact O392 hM1 hM2)⟩,_,rfl,_,_,rfl,rfl,(by show (0:Int)<(n:Int); exact Om.c3 ‹_›),l,ps,n,o1,o2,c0,R,?_,M2,ok,hRl,h8,ho1,ho2,hne,hc0,fun H3 k3 M3=>?_⟩
    ·show [V.ref l,V.int (o1:Int),V.int (o2:Int),V.int (y / (n:Int) / (if (n:Int) - 1>1 then (n:Int) - 1 else 1) % (n:Int))]=_;rw [hM,e3]
    ·obtain ⟨ok3,hl3⟩:=ZmQ ok hRl ho1 ho2 hc0;exact ⟨_,_,_,_,_,rfl,fun b u e=>k3 b u (fun z=>by rw [hfr b z] at e; cases e) (s2 _ _ e),M3,ok3,hl3⟩
   ·rintro σ H2 ⟨z,v3,v4,v5,R,rfl,s2,M2,ok,hRl⟩;exact ⟨_,rfl,q l R H2 s2 ⟨ps,M2.out,M2.rows⟩ ok hRl⟩
end
end My
namespace My
open PySem L2
structure ZmT (n:Nat) (R:List (List Int)) (x:Nat->Nat):Prop where
 h0:x 0<n
 h1:x 1<n
 h2:x 2<n
 e:ent R (x 0) (x 1)=((x 2:Nat):Int)
noncomputable def e3 (R:List (List Int)) (i j:Nat):Nat->Nat
 | 0=>i
 | 1=>j
 | _=>(ent R i j).toNat
theorem Zcj {n:Nat} {R:List (List Int)} (ok:OkRows n R) (hl:R.length=n) {i j:Nat} (hi:i<n) (hj:j<n):0<=ent R i j/\ent R i j<(n:Int):=(YB ok hl hi).val hj
theorem Zj0 {n:Nat} {R:List (List Int)} (ok:OkRows n R) (hl:R.length=n) {i j:Nat} (hi:i<n) (hj:j<n):ZmT n R (e3 R i j):=by
 have h:=Zcj ok hl hi hj;exact ⟨hi,hj,show (ent R i j).toNat<n by exact O380 hj h,show ent R i j=(((ent R i j).toNat:Nat):Int) by exact O41 h⟩
section
variable {n:Nat} {R F G:List (List Int)} {rl rl':List Nat}
end
noncomputable def ZY (n:Nat) (R Rn:List (List Int)):List (List Int):=mk n fun i j=>(Rn.getD 2 []).getD (ent R (ixo (Rn.getD 0 []) i) (ixo (Rn.getD 1 []) j)).toNat 0
section
variable {n:Nat} {R Rn F:List (List Int)} {rl:List Nat}
theorem Zht {r:List Int} (t:Turn n r) {i j:Nat} (hi:i<n) (hj:j<n) (e:ixo r i=ixo r j):i=j:=by
 have h1:=(Y0 t hi).2;have h2:=(Y0 t hj).2;unfold ixo at e;rw [e,h2] at h1;omega
theorem Jj (ok:OkRows n R) (hl:R.length=n) (rn:Ren n Rn):OkRows n (ZY n R Rn)/\(ZY n R Rn).length=n:=by
 have t0:=rn.at (k:=0) (by decide);have t1:=rn.at (k:=1) (by decide);have t2:=rn.at (k:=2) (by decide);have rg:∀ i j,i<n->j<n->∃ x:Nat,ent R (ixo (Rn.getD 0 []) i) (ixo (Rn.getD 1 []) j)=(x:Int)/\x<n:=fun i j hi hj=>by
  have:=Zcj ok hl (Z4 t0 hi) (Z4 t1 hj);exact ⟨(ent R (ixo (Rn.getD 0 []) i) (ixo (Rn.getD 1 []) j)).toNat,by exact O41 this,by exact O380 hj this⟩
 refine Zla (fun i j hi hj=>?_) (fun i j k hi hj hk e=>?_) (fun i j k hi hj hk e=>?_)
 ·obtain ⟨x,ex,hx⟩:=rg i j hi hj;rw [ex,QAf];obtain ⟨y,ey,hy⟩:=t2.val hx;rw [ey];exact O391 hy
 ·obtain ⟨x,ex,hx⟩:=rg i j hi hj;obtain ⟨y,ey,hy⟩:=rg i k hi hk;rw [ex,ey,QAf,QAf] at e;have:=t2.inj hx hy e;refine Zht t1 hj hk ((YB ok hl (Z4 t0 hi)).inj (Z4 t1 hj) (Z4 t1 hk) ?_);show ent R _ _=ent R _ _;rw [ex,ey,this]
 ·obtain ⟨x,ex,hx⟩:=rg i k hi hk;obtain ⟨y,ey,hy⟩:=rg j k hj hk;rw [ex,ey,QAf,QAf] at e;have:=t2.inj hx hy e;exact Zht t0 hi hj (Zbv ok hl (Z4 t0 hi) (Z4 t0 hj) (Z4 t1 hk) (by rw [ex,ey,this]))
noncomputable def rnE (Rn:List (List Int)) (x:Nat->Nat) (k:Nat):Nat:=((Rn.getD k []).getD (x k) 0).toNat
theorem Zgr (rn:Ren n Rn) {x:Nat->Nat} {k:Nat} (hk:k<3) (hx:x k<n):(Rn.getD k []).getD (x k) 0=((rnE Rn x k:Nat):Int)/\rnE Rn x k<n/\ixo (Rn.getD k []) (rnE Rn x k)=x k:=by
 obtain ⟨y,ey,hy⟩:=(rn.at hk).val hx;have e:rnE Rn x k=y:=by
  unfold rnE;rw [ey,QAf]
 rw [e];exact ⟨ey,hy,Jf (rn.at hk) hx hy ey⟩
theorem Zh3 (rn:Ren n Rn) (ok:OkRows n R) (hl:R.length=n) {x:Nat->Nat} (t:ZmT n R x):ent (ZY n R Rn) (rnE Rn x 0) (rnE Rn x 1)=((rnE Rn x 2:Nat):Int):=by
 obtain ⟨_,a1,a2⟩:=Zgr rn (x:=x) (k:=0) (by decide) t.h0;obtain ⟨_,b1,b2⟩:=Zgr rn (x:=x) (k:=1) (by decide) t.h1;obtain ⟨c0,_,_⟩:=Zgr rn (x:=x) (k:=2) (by decide) t.h2;unfold ZY;rw [ZlO a1 b1,a2,b2,t.e,QAf];exact c0
end
theorem Zbj {H:Hp}:∀ {ps:List Addr} {R:List (List Int)},Paired (fun p row=>H p=some (.tup row)) ps (R.map fun r=>r.map V.int)->Paired (fun p (r:List Int)=>H p=some (.tup (r.map V.int))) ps R
 | _,[],.nil=>.nil
 | _,_::_,.cons h t=>.cons h (Zbj t)
theorem ZcB {H:Hp}:∀ {ps:List Addr} {R:List (List Int)},Paired (fun p (r:List Int)=>H p=some (.tup (r.map V.int))) ps R->Paired (fun p row=>H p=some (.tup row)) ps (R.map fun r=>r.map V.int)
 | _,_,.nil=>.nil
 | _,_,.cons h t=>.cons h (ZcB t)
theorem GridT.tg {H:Hp} {a:Addr} {R:List (List Int)} (g:GridT H a (R.map fun r=>r.map V.int)):TG H a R :=
 let ⟨ps,h,r⟩:=g
 ⟨ps,h,Zbj r⟩
theorem TG.grid {H:Hp} {a:Addr} {R:List (List Int)} (g:TG H a R):GridT H a (R.map fun r=>r.map V.int) :=
 let ⟨ps,h,r⟩:=g
 ⟨ps,h,ZcB r⟩
theorem Zl5 {n:Nat} {R:List (List Int)} (ok:OkRows n R) (hl:R.length=n) {i j:Nat} (hi:i<n) (hj:j<n):en (R.map fun r=>r.map V.int) i j=V.int (ent R i j):=by
 have h1:i<R.length:=by exact Om.a1 ‹_› ‹_›
 have h2:j<R[i].length:=by rw [(ok.row _ (QAq h1)).1]; exact hj
 unfold en ent;rw [QAc (l:=R.map fun r=>r.map V.int),QAe,QAb h1,QAc (l:=R),QAb h1];show (R[i].map V.int).getD j .non=V.int (R[i].getD j 0);rw [QAc,QAe,QAb h2,QAc,QAb h2]
 rfl
theorem ZlN {n:Nat} (f:Nat->Nat->Int):(mk n f).map (fun r=>r.map V.int)=mkB n fun i j=>V.int (f i j):=by
 unfold mk mkB;rw [QBa];refine QBx fun i _=>?_;show ((List.range n).map fun c=>f i c).map V.int=_;rw [QBa]
 rfl
theorem YW {n:Nat} {R Rn:List (List Int)} (ok:OkRows n R) (hl:R.length=n) (rn:Ren n Rn):YX n (R.map fun r=>r.map V.int) Rn=(ZY n R Rn).map fun r=>r.map V.int:=by
 unfold ZY;rw [ZlN];unfold YX;refine ZbO fun i j hi hj=>?_;rw [Zl5 ok hl (Z4 (rn.at (by decide)) hi) (Z4 (rn.at (by decide)) hj)]
 rfl
end My
namespace My
open PySem L2
theorem ZaP {n:Nat} {R:List (List Int)} (ok:OkRows n R) (hl:R.length=n):EG n (R.map fun r=>r.map V.int):=by
 have row:∀ i (h:i<R.length),(R.map fun r=>r.map V.int).getD i []=R[i].map V.int:=fun i h=>by
  rw [QAc,QAe,QAb h]
  rfl
 refine ⟨by rw [QAa,hl],fun i hi=>?_,fun i j hi hj=>?_⟩
 ·rw [row i (by exact Om.a1 ‹_› ‹_›),QAa];exact (ok.row _ (QAq _)).1
 ·obtain ⟨h1,h2,h3⟩:=ok.row (R[i]'(by exact Om.a1 ‹_› ‹_›)) (QAq _);unfold en;rw [row i (by exact Om.a1 ‹_› ‹_›),QAc,QAe,QAb (by exact Om.a1 ‹_› ‹_›)];have:=h3 ((R[i]'(by exact Om.a1 ‹_› ‹_›))[j]'(by exact Om.a1 ‹_› ‹_›)) (QAq _);refine .inr ⟨((R[i]'(by exact Om.a1 ‹_› ‹_›))[j]'(by exact Om.a1 ‹_› ‹_›)).toNat,?_,by exact O390 hl hi hj h1 this⟩;show V.int _=V.int _
  congr 1
  exact O389 hl hi hj h1 this
inductive ZdZ (K:QZa) (vs:List V) (H:Hp) (Q:VK):Prop where
 | mk (a:Addr) (ns:List Int) (k n:Nat) (_:vs=[.ref a,.int (k:Int),.int (n:Int)]) (_:SqL K H a (ns.map V.int)) (_:1<=n) (_:n<=8) (_:∀ (t:Addr) (H':Hp) (R:List (List Int)),Same H H'->TG H' t R->OkRows n R->R.length=n->Q (.ref t) H'):ZdZ K vs H Q
noncomputable def ZeR (K:QZa):Sp:=fun vs H Q _=>ZdZ K vs H Q
section
variable {P:Program} {w:World} {K:QZa} {mg:Str->Option Value} {base:Heap}
structure SqD (K:QZa) (mg:Str->Option Value) (fC fN fT fR fL fB fA fW fM fG:Addr) (dC dN dT dR dL dB dA dW dM dG:FuncData):Prop where
 C:Dfn K mg "_law_cell_at" Zat ["_law_script","_law_k"] fC dC
 N:Dfn K mg "_law_number" Jv ["_law_script","_law_k"] fN dN
 T:Dfn K mg "_law_turn" ZaU ["_law_n","_law_number_here"] fT dT
 R:Dfn K mg "_law_renaming" YR ["_law_script","_law_k","_law_n"] fR dR
 L:Dfn K mg "_law_renamed" Zbc ["_law_begun","_law_renaming_here"] fL dL
 B:Dfn K mg "_law_base" Zbd ["_law_n","_law_number_here"] fB dB
 A:Dfn K mg "_law_along" Zaf ["_law_rows","_law_one","_law_other","_law_column"] fA dA
 W:Dfn K mg "_law_row" Zem ["_law_rows","_law_made","_law_digits"] fW dW
 M:Dfn K mg "_law_by_rows" JR ["_law_n","_law_number_here"] fM dM
 G:Dfn K mg "_law_by_rings" Jq ["_law_n","_law_number_here"] fG dG
variable {fC fN fT fR fL fB fA fW fM fG:Addr} {dC dN dT dR dL dB dA dW dM dG:FuncData}
theorem scSquare:Zs ["_law_script","_law_k","_law_n","_law_number_here","_law_rows"] ["_law_script","_law_k","_law_n"] (Zd JP):=⟨rfl,rfl,rfl,by decide +kernel,rfl,by decide +kernel,by decide +kernel⟩
inductive ZfY (R:List (List Int)) (H2:Hp) (lk:Addr) (i:Nat) (ys:List V) (σ:St) (H':Hp):Prop where
 | mk (v:Option V) (qs:List Addr) (_:σ=[v]) (_:ys=qs.map V.ref) (_:Same H2 H') (_:H' lk=some (.lst ys)) (_:Paired (fun p row=>H' p=some (.tup row)) qs ((R.map fun r=>r.map V.int).take i)):ZfY R H2 lk i ys σ H'
theorem Zh8 {f:Addr} {fd:FuncData} (F:Fun K "_law_square" "_law_square" JP f fd) (T:Blt mg) (Z:SqD K mg fC fN fT fR fL fB fA fW fM fG dC dN dT dR dL dB dA dW dM dG):FnOk P w K mg base CX0 11 f fd ["_law_script","_law_k","_law_n"] (ZeR K):=by
 have GN:FnOk P w K mg base CX0 10 fN dN ["_law_script","_law_k"] (ZbF K):=(Zdz Z.N.F T Z.C).mono (by decide);have GM:FnOk P w K mg base CX0 10 fM dM ["_law_n","_law_number_here"] Zj5:=Zib Z.M.F T Z.W;have GG:FnOk P w K mg base CX0 10 fG dG ["_law_n","_law_number_here"] Zj5:=(ZgF Z.G.F T Z.B Z.A).mono (by decide);have GR:FnOk P w K mg base CX0 10 fR dR ["_law_script","_law_k","_law_n"] (Zcr K):=(Zfd Z.R.F T Z.C Z.N Z.T).mono (by decide);have GL:FnOk P w K mg base CX0 10 fL dL ["_law_begun","_law_renaming_here"] J3:=(Zhm Z.L.F T).mono (by decide);refine F.ok scSquare (fun vs H Q E h=>?_) (fun cdv A outer s H vs Q E hr h=>?_)
 ·obtain ⟨_,_,_,_,rfl,_⟩:=h
  rfl
 ·obtain ⟨a,ns,k,n,rfl,hS,h1,h8,q⟩:=h
  refine' ⟨_,Ze ?s0 (Ze (Yy ?c (Zf ?d0) (Zf ?d1)) (Zf (Zq ?r))),?rd⟩
  case s0=>exact Zk (i:=3) scSquare.nd rfl (Or.inl rfl) (Zm GN hr rfl Z.N.m Z.N.F.kp Z.N.b .nil ZF (Za (pv 0) (Za (pv 1) Zc)))
  case c=>exact ZC Zay (Zj Z3 (pv 3) Zh) Zh (ZV _)
  case d0=>exact Zk (i:=4) scSquare.nd rfl (Or.inl rfl) (Zm GM hr rfl Z.M.m Z.M.F.kp Z.M.b .nil ZF (Za (pv 2) (Za (Zj Ys (pv 3) Zh) Zc)))
  case d1=>exact Zk (i:=4) scSquare.nd rfl (Or.inl rfl) (Zm GG hr rfl Z.G.m Z.G.F.kp Z.G.b .nil ZF (Za (pv 2) (Za (Zj Ys (pv 3) Zh) Zc)))
  case r=>exact Zm GL hr rfl Z.L.m Z.L.F.kp Z.L.b .nil ZF (Za (Zp (Zv K) rfl T.tuple ZI (Za (Yi ["_law_row_here"] [none] rfl rfl (Z2 K (pv 4)) (fun _ _ _ _ _=>Yw 0) (fun _ _ _ _ _=>ZB) (fun _ _ _ _ _=>Zp (Zv K) rfl T.tuple ZI (Za (pv 0) Zc))) Zc)) (Za (Zm GR hr rfl Z.R.m Z.R.F.kp Z.R.b .nil ZF (Za (pv 0) (Za (Zj Yj (pv 1) Zh) (Za (pv 2) Zc)))) Zc))
  case rd =>
   refine ⟨_,rfl,_,rfl,a,ns,k,rfl,hS,fun z=>?_⟩;refine ⟨_,rfl,_,_,rfl,rfl,(by show (0:Int)<2; decide),rfl,_,rfl,?_⟩;refine ZaA (fun _=>?_) (fun _=>?_)
   all_goals
    refine ⟨_,rfl,_,rfl,_,_,rfl,rfl,⟨by decide,by decide⟩,n,_,rfl,h1,h8,fun lr R H2 sH2 hL ok hRl=>?_⟩;obtain ⟨ps,hps,hPs⟩:=id hL;have hpl:(ps.map V.ref).length=R.length:=by rw [QAa,hPs.length]
    refine ⟨_,rfl,lr,rfl,⟨_,SqL.of hps⟩,fun lk hlk=>Z8 (Z1 (xs:=ps.map V.ref)) (ZfY R H2 lk)
     ⟨none,[],rfl,rfl,Same.new hlk,Zb,.nil⟩ (fun i ys σ H' zz0=> by obtain ⟨v,qs,_,_,sm,hl,_⟩ := zz0; exact ⟨SqL.of (sm _ _ hps),hl⟩) ?_ ?_⟩
    ·rintro j x ys σ H7 hj ⟨v,qs,rfl,rfl,sm7,hl7,hP7⟩;rw [QAe] at hj
     cases hpj:ps[j]? with
     | none=>rw [hpj] at hj; cases hj
     | some p =>
      rw [hpj] at hj
      cases hj;obtain ⟨r,hrj,hp⟩:=Paired.getL hPs hpj;refine ⟨_,rfl,p,r.map V.int,rfl,.inl ⟨SqL.of (sm7 _ _ hp),fun tp htp=>?_⟩⟩;have sm8:Same H7 (upd H7 tp (.tup (r.map V.int))):=Same.new htp;have hl9:=sm8 _ _ hl7;have hjl:j<R.length:=(QZb.mp hrj).1;have hql:qs.length=j:=by rw [hP7.length,QAu,QAa]; omega
      refine ⟨hl9,by rw [QAa,hql]; exact Zw (by omega),_,qs++[tp],rfl,by rw [QAn]; rfl,fun b o e=>?_,Zb,?_⟩
      ·rw [Zg (Zi e hlk)];exact sm8 _ _ (sm7 _ _ e)
      ·have up:∀ b row,(upd H7 tp (.tup (r.map V.int))) b=some (.tup row)->(upd (upd H7 tp (.tup (r.map V.int))) lk (.lst (qs.map V.ref++[.ref tp]))) b=some (.tup row):=fun b row e=>by
        rw [Zg (JH e hl9 (by intro z; cases z))];exact e
       have et:(R.map fun r=>r.map V.int).take (j+1)=(R.map fun r=>r.map V.int).take j++[r.map V.int]:=by rw [QCc,QAe,hrj]; rfl
       rw [et];exact Paired.snoc (Paired.mapP hP7 fun q row e=>up q row (sm8 _ _ e)) (up tp _ Zb)
    ·rintro ys σ H7 ⟨v,qs,rfl,rfl,sm7,hl7,hP7⟩;rw [hpl,QBd (by rw [QAa]; exact QAd _)] at hP7;refine ⟨lk,_,rfl,.inl ⟨SqL.of hl7,fun tk htk=>?_⟩⟩;have sm8:Same H7 (upd H7 tk (.tup (qs.map V.ref))):=Same.new htk;have hG8:GridT (upd H7 tk (.tup (qs.map V.ref))) tk (R.map fun r=>r.map V.int):=⟨qs,Zb,Paired.mapP hP7 fun _ _ z=>sm8 _ _ z⟩;have s28:=sH2.trans (sm7.trans sm8);generalize upd H7 tk (.tup (qs.map V.ref))=H8 at hG8 s28 ⊢;refine ⟨_,rfl,_,rfl,_,_,rfl,rfl,_,rfl,a,ns,k+1,n,rfl,s28.seq hS,h8,fun tr H9 Rn s9 _ hT9 rn=>?_⟩;have eg:=ZaP ok hRl;exact ⟨tk,tr,n,_,Rn,rfl,hG8.same s9,eg,hT9,rn,h1,h8,fun t HA sA hGA=>by
      rw [YW ok hRl rn] at hGA;exact q t HA _ (s28.trans (s9.trans sA)) (GridT.tg hGA) (Jj ok hRl rn).1 (Jj ok hRl rn).2⟩
end
end My
namespace My
open PySem L2
inductive ZhN (vs:List V) (H:Hp) (Q:VK):Prop where
 | mk (g:Addr) (n o1 o2 c:Nat) (R:List (List Int)) (_:vs=[.ref g,.int (o1:Int),.int (o2:Int),.int (c:Int)]) (_:TG H g R) (_:OkRows n R) (_:R.length=n) (_:n<=8) (_:o1<n) (_:o2<n) (_:c<n) (_:∀ l H',Same H H'->H l=none->H' l=some (.lst ((toI (Yq (stp (R.getD o1 []) (R.getD o2 [])) n c)).map V.int))->Q (.ref l) H'):ZhN vs H Q
noncomputable def ZiB:Sp:=fun vs H Q _=>ZhN vs H Q
noncomputable def LLn (H0 H:Hp) (a:Addr) (L:List (List Nat)):Prop:=∃ ps:List Addr,H a=some (.lst (ps.map V.ref))/\Paired (fun p (r:List Nat)=>H p=some (.lst ((toI r).map V.int))/\p≠a/\H0 p=none) ps L
theorem Zhx (i:Nat) (r:List Nat):inV (.int (i:Int)) ((toI r).map V.int)=decide (i∈r):=by
 rw [Zbp]
 congr 1
 unfold toI;rw [eq_iff_iff]
 constructor
 ·intro h;obtain ⟨c,hc,e⟩:=QZd.mp h;have:c=i:=by exact Om.e1 ‹_›
  rw [<- this];exact hc
 ·intro h;exact QZd.mpr ⟨i,h,rfl⟩
inductive ZfL (vs:List V) (H:Hp) (Q:VK):Prop where
 | mk (g:Addr) (n o1 o2:Nat) (R:List (List Int)) (_:vs=[.ref g,.int (o1:Int),.int (o2:Int)]) (_:TG H g R) (_:OkRows n R) (_:R.length=n) (_:n<=8) (_:o1<n) (_:o2<n) (_:o1≠o2) (_:∀ l H',Same H H'->H l=none->LLn H H' l (ZE (stp (R.getD o1 []) (R.getD o2 [])) n n)->Q (.ref l) H'):ZfL vs H Q
noncomputable def Zg7:Sp:=fun vs H Q _=>ZfL vs H Q
theorem ZeZ {n:Nat} {s:Nat->Nat} (o:One n s) {c:Nat} (hc:c<n):(Yq s n c).length<=n:=Zbl (Zah o hc).1.nodup ((Zah o hc).1.lt o)
theorem YS (s:Nat->Nat) (n:Nat):∀ j,(ZE s n j).length<=j
 | 0=>QAd _
 | j+1=>by
  have ih:=YS s n j;rw [ZE]
  split
  ·rw [QAo]; exact Nat.succ_le_succ ih
  ·omega
theorem Zft {n:Nat} {s:Nat->Nat} (o:One n s):∀ j,j<=n->(ZE s n j).flatten.length<=j*n
 | 0,_=>QAh _
 | j+1,h=>by
  have ih:=Zft o j (by exact Om.f4 ‹_›);rw [ZE];have e:(j+1)*n=j*n+n:=QCt j n
  split
  ·have:=ZeZ o (c:=j) (by exact Om.f5 ‹_›);rw [List.flatten_append,QAo,List.flatten_singleton];omega
  ·omega
theorem ZjS (L:List (List Nat)) (i:Nat):L.all (fun r=>decide (i∉r)) = !decide (i∈L.flatten):=by
 rw [QBf,QBg]
 simp
theorem ZaY (a b:List Nat):toI (a++b)=toI a++toI b:=QAn
noncomputable def WRf (H:Hp) (g:Addr) (n o1 o2 c:Nat) (s:Nat->Nat) (l:Addr) (m:Nat) (σ:St) (H2:Hp):Prop :=
 ∃ (acc:List Nat) (x:Nat),σ=[some (.ref g),some (.int (o1:Int)),some (.int (o2:Int)),some (.int (c:Int)),some (.ref l),some (.int (x:Int))]/\Same H H2/\H2 l=some (.lst ((toI acc).map V.int))/\((acc=[]/\x=c)\/(Path n s c acc/\x=s (Z0 acc)/\Zal s c (n+1 - acc.length) acc=Yq s n c))/\m=n+1 - acc.length
section
variable {P:Program} {w:World} {K:QZa} {mg:Str->Option Value} {base:Heap}
theorem scRf:Zs ["square","one","other","column","ring","here"] ["square","one","other","column"] (Zd YE):=⟨rfl,rfl,rfl,by decide +kernel,rfl,by decide +kernel,by decide +kernel⟩
theorem Zfc {f:Addr} {fd:FuncData} (F:Fun K "ring_from" "ring_from" YE f fd):FnOk P w K mg base CX0 1 f fd ["square","one","other","column"] ZiB:=by
 refine F.ok scRf (fun vs H Q E h=>?_) (fun cdv A outer s H vs Q E hr h=>?_)
 ·obtain ⟨_,_,_,_,_,_,rfl,_⟩:=h
  rfl
 ·obtain ⟨g,n,o1,o2,c,R,rfl,hT,ok,hRl,h8,h1,h2,hc,q⟩:=h
  refine' ⟨_,Ze (Zk (i:=4) scRf.nd rfl (Or.inl rfl) (Yd Zc)) (Ze (Zk (i:=5) scRf.nd rfl (Or.inl rfl) (pv 3)) (Ze (Zcy PassesOwn.never (ZC (ZaM K) (pv 5) (pv 4) rfl) (Ze ?b0 (Zf ?b1))) (Zf (Zq (pv 4))))),?rd⟩
  case b0=>exact Yz (Jr PySem.F.plainAttrs_list PySem.F.slot_list_append PySem.F.type_list_append Ya (pv 4) (Za (pv 5) Zc))
  case b1=>exact Zk (i:=5) scRf.nd rfl (Or.inl rfl) (J6 (ZU Zaz (pv 0) (pv 1) (fun _ _=>rfl)) (Za (ZU Zaz (ZU Zaz (pv 0) (pv 2) (fun _ _=>rfl)) (pv 5) (fun _ _=>rfl)) Zc))
  case rd =>
   have ra:Row n (R.getD o1 []):=ok.rowAt (by exact Om.a1 ‹_› ‹_›);have rb:Row n (R.getD o2 []):=ok.rowAt (by exact Om.a1 ‹_› ‹_›);have so:=Zbb ra rb;refine ⟨QAh _,fun l hl=>⟨_,rfl,?_⟩⟩;refine ⟨WRf H g n o1 o2 c (stp (R.getD o1 []) (R.getD o2 [])) l,⟨_,[],c,rfl,Same.new hl,Zb,.inl ⟨rfl,rfl⟩,rfl⟩,?_⟩;rintro m σ H2 ⟨acc,x,rfl,sH,hl2,hcase,rfl⟩;have hxn:x<n:=by
    rcases hcase with ⟨_,z⟩ | ⟨pa,z,_⟩
    ·exact Om.x1 ‹_› ‹_›
    ·rw [z];exact so.lt _ (pa.lt so _ pa.last_mem)
   have hal:acc.length<=n:=by
    rcases hcase with ⟨z,_⟩ | ⟨pa,_,_⟩
    ·rw [z]; exact QAh _
    ·exact Zbl pa.nodup (pa.lt so)
   refine ⟨_,rfl,_,rfl,l,_,rfl,.inl (SqL.of hl2),rfl,ZM _,_,rfl,?_⟩;have e3:(if true=true then !inV (.int (x:Int)) ((toI acc).map V.int) else inV (.int (x:Int)) ((toI acc).map V.int)) = !decide (x∈acc):=by rw [if_pos rfl,Zhx]
   rw [e3];refine ZaA (fun hd=>?_) (fun hd=>?_)
   ·have hni:x∉acc:=by simpa using hd
    refine ⟨fun σ' H'=>∃ m',m'<n+1 - acc.length/\WRf H g n o1 o2 c (stp (R.getD o1 []) (R.getD o2 [])) l m' σ' H',fun _ _ z=>z,?_⟩;refine ⟨_,rfl,.inl ⟨rfl,_,SqL.of hl2⟩,_,rfl,l,_,_,rfl,rfl,hl2,by rw [QAa,toI,QAa]; exact Zw (by exact Om.b3 ‹_› ‹_› rfl),?_⟩;have s3:Same H (upd H2 l (.lst ((toI acc).map V.int++[.int (x:Int)]))):=fun b u e=>by
     rw [Zg (Zi e hl)];exact sH _ _ e
    have hl3:(upd H2 l (.lst ((toI acc).map V.int++[.int (x:Int)]))) l=some (.lst ((toI (acc++[x])).map V.int)):=by rw [Zb,Zj2,QAn]; rfl
    generalize upd H2 l (.lst ((toI acc).map V.int++[.int (x:Int)]))=H3 at s3 hl3 ⊢;have hT3:=hT.same s3;obtain ⟨xA,pA,a1,a2,a3,a4⟩:=hT3.at (k:=o1) (by exact Om.a1 ‹_› ‹_›);obtain ⟨xB,pB,b1,b2,b3,b4⟩:=hT3.at (k:=o2) (by exact Om.a1 ‹_› ‹_›);refine ⟨_,rfl,_,rfl,g,_,_,_,rfl,rfl,SqT.of a1,a3,pA,_,rfl,a4,_,rfl,_,rfl,g,_,_,_,rfl,rfl,SqT.of b1,b3,_,rfl,pB,_,_,_,rfl,rfl,SqT.of b4,JL (by rw [rb.len]; exact hxn),_,rfl,a4,YU ra.len ra.nd ra.rg (rb.val hxn),?_⟩;have hlast:Z0 (acc++[x])=x:=Je _ _;have hpath:Path n (stp (R.getD o1 []) (R.getD o2 [])) c (acc++[x])/\Zal (stp (R.getD o1 []) (R.getD o2 [])) c (n+1 - (acc++[x]).length) (acc++[x])=Yq (stp (R.getD o1 []) (R.getD o2 [])) n c:=by
     rcases hcase with ⟨z1,z2⟩ | ⟨pa,z,hrf⟩
     ·subst z1;subst z2;exact ⟨.one hc,rfl⟩
     ·subst z;have e':stp (R.getD o1 []) (R.getD o2 []) (Z0 acc)≠c:=fun e=>hni (by rw [e]; exact pa.head_mem)
      refine ⟨.more pa hni,?_⟩;rw [show n+1 - acc.length=(n - acc.length)+1 by exact O388 hRl hal a2 b2] at hrf;rw [Zal,if_neg e'] at hrf;rw [QAo,show n+1 - (acc.length+[stp (R.getD o1 []) (R.getD o2 []) (Z0 acc)].length)=n - acc.length by simp];exact hrf
    refine ⟨n+1 - (acc++[x]).length,by rw [QAo,QDl]; exact O387 hRl hal a2 b2,acc++[x],stp (R.getD o1 []) (R.getD o2 []) x,rfl,s3,hl3,.inr ⟨hpath.1,by rw [hlast],hpath.2⟩,rfl⟩
   ·have hin:x∈acc:=by simpa using hd
    rcases hcase with ⟨z,_⟩ | ⟨pa,z,hrf⟩
    ·rw [z] at hin
     cases hin
    ·subst z;have e':=pa.back so hin;rw [show n+1 - acc.length=(n - acc.length)+1 by exact O386 hal,Zal,if_pos e'] at hrf;refine ⟨_,rfl,q l H2 sH hl ?_⟩;rw [hl2,hrf]
theorem scRingsP:Zs ["square","one","other","found","passed","column","ring"] ["square","one","other"] (Zd JQ):=⟨rfl,rfl,rfl,by decide +kernel,rfl,by decide +kernel,by decide +kernel⟩
inductive Zf8 (H:Hp) (g:Addr) (n:Nat) (o1:Nat) (o2:Nat) (lf:Addr) (lp:Addr) (sp:Nat->Nat) (i:Nat) (σ:St) (H2:Hp):Prop where
 | mk (v5 v6:Option V) (ps:List Addr) (_:σ=[some (.ref g),some (.int (o1:Int)),some (.int (o2:Int)),some (.ref lf),some (.ref lp),v5,v6]) (_:Same H H2) (_:H2 lf=some (.lst (ps.map V.ref))) (_:H2 lp=some (.lst ((toI (ZE sp n i).flatten).map V.int))) (_:Paired (fun p (r:List Nat)=>H2 p=some (.lst ((toI r).map V.int))/\p≠lf/\p≠lp/\H p=none) ps (ZE sp n i)):Zf8 H g n o1 o2 lf lp sp i σ H2
theorem Zh9 {f fR:Addr} {fd dR:FuncData} (F:Fun K "rings" "rings" JQ f fd) (T:Blt mg) (DR:Dfn K mg "ring_from" YE ["square","one","other","column"] fR dR):FnOk P w K mg base CX0 2 f fd ["square","one","other"] Zg7:=by
 have GR:FnOk P w K mg base CX0 1 fR dR ["square","one","other","column"] ZiB:=Zfc DR.F;refine F.ok scRingsP (fun vs H Q E h=>?_) (fun cdv A outer s H vs Q E hr h=>?_)
 ·obtain ⟨_,_,_,_,_,rfl,_⟩:=h
  rfl
 ·obtain ⟨g,n,o1,o2,R,rfl,hT,ok,hRl,h8,h1,h2,hne,q⟩:=h
  refine' ⟨_,Ze (Zk (i:=3) scRingsP.nd rfl (Or.inl rfl) (Yd Zc)) (Ze (Zk (i:=4) scRingsP.nd rfl (Or.inl rfl) (Yd Zc)) (Ze (Yv PassesOwn.never rfl (Zx rfl T.range (Za (Zl (Zt K) rfl T.len PySem.boot_len (Za (pv 0) Zc)) Zc)) (ZJ (i:=5) scRingsP.nd rfl (Or.inl rfl)) (Zf (Yy ?c (Ze ?b0 (Ze ?b1 (Zf ?b2))) ZR))) (Zf (Zq (pv 3))))),?rd⟩
  case c=>exact ZC (ZaM K) (pv 5) (pv 4) rfl
  case b0=>exact Zk (i:=6) scRingsP.nd rfl (Or.inl rfl) (Zm GR hr rfl DR.m DR.F.kp DR.b .nil ZF (Za (pv 0) (Za (pv 1) (Za (pv 2) (Za (pv 5) Zc)))))
  case b1=>exact Yz (Jr PySem.F.plainAttrs_list PySem.F.slot_list_append PySem.F.type_list_append Ya (pv 3) (Za (pv 6) Zc))
  case b2=>exact Yz (Jr PySem.F.plainAttrs_list PySem.F.slot_list_extend PySem.F.type_list_extend ZaN (pv 4) (Za (pv 6) Zc))
  case rd =>
   refine ⟨QAh _,fun lf hlf=>⟨QAh _,fun lp hlp=>?_⟩⟩;have s0:Same H (upd H lf (.lst [])):=Same.new hlf;have s1:Same (upd H lf (.lst [])) (upd (upd H lf (.lst [])) lp (.lst [])):=Same.new hlp;have hlp0:H lp=none:=s0.free hlp;have hfp:lf≠lp:=fun e=>by rw [<- e,Zb] at hlp; cases hlp
   obtain ⟨gs,hgs,hGs⟩:=id hT;have hgl:(gs.map V.ref).length=n:=by rw [QAa,hGs.length,hRl]
   refine ⟨_,rfl,g,_,rfl,.inr (SqT.of ((s0.trans s1) _ _ hgs)),_,rfl,by exact Om.c2,by exact O385 hRl h8 hgl,?_⟩;rw [hgl,QAf];generalize hs:stp (R.getD o1 []) (R.getD o2 [])=sp at q;have so:One n sp:=by rw [<- hs]; exact Zbb (ok.rowAt (by exact Om.a1 ‹_› ‹_›)) (ok.rowAt (by exact Om.a1 ‹_› ‹_›))
   refine Ym (lo:=0) (n:=n) (Zf8 H g n o1 o2 lf lp sp)
    ⟨none,none,[],rfl,s0.trans s1,s1 _ _ Zb,Zb,.nil⟩ ?_ ?_
   ·rintro i σ H2 hi ⟨v5,v6,ps,rfl,s2,hf,hp,hPs⟩;rw [QBw];have hpl:ps.length=(ZE sp n i).length:=hPs.length;have hfi:=YS sp n i;have hfl:=Zft so i (by exact Om.d1 ‹_›);have hii:i*n<=8*8:=QCd (by exact Om.b2 ‹_› ‹_› rfl) h8;refine ⟨_,rfl,_,rfl,lp,_,rfl,.inl (SqL.of hp),rfl,ZM _,_,rfl,?_⟩;have e3:(if true=true then !inV (.int (i:Int)) ((toI (ZE sp n i).flatten).map V.int) else inV (.int (i:Int)) ((toI (ZE sp n i).flatten).map V.int))=(ZE sp n i).all fun r=>decide (i∉r):=by rw [if_pos rfl,Zhx,ZjS]
    rw [e3];refine ZaA (fun hd=>?_) (fun hd=>?_)
    ·have er:ZE sp n (i+1)=ZE sp n i++[Yq sp n i]:=by rw [ZE,if_pos hd]
     refine ⟨_,rfl,_,rfl,_,rfl,_,rfl,g,n,o1,o2,i,R,rfl,hT.same s2,ok,hRl,h8,h1,h2,hi,fun p H3 s3 hp0 hp3=>?_⟩;rw [hs] at hp3;have hf3:=s3 _ _ hf;have hlp3:=s3 _ _ hp;have hpf:p≠lf:=fun z=>by rw [z,hf] at hp0; cases hp0
     have hpp:p≠lp:=fun z=>by rw [z,hp] at hp0; cases hp0
     refine ⟨_,rfl,.inl ⟨rfl,_,SqL.of hf3⟩,_,rfl,lf,_,_,rfl,rfl,hf3,by rw [QAa]; exact Zw (by exact O384 hRl h8 h1 hgl hi hpl hfi),?_⟩;have g1:∀ b,b≠lf->(upd H3 lf (.lst (ps.map V.ref++[.ref p]))) b=H3 b:=fun b hb=>Zg hb
     have g0:(upd H3 lf (.lst (ps.map V.ref++[.ref p]))) lf=some (.lst ((ps++[p]).map V.ref)):=by rw [Zb,QAn]; rfl
     generalize upd H3 lf (.lst (ps.map V.ref++[.ref p]))=H4 at g1 g0 ⊢;have hp4:H4 p=some (.lst ((toI (Yq sp n i)).map V.int)):=by rw [g1 _ hpf]; exact hp3
     have hlp4:H4 lp=some (.lst ((toI (ZE sp n i).flatten).map V.int)):=by rw [g1 _ (Ne.symm hfp)]; exact hlp3
     have hrl:=ZeZ so hi;refine ⟨_,rfl,.inl ⟨rfl,_,SqL.of hlp4⟩,_,rfl,lp,p,_,_,rfl,rfl,hlp4,hp4,?_,?_⟩
     ·refine QBz (Zw ?_);rw [QAa,QAa,toI,toI,QAa,QAa];exact O383 hRl h8 h1 hgl hfl hii hrl
     ·refine ⟨_,_,ps++[p],rfl,fun b u e=>?_,?_,?_,?_⟩
      ·rw [Zg (Zi e hlp0),g1 _ (Zi e hlf)];exact s3 _ _ (s2 _ _ e)
      ·rw [Zg hfp];exact g0
      ·rw [Zb,er,List.flatten_append,List.flatten_singleton,ZaY,QAn]
      ·rw [er];refine Paired.snoc (Paired.mapP hPs fun b r z=>⟨?_,z.2⟩) ⟨?_,hpf,hpp,s2.free hp0⟩
       ·rw [Zg z.2.2.1,g1 _ z.2.1];exact s3 _ _ z.1
       ·rw [Zg hpp];exact hp4
    ·have er:ZE sp n (i+1)=ZE sp n i:=by rw [ZE,if_neg hd]
     refine ⟨_,_,ps,rfl,s2,hf,?_,?_⟩
     ·rw [er]; exact hp
     ·rw [er]; exact hPs
   ·rintro σ H2 ⟨v5,v6,ps,rfl,s2,hf,hp,hPs⟩;exact ⟨_,rfl,q lf H2 s2 hlf ⟨ps,hf,Paired.mapP hPs fun _ _ z=>⟨z.1,z.2.1,z.2.2.2⟩⟩⟩
end
end My
namespace My
open PySem L2
noncomputable def lexo {α:Type} [DecidableEq α] (lt:α->α->Bool):List α->List α->Bool
 | [],[]=>false
 | [],_::_=>true
 | _::_,[]=>false
 | x::xs,y::ys=>if x=y then lexo lt xs ys else lt x y
structure Ord {α:Type} (lt:α->α->Bool):Prop where
 irr:∀ x,lt x x=false
 tr:∀ x y z,lt x y=true->lt y z=true->lt x z=true
 tot:∀ x y,lt x y=false->lt y x=false->x=y
section
variable {α:Type} [DecidableEq α] {lt:α->α->Bool}
theorem JA (x y:α) (xs ys:List α):lexo lt (x::xs) (y::ys)=if x=y then lexo lt xs ys else lt x y:=by rw [lexo]
theorem Zfk:∀ xs:List α,lexo lt xs xs=false
 | []=>rfl
 | x::xs=>by rw [JA,if_pos rfl,Zfk xs]
theorem Zhr (o:Ord lt):∀ xs ys zs:List α,lexo lt xs ys=true->lexo lt ys zs=true->lexo lt xs zs=true
 | [],[],zs,h,_=>by cases h
 | [],_::_,[],_,h=>by cases h
 | [],_::_,_::_,_,_=>rfl
 | _::_,[],_,h,_=>by cases h
 | _::_,_::_,[],_,h=>by cases h
 | x::xs,y::ys,z::zs,h1,h2=>by
  rw [JA] at h1 h2 ⊢
  by_cases e1:x=y
  ·subst e1;rw [if_pos rfl] at h1
   by_cases e2:x=z
   ·rw [if_pos e2] at h2 ⊢;exact Zhr o xs ys zs h1 h2
   ·rw [if_neg e2] at h2 ⊢;exact h2
  ·rw [if_neg e1] at h1
   by_cases e2:y=z
   ·subst e2;rw [if_neg e1];exact h1
   ·rw [if_neg e2] at h2
    by_cases e3:x=z
    ·subst e3;have:=o.tr _ _ _ h1 h2;rw [o.irr] at this
     cases this
    ·rw [if_neg e3];exact o.tr _ _ _ h1 h2
theorem Zfj (o:Ord lt):∀ xs ys:List α,lexo lt xs ys=false->lexo lt ys xs=false->xs=ys
 | [],[],_,_=>rfl
 | [],_::_,h,_=>by cases h
 | _::_,[],_,h=>by cases h
 | x::xs,y::ys,h1,h2=>by
  rw [JA] at h1 h2
  by_cases e1:x=y
  ·subst e1;rw [if_pos rfl] at h1 h2;rw [Zfj o xs ys h1 h2]
  ·rw [if_neg e1] at h1;rw [if_neg (Ne.symm e1)] at h2;exact absurd (o.tot x y h1 h2) e1
theorem Ord.lexo (o:Ord lt):Ord (lexo lt):=⟨Zfk,Zhr o,Zfj o⟩
end
noncomputable def ltI (x y:Int):Bool:=decide (x<y)
theorem ord_int:Ord ltI:=⟨fun x=>QZi (by exact O382 ),fun x y z h1 h2=>QZh (by have:=QZj h1; have:=QZj h2; omega),fun x y h1 h2=>by have:=of_decide_eq_false h1; have:=of_decide_eq_false h2; omega⟩
noncomputable def Zb9:List Int->List Int->Bool:=lexo ltI
noncomputable def Zca:List (List Int)->List (List Int)->Bool:=lexo Zb9
theorem ord_lexI:Ord Zb9:=ord_int.lexo
theorem ZiY:Ord Zca:=ord_lexI.lexo
theorem Zfn:∀ xs ys:List Int,HT.lexLt xs ys=Zb9 xs ys
 | [],[]=>rfl
 | [],_::_=>rfl
 | _::_,[]=>rfl
 | x::xs,y::ys=>by
  unfold Zb9;rw [HT.lexLt,JA,Zfn xs ys]
  rfl
theorem Zfu:∀ (F G:List (List Int)) (k i:Nat),F.length=G.length->F.length - i=k->i<=F.length->Jh (fun j=>decide (F.getD j []=G.getD j [])) (fun j=>Zb9 (F.getD j []) (G.getD j [])) k i=Zca (F.drop i) (G.drop i)
 | F,G,0,i,hl,hk,hi=>by
  rw [QBt (by exact O22 hl hk),QBt (by exact O21 hl hk)]
  rfl
 | F,G,k+1,i,hl,hk,hi=>by
  have h1:i<F.length:=by exact O20 hl hk hi
  have h2:i<G.length:=by exact Om.a2 ‹_› ‹_›
  have g1:F.getD i []=F[i]:=by rw [QAc,QAb h1]; rfl
  have g2:G.getD i []=G[i]:=by rw [QAc,QAb h2]; rfl
  rw [Jh,QBc h1,QBc h2];unfold Zca;rw [JA,g1,g2]
  by_cases e:F[i]=G[i]
  ·rw [if_pos (QZh e),if_pos e];exact Zfu F G k (i+1) hl (by exact O19 hl hk h1) h1
  ·rw [if_neg (by rw [QZg]; exact e),if_neg e]
theorem Zc5 {α:Type} {lt:α->α->Bool} (o:Ord lt) (v:Nat->α):∀ k,argBest (fun i j=>lt (v i) (v j)) k<=k/\∀ j,j<=k->lt (v j) (v (argBest (fun i j=>lt (v i) (v j)) k))=false
 | 0=>⟨QAd _,fun j hj=>by
   have:j=0:=by exact O376 hj
   subst this;exact o.irr _⟩
 | k+1=>by
  obtain ⟨h1,h2⟩:=Zc5 o v k;have e:argBest (fun i j=>lt (v i) (v j)) (k+1)=if lt (v (k+1)) (v (argBest (fun i j=>lt (v i) (v j)) k))=true then k+1 else argBest (fun i j=>lt (v i) (v j)) k:=rfl
  rw [e]
  cases hb:lt (v (k+1)) (v (argBest (fun i j=>lt (v i) (v j)) k)) with
  | true =>
   rw [if_pos rfl];refine ⟨QAd _,fun j hj=>?_⟩
   by_cases q:j=k+1
   ·subst q;exact o.irr _
   ·have h3:=h2 j (by exact Om.q1 ‹_› ‹_›)
    cases hj2:lt (v j) (v (k+1)) with
    | false=>rfl
    | true=>rw [o.tr _ _ _ hj2 hb] at h3; cases h3
  | false =>
   rw [if_neg QAl];refine ⟨by exact O339 h1,fun j hj=>?_⟩
   by_cases q:j=k+1
   ·subst q;exact hb
   ·exact h2 j (by exact Om.q1 ‹_› ‹_›)
noncomputable def sF (R:List (List Int)) (a b:Nat):Nat->Nat:=stp (R.getD a []) (R.getD b [])
noncomputable def rgs (n:Nat) (R:List (List Int)) (a b:Nat):List (List Nat):=ZE (sF R a b) n n
noncomputable def leN (x y:Nat):Bool:=decide (x<=y)
noncomputable def sl (n:Nat) (R:List (List Int)) (a b:Nat):List Int:=toI (((rgs n R a b).map List.length).mergeSort leN)
noncomputable def thg (R:List (List Int)) (a:Nat) (w:List Nat):List Int:=inv (w.map fun c=>ent R a c)
noncomputable def ZA (n:Nat) (R:List (List Int)) (a:Nat) (w:List Nat):List (List Int):=[(List.range n).map fun r=>(thg R a w).getD (ent R r (w.getD 0 0)).toNat 0,inv (toI w),thg R a w]
structure Hop (n:Nat) (R:List (List Int)) (a b:Nat) (w:List Nat):Prop where
 ha:a<n
 hb:b<n
 hne:a≠b
 hw:w∈Zr n (rgs n R a b)
 hm:∀ c d,c<n->d<n->c≠d->Zb9 (sl n R c d) (sl n R a b)=false
theorem Zab:∀ {a b:List Nat},a.Perm b->a.Pairwise (· <= ·)->b.Pairwise (· <= ·)->a=b
 | [],b,p,_,_=>List.Perm.nil_eq p
 | x::a,[],p,_,_=>by have:=p.length_eq; cases this
 | x::a,y::b,p,ha,hb=>by
  have hxy:x=y:=by
   have h1:y∈x::a:=p.mem_iff.mpr QAj;have h2:x∈y::b:=p.mem_iff.mp QAj;have l1:x<=y:=by
    rcases QZn.mp h1 with z | z
    ·exact O381 z
    ·exact (List.pairwise_cons.mp ha).1 y z
   have l2:y<=x:=by
    rcases QZn.mp h2 with z | z
    ·exact O381 z
    ·exact (List.pairwise_cons.mp hb).1 x z
   omega
  subst hxy;rw [Zab (List.Perm.cons_inv p) (List.pairwise_cons.mp ha).2 (List.pairwise_cons.mp hb).2]
theorem ZbN (l:List Nat):(l.mergeSort leN).Pairwise (· <= ·):=by
 have h:=List.pairwise_mergeSort (le:=leN) (fun a b c h1 h2=>QZh (QAs (QZj h1) (QZj h2))) (fun a b=>by unfold leN; rw [QCp,QZg,QZg]; exact Nat.le_total a b) l;exact h.imp fun z=>QZj z
section
variable {n:Nat} {R Rn:List (List Int)}
theorem Y9 (ok:OkRows n R) (hl:R.length=n) {a b:Nat} (ha:a<n) (hb:b<n):One n (sF R a b):=Zbb (YB ok hl ha) (YB ok hl hb)
theorem Zcs (ok:OkRows n R) (hl:R.length=n) {a b x:Nat} (ha:a<n) (hb:b<n) (hx:x<n):ent R a (sF R a b x)=ent R b x:=Zei (YB ok hl ha) (YB ok hl hb) hx
theorem Zmu (ok:OkRows n R) (hl:R.length=n) {a b x y:Nat} (ha:a<n) (hb:b<n) (hx:x<n) (hy:y<n) (e:ent R a y=ent R b x):sF R a b x=y :=
 (YB ok hl ha).inj ((Y9 ok hl ha hb).lt x hx) hy ((Zcs ok hl ha hb hx).trans e.symm)
noncomputable def rw_ (Rn:List (List Int)) (k x:Nat):Nat:=((Rn.getD k []).getD x 0).toNat
theorem J4 (rn:Ren n Rn) {k x:Nat} (hk:k<3) (hx:x<n):rw_ Rn k x<n:=by
 obtain ⟨y,e,hy⟩:=(rn.at hk).val hx;unfold rw_;rw [e,QAf];exact hy
theorem ZiL (rn:Ren n Rn) {k x:Nat} (hk:k<3) (hx:x<n):(Rn.getD k []).getD x 0=((rw_ Rn k x:Nat):Int):=by
 obtain ⟨y,e,hy⟩:=(rn.at hk).val hx;unfold rw_;rw [e,QAf]
theorem ZiK (rn:Ren n Rn) {k x:Nat} (hk:k<3) (hx:x<n):ixo (Rn.getD k []) (rw_ Rn k x)=x:=Jf (rn.at hk) hx (J4 rn hk hx) (ZiL rn hk hx)
theorem ZdL (rn:Ren n Rn) {k x:Nat} (hk:k<3) (hx:x<n):rw_ Rn k (ixo (Rn.getD k []) x)=x:=by
 unfold rw_ ixo;rw [(Y0 (rn.at hk) hx).2,QAf]
theorem Zen (rn:Ren n Rn) {k x y:Nat} (hk:k<3) (hx:x<n) (hy:y<n) (e:rw_ Rn k x=rw_ Rn k y):x=y:=by rw [<- ZiK rn hk hx,e,ZiK rn hk hy]
theorem Zbf (rn:Ren n Rn) (ok:OkRows n R) (hl:R.length=n) {a x:Nat} (ha:a<n) (hx:x<n):ent (ZY n R Rn) (rw_ Rn 0 a) (rw_ Rn 1 x)=((rw_ Rn 2 (ent R a x).toNat:Nat):Int):=Zh3 rn ok hl (Zj0 ok hl ha hx)
noncomputable def thO (n:Nat) (Rn:List (List Int)) (x:Nat):Nat:=if x<n then rw_ Rn 1 x else x
noncomputable def thI (n:Nat) (Rn:List (List Int)) (x:Nat):Nat:=if x<n then ixo (Rn.getD 1 []) x else x
theorem ZfA (rn:Ren n Rn) (ok:OkRows n R) (hl:R.length=n) {a b:Nat} (ha:a<n) (hb:b<n):Conj n (sF R a b) (sF (ZY n R Rn) (rw_ Rn 0 a) (rw_ Rn 0 b)) (thO n Rn) (thI n Rn):=by
 have l1:∀ x,x<n->thO n Rn x<n:=fun x hx=>by unfold thO; rw [if_pos hx]; exact J4 rn (by decide) hx
 have l2:∀ x,x<n->thI n Rn x<n:=fun x hx=>by unfold thI; rw [if_pos hx]; exact Z4 (rn.at (by decide)) hx
 obtain ⟨ok',hl'⟩:=Jj ok hl rn;refine ⟨fun x=>?_,fun x=>?_,l1,l2,fun x hx=>?_,(Y9 ok hl ha hb).lt⟩
 ·by_cases hx:x<n
  ·unfold thI;rw [if_pos (l1 x hx)];unfold thO;rw [if_pos hx];exact ZiK rn (by decide) hx
  ·unfold thI thO;rw [if_neg hx,if_neg hx]
 ·by_cases hx:x<n
  ·unfold thO;rw [if_pos (l2 x hx)];unfold thI;rw [if_pos hx];exact ZdL rn (by decide) hx
  ·unfold thI thO;rw [if_neg hx,if_neg hx]
 ·have hs:=(Y9 ok hl ha hb).lt x hx;refine Zmu ok' hl' (J4 rn (by decide) ha) (J4 rn (by decide) hb) (l1 x hx) (l1 _ hs) ?_;unfold thO;rw [if_pos hx,if_pos hs,Zbf rn ok hl ha hs,Zbf rn ok hl hb hx,Zcs ok hl ha hb hx]
theorem Zhd (rn:Ren n Rn) (ok:OkRows n R) (hl:R.length=n) {a b:Nat} (ha:a<n) (hb:b<n):sl n (ZY n R Rn) (rw_ Rn 0 a) (rw_ Rn 0 b)=sl n R a b:=by
 obtain ⟨ok',hl'⟩:=Jj ok hl rn;obtain ⟨ls,p1,p2,pw⟩:=Zil (ZfA rn ok hl ha hb) (Yu (Y9 ok hl ha hb)) (Yu (Y9 ok' hl' (J4 rn (by decide) ha) (J4 rn (by decide) hb)));have e1:=Zab (p1.trans (List.mergeSort_perm _ leN).symm) pw (ZbN _);have e2:=Zab (p2.trans (List.mergeSort_perm _ leN).symm) pw (ZbN _);unfold sl rgs;rw [<- e1,<- e2]
theorem Zdl (ok:OkRows n R) (hl:R.length=n) {a b:Nat} (ha:a<n) (hb:b<n) {w:List Nat} (hw:w∈Zr n (rgs n R a b)):w.Nodup/\∀ x,x∈w↔x<n:=by
 obtain ⟨ls,al⟩:=(YQ (Yu (Y9 ok hl ha hb)) (YS _ _ _)).mp hw;have go:∀ {U:Nat->Prop} {w ls:List Nat},Alg (sF R a b) U w ls->w.Nodup/\∀ x,x∈w↔U x:=by
  intro U w ls al
  induction al with
  | nil h=>exact ⟨QBr,fun x=>⟨fun z=>(by cases z),fun z=>absurd z (h x)⟩⟩
  | @step U c w ls hc hU _ _ ih =>
   refine ⟨List.nodup_append.mpr ⟨hc.nd,ih.1,fun x hx y hy e=>?_⟩,fun x=>?_⟩
   ·subst e;exact ((ih.2 x).mp hy).2 hx
   ·rw [QCu,ih.2 x]
    by_cases q:x∈c
    ·exact ⟨fun _=>hU x q,fun _=>.inl q⟩
    ·exact ⟨fun z=>(z.resolve_left q).1,fun z=>.inr ⟨z,q⟩⟩
 exact go al
end
end My
namespace My
open PySem L2
structure Cols (n:Nat) (w:List Nat):Prop where
 nd:w.Nodup
 all:∀ x,x∈w↔x<n
theorem Cols.len {n:Nat} {w:List Nat} (c:Cols n w):w.length=n:=by
 have p:w.Perm (List.range n):=(QEr c.nd QCh).mpr fun x=>by rw [c.all x,QZe]
 rw [p.length_eq,QAr]
theorem Cols.turn {n:Nat} {w:List Nat} (c:Cols n w):Turn n (toI w):=by
 refine ⟨by unfold toI; rw [QAa]; exact c.len,?_,fun x hx=>?_⟩
 ·unfold toI;exact QZk.mpr (QZm.mpr ((QZk.mp c.nd).imp fun q e=>q (by exact Om.e1 ‹_›)))
 ·unfold toI at hx;obtain ⟨y,hy,rfl⟩:=QZd.mp hx;have:=(c.all y).mp hy;omega
section
variable {n:Nat} {R:List (List Int)} {w:List Nat} {a:Nat}
theorem JC (ok:OkRows n R) (hl:R.length=n) (c:Cols n w) (ha:a<n):Turn n (w.map fun x=>ent R a x):=by
 refine ⟨by rw [QAa]; exact c.len,?_,fun x hx=>?_⟩
 ·refine QZk.mpr (QZm.mpr (List.Pairwise.imp_of_mem ?_ (QZk.mp c.nd)));intro x y hx hy q e;exact q ((YB ok hl ha).inj ((c.all x).mp hx) ((c.all y).mp hy) e)
 ·obtain ⟨y,hy,rfl⟩:=QZd.mp hx;exact Zcj ok hl ha ((c.all y).mp hy)
theorem Cols.zero (c:Cols n w) (h1:1<=n):w.getD 0 0<n:=by
 have hp:0<w.length:=by rw [c.len]; exact h1
 rw [gDN hp];exact (c.all _).mp (QAq _)
theorem YL (ok:OkRows n R) (hl:R.length=n) {i j:Nat} (hi:i<n) (hj:j<n):ent R i j=(((ent R i j).toNat:Nat):Int)/\(ent R i j).toNat<n:=by
 have:=Zcj ok hl hi hj;exact ⟨by exact O41 this,by exact O380 hj this⟩
theorem al0 (ok:OkRows n R) (hl:R.length=n) (c:Cols n w) (h1:1<=n) (ha:a<n) {r:Nat} (hr:r<n):((ZA n R a w).getD 0 []).getD r 0=(((w.map fun x=>ent R a x).idxOf (ent R r (w.getD 0 0)):Nat):Int):=by
 have t:=JC ok hl c ha;obtain ⟨e1,e2⟩:=YL ok hl hr (c.zero h1);show ((List.range n).map fun r=>(thg R a w).getD (ent R r (w.getD 0 0)).toNat 0).getD r 0=_;rw [QAc,QAe,QBj hr];show (thg R a w).getD (ent R r (w.getD 0 0)).toNat 0=_;unfold thg;rw [JK t e2,<- e1]
theorem al1 (c:Cols n w) {x:Nat} (hx:x<n):((ZA n R a w).getD 1 []).getD x 0=(((toI w).idxOf (x:Int):Nat):Int):=JK c.turn hx
theorem al2 (ok:OkRows n R) (hl:R.length=n) (c:Cols n w) (ha:a<n) {t:Nat} (ht:t<n):((ZA n R a w).getD 2 []).getD t 0=(((w.map fun x=>ent R a x).idxOf (t:Int):Nat):Int):=JK (JC ok hl c ha) ht
theorem J9 (ok:OkRows n R) (hl:R.length=n) (c:Cols n w) (h1:1<=n) (ha:a<n):Ren n (ZA n R a w):=by
 have t:=JC ok hl c ha;refine Ren.of3 (Turn.of (by rw [QAa,QAr]) (fun i hi=>?_) fun i j hi hj e=>?_) c.turn.inv t.inv
 ·have h:=al0 ok hl c h1 ha hi;obtain ⟨e1,e2⟩:=YL ok hl hi (c.zero h1);exact ⟨_,h,by rw [e1]; exact (Y0 t e2).1⟩
 ·have hi':=al0 ok hl c h1 ha hi;have hj':=al0 ok hl c h1 ha hj;obtain ⟨e1,e2⟩:=YL ok hl hi (c.zero h1);obtain ⟨e3,e4⟩:=YL ok hl hj (c.zero h1);have e5:((ZA n R a w).getD 0 []).getD i 0=((ZA n R a w).getD 0 []).getD j 0:=e;rw [hi',hj'] at e5;have k1:=(Y0 t e2).2;have k2:=(Y0 t e4).2;rw [<- e1] at k1;rw [<- e3] at k2;have:(w.map fun x=>ent R a x).idxOf (ent R i (w.getD 0 0))=(w.map fun x=>ent R a x).idxOf (ent R j (w.getD 0 0)):=by exact Om.e1 ‹_›
  rw [this,k2] at k1;exact Zbv ok hl hi hj (c.zero h1) k1.symm
theorem YD (ok:OkRows n R) (hl:R.length=n) {b:Nat} (ha:a<n) (hb:b<n) (hw:w∈Zr n (rgs n R a b)):Cols n w:=⟨(Zdl ok hl ha hb hw).1,(Zdl ok hl ha hb hw).2⟩
theorem ZfG (ok:OkRows n R) (hl:R.length=n) (c:Cols n w) (h1:1<=n) (ha:a<n) {j:Nat} (hj:j<n):ent (ZY n R (ZA n R a w)) 0 j=(j:Int)/\ent (ZY n R (ZA n R a w)) j 0=(j:Int):=by
 have rn:=J9 ok hl c h1 ha;have t:=JC ok hl c ha;have hwl:w.length=n:=c.len;have wj:w.getD j 0<n:=by rw [gDN (by exact Om.a1 ‹_› ‹_›)]; exact (c.all _).mp (QAq _)
 have ixw:∀ k,k<n->(toI w).idxOf ((w.getD k 0:Nat):Int)=k:=fun k hk=>by
  refine Jf c.turn hk (by rw [gDN (by exact Om.a1 ‹_› ‹_›)]; exact (c.all _).mp (QAq _)) ?_;unfold toI;rw [QAc,QAe,QAb (by exact Om.a1 ‹_› ‹_›),gDN (by exact Om.a1 ‹_› ‹_›)]
  rfl
 have ixt:∀ k,k<n->(w.map fun x=>ent R a x).idxOf (ent R a (w.getD k 0))=k:=fun k hk=>by
  have wk:w.getD k 0<n:=by rw [gDN (by exact Om.a1 ‹_› ‹_›)]; exact (c.all _).mp (QAq _)
  obtain ⟨e1,e2⟩:=YL ok hl ha wk;rw [e1];refine Jf t hk e2 ?_;rw [<- e1,QAc,QAe,QAb (by exact Om.a1 ‹_› ‹_›),gDN (by exact Om.a1 ‹_› ‹_›)]
  rfl
 have cell:∀ r k,r<n->k<n->ent (ZY n R (ZA n R a w)) (rw_ (ZA n R a w) 0 r) (rw_ (ZA n R a w) 1 (w.getD k 0))=((rw_ (ZA n R a w) 2 (ent R r (w.getD k 0)).toNat:Nat):Int):=fun r k hr hk=>Zbf rn ok hl hr (by rw [gDN (by exact Om.a1 ‹_› ‹_›)]; exact (c.all _).mp (QAq _))
 have c1:∀ k,k<n->rw_ (ZA n R a w) 1 (w.getD k 0)=k:=fun k hk=>by
  unfold rw_;rw [al1 c (by rw [gDN (by exact Om.a1 ‹_› ‹_›)]; exact (c.all _).mp (QAq _)),ixw k hk,QAf]
 have r0:∀ r,r<n->rw_ (ZA n R a w) 0 r=rw_ (ZA n R a w) 2 (ent R r (w.getD 0 0)).toNat:=fun r hr=>by
  obtain ⟨e1,e2⟩:=YL ok hl hr (c.zero h1);unfold rw_;rw [al0 ok hl c h1 ha hr,al2 ok hl c ha e2,<- e1]
 constructor
 ·have h:=cell a j ha hj;obtain ⟨e1,e2⟩:=YL ok hl ha (c.zero h1);obtain ⟨e3,e4⟩:=YL ok hl ha wj;have z0:rw_ (ZA n R a w) 0 a=0:=by
   unfold rw_;rw [al0 ok hl c h1 ha ha,ixt 0 (by exact Om.f5 ‹_›)]
   rfl
  have z2:rw_ (ZA n R a w) 2 (ent R a (w.getD j 0)).toNat=j:=by
   unfold rw_;rw [al2 ok hl c ha e4,<- e3,ixt j hj,QAf]
  rw [z0,c1 j hj,z2] at h;exact h
 ·have hr:=Z4 (rn.at (k:=0) (by decide)) hj;have h:=cell _ 0 hr (by exact Om.f5 ‹_›);rw [<- r0 _ hr,ZdL rn (by decide) hj,c1 0 (by exact Om.f5 ‹_›)] at h;exact h
end
section
variable {n:Nat} {R Rn:List (List Int)}
theorem Ziv {x:Nat} (hx:x<n):thO n Rn x=rw_ Rn 1 x:=by unfold thO; rw [if_pos hx]
theorem Hop.cols {a b:Nat} {w:List Nat} (h:Hop n R a b w) (ok:OkRows n R) (hl:R.length=n):Cols n w:=YD ok hl h.ha h.hb h.hw
theorem Zbe (ok:OkRows n R) (hl:R.length=n) (rn:Ren n Rn):ZY n (ZY n R Rn) (Yo Rn)=R:=by
 obtain ⟨ok',hl'⟩:=Jj ok hl rn;have h:=Zka (ZaP ok hl) rn;rw [YW ok hl rn,YW ok' hl' rn.und] at h;have inj:∀ {A B:List (List Int)},(A.map fun r=>r.map V.int)=(B.map fun r=>r.map V.int)->A=B:=by
  intro A
  induction A with
  | nil=>intro B e; cases B with
   | nil=>rfl
   | cons _ _=>cases e
  | cons x A ih=>intro B e; cases B with
   | nil=>cases e
   | cons y B =>
    rw [QAp,QAp,List.cons.injEq] at e;rw [ih e.2];have h2:∀ {p q:List Int},p.map V.int=q.map V.int->p=q:=by
     intro p
     induction p with
     | nil=>intro q e; cases q with
      | nil=>rfl
      | cons _ _=>cases e
     | cons u p ih=>intro q e; cases q with
      | nil=>cases e
      | cons v q =>
       rw [QAp,QAp,List.cons.injEq,V.int.injEq] at e;rw [e.1,ih e.2]
    rw [h2 e.1]
 exact inj h
end
end My
namespace My
open PySem L2
theorem ZaW:∀ (f g:Nat) (C:List (List Nat)),C.length<=f->C.length<=g->Zr f C=Zr g C
 | f,g,[],_,_=>by cases f <;> cases g <;> rfl
 | 0,_,_::_,h,_=>by simp at h
 | _,0,_::_,_,h=>by simp at h
 | f+1,g+1,c::C,hf,hg=>by
  rw [Y7,Y7];have h:∀ i∈List.range (c::C).length,Zr f ((c::C).take i++(c::C).drop (i+1))=Zr g ((c::C).take i++(c::C).drop (i+1)):=fun i hi=>by
   have hi:=QZe.mp hi;have e:((c::C).take i++(c::C).drop (i+1)).length=C.length:=by
    rw [QAo,QAu,QBn]
    simp only [QAx] at hi ⊢;exact O379 hi
   simp only [QAx] at hf hg;exact ZaW f g _ (by exact O378 hf e) (by exact O378 hg e)
  rw [List.flatMap_def,List.flatMap_def]
  congr 1
  refine QBx fun i hi=>?_;rw [h i hi]
termination_by f=>f
noncomputable def LL (H:Hp) (l:Addr) (C:List (List Nat)):Prop:=∃ ps:List Addr,H l=some (.lst (ps.map V.ref))/\Paired (fun p (r:List Nat)=>H p=some (.lst ((toI r).map V.int))) ps C
theorem LL.same {H H1:Hp} {l:Addr} {C:List (List Nat)} (g:LL H l C) (x:Same H H1):LL H1 l C :=
 let ⟨ps,h,r⟩:=g
 ⟨ps,x _ _ h,Paired.mapP r fun _ _ z=>x _ _ z⟩
theorem Yx (l:List Nat):(toI l).length=l.length:=QAa _
theorem ZjC {C:List (List Nat)} {m:Nat} (h:m=C.length):(List.range m).filterMap (fun j=>some (V.int (((C.getD j []).length:Nat):Int)))=(toI (C.map List.length)).map V.int:=by
 subst h;rw [JM];unfold toI;rw [QBa,QBa];refine QDi fun j=>?_;rw [QAe,QAe]
 by_cases hj:j<C.length
 ·rw [QBj hj,QAb hj];show some (V.int (((C.getD j []).length:Nat):Int))=some (V.int ((C[j].length:Nat):Int));rw [gDL hj]
 ·rw [QCr (by rw [QAr]; exact O356 hj),QCr (by exact O356 hj)]
  rfl
theorem Zfp {l:List Nat} {ns:List Int} (p:ns.Perm (toI l)) (h:ns.Pairwise (· <= ·)):ns=toI (l.mergeSort leN):=by
 refine JO (p.trans ?_) h ?_
 ·unfold toI;exact ((List.mergeSort_perm l leN).map _).symm
 ·unfold toI;rw [QZm];exact (ZbN l).imp fun z=>by exact O377 z
inductive Zc9 (vs:List V) (H:Hp) (Q:VK):Prop where
 | mk (l:Addr) (C:List (List Nat)) (_:vs=[.ref l]) (_:LL H l C) (_:C.length<=8) (_:∀ t H',H t=none->Same H H'->H' t=some (.lst ((toI ((C.map List.length).mergeSort leN)).map V.int))->Q (.ref t) H'):Zc9 vs H Q
noncomputable def Zds:Sp:=fun vs H Q _=>Zc9 vs H Q
section
variable {P:Program} {w:World} {K:QZa} {mg:Str->Option Value} {base:Heap}
theorem Zh2:Zs ["circles"] ["circles"] (Zd Jp):=⟨rfl,rfl,rfl,by decide +kernel,rfl,by decide +kernel,by decide +kernel⟩
theorem ZgE {f:Addr} {fd:FuncData} (F:Fun K "lengths_of" "lengths_of" Jp f fd) (T:Blt mg):FnOk P w K mg base CX0 1 f fd ["circles"] Zds:=by
 refine F.ok Zh2 (fun vs H Q E h=>?_) (fun cdv A outer s H vs Q E hr h=>?_)
 ·obtain ⟨_,_,rfl,_⟩:=h
  rfl
 ·obtain ⟨l,C,rfl,hL,h8,q⟩:=h
  refine' ⟨_,Zf (Zq (Zl (ZfD K) rfl T.sorted PyProof.Rows.boot_sorted (Za (Yi ["circle"] [none] rfl rfl (Z2 K (pv 0)) (fun _ _ _ _ _=>Yw 0) (fun _ _ _ _ _=>ZB) (fun _ _ _ _ _=>Zl (Zt K) rfl T.len PySem.boot_len (Za (pv 0) Zc))) Zc))),?rd⟩
  case rd =>
   obtain ⟨ps,hps,hP⟩:=hL;have hpl:(ps.map V.ref).length=C.length:=by rw [QAa,hP.length]
   refine ⟨_,rfl,l,rfl,⟨_,SqL.of hps⟩,fun lc hlc=>?_⟩;refine ZD (fun j=>some (V.int (((C.getD j []).length:Nat):Int))) (fun σ=>∃ v,σ=[v]) (Z1 (xs:=ps.map V.ref)) (by rw [hpl]; exact Zy (by exact Om.b1 ‹_› rfl)) hlc (fun H' sm=>SqL.of (sm _ _ hps)) ⟨none,rfl⟩ ?_ ?_
   ·rintro j y σ H' R' hy ⟨v,rfl⟩ sm kk;rw [QAe] at hy
    cases hpj:ps[j]? with
    | none=>rw [hpj] at hy; cases hy
    | some p =>
    rw [hpj] at hy
    cases hy;obtain ⟨c,hc,hp⟩:=Paired.getL hP hpj;have hcj:C.getD j []=c:=by rw [QAc,hc]; rfl
    have kk':=kk _ H' ⟨some (.ref p),rfl⟩ (Same.refl _);refine ⟨_,rfl,p,_,rfl,.inl (SqL.of (sm _ _ hp)),?_⟩;rw [QAa,Yx,<- hcj];exact kk'
   intro H2 s2 h2;rw [ZjC hpl] at h2;refine ⟨lc,toI (C.map List.length),rfl,SqL.of h2,by rw [Yx,QAa]; exact O38 h8 hpl,fun t ns ht p pw=>?_⟩;rw [Zfp p pw];exact q t _ (s2.free ht) (s2.trans (Same.new ht)) Zb
end
end My
namespace L2
open PySem PySem.Spec PyProof.Rows PySem.W SeqAt
theorem ZfF (v:Nat->Int):∀ k,argBest (fun i j=>decide (v i<v j)) k<=k/\∀ j,j<=k->v (argBest (fun i j=>decide (v i<v j)) k)<=v j
 | 0=>⟨QAd _,fun j hj=>by
   have:j=0:=by exact O376 hj
   subst this;exact QCi _⟩
 | k+1=>by
  obtain ⟨h1,h2⟩:=ZfF v k;have e:argBest (fun i j=>decide (v i<v j)) (k+1)=if decide (v (k+1)<v (argBest (fun i j=>decide (v i<v j)) k))=true then k+1 else argBest (fun i j=>decide (v i<v j)) k:=rfl
  rw [e]
  by_cases hb:v (k+1)<v (argBest (fun i j=>decide (v i<v j)) k)
  ·rw [if_pos (QZh hb)];refine ⟨QAd _,fun j hj=>?_⟩
   by_cases q:j=k+1
   ·subst q;exact QCi _
   ·have:=h2 j (by exact Om.q1 ‹_› ‹_›);omega
  ·rw [if_neg (by rw [QZg]; exact hb)];refine ⟨by exact O339 h1,fun j hj=>?_⟩
   by_cases q:j=k+1
   ·subst q;exact O375 hb
   ·exact h2 j (by exact Om.q1 ‹_› ‹_›)
noncomputable def Zmz (K:QZa):List V->Hp->VK->Prop:=fun xs H Q=>∃ (l:Addr) (ns:List Int),xs=[.ref l]/\SqL K H l (ns.map V.int)/\0<ns.length/\∀ m:Int,m∈ns->(∀ x∈ns,m<=x)->Q (.int m) H
theorem Zio {X:Cx} (K:QZa) (hc:X.calm=true) (hK:X.K=K:=by rfl):Y5 X (.builtin "min") (Zmz K):=by
 subst hK;intro pins s σ H xs us Q I r h;obtain ⟨l,ns,rfl,hl,hn,q⟩:=h;obtain ⟨u,rfl,ru⟩:=J1 r
 cases ru;obtain ⟨its,rv,pl,_⟩:=I.list hl;have hlen:its.length=ns.length:=by rw [<- rv.length,QAa]
 have itv:∀ (i:Nat) (v:Value),its[i]? = some v->∃ t,v = .int (ns.getD i 0) t:=fun i v e=>by
  have hi:i<ns.length:=by rw [<- hlen]; exact (QZb.mp e).1
  obtain ⟨w,g,rw'⟩:=rv.get (show (ns.map V.int)[i]? = some (V.int ns[i]) by rw [QAe,QAb hi]; rfl);rw [e] at g
  cases g;obtain ⟨t,rfl⟩:=rw';exact ⟨t,by rw [QAc,QAb hi]; rfl⟩
 have ext:∀ {h':Heap} {tk:Nat},(∀ b o,s.heap.get? b=some o->h'.get? b=some o)->Inv X pins σ H { s with heap:=h',toks:=tk }:=fun k=>I.kept k
 refine Zhp (lt:=fun i j=>decide (ns.getD i 0<ns.getD j 0)) (I.ok.hd hc) pl.isList (by simp; exact Om.a1 ‹_› ‹_›) (fun i j u v h' tk Q E k hu1 hv1 z=>?_) (fun v h' tk hv k=>?_)
 ·obtain ⟨t1,rfl⟩:=itv i u (by simpa using hu1);obtain ⟨t2,rfl⟩:=itv j v (by simpa using hv1);exact PyProof.Rows.lt_int (a:=ns.getD i 0) (b:=ns.getD j 0) z
 ·obtain ⟨t,rfl⟩:=itv _ v (by rw [<- List.getElem?_toArray]; exact hv);obtain ⟨b1,b2⟩:=ZfF (fun i=>ns.getD i 0) (its.toArray.size - 1);have hsz:its.toArray.size=ns.length:=by simp; exact hlen
  refine ⟨.int _,H,ext k,⟨t,rfl⟩,q _ ?_ fun x hx=>?_⟩
  ·have hb:argBest (fun i j=>decide (ns.getD i 0<ns.getD j 0)) (its.toArray.size - 1)<ns.length:=by exact O374 hn hlen b1 hsz
   rw [QAc,QAb hb];exact QAq _
  ·obtain ⟨j,hj,rfl⟩:=QBe hx;have:=b2 j (by exact O373 hn hlen hsz hj);have e:ns.getD j 0=ns[j]:=by rw [QAc,QAb hj]; rfl
   rw [<- e];exact this
end L2
namespace My
open PySem L2
theorem ZeV {X:Cx} (K:QZa) (h:X.K=K:=by rfl):SlR X (Zmw K):=by subst h; exact ZaH
noncomputable def bnd:Nat->Nat
 | 0=>1
 | k+1=>(k+1)*(6*bnd k)
theorem Yt {α β:Type} {g:α->List β} {m:Nat}:∀ (l:List α),(∀ x∈l,(g x).length<=m)->(l.flatMap g).length<=l.length*m
 | [],_=>by simp
 | x::l,h=>by
  rw [QDj,QAo,QAx,QCt];have:=Yt l fun y hy=>h y (QAm _ hy)
  have:=h x QAj;omega
theorem ZaE:∀ (f:Nat) (C:List (List Nat)),C.length=f->(∀ c∈C,c.length<=6)->(Zr f C).length<=bnd f
 | 0,[],_,_=>by simp [Zr,bnd]
 | 0,_::_,h,_=>by simp at h
 | f+1,[],h,_=>by simp at h
 | f+1,c::C,hf,h6=>by
  rw [Y7];have hm:mnl (c::C)<=6:=by
   obtain ⟨⟨d,hd,e⟩,_⟩:=ZaO c C;rw [<- e];exact h6 d hd
  have h:=Yt (m:=6*bnd f) (g:=fun i=>if ((c::C).getD i []).length=mnl (c::C) then (List.range (mnl (c::C))).flatMap fun st=>(Zr f ((c::C).take i++(c::C).drop (i+1))).map fun w=>rot ((c::C).getD i []) st++w else []) (List.range (c::C).length) fun i hi=>by
   have hi:=QZe.mp hi;show (if ((c::C).getD i []).length=mnl (c::C) then (List.range (mnl (c::C))).flatMap fun st=>(Zr f ((c::C).take i++(c::C).drop (i+1))).map fun w=>rot ((c::C).getD i []) st++w else []).length<=_
   split
   ·have e:((c::C).take i++(c::C).drop (i+1)).length=f:=by
     rw [QAo,QAu,QBn]
     simp only [QAx] at hi hf ⊢;exact O372 hf hi
    have ih:=ZaE f _ e fun d hd=>by
     rw [<- QCv] at hd;exact h6 d ((YF hi).mpr (.inr hd))
    have:=Yt (m:=bnd f) (g:=fun st=>(Zr f ((c::C).take i++(c::C).drop (i+1))).map fun w=>rot ((c::C).getD i []) st++w) (List.range (mnl (c::C))) fun st _=>by rw [QAa]; exact ih
    rw [QAr] at this;exact QAs this (QCd hm (QAd _))
   ·exact QAh _
  rw [QAr] at h;rw [hf] at h ⊢;exact h
theorem ZjP:∀ k,k<=3->bnd k<=1296:=by decide
theorem Ju {n:Nat} (h:n<=1000000):n<sizeLine:=QEd h (by decide)
theorem Zkx {C:List (List Nat)} (h:0<C.length):ZgL C (mnl C):=by
 cases C with
 | nil=>cases h
 | cons c C=>exact ZaO c C
noncomputable def Zeo (f:Nat) (C:List (List Nat)) (i:Nat):List (List Nat):=if (C.getD i []).length=mnl C then (List.range (mnl C)).flatMap fun st=>(Zr f (C.take i++C.drop (i+1))).map fun w=>rot (C.getD i []) st++w else []
noncomputable def stW (W:List (List Nat)) (c:List Nat) (st:Nat):List (List Nat):=W.map fun w=>rot c st++w
theorem Zgh {C:List (List Nat)} (h:0<C.length):Zr C.length C=(List.range C.length).flatMap (Zeo (C.length - 1) C):=by
 cases C with
 | nil=>cases h
 | cons c C=>exact Y7 C.length c C
theorem Zcl:∀ (f:Nat) (C:List (List Nat)),(∀ c∈C,c.length<=6)->∀ w∈Zr f C,w.length<=6*f
 | f,[],_,w,h=>by
  have e:Zr f []=[[]]:=by cases f <;> rfl
  rw [e,QDf] at h;rw [h];exact QAh _
 | 0,_::_,_,w,h=>by simp [Zr] at h
 | f+1,c::C,h6,w,h=>by
  obtain ⟨i,hi,st,w',_,_,hw',rfl⟩:=mem_walks.mp h;have:=Zcl f _ (fun d hd=>h6 d ((YF hi).mpr (.inr hd))) w' hw';have:=h6 _ (QAq hi);rw [QAo,YV];omega
inductive ZfJ (k:Nat) (vs:List V) (H:Hp) (Q:VK):Prop where
 | mk (l:Addr) (C:List (List Nat)) (_:vs=[.ref l]) (_:LL H l C) (_:C.length+1<=k) (_:C.length<=3) (_:(∀ c∈C,0<c.length/\c.length<=6)) (_:∀ t H',H t=none->Same H H'->LLn H H' t (Zr C.length C)->Q (.ref t) H'):ZfJ k vs H Q
noncomputable def Zek (k:Nat):Sp:=fun vs H Q _=>ZfJ k vs H Q
theorem Ziw {c:List Nat} (k:Nat):((toI c).map V.int).take k=(toI (c.take k)).map V.int:=by
 unfold toI;rw [List.map_take,List.map_take]
theorem ZjI {c:List Nat} (k:Nat):((toI c).map V.int).drop k=(toI (c.drop k)).map V.int:=by
 unfold toI;rw [List.map_drop,List.map_drop]
theorem Paired.take5 {α β:Type} {F:α->β->Prop}:∀ {l₁:List α} {l₂:List β} (k:Nat),Paired F l₁ l₂->Paired F (l₁.take k) (l₂.take k)
 | _,_,0,_=>.nil
 | _,_,_+1,.nil=>.nil
 | _,_,k+1,.cons r t=>.cons r (Paired.take5 k t)
theorem Paired.drop5 {α β:Type} {F:α->β->Prop}:∀ {l₁:List α} {l₂:List β} (k:Nat),Paired F l₁ l₂->Paired F (l₁.drop k) (l₂.drop k)
 | _,_,0,r=>r
 | _,_,_+1,.nil=>.nil
 | _,_,k+1,.cons _ t=>Paired.drop5 k t
theorem ZgW:bootBuiltins "min" = some (Value.builtin "min"):=by decide +kernel
section
variable {P:Program} {w:World} {K:QZa} {mg:Str->Option Value} {base:Heap}
theorem scWalks:Zs ["circles","shortest","found","place","circle","onward","start"] ["circles"] (Zd Zar):=⟨rfl,rfl,rfl,by decide +kernel,rfl,by decide +kernel,by decide +kernel⟩
inductive ZfW (H:Hp) (l:Addr) (C:List (List Nat)) (lf:Addr) (i:Nat) (σ:St) (H3:Hp):Prop where
 | mk (v3 v4 v5 v6:Option V) (zs:List Addr) (_:σ=[some (.ref l),some (.int ((mnl C:Nat):Int)),some (.ref lf),v3,v4,v5,v6]) (_:Same H H3) (_:H3 lf=some (.lst (zs.map V.ref))) (_:Paired (fun p (r:List Nat)=>H3 p=some (.lst ((toI r).map V.int))/\p≠lf/\H p=none) zs ((List.range i).flatMap (Zeo (C.length - 1) C))):ZfW H l C lf i σ H3
inductive ZfV (H:Hp) (l:Addr) (C:List (List Nat)) (lf:Addr) (i:Nat) (zs:List Addr) (p:Addr) (c:List Nat) (lo:Addr) (HO:Hp) (W:List (List Nat)) (st:Nat) (σ:St) (H6:Hp):Prop where
 | mk (v6:Option V) (us:List Addr) (_:σ=[some (.ref l),some (.int ((mnl C:Nat):Int)),some (.ref lf),some (.int (i:Int)),some (.ref p),some (.ref lo),v6]) (_:Same H H6) (_:(∀ b o,b≠lf->HO b=some o->H6 b=some o)) (_:H6 lf=some (.lst ((zs++us).map V.ref))) (_:Paired (fun p (r:List Nat)=>H6 p=some (.lst ((toI r).map V.int))/\p≠lf/\H p=none) us ((List.range st).flatMap (stW W c))):ZfV H l C lf i zs p c lo HO W st σ H6
inductive ZfU (H:Hp) (lf:Addr) (p:Addr) (c:List Nat) (W:List (List Nat)) (st:Nat) (H6:Hp) (lc2:Addr) (j:Nat) (ys:List V) (σ:St) (H7:Hp):Prop where
 | mk (v0:Option V) (ts:List Addr) (_:σ=[v0,some (.ref p),some (.int (st:Int))]) (_:ys=ts.map V.ref) (_:Same H6 H7) (_:H7 lc2=some (.lst ys)) (_:Paired (fun p (r:List Nat)=>H7 p=some (.lst ((toI r).map V.int))/\p≠lf/\p≠lc2/\H p=none) ts ((stW W c st).take j)):ZfU H lf p c W st H6 lc2 j ys σ H7
set_option maxHeartbeats 1000000 in
theorem Zfb {f:Addr} {fd:FuncData} (D:Dfn K mg "walks" Zar ["circles"] f fd) (T:Blt mg):∀ k:Nat,FnOk P w K mg base CX0 k f fd ["circles"] (Zek k)
 | 0=>⟨fun vs H Q E h=>by obtain ⟨_,_,rfl,_⟩:=h; rfl,fun A outer s H args us vs Q E _ _ _ _ h=>by obtain ⟨_,_,rfl,_,z,_⟩:=h; exact absurd z (Nat.not_succ_le_zero _)⟩
 | k+1=>by
  have GW:FnOk P w K mg base CX0 k f fd ["circles"] (Zek k):=Zfb D T k;refine D.F.ok scWalks (fun vs H Q E h=>?_) (fun cdv A outer s H vs Q E hr h=>?_)
  ·obtain ⟨_,_,rfl,_⟩:=h
   rfl
  ·obtain ⟨l,C,rfl,hL,hk,h3,h6,q⟩:=h
   refine' ⟨_,Ze (Yy (Zaj (ZiR (pv 0) (fun _=>rfl))) (Zf (Zq (Yd (Za (Yd Zc) Zc)))) ZR) (Ze ?s1 (Ze (Zk (i:=2) scWalks.nd rfl (Or.inl rfl) (Yd Zc)) (Ze (Yv PassesOwn.never rfl (ZiT K rfl T.enum (Za (pv 0) Zc)) (Zev rfl (ZS (ZJ (i:=3) scWalks.nd rfl (Or.inl rfl)) (ZS (ZJ (i:=4) scWalks.nd rfl (Or.inr rfl)) Jx))) (Zf (Yy ?c (Ze ?d0 (Zf (Yv PassesOwn.never rfl (Zx rfl T.range (Za (pv 1) Zc)) (ZJ (i:=6) scWalks.nd rfl (Or.inr rfl)) (Zf ?e)))) ZR))) (Zf (Zq (pv 2)))))),?rd⟩
   case s1=>exact Zk (i:=1) scWalks.nd rfl (Or.inl rfl) (Zl (Zio K rfl) rfl T.min ZgW (Za (Yi ["circle"] [none] rfl rfl (Z2 K (pv 0)) (fun _ _ _ _ _=>Yw 0) (fun _ _ _ _ _=>ZB) (fun _ _ _ _ _=>Zl (Zt K) rfl T.len PySem.boot_len (Za (pv 0) Zc))) Zc))
   case c=>exact ZC Zay (Zl (Zt K) rfl T.len PySem.boot_len (Za (pv 4) Zc)) (pv 1) (ZV _)
   case d0=>exact Zk (i:=5) scWalks.nd rfl (Or.inl rfl) (Zm GW hr rfl D.m D.F.kp D.b .nil ZF (Za (Zj ZcE (JF ZaH (pv 0) ZaJ (JU (pv 3))) (JF ZaH (pv 0) (JU (Zj Yj (pv 3) Zh)) ZaJ)) Zc))
   case e=>exact Yz (Jr PySem.F.plainAttrs_list PySem.F.slot_list_extend PySem.F.type_list_extend ZaN (pv 2) (Za (Yi ["walk","circle","start"] [none,some 4,some 6] rfl rfl (Z2 K (pv 5)) (fun _ _ _ _ _=>Yw 0) (fun _ _ _ _ _=>ZB) (fun _ _ _ _ _=>Zj ZcE (Zj ZcE (JF (ZeV K) (pv 1) (JU (pv 2)) ZaJ) (JF (ZeV K) (pv 1) ZaJ (JU (pv 2)))) (pv 0))) Zc))
   case rd =>
    obtain ⟨ps,hps,hP⟩:=hL;have hpl:(ps.map V.ref).length=C.length:=by rw [QAa,hP.length]
    refine ⟨_,rfl,_,.inl ⟨_,SqL.of hps,rfl⟩,?_⟩
    by_cases hC:C=[]
    ·subst hC;have hp0:ps=[]:=by
      cases ps with
      | nil=>rfl
      | cons _ _=>cases hP
     subst hp0;refine ZbR ⟨QAh _,fun l0 hl0=>⟨(show 1<=sizeLine from Zy (by decide)),fun l1 hl1=>?_⟩⟩;exact q l1 _ ((Same.new hl0).free hl1) ((Same.new hl0).trans (Same.new hl1)) ⟨[l0],Zb,.cons ⟨(Same.new hl1) _ _ Zb,(fun e=>by rw [<- e,Zb] at hl1; cases hl1),hl0⟩ .nil⟩
    have hpos:0<C.length:=List.length_pos_iff.mpr hC;have hne:(ps.map V.ref).isEmpty=false:=by
     cases ps with
     | nil=>simp at hpl; exact (O371 h3 hpos hpl).elim
     | cons _ _=>rfl
    rw [hne];refine YZ ?_;obtain ⟨⟨dm,hdm,edm⟩,lem⟩:ZgL C (mnl C):=Zkx hpos;refine ⟨_,rfl,l,rfl,⟨_,SqL.of hps⟩,fun lc hlc=>?_⟩;refine ZD (fun j=>some (V.int (((C.getD j []).length:Nat):Int))) (fun σ=>∃ v,σ=[v]) (Z1 (xs:=ps.map V.ref)) (by rw [hpl]; exact Zy (by exact Om.b1 ‹_› rfl)) hlc (fun H' sm=>SqL.of (sm _ _ hps)) ⟨none,rfl⟩ ?_ ?_
    ·rintro j y σ H' R' hy ⟨v,rfl⟩ sm kk;rw [QAe] at hy
     cases hpj:ps[j]? with
     | none=>rw [hpj] at hy; cases hy
     | some p =>
     rw [hpj] at hy
     cases hy;obtain ⟨c,hc,hp⟩:=Paired.getL hP hpj;have hcj:C.getD j []=c:=by rw [QAc,hc]; rfl
     have kk':=kk _ H' ⟨some (.ref p),rfl⟩ (Same.refl _);refine ⟨_,rfl,p,_,rfl,.inl (SqL.of (sm _ _ hp)),?_⟩;rw [QAa,Yx,<- hcj];exact kk'
    intro H2 s2 h2;rw [ZjC hpl] at h2;refine ⟨lc,toI (C.map List.length),rfl,SqL.of h2,by rw [Yx,QAa]; exact hpos,fun m hm hle=>?_⟩;have em:m=((mnl C:Nat):Int):=by
     unfold toI at hm hle;obtain ⟨x,hx,rfl⟩:=QZd.mp hm;obtain ⟨c,hc,rfl⟩:=QZd.mp hx;have h1:=lem c hc;have h2:=hle _ (QZd.mpr ⟨dm.length,QZd.mpr ⟨dm,hdm,rfl⟩,rfl⟩);omega
    subst em;have hm6:mnl C<=6:=by rw [<- edm]; exact (h6 dm hdm).2
    refine ⟨QAh _,fun lf hlf=>?_⟩;have hlf0:H lf=none:=s2.free hlf;have s3:Same H (upd H2 lf (.lst [])):=s2.trans (Same.new hlf);refine ⟨_,rfl,l,_,rfl,SqL.of (s3 _ _ hps),?_⟩;refine ZhB (n:=C.length) (Y:=fun i H v H'=>∃ q x,v = .ref q/\H q=none/\(ps.map V.ref)[i]? = some x/\H'=upd H q (.tup [.int (i:Int),x])) (P:=fun H'=>SqL K H' l (ps.map V.ref))
     (fun i H' h hi=>⟨_,(ps.map V.ref)[i]'(by exact Om.a1 ‹_› ‹_›),h,QAb _⟩)
     (fun i H' v H'' h zz0 _=> by obtain ⟨q,x,e1,e2,e3,e4⟩ := zz0; exact ⟨q,x,e1,e2,e3 _ h,e4⟩) (fun i H' h hi=>⟨_,h,by exact Om.l4 ‹_› ‹_›⟩)
     (ZfW H l C lf)
     ⟨none,none,none,none,[],rfl,s3,Zb,.nil⟩ (fun j σ H3 zz0=> by obtain ⟨_,_,_,_,_,_,s4,_,_⟩ := zz0; exact SqL.of (s4 _ _ hps)) ?_ ?_
    ·rintro i x σ H3 H4 hi ⟨v3,v4,v5,v6,zs,rfl,s4,hf4,hZ⟩ ⟨z,y,rfl,hz,hy,rfl⟩;rw [QAe] at hy
     cases hpi:ps[i]? with
     | none=>rw [hpi] at hy; cases hy
     | some p =>
     rw [hpi] at hy
     cases hy;obtain ⟨c,hci,hp⟩:=Paired.getL hP hpi;have hcg:C.getD i []=c:=by rw [QAc,hci]; rfl
     have hcm:c∈C:=QAt hci;have s5:Same H3 (upd H3 z (.tup [.int (i:Int),.ref p])):=Same.new hz;refine ⟨z,_,rfl,SqT.of Zb,rfl,_,_,rfl,_,_,rfl,rfl,?_⟩;generalize upd H3 z (.tup [.int (i:Int),.ref p])=H4 at s5 ⊢;have s45:=s4.trans s5;have hf5:=s5 _ _ hf4;have hZ5:Paired (fun p (r:List Nat)=>H4 p=some (.lst ((toI r).map V.int))/\p≠lf/\H p=none) zs ((List.range i).flatMap (Zeo (C.length - 1) C)):=Paired.mapP hZ fun _ _ e=>⟨s5 _ _ e.1,e.2⟩
     have hp4:=s45 _ _ hp;refine ⟨_,rfl,p,_,rfl,.inl (SqL.of hp4),_,rfl,rfl,_,rfl,?_⟩;rw [QAa,Yx]
     by_cases hcl:c.length=mnl C
     rotate_left
     ·rw [show decide (V.int ((c.length:Nat):Int)=V.int ((mnl C:Nat):Int))=false from QZi fun e=>hcl (by rw [V.int.injEq] at e; exact Om.e1 ‹_›)];refine YZ ⟨_,_,_,_,zs,rfl,s45,hf5,?_⟩;have er:Zeo (C.length - 1) C i=[]:=by unfold Zeo; rw [hcg,if_neg hcl]
      rw [QDm,QEf,QDj,List.flatMap_nil,er,QBu,QBu];exact hZ5
     rw [show decide (V.int ((c.length:Nat):Int)=V.int ((mnl C:Nat):Int))=true from QZh (by rw [hcl])];refine ZbR ?_;have hpsl:ps.length=C.length:=by rw [QAa] at hpl; exact hpl
     refine ⟨_,rfl,_,rfl,_,rfl,l,_,rfl,SqL.of (s45 _ _ hps),fun l1 hl1=>?_⟩;rw [ZgS _ (by rw [hpl]; exact Om.d1 ‹_›)];have t1:Same H4 (upd H4 l1 (.lst ((ps.map V.ref).take i))):=Same.new hl1;refine ⟨_,rfl,_,rfl,_,_,rfl,rfl,_,rfl,l,_,rfl,SqL.of (t1 _ _ (s45 _ _ hps)),fun l2 hl2=>?_⟩;rw [show ((i:Int)+1)=((i+1:Nat):Int) from rfl,ZcX _ (by rw [hpl]; exact Om.f1 ‹_›)];have t2:Same (upd H4 l1 (.lst ((ps.map V.ref).take i))) (upd (upd H4 l1 (.lst ((ps.map V.ref).take i))) l2 (.lst ((ps.map V.ref).drop (i+1)))):=Same.new hl2;refine ⟨l1,l2,_,_,rfl,rfl,t2 _ _ Zb,Zb,?_,fun l3 hl3=>?_⟩
     ·rw [QAu,QBn,hpl];exact Zy (by exact O370 h3 hpl hpos hi hpsl)
     have t3:=(t1.trans t2).trans (Same.new (o:=.lst ((ps.map V.ref).take i++(ps.map V.ref).drop (i+1))) hl3);have hl3':(upd (upd (upd H4 l1 (.lst ((ps.map V.ref).take i))) l2 (.lst ((ps.map V.ref).drop (i+1)))) l3 (.lst ((ps.map V.ref).take i++(ps.map V.ref).drop (i+1)))) l3=some (.lst ((ps.take i++ps.drop (i+1)).map V.ref)):=by rw [Zb,QAn,List.map_take,List.map_drop]
     generalize upd (upd (upd H4 l1 (.lst ((ps.map V.ref).take i))) l2 (.lst ((ps.map V.ref).drop (i+1)))) l3 (.lst ((ps.map V.ref).take i++(ps.map V.ref).drop (i+1)))=H5 at t3 hl3' ⊢;have hCl:(C.take i++C.drop (i+1)).length=C.length - 1:=by
      rw [QAo,QAu,QBn];exact O369 h3 hpl hpos hi hpsl
     have hCm:∀ d∈C.take i++C.drop (i+1),d∈C:=fun d hd=>by
      rw [<- QCv] at hd;exact (YF hi).mpr (.inr hd)
     have sH5:=s45.trans t3;refine ⟨l3,C.take i++C.drop (i+1),rfl,⟨_,hl3',Paired.append (Paired.mapP (Paired.take5 i hP) fun _ _ e=>sH5 _ _ e) (Paired.mapP (Paired.drop5 (i+1) hP) fun _ _ e=>sH5 _ _ e)⟩,by exact O368 hk h3 hpl hpos hpsl hCl,by exact O367 h3 hpl hpos hpsl hCl,fun d hd=>h6 d (hCm d hd),fun lo HO hlo sO hLO=>?_⟩;rw [hCl] at hLO;obtain ⟨os,hos,hO⟩:=hLO;have hO:Paired (fun p (r:List Nat)=>HO p=some (.lst ((toI r).map V.int))/\p≠lo/\H5 p=none) os (Zr (C.length - 1) (C.take i++C.drop (i+1))):=hO;have t3O:=t3.trans sO;have sHO:=s45.trans t3O;have hfO:=t3O _ _ hf5;have hpO:=t3O _ _ hp4;have hZO:Paired (fun p (r:List Nat)=>HO p=some (.lst ((toI r).map V.int))/\p≠lf/\H p=none) zs ((List.range i).flatMap (Zeo (C.length - 1) C)):=Paired.mapP hZ5 fun _ _ e=>⟨t3O _ _ e.1,e.2⟩
     have hlolf:lo≠lf:=fun e=>by rw [e] at hlo; rw [t3 _ _ hf5] at hlo; cases hlo
     have hplf:p≠lf:=fun e=>by rw [e,hlf0] at hp; cases hp
     have wfew:=ZaE (C.length - 1) (C.take i++C.drop (i+1)) hCl fun d hd=>(h6 d (hCm d hd)).2
     have hb1:=ZjP (C.length - 1) (by exact O366 h3 hpl hpos hpsl);generalize hW:Zr (C.length - 1) (C.take i++C.drop (i+1))=W at hO wfew;have hosl:os.length=W.length:=hO.length;have erow:Zeo (C.length - 1) C i=(List.range (mnl C)).flatMap (stW W c):=by
      unfold Zeo stW;rw [hcg,if_pos hcl,hW]
     have hzfew:zs.length<=3*(6*1296):=by
      rw [hZ.length];refine QAs (Yt (m:=6*1296) (List.range i) fun j hj=>?_) (by rw [QAr]; exact QCd (by exact Om.b2 ‹_› ‹_› rfl) (QAd _));have hj:=QZe.mp hj;unfold Zeo
      split
      ·have hj2:j<C.length:=by exact O365 hpl hi hpsl hj
       have e:(C.take j++C.drop (j+1)).length=C.length - 1:=by
        rw [QAo,QAu,QBn];exact O364 h3 hpl hpos hpsl hj2
       have:=ZaE (C.length - 1) (C.take j++C.drop (j+1)) e fun d hd=>by
        rw [<- QCv] at hd;exact (h6 d ((YF hj2).mpr (.inr hd))).2
       have h2:=Yt (m:=1296) (g:=fun st=>(Zr (C.length - 1) (C.take j++C.drop (j+1))).map fun w=>rot (C.getD j []) st++w) (List.range (mnl C)) fun st _=>by rw [QAa]; exact Om.b3 ‹_› ‹_› rfl
       rw [QAr] at h2;exact QAs h2 (QCd hm6 (QAd _))
      ·exact QAh _
     refine ⟨_,rfl,((mnl C:Nat):Int),rfl,by exact Om.c2,by exact Om.c1 ‹_› rfl,?_⟩;rw [QAf];refine Ym (lo:=0) (n:=mnl C) (ZfV H l C lf i zs p c lo HO W)
      ⟨_,[],rfl,sHO,fun b o _ e=>e,by rw [QBu]; exact hfO,.nil⟩ ?_ ?_
     ·rintro st σ H6 hst ⟨v6',us,rfl,s6,kp6,hf6,hU⟩;rw [QBw];have hos6:=kp6 _ _ hlolf hos;have hp6:=kp6 _ _ hplf hpO;refine ⟨_,rfl,.inl ⟨rfl,_,SqL.of hf6⟩,_,rfl,lo,rfl,⟨_,SqL.of hos6⟩,fun lc2 hlc2=>?_⟩;have hlc2f:lc2≠lf:=fun e=>by rw [e,hf6] at hlc2; cases hlc2
      refine Z8 (Z1 (xs:=os.map V.ref)) (ZfU H lf p c W st H6 lc2)
       ⟨none,[],rfl,rfl,Same.new hlc2,Zb,.nil⟩ (fun j ys σ H7 zz0=> by obtain ⟨_,_,_,_,s7,hl,_⟩ := zz0; exact ⟨SqL.of (s7 _ _ hos6),hl⟩) ?_ ?_
      ·rintro j y ys σ H7 hj ⟨v0,ts,rfl,rfl,s7,hl7,hT7⟩;rw [QAe] at hj
       cases hpj:os[j]? with
       | none=>rw [hpj] at hj; cases hj
       | some ow =>
       rw [hpj] at hj
       cases hj;obtain ⟨wj,hwj,how⟩:=Paired.getL hO hpj;have hjW:j<W.length:=(QZb.mp hwj).1;have howlf:ow≠lf:=fun e=>by
        have:=how.2.2;rw [e,t3 _ _ hf5] at this
        cases this
       have how7:=s7 _ _ (kp6 _ _ howlf how.1);have hp7:=s7 _ _ hp6;have hcl6:=(h6 c hcm).2;have hstc:st<c.length:=by exact Om.a1 ‹_› ‹_›
       have hwl:=Zcl (C.length - 1) (C.take i++C.drop (i+1)) (fun d hd=>(h6 d (hCm d hd)).2) wj (by rw [hW]; exact QAt hwj);refine ⟨_,rfl,_,rfl,_,rfl,p,_,rfl,SqL.of hp7,fun a1 ha1=>?_⟩;rw [ZcX _ (by rw [QAa,Yx]; exact Om.d1 ‹_›),ZjI];have u1:Same H7 (upd H7 a1 (.lst ((toI (c.drop st)).map V.int))):=Same.new ha1;refine ⟨_,rfl,_,rfl,_,rfl,p,_,rfl,SqL.of (u1 _ _ hp7),fun a2 ha2=>?_⟩;rw [ZgS _ (by rw [QAa,Yx]; exact Om.d1 ‹_›),Ziw];have u2:Same (upd H7 a1 (.lst ((toI (c.drop st)).map V.int))) (upd (upd H7 a1 (.lst ((toI (c.drop st)).map V.int))) a2 (.lst ((toI (c.take st)).map V.int))):=Same.new ha2;refine ⟨a1,a2,_,_,rfl,rfl,u2 _ _ Zb,Zb,?_,fun a3 ha3=>?_⟩
       ·rw [QAa,QAa,Yx,Yx,QBn,QAu];exact Zy (by exact O363 edm hm6 hcl hst)
       have u3:=(u1.trans u2).trans (Same.new (o:=.lst ((toI (c.drop st)).map V.int++(toI (c.take st)).map V.int)) ha3);have g3:(upd (upd (upd H7 a1 (.lst ((toI (c.drop st)).map V.int))) a2 (.lst ((toI (c.take st)).map V.int))) a3 (.lst ((toI (c.drop st)).map V.int++(toI (c.take st)).map V.int))) a3=some (.lst ((toI (rot c st)).map V.int)):=by
        rw [Zb];unfold rot;rw [ZaY,QAn]
       generalize upd (upd (upd H7 a1 (.lst ((toI (c.drop st)).map V.int))) a2 (.lst ((toI (c.take st)).map V.int))) a3 (.lst ((toI (c.drop st)).map V.int++(toI (c.take st)).map V.int))=H8 at u3 g3 ⊢;refine ⟨_,rfl,a3,ow,_,_,rfl,rfl,g3,u3 _ _ how7,?_,fun a4 ha4=>?_⟩
       ·rw [QAa,QAa,Yx,Yx,YV];exact Zy (by exact O362 h3 hpl hpos edm hm6 hcl hpsl hwl)
       have u4:Same H8 (upd H8 a4 (.lst ((toI (rot c st)).map V.int++(toI wj).map V.int))):=Same.new ha4;have g4:(upd H8 a4 (.lst ((toI (rot c st)).map V.int++(toI wj).map V.int))) a4=some (.lst ((toI (rot c st++wj)).map V.int)):=by rw [Zb,ZaY,QAn]
       generalize upd H8 a4 (.lst ((toI (rot c st)).map V.int++(toI wj).map V.int))=H9 at u4 g4 ⊢;have u34:=u3.trans u4;have hl9:=u34 _ _ hl7;have ha4l:a4≠lc2:=fun e=>by rw [e,u3 _ _ hl7] at ha4; cases ha4
       have ha4f:a4≠lf:=fun e=>by rw [e,u3 _ _ (s7 _ _ hf6)] at ha4; cases ha4
       have ha40:H a4=none:=(s6.trans (s7.trans u3)).free ha4;have htl:ts.length=j:=by
        rw [hT7.length,QAu];unfold stW;rw [QAa];exact Om.m1 ‹_›
       have et:(stW W c st).take (j+1)=(stW W c st).take j++[rot c st++wj]:=by
        unfold stW;rw [QCc,QAe,hwj]
        rfl
       refine ⟨hl9,by rw [QAa,htl]; exact Ju (by exact O361 hb1 wfew hosl hjW htl),_,ts++[a4],rfl,by rw [QAn]; rfl,fun b u e=>?_,Zb,?_⟩
       ·rw [Zg (Zi e hlc2)];exact u34 _ _ (s7 _ _ e)
       ·rw [et];exact Paired.snoc (Paired.mapP hT7 fun x _ e=>⟨by rw [Zg e.2.2.1]; exact u34 _ _ e.1,e.2⟩) ⟨by rw [Zg ha4l]; exact g4,ha4f,ha4l,ha40⟩
      ·rintro ys σ H7 ⟨v0,ts,rfl,rfl,s7,hl7,hT7⟩;rw [QAa,hosl,QBd (by unfold stW; rw [QAa]; exact QAd _)] at hT7;have hf7:=s7 _ _ hf6;have htl:ts.length<=1296:=by
        rw [hT7.length];unfold stW;rw [QAa];exact Om.b3 ‹_› ‹_› rfl
       have hul:us.length<=6*1296:=by
        rw [hU.length];refine QAs (Yt (m:=1296) (List.range st) fun j _=>?_) (by rw [QAr]; exact QCd (by exact Om.b2 ‹_› ‹_› rfl) (QAd _));unfold stW;rw [QAa];exact Om.b3 ‹_› ‹_› rfl
       refine ⟨lf,lc2,_,_,rfl,rfl,hf7,hl7,QBz (Ju (by rw [QAa,QAa,QAo]; exact O360 hzfew htl hul)),_,us++ts,rfl,fun b u e=>?_,fun b o hb e=>?_,?_,?_⟩
       ·rw [Zg (Zi e hlf0)];exact s7 _ _ (s6 _ _ e)
       ·rw [Zg hb];exact s7 _ _ (kp6 b o hb e)
       ·rw [Zb,<- QAn,QBo]
       ·rw [QDm,QEf,QDj,List.flatMap_nil,QBu];exact Paired.append (Paired.mapP hU fun x _ e=>⟨by rw [Zg e.2.1]; exact s7 _ _ e.1,e.2⟩) (Paired.mapP hT7 fun x _ e=>⟨by rw [Zg e.2.1]; exact e.1,e.2.1,e.2.2.2⟩)
     ·rintro σ H6 ⟨v6',us,rfl,s6,kp6,hf6,hU⟩;refine ⟨_,_,_,_,zs++us,rfl,s6,hf6,?_⟩;rw [QDm,QEf,QDj,List.flatMap_nil,QBu,erow];exact Paired.append (Paired.mapP hZO fun x _ e=>⟨kp6 _ _ e.2.1 e.1,e.2⟩) hU
    ·rintro σ H3 ⟨v3,v4,v5,v6,zs,rfl,s4,hf4,hZ⟩;rw [<- Zgh hpos] at hZ;exact ⟨_,rfl,q lf H3 hlf0 s4 ⟨zs,hf4,hZ⟩⟩
end
end My
namespace My
open PySem L2
theorem ZlG {X:Cx} {o e:Expr} {es:List Expr} {to:TE} {t:TA} {name:Str} {apos cpos:Pos} {T id:String} {r:V->List V->Hp->VK->Prop} (K:QZa) (pa:PlainAttrs T) (slot:Slot T name id) (hty:typeOf (.builtin id)=pure (.type "method_descriptor")) (hm:MtR X id r) (ho:PE X o to) (ha:PA X (e::es) t) (hK:X.K=K:=by rfl)
  (hbase:attributeBase o name X.env (eval o X.env)=eval o X.env:=by rfl)
  (hfew:((backTo cpos (starEach (e::es) X.env)).all (fun x=>!x.1)&&(backToKw cpos (keywordEach [] X.env)).all (fun x=>x.1.isSome)&&decide ((e::es).length+([]:List Keyword).length+(if ([]:List Keyword).isEmpty then 0 else 1)<30))=true:=by rfl)
  (hline:(apos.endLine==cpos.line)=true:=by rfl) (hs:starEach (e::es) X.env=(false,eval e X.env)::starEach es X.env:=by rfl) (hplain:(backTo cpos (starEach es X.env)).any (·.1)=false:=by rfl) :
  PE X (.Call (.Attribute o name apos) (e::es) [] cpos) (tBM K T r to t):=by
 subst hK;exact Jr pa slot hty hm ho ha hbase hfew hline hs hplain
noncomputable def J2 (n a j:Nat):List (Nat × Nat):=((List.range j).filter fun b=>decide (b≠a)).map fun b=>(a,b)
noncomputable def Y8 (n:Nat):List (Nat × Nat):=(List.range n).flatMap fun a=>J2 n a n
noncomputable def TL (H:Hp) (l:Addr) (L:List (Nat × Nat)):Prop:=∃ ps:List Addr,H l=some (.lst (ps.map V.ref))/\Paired (fun p (x:Nat × Nat)=>H p=some (.tup [.int (x.1:Int),.int (x.2:Int)])) ps L
theorem Zcm (n a j:Nat):J2 n a (j+1)=if j=a then J2 n a j else J2 n a j++[(a,j)]:=by
 unfold J2;rw [QDm,List.filter_append,QAn]
 by_cases e:j=a
 ·rw [if_pos e,List.filter_cons,if_neg (by simp [e])]
  simp
 ·rw [if_neg e,List.filter_cons,if_pos (by simp [e])]
  rfl
theorem ZbC (n a j:Nat):(J2 n a j).length<=j:=by
 unfold J2;rw [QAa];have:=List.length_filter_le (fun b=>decide (b≠a)) (List.range j);rw [QAr] at this;exact this
inductive ZjT (vs:List V) (H:Hp) (Q:VK):Prop where
 | mk (n:Nat) (_:vs=[.int (n:Int)]) (_:n<=6) (_:∀ l H',H l=none->Same H H'->TL H' l (Y8 n)->Q (.ref l) H'):ZjT vs H Q
noncomputable def Zk6:Sp:=fun vs H Q _=>ZjT vs H Q
inductive ZjU (vs:List V) (H:Hp) (Q:VK):Prop where
 | mk (a:Addr) (n:Nat) (r:List Int) (_:vs=[.ref a]) (_:H a=some (.lst (r.map V.int))) (_:Turn n r) (_:n<=8) (_:∀ t H',Same H H'->H t=none->H' t=some (.tup ((inv r).map V.int))->Q (.ref t) H'):ZjU vs H Q
noncomputable def Zk7:Sp:=fun vs H Q _=>ZjU vs H Q
inductive Zd2 (vs:List V) (H:Hp) (Q:VK):Prop where
 | mk (g l:Addr) (n a:Nat) (R:List (List Int)) (w:List Nat) (_:vs=[.ref g,.int (a:Int),.ref l]) (_:TG H g R) (_:OkRows n R) (_:R.length=n) (_:1<=n) (_:n<=6) (_:a<n) (_:H l=some (.lst ((toI w).map V.int))) (_:Cols n w) (_:∀ t H',H t=none->Same H H'->TG H' t (ZA n R a w)->Q (.ref t) H'):Zd2 vs H Q
noncomputable def ZeU:Sp:=fun vs H Q _=>Zd2 vs H Q
section
variable {P:Program} {w:World} {K:QZa} {mg:Str->Option Value} {base:Heap}
theorem scTwo:Zs ["size","found","one"] ["size"] (Zd Jm):=⟨rfl,rfl,rfl,by decide +kernel,rfl,by decide +kernel,by decide +kernel⟩
inductive ZfT (H:Hp) (n:Nat) (lf:Addr) (a:Nat) (σ:St) (H2:Hp):Prop where
 | mk (v2:Option V) (zs:List Addr) (_:σ=[some (.int (n:Int)),some (.ref lf),v2]) (_:Same H H2) (_:H2 lf=some (.lst (zs.map V.ref))) (_:zs.length<=a*n) (_:Paired (fun p (x:Nat × Nat)=>H2 p=some (.tup [.int (x.1:Int),.int (x.2:Int)])) zs ((List.range a).flatMap fun a=>J2 n a n)):ZfT H n lf a σ H2
inductive ZfS (n:Nat) (a:Nat) (H2:Hp) (lc:Addr) (j:Nat) (ys:List V) (σ:St) (H3:Hp):Prop where
 | mk (v0:Option V) (us:List Addr) (_:σ=[v0,some (.int (a:Int))]) (_:ys=us.map V.ref) (_:Same H2 H3) (_:H3 lc=some (.lst ys)) (_:Paired (fun p (x:Nat × Nat)=>H3 p=some (.tup [.int (x.1:Int),.int (x.2:Int)])) us (J2 n a j)):ZfS n a H2 lc j ys σ H3
theorem ZlL {f:Addr} {fd:FuncData} (F:Fun K "two_rows" "two_rows" Jm f fd) (T:Blt mg):FnOk P w K mg base CX0 1 f fd ["size"] Zk6:=by
 refine F.ok scTwo (fun vs H Q E h=>?_) (fun cdv A outer s H vs Q E hr h=>?_)
 ·obtain ⟨_,rfl,_⟩:=h
  rfl
 ·obtain ⟨n,rfl,h6,q⟩:=h
  refine' ⟨_,Ze (Zk (i:=1) scTwo.nd rfl (Or.inl rfl) (Yd Zc)) (Ze (Yv PassesOwn.never rfl (Zx rfl T.range (Za (pv 0) Zc)) (ZJ (i:=2) scTwo.nd rfl (Or.inr rfl)) (Zf ?b)) (Zf (Zq (pv 1)))),?rd⟩
  case b=>exact Yz (Jr PySem.F.plainAttrs_list PySem.F.slot_list_extend PySem.F.type_list_extend ZaN (pv 1) (Za (Yi ["other","one"] [none,some 2] rfl rfl (Zx rfl T.range (Za (pv 0) Zc)) (fun _ _ _ _ _=>Yw 0) (fun _ _ _ _ _=>Zbg (ZC Zhl (pv 0) (pv 1) (ZV _))) (fun _ _ _ _ _=>Za0 (Za (pv 1) (Za (pv 0) Zc)))) Zc))
  case rd =>
   refine ⟨QAh _,fun lf hlf=>?_⟩;refine ⟨_,rfl,(n:Int),rfl,by exact Om.c2,by exact Om.c1 ‹_› rfl,?_⟩;rw [QAf];refine Ym (lo:=0) (n:=n) (ZfT H n lf)
    ⟨none,[],rfl,Same.new hlf,Zb,QAh _,.nil⟩ ?_ ?_
   ·rintro a σ H2 ha ⟨v2,zs,rfl,s2,h2,hzl,hZ⟩;rw [QBw];refine ⟨_,rfl,.inl ⟨rfl,_,SqL.of h2⟩,_,rfl,(n:Int),rfl,by exact Om.c2,by exact Om.c1 ‹_› rfl,fun lc hlc=>?_⟩;rw [QAf];refine Z8 (ZO (n:=n)) (ZfS n a H2 lc)
     ⟨none,[],rfl,rfl,Same.new hlc,Zb,.nil⟩ (fun j ys σ H3 zz0=> by obtain ⟨_,_,_,_,_,hl,_⟩ := zz0; exact ⟨trivial,hl⟩) ?_ ?_
    ·rintro j x ys σ H3 hj ⟨v0,us,rfl,rfl,s3,hl3,hU⟩;obtain ⟨hjn,rfl⟩:=Z6 hj;refine ⟨_,rfl,_,rfl,rfl,_,rfl,?_⟩
     by_cases e:j=a
     ·rw [show decide (V.int (j:Int)=V.int (a:Int))=true from QZh (by rw [e])];refine YZ ⟨_,us,rfl,rfl,s3,hl3,?_⟩;rw [Zcm,if_pos e];exact hU
     ·rw [show decide (V.int (j:Int)=V.int (a:Int))=false from QZi fun z=>e (by rw [V.int.injEq] at z; exact Om.e1 ‹_›)];refine ZbR ⟨_,rfl,_,rfl,(show 2<=sizeLine from Zy (by decide)),fun t ht=>?_⟩;have s4:Same H3 (upd H3 t (.tup [.int (a:Int),.int (j:Int)])):=Same.new ht;have hl4:=s4 _ _ hl3;have hul:us.length<=j:=by rw [hU.length]; exact ZbC n a j
      have up:∀ b row,(upd H3 t (.tup [.int (a:Int),.int (j:Int)])) b=some (.tup row)->(upd (upd H3 t (.tup [.int (a:Int),.int (j:Int)])) lc (.lst (us.map V.ref++[.ref t]))) b=some (.tup row):=fun b row e=>by
       rw [Zg (JH e hl4 (by intro z; cases z))];exact e
      refine ⟨hl4,by rw [QAa]; exact Zw (by exact O359 h6 hjn hul),_,us++[t],rfl,by rw [QAn]; rfl,fun b u e=>?_,Zb,?_⟩
      ·rw [Zg (Zi e hlc)];exact s4 _ _ (s3 _ _ e)
      ·rw [Zcm,if_neg e];exact Paired.snoc (Paired.mapP hU fun _ _ z=>up _ _ (s4 _ _ z)) (up _ _ Zb)
    ·rintro ys σ H3 ⟨v0,us,rfl,rfl,s3,hl3,hU⟩;rw [Zu] at hU;have h3:=s3 _ _ h2;have hul:us.length<=n:=by rw [hU.length]; exact ZbC n a n
     have han:a*n<=6*6:=QCd (by exact Om.b2 ‹_› ‹_› rfl) h6;have up:∀ b row,H3 b=some (.tup row)->(upd H3 lf (.lst (zs.map V.ref++us.map V.ref))) b=some (.tup row):=fun b row e=>by
      rw [Zg (JH e h3 (by intro z; cases z))];exact e
     refine ⟨lf,lc,_,_,rfl,rfl,h3,hl3,by rw [QAa,QAa]; exact Zy (by exact O358 h6 hzl hul han),_,zs++us,rfl,fun b u e=>?_,?_,?_,?_⟩
     ·rw [Zg (Zi e hlf)];exact s3 _ _ (s2 _ _ e)
     ·rw [Zb,QAn]
     ·rw [QAo,QCt];exact O357 hzl hul
     ·rw [QDm,QEf,QDj,List.flatMap_nil,QBu];exact Paired.append (Paired.mapP hZ fun _ _ z=>up _ _ (s3 _ _ z)) (Paired.mapP hU fun _ _ z=>up _ _ z)
   ·rintro σ H2 ⟨v2,zs,rfl,s2,h2,_,hZ⟩;exact ⟨_,rfl,q lf H2 hlf s2 ⟨zs,h2,hZ⟩⟩
theorem ZcF {f:Addr} {fd:FuncData} (F:Fun K "turn_undone" "turn_undone" ZT f fd) (T:Blt mg):FnOk P w K mg base CX0 1 f fd ["turn"] Zk7:=by
 refine F.ok Zmt (fun vs H Q E h=>?_) (fun cdv A outer s H vs Q E hr h=>?_)
 ·obtain ⟨_,_,_,rfl,_⟩:=h
  rfl
 ·obtain ⟨a,n,r,rfl,ha,tr,h8,q⟩:=h;refine ⟨_,Zf (Zq (Zp (Zv K) rfl T.tuple ZI (Za (Yi ["number","turn"] [none,some 0] rfl rfl (Zx rfl T.range (Za (Zl (Zt K) rfl T.len PySem.boot_len (Za (pv 0) Zc)) Zc)) (fun _ _ _ _ _=>Yw 0) (fun _ _ _ _ _=>ZB) (fun _ _ _ _ _=>ZlG K PySem.F.plainAttrs_list PySem.F.slot_list_index PySem.F.type_list_index ZdE (pv 1) (Za (pv 0) Zc))) Zc))),?_⟩;refine ⟨_,rfl,a,_,rfl,.inl (SqL.of ha),_,rfl,by exact Om.c2,by rw [QAa,tr.len]; exact Om.c1 ‹_› rfl,fun l hl=>?_⟩;rw [QAa,tr.len,QAf];refine ZD (fun i=>some (.int ((r.idxOf (i:Int):Nat):Int))) (fun σ=>∃ v,σ=[v,some (.ref a)]) (ZO (n:=n)) (by rw [Zu]; exact Zy (by exact Om.b1 ‹_› rfl)) hl (fun H' sm=>trivial) ⟨none,rfl⟩ ?_ ?_
  ·rintro j x σ H' R' hj ⟨v,rfl⟩ sm kk;obtain ⟨hjn,rfl⟩:=Z6 hj;have ha':=sm _ _ ha;refine ⟨_,rfl,.inl ⟨rfl,_,SqL.of ha'⟩,_,rfl,a,r,(j:Int),rfl,rfl,ha',YU tr.len tr.nd tr.rg ⟨by exact Om.c6,by exact Om.c5 ‹_›⟩,?_⟩;exact kk [some (.int (j:Int)),some (.ref a)] H' ⟨_,rfl⟩ (Same.refl _)
  ·intro H2 s2 h2;have e0:(List.range (rng n).length).filterMap (fun i:Nat=>some (V.int ((r.idxOf (i:Int):Nat):Int)))=(inv r).map V.int:=by
    rw [YA,Zu];unfold inv;rw [tr.len,QBa]
    rfl
   rw [e0] at h2;exact ⟨l,_,rfl,.inl ⟨SqL.of h2,fun t ht=>q t _ (s2.trans (Same.new ht)) (s2.free ht) Zb⟩⟩
theorem scAlongP:Zs ["square","top","walk","things","rows"] ["square","top","walk"] (Zd JT):=⟨rfl,rfl,rfl,by decide +kernel,rfl,by decide +kernel,by decide +kernel⟩
theorem Zl2 {R:List (List Int)} {a:Nat} {w:List Nat}:(List.range ((toI w).map V.int).length).filterMap (fun j=>some (V.int (ent R a (w.getD j 0))))=(w.map fun x=>ent R a x).map V.int:=by
 rw [JM,QAa,Yx,QBa];refine QDi fun j=>?_;rw [QAe,QAe]
 by_cases hj:j<w.length
 ·rw [QBj hj,QAb hj];show some (V.int (ent R a (w.getD j 0)))=some (V.int (ent R a w[j]));rw [gDN hj]
 ·rw [QCr (by rw [QAr]; exact O356 hj),QCr (by exact O356 hj)]
  rfl
theorem Zj1 {w:List Nat} {j:Nat} {y:V} (h:((toI w).map V.int)[j]? = some y):j<w.length/\y = .int ((w.getD j 0:Nat):Int):=by
 unfold toI at h;rw [QAe,QAe] at h
 by_cases hj:j<w.length
 ·rw [QAb hj] at h
  cases h;exact ⟨hj,by rw [gDN hj]⟩
 ·rw [QCr (by exact O356 hj)] at h
  cases h
theorem Zic {f fU:Addr} {fd dU:FuncData} (F:Fun K "renaming_along" "renaming_along" JT f fd) (T:Blt mg) (DU:Dfn K mg "turn_undone" ZT ["turn"] fU dU):FnOk P w K mg base CX0 2 f fd ["square","top","walk"] ZeU:=by
 have GU:FnOk P w K mg base CX0 1 fU dU ["turn"] Zk7:=ZcF DU.F T;refine F.ok scAlongP (fun vs H Q E h=>?_) (fun cdv A outer s H vs Q E hr h=>?_)
 ·obtain ⟨_,_,_,_,_,_,rfl,_⟩:=h
  rfl
 ·obtain ⟨g,l,n,a,R,w,rfl,hT,ok,hRl,h1,h6,ha,hl,hw,q⟩:=h
  refine' ⟨_,Ze ?s0 (Ze ?s1 (Zf (Zq (Za0 (Za (pv 4) (Za (Zm GU hr rfl DU.m DU.F.kp DU.b .nil ZF (Za (pv 2) Zc)) (Za (pv 3) Zc))))))),?rd⟩
  case s0=>exact Zk (i:=3) scAlongP.nd rfl (Or.inr rfl) (Zm GU hr rfl DU.m DU.F.kp DU.b .nil ZF (Za (Yi ["column","square","top"] [none,some 0,some 1] rfl rfl (Z2 K (pv 2)) (fun _ _ _ _ _=>Yw 0) (fun _ _ _ _ _=>ZB) (fun _ _ _ _ _=>ZU (YK K) (ZU (YK K) (pv 1) (pv 2) (fun _ _=>rfl)) (pv 0) (fun _ _=>rfl))) Zc))
  case s1=>exact Zk (i:=4) scAlongP.nd rfl (Or.inl rfl) (Zp (Zv K) rfl T.tuple ZI (Za (Yi ["line","things","walk"] [none,some 3,some 2] rfl rfl (ZaK K (pv 0)) (fun _ _ _ _ _=>Yw 0) (fun _ _ _ _ _=>ZB) (fun _ _ _ _ _=>ZU (YK K) (pv 1) (ZU (YK K) (pv 0) (ZU (YJ K) (pv 2) Zh (fun _ _=>rfl)) (fun _ _=>rfl)) (fun _ _=>rfl))) Zc))
  case rd =>
   have tt:=JC ok hRl hw ha;have hwl:w.length=n:=hw.len;have hwi:((toI w).map V.int).length=n:=by rw [QAa,Yx,hwl]
   obtain ⟨xA,pA,a1,a2,a3,a4⟩:=hT.at (k:=a) (by exact Om.a1 ‹_› ‹_›);have hrowA:=YB ok hRl ha;refine ⟨_,rfl,l,rfl,⟨_,SqL.of hl⟩,fun lc hlc=>?_⟩;refine ZD (fun j=>some (V.int (ent R a (w.getD j 0)))) (fun σ=>∃ v,σ=[v,some (.ref g),some (.int (a:Int))]) (Z1 (xs:=(toI w).map V.int)) (by rw [hwi]; exact Zy (by exact Om.b1 ‹_› rfl)) hlc (fun H' sm=>SqL.of (sm _ _ hl)) ⟨none,rfl⟩ ?_ ?_
   ·rintro j y σ H' R' hy ⟨v,rfl⟩ sm kk;obtain ⟨hj,rfl⟩:=Zj1 hy;have hc:w.getD j 0<n:=by rw [gDN hj]; exact (hw.all _).mp (QAq _)
    exact ⟨_,rfl,_,rfl,g,_,_,.ref pA,rfl,rfl,SqT.of (sm _ _ a1),a3,_,rfl,pA,_,_,.int (ent R a (w.getD j 0)),rfl,rfl,SqT.of (sm _ _ a4),JL (by rw [hrowA.len]; exact hc),kk _ H' ⟨some (.int ((w.getD j 0:Nat):Int)),rfl⟩ (Same.refl _)⟩
   intro H2 s2 h2;rw [Zl2] at h2;refine ⟨lc,n,w.map fun x=>ent R a x,rfl,h2,tt,by exact Om.b1 ‹_› rfl,fun th H3 s3 hth0 hth=>?_⟩;have s23:=s2.trans s3;obtain ⟨gs,hg,hG⟩:=id hT;have hgl:(gs.map V.ref).length=n:=by rw [QAa,hG.length,hRl]
   have hw0:w.getD 0 0<n:=hw.zero h1;refine ⟨_,rfl,g,rfl,⟨_,SqT.of (s23 _ _ hg)⟩,fun lr hlr=>?_⟩;refine ZD (fun r=>some (V.int ((thg R a w).getD (ent R r (w.getD 0 0)).toNat 0))) (fun σ=>∃ v,σ=[v,some (.ref th),some (.ref l)]) (ZaD (xs:=gs.map V.ref)) (by rw [hgl]; exact Zy (by exact Om.b1 ‹_› rfl)) hlr (fun H' sm=>SqT.of (sm _ _ (s23 _ _ hg))) ⟨none,rfl⟩ ?_ ?_
   ·rintro r y σ H' R' hy ⟨v,rfl⟩ sm kk;rw [QAe] at hy
    cases hpr:gs[r]? with
    | none=>rw [hpr] at hy; cases hy
    | some p =>
    rw [hpr] at hy
    cases hy;obtain ⟨Rr,hRr,hp⟩:=Paired.getL hG hpr;have hrn:r<n:=by have:=(QZb.mp hRr).1; exact Om.a2 ‹_› ‹_›
    have hRg:R.getD r []=Rr:=by rw [QAc,hRr]; rfl
    have hrow:=YB ok hRl hrn;obtain ⟨e1,e2⟩:=YL ok hRl hrn hw0;have sm':=s23.trans sm;have hthl:(thg R a w).length=n:=tt.inv.len;rw [<- hRg] at hp;have at1:atI ((toI w).map V.int) (0:Int)=some (.int ((w.getD 0 0:Nat):Int)):=YO (i:=0) (by
     unfold toI;rw [QAe,QAe,QAb (by exact O355 hRl h1 h6 hwl hwi a2 hgl hthl),gDN (by exact O355 hRl h1 h6 hwl hwi a2 hgl hthl)]
     rfl)
    have at2:atI ((R.getD r []).map V.int) ((w.getD 0 0:Nat):Int)=some (.int (ent R r (w.getD 0 0))):=JL (by rw [hrow.len]; exact hw0);have at3:atI ((thg R a w).map V.int) (ent R r (w.getD 0 0))=some (.int ((thg R a w).getD (ent R r (w.getD 0 0)).toNat 0)):=by
     rw [e1];rw [QAf];exact JL (by exact Om.a1 ‹_› ‹_›)
    exact ⟨_,rfl,_,rfl,_,rfl,l,_,_,_,rfl,rfl,SqL.of (sm' _ _ hl),at1,p,_,_,_,rfl,rfl,SqT.of (sm' _ _ hp),at2,th,_,_,_,rfl,rfl,SqT.of (sm _ _ hth),at3,kk _ H' ⟨some (.ref p),rfl⟩ (Same.refl _)⟩
   intro H4 s4 h4;have e4:(List.range (gs.map V.ref).length).filterMap (fun r=>some (V.int ((thg R a w).getD (ent R r (w.getD 0 0)).toNat 0)))=((List.range n).map fun r=>(thg R a w).getD (ent R r (w.getD 0 0)).toNat 0).map V.int:=by
    rw [JM,hgl,QBa]
    rfl
   rw [e4] at h4;refine ⟨lr,_,rfl,.inl ⟨SqL.of h4,fun tr htr=>?_⟩⟩;have s5:Same H4 (upd H4 tr (.tup (((List.range n).map fun r=>(thg R a w).getD (ent R r (w.getD 0 0)).toNat 0).map V.int))):=Same.new htr;have g5:(upd H4 tr (.tup (((List.range n).map fun r=>(thg R a w).getD (ent R r (w.getD 0 0)).toNat 0).map V.int))) tr=some (.tup (((List.range n).map fun r=>(thg R a w).getD (ent R r (w.getD 0 0)).toNat 0).map V.int)):=Zb;generalize upd H4 tr (.tup (((List.range n).map fun r=>(thg R a w).getD (ent R r (w.getD 0 0)).toNat 0).map V.int))=H5 at s5 g5 ⊢;have s35:=s4.trans s5;have sH5:=s23.trans s35;refine ⟨_,rfl,_,rfl,l,n,toI w,rfl,sH5 _ _ hl,hw.turn,by exact Om.b1 ‹_› rfl,fun tc H6 s6 _ htc=>?_⟩;refine ⟨_,rfl,(show 3<=sizeLine from Zy (by decide)),fun t ht=>?_⟩;have s7:Same H6 (upd H6 t (.tup [.ref tr,.ref tc,.ref th])):=Same.new ht;have sH7:=(sH5.trans s6).trans s7;exact q t _ ((sH5.trans s6).free ht) sH7 ⟨[tr,tc,th],Zb,.cons (s7 _ _ (s6 _ _ g5)) (.cons (s7 _ _ htc) (.cons (s7 _ _ (s6 _ _ (s35 _ _ hth))) .nil))⟩
end
end My
namespace My
open PySem L2
theorem ZkZ {s:Nat->Nat} {U:Nat->Prop} {w ls:List Nat} (a:Alg s U w ls):w.length=ls.sum:=by
 induction a with
 | nil _=>rfl
 | step _ _ _ _ ih=>rw [QAo,QDg,ih]
theorem Zg4:∀ l:List Nat,(∀ x∈l,2<=x)->2*l.length<=l.sum
 | [],_=>QAd _
 | x::l,h=>by
  have:=Zg4 l fun y hy=>h y (QAm _ hy)
  have:=h x QAj;rw [QAx,QDg];omega
section
variable {n:Nat} {R:List (List Int)} {a b:Nat}
theorem Zeq (ok:OkRows n R) (hl:R.length=n) (ha:a<n) (hb:b<n) (hne:a≠b):∀ c∈rgs n R a b,2<=c.length/\c.length<=n:=by
 intro c hc;have v:=Yu (Y9 ok hl ha hb);have cy:=v.cy c hc;have hlt:∀ x∈c,x<n:=fun x hx=>(v.all x).mpr ⟨c,hc,hx⟩
 refine ⟨?_,Zbl cy.nd hlt⟩;have hp:=cy.pos
 by_cases e:c.length=1
 ·have h:=cy.nx 0 hp;rw [e] at h;have hx:=hlt _ cy.head;have h2:=Zcs ok hl ha hb hx;rw [h] at h2;exact absurd (Zbv ok hl ha hb hx h2) hne
 ·omega
theorem Zer (ok:OkRows n R) (hl:R.length=n) (ha:a<n) (hb:b<n) (hne:a≠b):2*(rgs n R a b).length<=n:=by
 have v:=Yu (Y9 ok hl ha hb);obtain ⟨w,hw⟩:=Zbz (s:=sF R a b) (f:=(rgs n R a b).length) (C:=rgs n R a b) (fun c hc=>(v.cy c hc).pos) (QAd _);obtain ⟨ls,al⟩:=(YQ v (QAd _)).mp hw;have hw':w∈Zr n (rgs n R a b):=by rw [show Zr n (rgs n R a b)=Zr (rgs n R a b).length (rgs n R a b) from ZaW _ _ _ (YS _ _ _) (QAd _)]; exact hw
 have hc:=(YD ok hl ha hb hw').len;obtain ⟨p,_⟩:=Zc7 al v;have h2:=Zg4 ls fun x hx=>by
  obtain ⟨c,hc,rfl⟩:=QZd.mp (p.mem_iff.mp hx);exact (Zeq ok hl ha hb hne c hc).1
 have e:=p.length_eq;rw [QAa] at e;have e2:(rgs n R a b).length=ls.length:=e.symm;rw [<- ZkZ al,hc] at h2;omega
end
theorem Zau (n:Nat) (R:List (List Int)) (a b:Nat):Zr n (rgs n R a b)=Zr (rgs n R a b).length (rgs n R a b):=ZaW _ _ _ (YS _ _ _) (QAd _)
noncomputable def slL (n:Nat) (R:List (List Int)):List (List Int):=(Y8 n).map fun x=>sl n R x.1 x.2
noncomputable def Jd (n:Nat) (R:List (List Int)):List Int:=(slL n R).getD (argBest (fun i j=>HT.lexLt ((slL n R).getD i []) ((slL n R).getD j [])) ((slL n R).length - 1)) []
noncomputable def Zaq (n:Nat) (R:List (List Int)) (x:Nat × Nat):List (List (List Int)):=if sl n R x.1 x.2=Jd n R then (Zr (rgs n R x.1 x.2).length (rgs n R x.1 x.2)).map (ZA n R x.1) else []
noncomputable def Zz (n:Nat) (R:List (List Int)):List (List (List Int)):=if n=1 then [YT 1] else (Y8 n).flatMap (Zaq n R)
theorem mem_two {n a b:Nat}:(a,b)∈Y8 n↔a<n/\b<n/\a≠b:=by
 unfold Y8 J2;rw [QZp]
 constructor
 ·rintro ⟨x,hx,h⟩;obtain ⟨y,hy,e⟩:=QZd.mp h
  cases e;obtain ⟨h1,h2⟩:=QZo.mp hy;exact ⟨QZe.mp hx,QZe.mp h1,fun z=>QZj h2 z.symm⟩
 ·rintro ⟨h1,h2,h3⟩;exact ⟨a,QZe.mpr h1,QZd.mpr ⟨b,QZo.mpr ⟨QZe.mpr h2,QZh (Ne.symm h3)⟩,rfl⟩⟩
theorem Zg1 (n:Nat):(Y8 n).length<=n*n:=by
 unfold Y8;have:=Yt (m:=n) (g:=fun a=>J2 n a n) (List.range n) fun a _=>ZbC n a n
 rw [QAr] at this;exact this
theorem Zg0 {n:Nat} (h:2<=n):0<(Y8 n).length:=QDt (mem_two.mpr ⟨show 0<n by exact Om.p1 ‹_›,show 1<n by exact Om.f5 ‹_›,by decide⟩)
theorem Zfq {n:Nat} {R:List (List Int)} (h:2<=n):Jd n R∈slL n R/\∀ x∈slL n R,Zb9 x (Jd n R)=false:=by
 have hp:0<(slL n R).length:=by unfold slL; rw [QAa]; exact Zg0 h
 have e:(fun i j=>HT.lexLt ((slL n R).getD i []) ((slL n R).getD j []))=fun i j=>Zb9 ((slL n R).getD i []) ((slL n R).getD j []):=funext fun i=>funext fun j=>Zfn _ _
 unfold Jd;rw [e];obtain ⟨h1,h2⟩:=Zc5 ord_lexI (fun i=>(slL n R).getD i []) ((slL n R).length - 1);have g:∀ i,i<(slL n R).length->(slL n R).getD i []∈slL n R:=fun i hi=>by
  rw [QAc,QAb hi];exact QAq _
 refine ⟨g _ (by exact O350 hp h1),fun x hx=>?_⟩;obtain ⟨j,hj,rfl⟩:=QBe hx;have:=h2 j (by exact Om.q2 ‹_›);rw [show (slL n R).getD j []=(slL n R)[j] by rw [QAc,QAb hj]; rfl] at this;exact this
theorem ZcP {n:Nat} {R:List (List Int)} (h:2<=n) {r:List (List Int)}:r∈Zz n R↔∃ a b w,Hop n R a b w/\r=ZA n R a w:=by
 unfold Zz;rw [if_neg (by exact O354 h),QZp];obtain ⟨l1,l2⟩:=Zfq (R:=R) h
 constructor
 ·rintro ⟨⟨a,b⟩,hab,hr⟩;obtain ⟨h1,h2,h3⟩:=mem_two.mp hab;unfold Zaq at hr
  split at hr
  ·next e =>
   obtain ⟨w,hw,rfl⟩:=QZd.mp hr;refine ⟨a,b,w,⟨h1,h2,h3,?_,fun c d hc hd hcd=>?_⟩,rfl⟩
   ·rw [Zau];exact hw
   ·have e':sl n R a b=Jd n R:=e;rw [e'];exact l2 _ (QZd.mpr ⟨(c,d),mem_two.mpr ⟨hc,hd,hcd⟩,rfl⟩)
  ·cases hr
 ·rintro ⟨a,b,w,hp,rfl⟩;refine ⟨(a,b),mem_two.mpr ⟨hp.ha,hp.hb,hp.hne⟩,?_⟩;have e:sl n R a b=Jd n R:=by
   obtain ⟨⟨c,d⟩,hcd,e⟩:=QZd.mp l1;obtain ⟨h1,h2,h3⟩:=mem_two.mp hcd;refine ord_lexI.tot _ _ (l2 _ (QZd.mpr ⟨(a,b),mem_two.mpr ⟨hp.ha,hp.hb,hp.hne⟩,rfl⟩)) ?_;rw [<- e];exact hp.hm c d h1 h2 h3
  unfold Zaq;rw [if_pos e];refine QZd.mpr ⟨w,?_,rfl⟩;have:=hp.hw;rw [Zau] at this;exact this
theorem TG.up {H H':Hp} {p:Addr} {R:List (List Int)} (g:TG H p R) (f:∀ b row,H b=some (.tup row)->H' b=some (.tup row)):TG H' p R :=
 let ⟨ps,h,r⟩:=g
 ⟨ps,f _ _ h,Paired.mapP r fun _ _ z=>f _ _ z⟩
noncomputable def RL (H:Hp) (l:Addr) (L:List (List (List Int))):Prop:=∃ ps:List Addr,H l=some (.lst (ps.map V.ref))/\Paired (fun p (r:List (List Int))=>TG H p r) ps L
theorem RL.same {H H1:Hp} {l:Addr} {L:List (List (List Int))} (g:RL H l L) (x:Same H H1):RL H1 l L :=
 let ⟨ps,h,r⟩:=g
 ⟨ps,x _ _ h,Paired.mapP r fun _ _ z=>z.same x⟩
noncomputable def CcR (H:Hp) (n:Nat) (R:List (List Int)) (p:Addr) (x:Nat × Nat):Prop:=∃ q:Addr,H p=some (.tup [.int (x.1:Int),.ref q])/\LL H q (rgs n R x.1 x.2)
noncomputable def CcX (lc:Addr) (H:Hp) (n:Nat) (R:List (List Int)) (p:Addr) (x:Nat × Nat):Prop:=∃ q:Addr,H p=some (.tup [.int (x.1:Int),.ref q])/\p≠lc/\q≠lc/\∃ rs:List Addr,H q=some (.lst (rs.map V.ref))/\Paired (fun p (r:List Nat)=>H p=some (.lst ((toI r).map V.int))/\p≠lc) rs (rgs n R x.1 x.2)
theorem CcX.up {lc:Addr} {H H':Hp} {n:Nat} {R:List (List Int)} {p:Addr} {x:Nat × Nat} (c:CcX lc H n R p x) (f:∀ b o,b≠lc->H b=some o->H' b=some o):CcX lc H' n R p x :=
 let ⟨q,h1,h2,h3,rs,h4,h5⟩:=c
 ⟨q,f _ _ h2 h1,h2,h3,rs,f _ _ h3 h4,Paired.mapP h5 fun _ _ z=>⟨f _ _ z.2 z.1,z.2⟩⟩
theorem CcX.cc {lc:Addr} {H:Hp} {n:Nat} {R:List (List Int)} {p:Addr} {x:Nat × Nat} (c:CcX lc H n R p x):CcR H n R p x :=
 let ⟨q,h1,_,_,rs,h4,h5⟩:=c
 ⟨q,h1,rs,h4,Paired.mapP h5 fun _ _ z=>z.1⟩
theorem ZhJ (lt:Nat->Nat->Bool):∀ k,argBest lt k<=k
 | 0=>QAd _
 | k+1=>by
  have:=ZhJ lt k;show (if lt (k+1) (argBest lt k)=true then k+1 else argBest lt k)<=k+1
  split <;> omega
theorem ZaR:∀ l m:List Int,Y1 (l.map V.int) (m.map V.int)=decide (l=m)
 | [],[]=>rfl
 | [],_::_=>by simp [Y1]
 | _::_,[]=>by simp [Y1]
 | x::l,y::m=>by
  have ih:=ZaR l m;unfold Y1 at ih ⊢;rw [QAp,QAp,List.zip_cons_cons,List.all_cons,QAx,QAx];rw [QBf,QAv,QZg,QZg] at ih;rw [QBf,QAv,QAv,QZg,QZg,List.cons.injEq];show (_/\(x==y)=true/\_)↔_;rw [beq_iff_eq];exact ⟨fun h=>⟨h.2.1,ih.mp ⟨by omega,h.2.2⟩⟩,fun h=>⟨by have:=(ih.mpr h.2).1; omega,h.1,(ih.mpr h.2).2⟩⟩
theorem ZeD {n:Nat} {R:List (List Int)} (ok:OkRows n R) (hl:R.length=n) (h6:n<=6) {x:Nat × Nat} (hx:x∈Y8 n):(Zaq n R x).length<=1296:=by
 obtain ⟨a,b⟩:=x;obtain ⟨ha,hb,hne⟩:=mem_two.mp hx;unfold Zaq
 split
 ·rw [QAa];have h1:=Zer ok hl ha hb hne;exact QAs (ZaE _ _ rfl fun c hc=>QAs (Zeq ok hl ha hb hne c hc).2 h6) (ZjP _ (by show (rgs n R a b).length<=3; exact O353 hl h6 h1))
 ·exact QAh _
inductive ZhR (vs:List V) (H:Hp) (Q:VK):Prop where
 | mk (g:Addr) (n:Nat) (R:List (List Int)) (_:vs=[.ref g]) (_:TG H g R) (_:OkRows n R) (_:R.length=n) (_:1<=n) (_:n<=6) (_:∀ l H',H l=none->Same H H'->RL H' l (Zz n R)->Q (.ref l) H'):ZhR vs H Q
noncomputable def ZiG:Sp:=fun vs H Q _=>ZhR vs H Q
section
variable {P:Program} {w:World} {K:QZa} {mg:Str->Option Value} {base:Heap}
structure HpD (K:QZa) (mg:Str->Option Value) (fS fU fF fR fL fW fT fA:Addr) (dS dU dF dR dL dW dT dA:FuncData):Prop where
 S:Dfn K mg "still" Zas ["n"] fS dS
 U:Dfn K mg "turn_undone" ZT ["turn"] fU dU
 F:Dfn K mg "ring_from" YE ["square","one","other","column"] fF dF
 R:Dfn K mg "rings" JQ ["square","one","other"] fR dR
 L:Dfn K mg "lengths_of" Jp ["circles"] fL dL
 W:Dfn K mg "walks" Zar ["circles"] fW dW
 T:Dfn K mg "two_rows" Jm ["size"] fT dT
 A:Dfn K mg "renaming_along" JT ["square","top","walk"] fA dA
variable {fS fU fF fR fL fW fT fA:Addr} {dS dU dF dR dL dW dT dA:FuncData}
theorem scHope:Zs ["square","circles","least","found","top","told"] ["square"] (Zd YI):=⟨rfl,rfl,rfl,by decide +kernel,rfl,by decide +kernel,by decide +kernel⟩
inductive Zd9 (g:Addr) (n:Nat) (R:List (List Int)) (H1:Hp) (lc:Addr) (j:Nat) (ys:List V) (σ:St) (H2:Hp):Prop where
 | mk (v0 v1:Option V) (us:List Addr) (_:σ=[v0,v1,some (.ref g)]) (_:ys=us.map V.ref) (_:Same H1 H2) (_:H2 lc=some (.lst ys)) (_:Paired (fun p x=>CcX lc H2 n R p x) us ((Y8 n).take j)):Zd9 g n R H1 lc j ys σ H2
inductive Zd8 (n:Nat) (R:List (List Int)) (HA:Hp) (lm:Addr) (j:Nat) (ys:List V) (σ:St) (H2:Hp):Prop where
 | mk (v0 v1:Option V) (ms:List Addr) (_:σ=[v0,v1]) (_:ys=ms.map V.ref) (_:Same HA H2) (_:H2 lm=some (.lst ys)) (_:Paired (fun p (x:List Int)=>H2 p=some (.lst (x.map V.int))/\p≠lm) ms ((slL n R).take j)):Zd8 n R HA lm j ys σ H2
inductive Zd7 (H:Hp) (g:Addr) (n:Nat) (R:List (List Int)) (lc:Addr) (pm:Addr) (lf:Addr) (HC:Hp) (i:Nat) (σ:St) (H5:Hp):Prop where
 | mk (v4 v5:Option V) (zs:List Addr) (_:σ=[some (.ref g),some (.ref lc),some (.ref pm),some (.ref lf),v4,v5]) (_:Same H H5) (_:(∀ b o,b≠lf->HC b=some o->H5 b=some o)) (_:H5 lf=some (.lst (zs.map V.ref))) (_:Paired (fun p (r:List (List Int))=>TG H5 p r) zs (((Y8 n).take i).flatMap (Zaq n R))):Zd7 H g n R lc pm lf HC i σ H5
inductive Zd6 (g:Addr) (n:Nat) (R:List (List Int)) (a:Nat) (H7:Hp) (W:List (List Nat)) (l2:Addr) (j:Nat) (ys:List V) (σ:St) (H8:Hp):Prop where
 | mk (v0:Option V) (ks:List Addr) (_:σ=[v0,some (.ref g),some (.int (a:Int))]) (_:ys=ks.map V.ref) (_:Same H7 H8) (_:H8 l2=some (.lst ys)) (_:Paired (fun p (r:List (List Int))=>TG H8 p r) ks ((W.map (ZA n R a)).take j)):Zd6 g n R a H7 W l2 j ys σ H8
set_option maxHeartbeats 1000000 in
theorem Zkt {f:Addr} {fd:FuncData} (F:Fun K "hopeful" "hopeful" YI f fd) (T:Blt mg) (Z:HpD K mg fS fU fF fR fL fW fT fA dS dU dF dR dL dW dT dA):FnOk P w K mg base CX0 5 f fd ["square"] ZiG:=by
 have GS:FnOk P w K mg base CX0 4 fS dS ["n"] Zg6:=(Zi3 Z.S.F T).mono (by decide);have GT:FnOk P w K mg base CX0 4 fT dT ["size"] Zk6:=(ZlL Z.T.F T).mono (by decide);have GR:FnOk P w K mg base CX0 4 fR dR ["square","one","other"] Zg7:=(Zh9 Z.R.F T Z.F).mono (by decide);have GL:FnOk P w K mg base CX0 4 fL dL ["circles"] Zds:=(ZgE Z.L.F T).mono (by decide);have GW:FnOk P w K mg base CX0 4 fW dW ["circles"] (Zek 4):=Zfb Z.W T 4;have GA:FnOk P w K mg base CX0 4 fA dA ["square","top","walk"] ZeU:=(Zic Z.A.F T Z.U).mono (by decide);refine F.ok scHope (fun vs H Q E h=>?_) (fun cdv A outer s H vs Q E hr h=>?_)
 ·obtain ⟨_,_,_,rfl,_⟩:=h
  rfl
 ·obtain ⟨g,n,R,rfl,hT,ok,hRl,h1,h6,q⟩:=h;have hu0:((A.deeper (PyProof.Rows.envOfC "hopeful" (Zd YI) s.heap.objs.size f cdv))).units<cLine:=by have:=hr.un; omega
  have hu1:((A.deeper (PyProof.Rows.envOfC "hopeful" (Zd YI) s.heap.objs.size f cdv))).units+1+0<cLine:=by have:=hr.un; omega
  refine' ⟨_,Ze (Yy ?c0 (Zf (Zq ?r0)) ZR) (Ze ?s1 (Ze ?s2 (Ze (Zk (i:=3) scHope.nd rfl (Or.inl rfl) (Yd Zc)) (Ze (Yv PassesOwn.never rfl (Zcf (pv 1)) (Zev rfl (ZS (ZJ (i:=4) scHope.nd rfl (Or.inr rfl)) (ZS (ZJ (i:=5) scHope.nd rfl (Or.inl rfl)) Jx))) (Zf (Yy ?c1 (Zf ?e) ZR))) (Zf (Zq (pv 3))))))),?rd⟩
  case c0=>exact ZC Zay (Zl (Zt K) rfl T.len PySem.boot_len (Za (pv 0) Zc)) Zh (ZV _)
  case r0=>exact Yd (Za (Zm GS hr rfl Z.S.m Z.S.F.kp Z.S.b .nil ZF (Za Zh Zc)) Zc)
  case s1=>exact Ze6 (i:=1) ["one","other","square"] [none,none,some 0] scHope.nd rfl (Or.inl rfl) rfl rfl (Z2 K (Zm GT hr rfl Z.T.m Z.T.F.kp Z.T.b .nil ZF (Za (Zl (Zt K) rfl T.len PySem.boot_len (Za (pv 0) Zc)) Zc))) (fun _ _ _ _ _=>ZaL (n:=2) K rfl (ZS (Yw 0) (ZS (Yw 1) Jx))) (fun _ _ _ _ _=>ZB) (fun _ _ _ _ _=>Za0 (Za (pv 0) (Za (Zm GR hr rfl Z.R.m Z.R.F.kp Z.R.b .nil ZF (Za (pv 2) (Za (pv 0) (Za (pv 1) Zc)))) Zc)))
  case s2=>exact Zk (i:=2) scHope.nd rfl (Or.inl rfl) (Zl (ZfE (d:=0) K rfl hu1) rfl T.min ZgW (Za (Yi ["top","told"] [none,none] rfl rfl (Z2 K (pv 1)) (fun _ _ _ _ _=>ZaL (n:=2) K rfl (ZS (Yw 0) (ZS (Yw 1) Jx))) (fun _ _ _ _ _=>ZB) (fun _ _ _ _ _=>Zm GL hr rfl Z.L.m Z.L.F.kp Z.L.b .nil ZF (Za (pv 1) Zc))) Zc))
  case c1=>exact ZC (Zi1 hu0 K) (Zm GL hr rfl Z.L.m Z.L.F.kp Z.L.b .nil ZF (Za (pv 5) Zc)) (pv 2) (ZV _)
  case e=>exact Yz (Jr PySem.F.plainAttrs_list PySem.F.slot_list_extend PySem.F.type_list_extend ZaN (pv 3) (Za (Yi ["walk","square","top"] [none,some 0,some 4] rfl rfl (Z2 K (Zm GW hr rfl Z.W.m Z.W.F.kp Z.W.b .nil ZF (Za (pv 5) Zc))) (fun _ _ _ _ _=>Yw 0) (fun _ _ _ _ _=>ZB) (fun _ _ _ _ _=>Zm GA hr rfl Z.A.m Z.A.F.kp Z.A.b .nil ZF (Za (pv 1) (Za (pv 2) (Za (pv 0) Zc))))) Zc))
  case rd =>
   obtain ⟨gs,hg,hG⟩:=id hT;have hgl:(gs.map V.ref).length=n:=by rw [QAa,hG.length,hRl]
   refine ⟨_,rfl,g,_,rfl,.inr (SqT.of hg),rfl,_,rfl,?_⟩;rw [hgl]
   by_cases e1:n=1
   ·rw [show decide (V.int (n:Int)=V.int 1)=true from QZh (by rw [e1]; rfl)];refine ZbR ⟨1,rfl,by decide,by decide,fun t H1 s1 hW=>⟨(show 1<=sizeLine from Zy (by decide)),fun l hl=>?_⟩⟩;refine q l _ (s1.free hl) (s1.trans (Same.new hl)) ⟨[t],Zb,?_⟩;unfold Zz;rw [if_pos e1];exact .cons (hW.same (Same.new hl)) .nil
   rw [show decide (V.int (n:Int)=V.int 1)=false from QZi fun z=>e1 (by rw [V.int.injEq] at z; exact O352 hgl z)];refine YZ ?_;have h2:2<=n:=by exact O351 h1 h6 hgl e1
   have eH:Zz n R=(Y8 n).flatMap (Zaq n R):=by unfold Zz; rw [if_neg e1]
   have htl:=Zg1 n;have hnn:n*n<=6*6:=QCd h6 h6;refine ⟨_,rfl,g,_,rfl,.inr (SqT.of hg),n,congrArg (fun k:Nat=>[V.int (k:Int)]) hgl,h6,fun lt H1 hlt s1 hTL=>?_⟩;obtain ⟨ts,hts,hTs⟩:=hTL;have htsl:(ts.map V.ref).length=(Y8 n).length:=by rw [QAa,hTs.length]
   refine ⟨lt,rfl,⟨_,SqL.of hts⟩,fun lc hlc=>?_⟩;refine Z8 (Z1 (xs:=ts.map V.ref)) (Zd9 g n R H1 lc)
    ⟨none,none,[],rfl,rfl,Same.new hlc,Zb,.nil⟩ (fun j ys σ H2 zz0=> by obtain ⟨_,_,_,_,_,s2,hl,_⟩ := zz0; exact ⟨SqL.of (s2 _ _ hts),hl⟩) ?_ ?_
   ·rintro j x ys σ H2 hj ⟨v0,v1,us,rfl,rfl,s2,hl2,hU⟩;rw [QAe] at hj
    cases hpj:ts[j]? with
    | none=>rw [hpj] at hj; cases hj
    | some pt =>
    rw [hpj] at hj
    cases hj;obtain ⟨⟨a,b⟩,hab,hpt⟩:=Paired.getL hTs hpj;obtain ⟨ha,hb,hne⟩:=mem_two.mp (QAt hab);have hpt:H1 pt=some (.tup [.int (a:Int),.int (b:Int)]):=hpt;refine ⟨pt,_,rfl,SqT.of (s2 _ _ hpt),rfl,_,_,rfl,_,_,rfl,rfl,?_⟩;refine ⟨_,rfl,_,rfl,_,rfl,_,rfl,g,n,a,b,R,rfl,hT.same (s1.trans s2),ok,hRl,by exact Om.b1 ‹_› rfl,ha,hb,hne,fun lr H3 s3 hlr hLL=>⟨(show 2<=sizeLine from Zy (by decide)),fun t ht=>?_⟩⟩;have s4:Same H3 (upd H3 t (.tup [.int (a:Int),.ref lr])):=Same.new ht;have g4:(upd H3 t (.tup [.int (a:Int),.ref lr])) t=some (.tup [.int (a:Int),.ref lr]):=Zb;generalize upd H3 t (.tup [.int (a:Int),.ref lr])=H4 at s4 g4 ⊢;have s34:=s3.trans s4;have hl4:=s34 _ _ hl2;have hlrc:lr≠lc:=fun z=>by rw [z,hl2] at hlr; cases hlr
    have htc:t≠lc:=fun z=>by rw [z,s3 _ _ hl2] at ht; cases ht
    have hul:us.length=j:=by
     rw [hU.length,QAu];have:=(QZb.mp hab).1;exact Om.m1 ‹_›
    have hj36:j<=36:=by have:=(QZb.mp hab).1; omega
    obtain ⟨rs,hrs,hRs⟩:=hLL;refine ⟨hl4,by rw [QAa,hul]; exact Zw (by exact Om.b1 ‹_› rfl),_,_,us++[t],rfl,by rw [QAn]; rfl,fun b u e=>?_,Zb,?_⟩
    ·rw [Zg (Zi e hlc)];exact s34 _ _ (s2 _ _ e)
    ·have et:(Y8 n).take (j+1)=(Y8 n).take j++[(a,b)]:=by rw [QCc,hab]; rfl
     rw [et];have up:∀ b o,b≠lc->H4 b=some o->(upd H4 lc (.lst (us.map V.ref++[.ref t]))) b=some o:=fun b o hb e=>by rw [Zg hb]; exact e
     refine Paired.snoc (Paired.mapP hU fun _ _ z=>z.up fun b o hb e=>up b o hb (s34 _ _ e)) (CcX.up (H:=H4) ⟨lr,g4,htc,hlrc,rs,s4 _ _ hrs,?_⟩ up);exact Paired.mapP hRs fun x _ z=>⟨s4 _ _ z.1,fun e=>by rw [e,hl2] at z; cases z.2.2⟩
   rintro ys σ HA ⟨v0,v1,us,rfl,rfl,sA,hlA,hUX⟩;rw [htsl,QBd (QAd _)] at hUX;have hUA:Paired (fun p x=>CcR HA n R p x) us (Y8 n):=Paired.mapP hUX fun _ _ z=>z.cc
   clear hUX;have sHA:=s1.trans sA;have husl:(us.map V.ref).length=(Y8 n).length:=by rw [QAa,hUA.length]
   refine ⟨_,rfl,lc,rfl,⟨_,SqL.of hlA⟩,fun lm hlm=>?_⟩;refine Z8 (Z1 (xs:=us.map V.ref)) (Zd8 n R HA lm)
    ⟨none,none,[],rfl,rfl,Same.new hlm,Zb,.nil⟩ (fun j ys σ H2 zz0=> by obtain ⟨_,_,_,_,_,s2,hl,_⟩ := zz0; exact ⟨SqL.of (s2 _ _ hlA),hl⟩) ?_ ?_
   ·rintro j x ys σ H2 hj ⟨v0,v1,ms,rfl,rfl,s2,hl2,hM⟩;rw [QAe] at hj
    cases hpj:us[j]? with
    | none=>rw [hpj] at hj; cases hj
    | some p =>
    rw [hpj] at hj
    cases hj;obtain ⟨⟨a,b⟩,hab,qq,hp,hLq⟩:=Paired.getL hUA hpj;obtain ⟨ha,hb,hne⟩:=mem_two.mp (QAt hab);have hp:HA p=some (.tup [.int (a:Int),.ref qq]):=hp;have hLq:LL HA qq (rgs n R a b):=hLq;refine ⟨p,_,rfl,SqT.of (s2 _ _ hp),rfl,_,_,rfl,_,_,rfl,rfl,?_⟩;have hfew:=Zer ok hRl ha hb hne;refine ⟨_,rfl,qq,_,rfl,hLq.same s2,by exact O349 h1 h6 hgl h2 hfew,fun t H3 ht s3 h3=>?_⟩;have h3:H3 t=some (.lst ((sl n R a b).map V.int)):=h3;have htm:t≠lm:=fun z=>by rw [z,hl2] at ht; cases ht
    have hl3:=s3 _ _ hl2;have hj36:j<=36:=by have:=(QZb.mp hab).1; omega
    have hml:ms.length=j:=by
     rw [hM.length,QAu];unfold slL;rw [QAa];have:=(QZb.mp hab).1;exact Om.m1 ‹_›
    refine ⟨hl3,by rw [QAa,hml]; exact Zw (by exact Om.b1 ‹_› rfl),_,_,ms++[t],rfl,by rw [QAn]; rfl,fun b u e=>?_,Zb,?_⟩
    ·rw [Zg (Zi e hlm)];exact s3 _ _ (s2 _ _ e)
    ·have et:(slL n R).take (j+1)=(slL n R).take j++[sl n R a b]:=by
      unfold slL;rw [QCc,QAe,hab]
      rfl
     rw [et];exact Paired.snoc (Paired.mapP hM fun _ _ z=>⟨by rw [Zg z.2]; exact s3 _ _ z.1,z.2⟩) ⟨by rw [Zg htm]; exact h3,htm⟩
   rintro ys σ HB ⟨v0,v1,ms,rfl,rfl,sB,hlB,hM⟩;rw [husl,show (Y8 n).length=(slL n R).length by unfold slL; rw [QAa],QBd (QAd _)] at hM;have hml:ms.length=(slL n R).length:=hM.length;have hmpos:0<(slL n R).length:=by unfold slL; rw [QAa]; exact Zg0 h2
   have hbl:=ZhJ (fun i j=>HT.lexLt ((slL n R).getD i []) ((slL n R).getD j [])) ((slL n R).length - 1);have hbi:argBest (fun i j=>HT.lexLt ((slL n R).getD i []) ((slL n R).getD j [])) (ms.length - 1)<ms.length:=by rw [hml]; exact O350 hmpos hbl
   obtain ⟨xm,hxm,hpm⟩:=Paired.getL hM (QAb hbi);have exm:xm=Jd n R:=by
    unfold Jd;rw [<- hml,QAc,hxm]
    rfl
   refine ⟨lm,ms,fun i j=>HT.lexLt ((slL n R).getD i []) ((slL n R).getD j []),_,rfl,SqL.of hlB,by exact Om.a1 ‹_› ‹_›,fun i j p p' hi hj=>?_,QAb hbi,?_⟩
   ·obtain ⟨x1,hx1,hq1⟩:=Paired.getL hM hi;obtain ⟨x2,hx2,hq2⟩:=Paired.getL hM hj;show LtD K HB 0 (.ref p) (.ref p') (HT.lexLt ((slL n R).getD i []) ((slL n R).getD j []));rw [QAc,hx1,QAc,hx2];exact LtD.lsts (SqL.of hq1.1) (SqL.of hq2.1)
   rw [exm] at hpm;generalize ms[argBest (fun i j=>HT.lexLt ((slL n R).getD i []) ((slL n R).getD j [])) (ms.length - 1)]=pm at hpm;refine ⟨QAh _,fun lf hlf=>?_⟩;have sHB:=sHA.trans sB;have hlf0:H lf=none:=sHB.free hlf;have sC:Same HB (upd HB lf (.lst [])):=Same.new hlf;have hfC:(upd HB lf (.lst [])) lf=some (.lst []):=Zb;have hlfn:∀ b o,HB b=some o->b≠lf:=fun b o e z=>by rw [z,hlf] at e; cases e
   generalize upd HB lf (.lst [])=HC at sC hfC ⊢;have sHC:=sHB.trans sC;have hlC:=sC _ _ (sB _ _ hlA);have hlcf:lc≠lf:=hlfn _ _ (sB _ _ hlA);refine ⟨_,rfl,lc,rfl,⟨_,SqL.of hlC⟩,ZcS (xs:=us.map V.ref) (Zd7 H g n R lc pm lf HC)
    ⟨none,none,[],rfl,sHC,fun _ _ _ e=>e,hfC,.nil⟩ (fun i σ H5 _ zz0=> by obtain ⟨_,_,_,_,_,kp,_,_⟩ := zz0; exact SqL.of (kp _ _ hlcf hlC)) ?_ ?_⟩
   ·rintro i x σ H5 hx ⟨v4,v5,zs,rfl,s5,kp5,hf5,hZ⟩;rw [QAe] at hx
    cases hpi:us[i]? with
    | none=>rw [hpi] at hx; cases hx
    | some p =>
    rw [hpi] at hx
    cases hx;obtain ⟨⟨a,b⟩,hab,qq,hp,hLq⟩:=Paired.getL hUA hpi;have hmem:=QAt hab;obtain ⟨ha,hb,hne⟩:=mem_two.mp hmem;have hp:HA p=some (.tup [.int (a:Int),.ref qq]):=hp;have hLq:LL HA qq (rgs n R a b):=hLq;have k5:∀ b o,HA b=some o->H5 b=some o:=fun b o e=>kp5 b o (hlfn _ _ (sB _ _ e)) (sC _ _ (sB _ _ e))
    have hLq5:LL H5 qq (rgs n R a b):=hLq.same k5;have hfew:=Zer ok hRl ha hb hne;have hin:=Zeq ok hRl ha hb hne;refine ⟨p,_,rfl,SqT.of (k5 _ _ hp),rfl,_,_,rfl,_,_,rfl,rfl,?_⟩;refine ⟨_,rfl,qq,_,rfl,hLq5,by exact O349 h1 h6 hgl h2 hfew,fun t H6 ht s6 h6'=>?_⟩;have h6':H6 t=some (.lst ((sl n R a b).map V.int)):=h6';have hpm6:=s6 _ _ (kp5 _ _ (hlfn _ _ hpm.1) (sC _ _ hpm.1));refine ⟨_,rfl,t,pm,_,_,rfl,rfl,SqL.of h6',SqL.of hpm6,.inl ⟨ZM _,ZM _⟩,_,rfl,?_⟩;have hf6:=s6 _ _ hf5;have et:(Y8 n).take (i+1)=(Y8 n).take i++[(a,b)]:=by rw [QCc,hab]; rfl
    have ef:((Y8 n).take (i+1)).flatMap (Zaq n R)=((Y8 n).take i).flatMap (Zaq n R)++Zaq n R (a,b):=by rw [et,QEf,QDj,List.flatMap_nil,QBu]
    by_cases hsl:sl n R a b=Jd n R
    rotate_left
    ·rw [show (if false=true then !Y1 ((sl n R a b).map V.int) ((Jd n R).map V.int) else Y1 ((sl n R a b).map V.int) ((Jd n R).map V.int))=false by rw [if_neg QAl,ZaR]; exact QZi hsl];refine YZ ⟨_,_,zs,rfl,s5.trans s6,fun b o hb e=>s6 _ _ (kp5 b o hb e),hf6,?_⟩;have eh:Zaq n R (a,b)=[]:=by unfold Zaq; exact if_neg hsl
     rw [ef,eh,QBu];exact Paired.mapP hZ fun _ _ z=>z.same s6
    rw [show (if false=true then !Y1 ((sl n R a b).map V.int) ((Jd n R).map V.int) else Y1 ((sl n R a b).map V.int) ((Jd n R).map V.int))=true by rw [if_neg QAl,ZaR]; exact QZh hsl];refine ZbR ?_;refine ⟨_,rfl,.inl ⟨rfl,_,SqL.of hf6⟩,_,rfl,qq,_,rfl,hLq5.same s6,by exact O348 h1 h6 hgl h2 hfew,by exact O347 h1 h6 hgl h2 hfew,fun c hc=>⟨by have:=(hin c hc).1; exact Om.p1 ‹_›,QAs (hin c hc).2 h6⟩,fun lw H7 hlw s7 hLW=>?_⟩;obtain ⟨os,hos,hO⟩:=hLW;have hO:Paired (fun p (r:List Nat)=>H7 p=some (.lst ((toI r).map V.int))/\p≠lw/\H6 p=none) os (Zr (rgs n R a b).length (rgs n R a b)):=hO;have eh:Zaq n R (a,b)=(Zr (rgs n R a b).length (rgs n R a b)).map (ZA n R a):=by unfold Zaq; exact if_pos hsl
    have hcols:∀ w∈Zr (rgs n R a b).length (rgs n R a b),Cols n w:=fun w hw=>YD ok hRl ha hb (by rw [Zau]; exact hw)
    have hWf:(Zr (rgs n R a b).length (rgs n R a b)).length<=1296:=by
     have:=ZeD ok hRl h6 hmem;rw [eh,QAa] at this;exact this
    generalize Zr (rgs n R a b).length (rgs n R a b)=W at hO eh hcols hWf;have hosl:(os.map V.ref).length=W.length:=by rw [QAa,hO.length]
    have s67:=s6.trans s7;have hf7:=s7 _ _ hf6;have hT7:TG H7 g R:=hT.same (s5.trans s67);refine ⟨lw,rfl,⟨_,SqL.of hos⟩,fun l2 hl2=>?_⟩;refine Z8 (Z1 (xs:=os.map V.ref)) (Zd6 g n R a H7 W l2)
     ⟨none,[],rfl,rfl,Same.new hl2,Zb,.nil⟩ (fun j ys σ H8 zz0=> by obtain ⟨_,_,_,_,s8,hl,_⟩ := zz0; exact ⟨SqL.of (s8 _ _ hos),hl⟩) ?_ ?_
    ·rintro j y ys σ H8 hj ⟨v0,ks,rfl,rfl,s8,hl8,hK⟩;rw [QAe] at hj
     cases hpj:os[j]? with
     | none=>rw [hpj] at hj; cases hj
     | some ow =>
     rw [hpj] at hj
     cases hj;obtain ⟨wj,hwj,how⟩:=Paired.getL hO hpj;refine ⟨_,rfl,_,rfl,_,rfl,g,ow,n,a,R,wj,rfl,hT7.same s8,ok,hRl,h1,h6,ha,s8 _ _ how.1,hcols wj (QAt hwj),fun t2 H9 ht2 s9 hTG=>?_⟩;have hl9:=s9 _ _ hl8;have hjW:j<W.length:=(QZb.mp hwj).1;have hkl:ks.length=j:=by
      rw [hK.length,QAu,QAa];exact Om.m1 ‹_›
     have up:∀ b row,H9 b=some (.tup row)->(upd H9 l2 (.lst (ks.map V.ref++[.ref t2]))) b=some (.tup row):=fun b row e=>by
      rw [Zg (JH e hl9 (by intro z; cases z))];exact e
     refine ⟨hl9,by rw [QAa,hkl]; exact Ju (by exact Om.b2 ‹_› ‹_› rfl),_,ks++[t2],rfl,by rw [QAn]; rfl,fun b u e=>?_,Zb,?_⟩
     ·rw [Zg (Zi e hl2)];exact s9 _ _ (s8 _ _ e)
     ·have ek:(W.map (ZA n R a)).take (j+1)=(W.map (ZA n R a)).take j++[ZA n R a wj]:=by rw [QCc,QAe,hwj]; rfl
      rw [ek];exact Paired.snoc (Paired.mapP hK fun _ _ z=>(z.same s9).up up) (hTG.up up)
    ·rintro ys σ H8 ⟨v0,ks,rfl,rfl,s8,hl8,hK⟩;rw [hosl,QBd (by rw [QAa]; exact QAd _)] at hK;have hf8:=s8 _ _ hf7;have hkl:ks.length<=1296:=by rw [hK.length,QAa]; exact hWf
     have hzl:zs.length<=36*1296:=by
      rw [hZ.length];refine QAs (Yt (m:=1296) ((Y8 n).take i) fun y hy=>ZeD ok hRl h6 (List.mem_of_mem_take hy)) (QCd ?_ (QAd _));rw [QAu];exact O346 htl hnn htsl husl
     have up:∀ b row,H8 b=some (.tup row)->(upd H8 lf (.lst (zs.map V.ref++ks.map V.ref))) b=some (.tup row):=fun b row e=>by
      rw [Zg (JH e hf8 (by intro z; cases z))];exact e
     have s58:=s67.trans s8;refine ⟨lf,l2,_,_,rfl,rfl,hf8,hl8,QBz (Ju (by rw [QAa,QAa]; exact O345 hkl hzl)),_,_,zs++ks,rfl,fun b u e=>?_,fun b o hb e=>?_,?_,?_⟩
     ·rw [Zg (Zi e hlf0)];exact s58 _ _ (s5 _ _ e)
     ·rw [Zg hb];exact s58 _ _ (kp5 b o hb e)
     ·rw [Zb,QAn]
     ·rw [ef,eh];exact Paired.append (Paired.mapP hZ fun _ _ z=>(z.same s58).up up) (Paired.mapP hK fun _ _ z=>z.up up)
   ·rintro σ H5 ⟨v4,v5,zs,rfl,s5,kp5,hf5,hZ⟩;rw [husl,QBd (QAd _),<- eH] at hZ;exact ⟨_,rfl,q lf H5 hlf0 s5 ⟨zs,hf5,hZ⟩⟩
end
end My
namespace My
open PySem L2
structure Zk0 (n:Nat) (R F h:List (List Int)):Prop where
 mem:∃ i:Nat,(Zz n R)[i]? = some h/\∀ j g,j<i->(Zz n R)[j]? = some g->ZY n R g≠F
 is:ZY n R h=F
 least:∀ g∈Zz n R,Zca (ZY n R g) F=false
theorem Zbq {n:Nat} {R:List (List Int)} (ok:OkRows n R) (hl:R.length=n) (h1:1<=n) {g:List (List Int)} (hg:g∈Zz n R):Ren n g:=by
 by_cases e:n=1
 ·subst e;unfold Zz at hg;rw [if_pos rfl,QDf] at hg;rw [hg];exact ZaG 1
 ·obtain ⟨a,b,w,hp,rfl⟩:=(ZcP (by exact O333 h1 e)).mp hg;exact J9 ok hl (hp.cols ok hl) h1 hp.ha
end My
namespace My
open PySem L2
theorem ZdO:∀ (F G:List Int) (k i:Nat),F.length=G.length->F.length - i=k->i<=F.length->Jh (fun j=>decide (F.getD j 0=G.getD j 0)) (fun j=>decide (F.getD j 0<G.getD j 0)) k i=Zb9 (F.drop i) (G.drop i)
 | F,G,0,i,hl,hk,hi=>by
  rw [QBt (by exact O22 hl hk),QBt (by exact O21 hl hk)]
  rfl
 | F,G,k+1,i,hl,hk,hi=>by
  have h1:i<F.length:=by exact O20 hl hk hi
  have h2:i<G.length:=by exact Om.a2 ‹_› ‹_›
  have g1:F.getD i 0=F[i]:=by rw [QAc,QAb h1]; rfl
  have g2:G.getD i 0=G[i]:=by rw [QAc,QAb h2]; rfl
  rw [Jh,QBc h1,QBc h2];unfold Zb9;rw [JA,g1,g2]
  by_cases e:F[i]=G[i]
  ·rw [if_pos (QZh e),if_pos e];exact ZdO F G k (i+1) hl (by exact O25 hl hk h1 h2) h1
  ·rw [if_neg (by rw [QZg]; exact e),if_neg e]
   rfl
section
variable {K:QZa}
theorem _root_.L2.LtD.cast {H:Hp} {d:Nat} {x y:V} {b b':Bool} (h:LtD K H d x y b) (e:b=b'):LtD K H d x y b':=e ▸ h
theorem ZhD {H:Hp} {d:Nat} (x y:Int):EqD K H d (.int x) (.int y) (decide (x=y)) :=
 (EqD.flat (x:=.int x) (y:=.int y) rfl rfl).cast (by show (x==y)=decide (x=y); rw [QBf,beq_iff_eq,QZg])
theorem ZeG {H:Hp} {d:Nat} {a c:Addr} {xs ys:List Int} (h1:SqT K H a (xs.map V.int)) (h2:SqT K H c (ys.map V.int)):EqD K H (d+1) (.ref a) (.ref c) (decide (xs=ys)) :=
 (ZkR h1 h2 (ZM _) (ZM _)).cast (ZaR xs ys)
theorem JV {xs:List Int} {i:Nat} {u:V} (h:(xs.map V.int)[i]? = some u):u = .int (xs.getD i 0):=by
 rw [QAe] at h
 cases e:xs[i]? with
 | none=>rw [e] at h; cases h
 | some x =>
  rw [e] at h
  cases h;rw [QAc,e]
  rfl
theorem ZkB {H:Hp} {d:Nat} {a c:Addr} {xs ys:List Int} (h1:SqT K H a (xs.map V.int)) (h2:SqT K H c (ys.map V.int)) (hl:xs.length=ys.length):LtD K H (d+1) (.ref a) (.ref c) (Zb9 xs ys):=by
 refine (LtD.tups (e:=fun j=>decide (xs.getD j 0=ys.getD j 0)) (r:=fun j=>decide (xs.getD j 0<ys.getD j 0)) h1 h2 (by rw [QAa,QAa,hl]) (fun i u v hu hv=>?_) (fun i u v hu hv _=>?_)).cast ?_
 ·rw [JV hu,JV hv];exact ZhD _ _
 ·rw [JV hu,JV hv];exact LtD.nums _ _
 ·rw [QAa];exact ZdO xs ys xs.length 0 hl (Nat.sub_zero _) (QAh _)
theorem Jk {H:Hp} {ps:List Addr} {F:List (List Int)} (r:Paired (fun p (r:List Int)=>H p=some (.tup (r.map V.int))) ps F) {i:Nat} {u:V} (h:(ps.map V.ref)[i]? = some u):∃ p,u = .ref p/\H p=some (.tup ((F.getD i []).map V.int))/\F[i]? = some (F.getD i []):=by
 rw [QAe] at h
 cases e:ps[i]? with
 | none=>rw [e] at h; cases h
 | some p =>
  rw [e] at h
  cases h;obtain ⟨l,hl,hp⟩:=Paired.getL r e;refine ⟨p,rfl,?_⟩;rw [QAc,hl];exact ⟨hp,rfl⟩
theorem ZlR {H:Hp} {n:Nat} {a c:Addr} {F G:List (List Int)} (x:TG H a F) (y:TG H c G) (hF:OkRows n F) (hG:OkRows n G) (l1:F.length=n) (l2:G.length=n):LtD K H 2 (.ref a) (.ref c) (Zca F G):=by
 obtain ⟨ps,h1,r1⟩:=x;obtain ⟨qs,h2,r2⟩:=y;have e1:(ps.map V.ref).length=F.length:=by rw [QAa,r1.length]
 have e2:(qs.map V.ref).length=G.length:=by rw [QAa,r2.length]
 refine (LtD.tups (d:=1) (e:=fun j=>decide (F.getD j []=G.getD j [])) (r:=fun j=>Zb9 (F.getD j []) (G.getD j [])) (SqT.of h1) (SqT.of h2) (by exact O344 l1 l2 e1 e2) (fun i u v hu hv=>?_) (fun i u v hu hv _=>?_)).cast ?_
 ·obtain ⟨p,rfl,hp,_⟩:=Jk r1 hu;obtain ⟨q,rfl,hq,_⟩:=Jk r2 hv;exact ZeG (SqT.of hp) (SqT.of hq)
 ·obtain ⟨p,rfl,hp,m1⟩:=Jk r1 hu;obtain ⟨q,rfl,hq,m2⟩:=Jk r2 hv;exact ZkB (SqT.of hp) (SqT.of hq) (by rw [(hF.row _ (QAt m1)).1,(hG.row _ (QAt m2)).1])
 ·rw [e1];exact Zfu F G F.length 0 (by exact Om.g2 ‹_› ‹_›) (Nat.sub_zero _) (QAh _)
theorem ZcW {H:Hp} {a c:Addr} {F G:List (List Int)} (x:TG H a F) (y:TG H c G):EqD K H 2 (.ref a) (.ref c) (decide (F=G)):=by
 obtain ⟨ps,h1,r1⟩:=x;obtain ⟨qs,h2,r2⟩:=y;have e1:(ps.map V.ref).length=F.length:=by rw [QAa,r1.length]
 have e2:(qs.map V.ref).length=G.length:=by rw [QAa,r2.length]
 refine (EqD.tups (d:=1) (e:=fun j=>decide (F.getD j []=G.getD j [])) (SqT.of h1) (SqT.of h2) (fun i u v hu hv=>?_)).cast ?_
 ·obtain ⟨p,rfl,hp,_⟩:=Jk r1 hu;obtain ⟨q,rfl,hq,_⟩:=Jk r2 hv;exact ZeG (SqT.of hp) (SqT.of hq)
 ·rw [e1,e2,QBf,QAv,QZg,QZg,QBg]
  constructor
  ·rintro ⟨hl,h⟩;refine QBs hl fun i i1 i2=>?_;have:=h i (QZe.mpr i1);rw [QAv,QZg,QZg] at this;have h3:=this.2;rw [QAc,QAb i1,QAc,QAb i2] at h3;exact h3
  ·rintro rfl;exact ⟨rfl,fun i hi=>by rw [QAv,QZg,QZg]; exact ⟨QZe.mp hi,rfl⟩⟩
end
theorem Zfr {n:Nat} {R:List (List Int)} (ok:OkRows n R) (hl:R.length=n) (h6:n<=6):(Zz n R).length<=36*1296:=by
 unfold Zz
 split
 ·decide
 ·refine QAs (Yt (m:=1296) (Y8 n) fun y hy=>ZeD ok hl h6 hy) (QCd ?_ (QAd _));exact QAs (Zg1 n) (QCd h6 h6)
theorem Zju {n:Nat} {R:List (List Int)} (ok:OkRows n R) (hl:R.length=n) (h1:1<=n):0<(Zz n R).length:=by
 by_cases e:n=1
 ·unfold Zz;rw [if_pos e]
  decide
 ·have h2:2<=n:=by exact O333 h1 e
  obtain ⟨l1,_⟩:=Zfq (R:=R) h2;obtain ⟨⟨a,b⟩,hab,e2⟩:=QZd.mp l1;obtain ⟨ha,hb,hne⟩:=mem_two.mp hab;have v:=Yu (Y9 ok hl ha hb);obtain ⟨w,hw⟩:=Zbz (s:=sF R a b) (f:=(rgs n R a b).length) (C:=rgs n R a b) (fun c hc=>(v.cy c hc).pos) (QAd _);have:ZA n R a w∈Zz n R:=by
   unfold Zz;rw [if_neg e];refine QZp.mpr ⟨(a,b),hab,?_⟩;unfold Zaq;rw [if_pos e2];exact QZd.mpr ⟨w,hw,rfl⟩
  exact QDt this
structure LeadOf (n:Nat) (R F:List (List Int)) (L:List (List (List Int))):Prop where
 all:L=(Zz n R).filter fun g=>decide (ZY n R g=F)
 mem:∃ g∈Zz n R,ZY n R g=F
 least:∀ g∈Zz n R,Zca (ZY n R g) F=false
theorem Zbs {α:Type} (p:α->Bool):∀ (l:List α),(∃ x∈l,p x=true)->∃ (h:α) (i:Nat),(l.filter p)[0]? = some h/\l[i]? = some h/\p h=true/\∀ j g,j<i->l[j]? = some g->p g=false
 | [],h=>by
  obtain ⟨_,hx,_⟩:=h
  cases hx
 | x::l,h=>by
  by_cases e:p x=true
  ·exact ⟨x,0,by rw [QDp e]; rfl,rfl,e,fun j g hj _=>absurd hj (QDs j)⟩
  ·have:∃ y∈l,p y=true:=by
    obtain ⟨y,hy,py⟩:=h
    cases hy with
    | head=>exact absurd py e
    | tail _ hy=>exact ⟨y,hy,py⟩
   obtain ⟨h,i,h1,h2,h3,h4⟩:=Zbs p l this;refine ⟨h,i+1,by rw [QDq e]; exact h1,h2,h3,fun j g hj hg=>?_⟩
   cases j with
   | zero =>
    cases hg;exact Bool.eq_false_iff.mpr e
   | succ j=>exact h4 j g (by exact O343 hj) hg
theorem LeadOf.plain {n:Nat} {R F:List (List Int)} {L:List (List (List Int))} (z:LeadOf n R F L):∃ h,L[0]? = some h/\Zk0 n R F h:=by
 obtain ⟨g,hg,e⟩:=z.mem;obtain ⟨h,i,h1,h2,h3,h4⟩:=Zbs (fun g=>decide (ZY n R g=F)) (Zz n R) ⟨g,hg,QZh e⟩;rw [<- z.all] at h1;exact ⟨h,h1,⟨⟨i,h2,fun j g hj hg=>of_decide_eq_false (h4 j g hj hg)⟩,QZj h3,z.least⟩⟩
end My
namespace My
open PySem L2
noncomputable def PrR (H:Hp) (n:Nat) (R:List (List Int)) (p:Addr) (g:List (List Int)):Prop:=∃ a b:Addr,H p=some (.tup [.ref a,.ref b])/\TG H a (ZY n R g)/\TG H b g
theorem PrR.up {H H':Hp} {n:Nat} {R:List (List Int)} {p:Addr} {g:List (List Int)} (c:PrR H n R p g) (f:∀ b row,H b=some (.tup row)->H' b=some (.tup row)):PrR H' n R p g :=
 let ⟨a,b,h1,h2,h3⟩:=c
 ⟨a,b,f _ _ h1,h2.up f,h3.up f⟩
inductive ZhQ (vs:List V) (H:Hp) (Q:VK):Prop where
 | mk (g:Addr) (n:Nat) (R:List (List Int)) (_:vs=[.ref g]) (_:TG H g R) (_:OkRows n R) (_:R.length=n) (_:1<=n) (_:n<=6) (_:∀ t p l H' F L,Same H H'->H' t=some (.tup [.ref p,.ref l])->TG H' p F->RL H' l L->LeadOf n R F L->Q (.ref t) H'):ZhQ vs H Q
noncomputable def ZiF:Sp:=fun vs H Q _=>ZhQ vs H Q
section
variable {P:Program} {w:World} {K:QZa} {mg:Str->Option Value} {base:Heap}
variable {fS fU fF fR fL fW fT fA:Addr} {dS dU dF dR dL dW dT dA:FuncData}
theorem scLead:Zs ["square","told","form"] ["square"] (Zd YH):=⟨rfl,rfl,rfl,by decide +kernel,rfl,by decide +kernel,by decide +kernel⟩
inductive Zd5 (g:Addr) (n:Nat) (R:List (List Int)) (H1:Hp) (lc:Addr) (j:Nat) (ys:List V) (σ:St) (H2:Hp):Prop where
 | mk (v0:Option V) (us:List Addr) (_:σ=[v0,some (.ref g)]) (_:ys=us.map V.ref) (_:Same H1 H2) (_:H2 lc=some (.lst ys)) (_:Paired (fun p x=>PrR H2 n R p x) us ((Zz n R).take j)):Zd5 g n R H1 lc j ys σ H2
inductive Zd4 (n:Nat) (R:List (List Int)) (HA:Hp) (lm:Addr) (j:Nat) (ys:List V) (σ:St) (H2:Hp):Prop where
 | mk (v0 v1:Option V) (ms:List Addr) (_:σ=[v0,v1]) (_:ys=ms.map V.ref) (_:Same HA H2) (_:H2 lm=some (.lst ys)) (_:Paired (fun p x=>TG H2 p (ZY n R x)) ms ((Zz n R).take j)):Zd4 n R HA lm j ys σ H2
inductive Zd3 (n:Nat) (R:List (List Int)) (HB:Hp) (pm:Addr) (FF:List (List Int)) (lf:Addr) (j:Nat) (ys:List V) (σ:St) (H2:Hp):Prop where
 | mk (v0 v1:Option V) (zs:List Addr) (_:σ=[v0,v1,some (.ref pm)]) (_:ys=zs.map V.ref) (_:Same HB H2) (_:H2 lf=some (.lst ys)) (_:zs.length<=j) (_:Paired (fun p x=>TG H2 p x) zs (((Zz n R).take j).filter fun x=>decide (ZY n R x=FF))):Zd3 n R HB pm FF lf j ys σ H2
set_option maxHeartbeats 1000000 in
theorem Zhn {f fH fM fN fE:Addr} {fd dH dM dN dE:FuncData} (F:Fun K "leading" "leading" YH f fd) (T:Blt mg) (Z:HpD K mg fS fU fF fR fL fW fT fA dS dU dF dR dL dW dT dA) (DH:Dfn K mg "hopeful" YI ["square"] fH dH) (DM:Dfn K mg "renamed" Jn ["begun","renaming"] fM dM) (DN:Dfn K mg "undone" Ji ["renaming"] fN dN) (DE:Dfn K mg "entry_renamed" Zae ["entry","things"] fE dE):FnOk P w K mg base CX0 6 f fd ["square"] ZiF:=by
 have GH:FnOk P w K mg base CX0 5 fH dH ["square"] ZiG:=Zkt DH.F T Z;have GM:FnOk P w K mg base CX0 5 fM dM ["begun","renaming"] J3:=(ZgD DM.F T DN Z.U DE).mono (by decide);refine F.ok scLead (fun vs H Q E h=>?_) (fun cdv A outer s H vs Q E hr h=>?_)
 ·obtain ⟨_,_,_,rfl,_⟩:=h
  rfl
 ·obtain ⟨g,n,R,rfl,hT,ok,hRl,h1,h6,q⟩:=h;have hu:((A.deeper (PyProof.Rows.envOfC "leading" (Zd YH) s.heap.objs.size f cdv))).units+2<cLine:=by have:=hr.un; omega
  have hu1:((A.deeper (PyProof.Rows.envOfC "leading" (Zd YH) s.heap.objs.size f cdv))).units+1+2<cLine:=by have:=hr.un; omega
  refine' ⟨_,Ze ?s1 (Ze ?s2 (Zf (Zq ?s3))),?rd⟩
  case s1=>exact Ze6 (i:=1) ["renaming","square"] [none,some 0] scLead.nd rfl (Or.inl rfl) rfl rfl (Z2 K (Zm GH hr rfl DH.m DH.F.kp DH.b .nil ZF (Za (pv 0) Zc))) (fun _ _ _ _ _=>Yw 0) (fun _ _ _ _ _=>ZB) (fun _ _ _ _ _=>Za0 (Za (Zm GM hr rfl DM.m DM.F.kp DM.b .nil ZF (Za (pv 1) (Za (pv 0) Zc))) (Za (pv 0) Zc)))
  case s2=>exact Zk (i:=2) scLead.nd rfl (Or.inr rfl) (Zl (ZfE (d:=2) K rfl hu1) rfl T.min ZgW (Za (Yi ["one","renaming"] [none,none] rfl rfl (Z2 K (pv 1)) (fun _ _ _ _ _=>ZaL (n:=2) K rfl (ZS (Yw 0) (ZS (Yw 1) Jx))) (fun _ _ _ _ _=>ZB) (fun _ _ _ _ _=>pv 0)) Zc))
  case s3=>exact Za0 (Za (pv 2) (Za (Yi ["one","renaming","form"] [none,none,some 2] rfl rfl (Z2 K (pv 1)) (fun _ _ _ _ _=>ZaL (n:=2) K rfl (ZS (Yw 0) (ZS (Yw 1) Jx))) (fun _ _ _ _ _=>Zbg (ZC (Zi2 (d:=2) hu K) (pv 0) (pv 2) (ZV _))) (fun _ _ _ _ _=>pv 1)) Zc))
  case rd =>
   refine ⟨_,rfl,g,n,R,rfl,hT,ok,hRl,h1,h6,fun lh H1 hlh s1 hRL=>?_⟩;obtain ⟨hs,hhs,hHs⟩:=hRL;have hhl:(hs.map V.ref).length=(Zz n R).length:=by rw [QAa,hHs.length]
   have hbd:=Zfr ok hRl h6;have hpos:=Zju ok hRl h1;have hT1:=hT.same s1;refine ⟨lh,rfl,⟨_,SqL.of hhs⟩,fun lc hlc=>?_⟩;refine Z8 (Z1 (xs:=hs.map V.ref)) (Zd5 g n R H1 lc)
    ⟨none,[],rfl,rfl,Same.new hlc,Zb,.nil⟩ (fun j ys σ H2 zz0=> by obtain ⟨_,_,_,_,s2,hl,_⟩ := zz0; exact ⟨SqL.of (s2 _ _ hhs),hl⟩) ?_ ?_
   ·rintro j x ys σ H2 hj ⟨v0,us,rfl,rfl,s2,hl2,hU⟩;rw [QAe] at hj
    cases hpj:hs[j]? with
    | none=>rw [hpj] at hj; cases hj
    | some pr =>
    rw [hpj] at hj
    cases hj;obtain ⟨rj,hrj,hpr⟩:=Paired.getL hHs hpj;have rn:=Zbq ok hRl h1 (QAt hrj);refine ⟨_,rfl,_,rfl,g,pr,n,_,rj,rfl,(hT1.same s2).grid,ZaP ok hRl,hpr.same s2,rn,h1,by exact Om.b1 ‹_› rfl,fun tm H3 s3 hG3=>?_⟩;rw [YW ok hRl rn] at hG3;have hTm:=GridT.tg hG3;refine ⟨_,rfl,(show 2<=sizeLine from Zy (by decide)),fun t ht=>?_⟩;have s4:Same H3 (upd H3 t (.tup [.ref tm,.ref pr])):=Same.new ht;have g4:(upd H3 t (.tup [.ref tm,.ref pr])) t=some (.tup [.ref tm,.ref pr]):=Zb;generalize upd H3 t (.tup [.ref tm,.ref pr])=H4 at s4 g4 ⊢;have s34:=s3.trans s4;have hl4:=s34 _ _ hl2;have hjl:=(QZb.mp hrj).1;have hul:us.length=j:=by
     rw [hU.length,QAu];exact Om.m1 ‹_›
    have up:∀ b row,H4 b=some (.tup row)->(upd H4 lc (.lst (us.map V.ref++[.ref t]))) b=some (.tup row):=fun b row e=>by
     rw [Zg (JH e hl4 (by intro z; cases z))];exact e
    refine ⟨hl4,by rw [QAa,hul]; exact Ju (by exact Om.b2 ‹_› ‹_› rfl),_,us++[t],rfl,by rw [QAn]; rfl,fun b u e=>?_,Zb,?_⟩
    ·rw [Zg (Zi e hlc)];exact s34 _ _ (s2 _ _ e)
    ·have et:(Zz n R).take (j+1)=(Zz n R).take j++[rj]:=by rw [QCc,hrj]; rfl
     rw [et];exact Paired.snoc (Paired.mapP hU fun _ _ z=>z.up fun b row e=>up b row (s34 _ _ e)) (PrR.up (H:=H4) ⟨tm,pr,g4,hTm.same s4,(hpr.same s2).same s34⟩ up)
   rintro ys σ HA ⟨v0,us,rfl,rfl,sA,hlA,hU⟩;rw [hhl,QBd (QAd _)] at hU;have sHA:=s1.trans sA;have husl:(us.map V.ref).length=(Zz n R).length:=by rw [QAa,hU.length]
   refine ⟨_,rfl,lc,rfl,⟨_,SqL.of hlA⟩,fun lm hlm=>?_⟩;refine Z8 (Z1 (xs:=us.map V.ref)) (Zd4 n R HA lm)
    ⟨none,none,[],rfl,rfl,Same.new hlm,Zb,.nil⟩ (fun j ys σ H2 zz0=> by obtain ⟨_,_,_,_,_,s2,hl,_⟩ := zz0; exact ⟨SqL.of (s2 _ _ hlA),hl⟩) ?_ ?_
   ·rintro j x ys σ H2 hj ⟨v0,v1,ms,rfl,rfl,s2,hl2,hM⟩;rw [QAe] at hj
    cases hpj:us[j]? with
    | none=>rw [hpj] at hj; cases hj
    | some p =>
    rw [hpj] at hj
    cases hj;obtain ⟨rj,hrj,ta,tb,hp,hta,htb⟩:=Paired.getL hU hpj;refine ⟨p,_,rfl,SqT.of (s2 _ _ hp),rfl,_,_,rfl,_,_,rfl,rfl,?_⟩;have hjl:=(QZb.mp hrj).1;have hml:ms.length=j:=by
     rw [hM.length,QAu];exact Om.m1 ‹_›
    have up:∀ b row,H2 b=some (.tup row)->(upd H2 lm (.lst (ms.map V.ref++[.ref ta]))) b=some (.tup row):=fun b row e=>by
     rw [Zg (JH e hl2 (by intro z; cases z))];exact e
    refine ⟨_,rfl,hl2,by rw [QAa,hml]; exact Ju (by exact Om.b2 ‹_› ‹_› rfl),_,_,ms++[ta],rfl,by rw [QAn]; rfl,fun b u e=>?_,Zb,?_⟩
    ·rw [Zg (Zi e hlm)];exact s2 _ _ e
    ·have et:(Zz n R).take (j+1)=(Zz n R).take j++[rj]:=by rw [QCc,hrj]; rfl
     rw [et];exact Paired.snoc (Paired.mapP hM fun _ _ z=>z.up up) ((hta.same s2).up up)
   rintro ys σ HB ⟨v0,v1,ms,rfl,rfl,sB,hlB,hM⟩;rw [husl,QBd (QAd _)] at hM;have hml:ms.length=(Zz n R).length:=hM.length;obtain ⟨hbl,hbm⟩:=Zc5 ZiY (fun i=>ZY n R ((Zz n R).getD i [])) ((Zz n R).length - 1);have hbi:argBest (fun i j=>Zca (ZY n R ((Zz n R).getD i [])) (ZY n R ((Zz n R).getD j []))) (ms.length - 1)<ms.length:=by rw [hml]; exact O342 hhl hbd hpos husl hml hbl
   obtain ⟨xm,hxm,hpm⟩:=Paired.getL hM (QAb hbi);have hleast:∀ x∈Zz n R,Zca (ZY n R x) (ZY n R xm)=false:=fun x hx=>by
    obtain ⟨i,hi,rfl⟩:=QBe hx;have h3:=hbm i (by exact Om.q2 ‹_›);rw [<- hml] at h3;have e3:(Zz n R).getD (argBest (fun i j=>Zca (ZY n R ((Zz n R).getD i [])) (ZY n R ((Zz n R).getD j []))) (ms.length - 1)) []=xm:=by rw [QAc,hxm]; rfl
    have e4:(Zz n R).getD i []=(Zz n R)[i]:=by rw [QAc,QAb hi]; rfl
    rw [e3,e4] at h3;exact h3
   have hxmm:=QAt hxm;refine ⟨lm,ms,fun i j=>Zca (ZY n R ((Zz n R).getD i [])) (ZY n R ((Zz n R).getD j [])),_,rfl,SqL.of hlB,by exact Om.a1 ‹_› ‹_›,fun i j p p' hi hj=>?_,QAb hbi,?_⟩
   ·obtain ⟨x1,hx1,hq1⟩:=Paired.getL hM hi;obtain ⟨x2,hx2,hq2⟩:=Paired.getL hM hj;obtain ⟨o1,l1⟩:=Jj ok hRl (Zbq ok hRl h1 (QAt hx1));obtain ⟨o2,l2⟩:=Jj ok hRl (Zbq ok hRl h1 (QAt hx2));show LtD K HB 2 (.ref p) (.ref p') (Zca (ZY n R ((Zz n R).getD i [])) (ZY n R ((Zz n R).getD j [])));rw [QAc,hx1,QAc,hx2];exact ZlR hq1 hq2 o1 o2 l1 l2
   generalize ms[argBest (fun i j=>Zca (ZY n R ((Zz n R).getD i [])) (ZY n R ((Zz n R).getD j []))) (ms.length - 1)]=pm at hpm;clear hbm hbi hxm hbl;generalize eF:ZY n R xm=FF at hpm hleast;refine ⟨_,rfl,_,rfl,lc,rfl,⟨_,SqL.of (sB _ _ hlA)⟩,fun lf hlf=>?_⟩;have hlB2:=sB _ _ hlA;refine Z8 (Z1 (xs:=us.map V.ref)) (Zd3 n R HB pm FF lf)
    ⟨none,none,[],rfl,rfl,Same.new hlf,Zb,QAd _,.nil⟩ (fun j ys σ H2 zz0=> by obtain ⟨_,_,_,_,_,s2,hl,_,_⟩ := zz0; exact ⟨SqL.of (s2 _ _ hlB2),hl⟩) ?_ ?_
   ·rintro j x ys σ H2 hj ⟨v0,v1,zs,rfl,rfl,s2,hl2,hzl,hZ⟩;rw [QAe] at hj
    cases hpj:us[j]? with
    | none=>rw [hpj] at hj; cases hj
    | some p =>
    rw [hpj] at hj
    cases hj;obtain ⟨rj,hrj,ta,tb,hp,hta,htb⟩:=Paired.getL hU hpj;have sB2:=sB.trans s2;refine ⟨p,_,rfl,SqT.of (sB2 _ _ hp),rfl,_,_,rfl,_,_,rfl,rfl,?_⟩;have hjl:=(QZb.mp hrj).1;have et:(Zz n R).take (j+1)=(Zz n R).take j++[rj]:=by rw [QCc,hrj]; rfl
    refine ⟨_,rfl,_,rfl,_,ZcW (hta.same sB2) (hpm.same s2),_,rfl,?_⟩
    by_cases e:ZY n R rj=FF
    ·rw [if_neg QAl,QZh e];refine ZbR ?_;have up:∀ b row,H2 b=some (.tup row)->(upd H2 lf (.lst (zs.map V.ref++[.ref tb]))) b=some (.tup row):=fun b row e=>by
      rw [Zg (JH e hl2 (by intro z; cases z))];exact e
     refine ⟨_,rfl,hl2,by rw [QAa]; exact Ju (by exact O341 hhl hbd hpos husl hml hzl hjl),_,_,zs++[tb],rfl,by rw [QAn]; rfl,fun b u e=>?_,Zb,by rw [QAo,QDl]; exact O340 hzl,?_⟩
     ·rw [Zg (Zi e hlf)];exact s2 _ _ e
     ·rw [et,List.filter_append,QDp (by exact QZh e),List.filter_nil];exact Paired.snoc (Paired.mapP hZ fun _ _ z=>z.up up) ((htb.same sB2).up up)
    ·rw [if_neg QAl,QZi e];refine YZ ⟨_,_,zs,rfl,rfl,s2,hl2,by exact O339 hzl,?_⟩;rw [et,List.filter_append,QDq (by rw [QZg]; exact e),List.filter_nil,QBu];exact hZ
   rintro ys σ HC ⟨v0,v1,zs,rfl,rfl,sC,hlC,_,hZ⟩;rw [husl,QBd (QAd _)] at hZ;refine ⟨(show 2<=sizeLine from Zy (by decide)),fun t ht=>?_⟩;have s5:Same HC (upd HC t (.tup [.ref pm,.ref lf])):=Same.new ht;exact q t pm lf _ FF _ (sHA.trans (sB.trans (sC.trans s5))) Zb (hpm.same (sC.trans s5)) ⟨zs,s5 _ _ hlC,Paired.mapP hZ fun _ _ z=>z.same s5⟩ ⟨rfl,⟨xm,hxmm,eF⟩,hleast⟩
end
end My
namespace My
open PySem L2
inductive Zd1 (vs:List V) (H:Hp) (Q:VK):Prop where
 | mk (a b:Addr) (n:Nat) (R S:List (List Int)) (_:vs=[.ref a,.ref b]) (_:TG H a R) (_:TG H b S) (_:Ren n R) (_:Ren n S) (_:1<=n) (_:n<=8) (_:∀ t H',Same H H'->TG H' t (Z9 R S)->Q (.ref t) H'):Zd1 vs H Q
noncomputable def ZeT:Sp:=fun vs H Q _=>Zd1 vs H Q
inductive Zlh (vs:List V) (H:Hp) (Q:VK):Prop where
 | mk (a b:Addr) (n:Nat) (r s:List Int) (_:vs=[.ref a,.ref b]) (_:H a=some (.tup (r.map V.int))) (_:H b=some (.tup (s.map V.int))) (_:Turn n r) (_:Turn n s) (_:n<=8) (_:∀ t H',Same H H'->H t=none->H' t=some (.tup ((cmp r s).map V.int))->Q (.ref t) H'):Zlh vs H Q
noncomputable def Zmr:Sp:=fun vs H Q _=>Zlh vs H Q
section
variable {P:Program} {w:World} {K:QZa} {mg:Str->Option Value} {base:Heap}
theorem Znb:Zs ["one","other"] ["one","other"] (Zd Yp):=⟨rfl,rfl,rfl,by decide +kernel,rfl,by decide +kernel,by decide +kernel⟩
theorem Zdd {f:Addr} {fd:FuncData} (F:Fun K "turn_behind" "turn_behind" Yp f fd) (T:Blt mg):FnOk P w K mg base CX0 1 f fd ["one","other"] Zmr:=by
 refine F.ok Znb (fun vs H Q E h=>?_) (fun cdv A outer s H vs Q E hr h=>?_)
 ·obtain ⟨_,_,_,_,_,rfl,_⟩:=h
  rfl
 ·obtain ⟨a,b,n,r,s,rfl,ha,hb,tr,ts,h8,q⟩:=h;refine ⟨_,Zf (Zq (Zp (Zv K) rfl T.tuple ZI (Za (Yi ["number","other"] [none,some 1] rfl rfl (ZaK K (pv 0)) (fun _ _ _ _ _=>Yw 0) (fun _ _ _ _ _=>ZB) (fun _ _ _ _ _=>ZU (YK K) (pv 1) (pv 0) (fun _ _=>rfl))) Zc))),?_⟩;refine ⟨_,rfl,a,rfl,⟨_,SqT.of ha⟩,fun l hl=>ZD (fun i=>some (.int (s.getD (r.getD i 0).toNat 0))) (fun σ=>∃ v,σ=[v,some (.ref b)]) (ZaD (xs:=r.map V.int)) (by rw [QAa,tr.len]; exact Zy (by exact Om.b1 ‹_› rfl)) hl (fun H' sm=>SqT.of (sm _ _ ha)) ⟨none,rfl⟩ ?_ ?_⟩
  ·rintro j x σ H' R' hj ⟨v,rfl⟩ sm kk;have hjn:j<n:=by
    have:=(QZb.mp hj).1;rw [QAa,tr.len] at this;exact this
   obtain ⟨x',hx',hxn⟩:=tr.val hjn;have ej:x = .int (x':Int):=by
    rw [QAe,QAb (by rw [tr.len]; exact hjn)] at hj;rw [ZK (by rw [tr.len]; exact hjn)] at hx';rw [hx'] at hj
    cases hj
    rfl
   subst ej;refine ⟨_,rfl,_,rfl,b,_,_,_,rfl,rfl,SqT.of (sm _ _ hb),JL (i:=x') (by rw [ts.len]; exact hxn),?_⟩;have:=kk [some (.int (x':Int)),some (.ref b)] H' ⟨_,rfl⟩ (Same.refl _)
   simp only [hx',QAf] at this;exact this
  ·intro H2 s2 h2;have e0:(List.range (r.map V.int).length).filterMap (fun i:Nat=>some (V.int (s.getD (r.getD i 0).toNat 0)))=(cmp r s).map V.int:=by
    rw [YA,QAa];refine QBs (by rw [QAa,QAr,QAa,Y2]) fun i e1 e2=>?_;rw [QAa,QAr] at e1;rw [QBk,QCw,QBk,<- ZK,YN tr (by rw [<- tr.len]; exact e1)]
   rw [e0] at h2;exact ⟨l,_,rfl,.inl ⟨SqL.of h2,fun t ht=>q t _ (s2.trans (Same.new ht)) (s2.free ht) Zb⟩⟩
theorem ZiJ:Zs ["one","other"] ["one","other"] (Zd JS):=⟨rfl,rfl,rfl,by decide +kernel,rfl,by decide +kernel,by decide +kernel⟩
inductive ZfX (H:Hp) (R:List (List Int)) (S:List (List Int)) (lz:Addr) (i:Nat) (ys:List V) (σ:St) (H4:Hp):Prop where
 | mk (v0 v1:Option V) (zs:List Addr) (_:σ=[v0,v1]) (_:ys=zs.map V.ref) (_:Same H H4) (_:H4 lz=some (.lst ys)) (_:Paired (fun q (r:List Int)=>H4 q=some (.tup (r.map V.int))) zs ((Z9 R S).take i)):ZfX H R S lz i ys σ H4
theorem ZdA {f fB:Addr} {fd dB:FuncData} (F:Fun K "behind" "behind" JS f fd) (T:Blt mg) (DB:Dfn K mg "turn_behind" Yp ["one","other"] fB dB):FnOk P w K mg base CX0 2 f fd ["one","other"] ZeT:=by
 have GB:FnOk P w K mg base CX0 1 fB dB ["one","other"] Zmr:=Zdd DB.F T;refine F.ok ZiJ (fun vs H Q E h=>?_) (fun cdv A outer s H vs Q E hr h=>?_)
 ·obtain ⟨_,_,_,_,_,rfl,_⟩:=h
  rfl
 ·obtain ⟨a,b,n,R,S,rfl,hA,hB,rR,rS,h1,h8,q⟩:=h;refine ⟨_,Zf (Zq (Zp (Zv K) rfl T.tuple ZI (Za (Yi ["first","second"] [none,none] rfl rfl (Zhj K rfl T.zip (Za (pv 0) (Za (pv 1) Zc))) (fun _ _ _ _ _=>ZaL (n:=2) K rfl (ZS (Yw 0) (ZS (Yw 1) Jx))) (fun _ _ _ _ _=>ZB) (fun _ _ _ _ _=>Zm GB hr rfl DB.m DB.F.kp DB.b .nil ZF (Za (pv 0) (Za (pv 1) Zc)))) Zc))),?_⟩;obtain ⟨ps,hps,hPs⟩:=id hA;obtain ⟨qs,hqs,hQs⟩:=id hB;have lp:(ps.map V.ref).length=3:=by rw [QAa,hPs.length,rR.len]
  have lq:(qs.map V.ref).length=3:=by rw [QAa,hQs.length,rS.len]
  have lb:(Z9 R S).length=3:=by unfold Z9; rw [QAa,QAr]
  refine ⟨_,rfl,_,rfl,a,b,_,_,rfl,SqT.of hps,SqT.of hqs,fun lz hlz=>?_⟩;refine ZjL (n:=3) (Y:=fun i H v H'=>∃ p x y,v = .ref p/\H p=none/\(ps.map V.ref)[i]? = some x/\(qs.map V.ref)[i]? = some y/\H'=upd H p (.tup [x,y])) (P:=fun H'=>SqT K H' a (ps.map V.ref)/\SqT K H' b (qs.map V.ref))
   (fun i H' h hi=>⟨_,_,(ps.map V.ref)[i]'(by exact Om.a1 ‹_› ‹_›),(qs.map V.ref)[i]'(by exact Om.a1 ‹_› ‹_›),h.1,h.2,QAb _,QAb _⟩)
   (fun i H' v H'' h zz0 _=> by obtain ⟨p,x,y,e1,e2,e3,e4,e5⟩ := zz0; exact ⟨p,x,y,e1,e2,e3 _ h.1,e4 _ h.2,e5⟩) (fun i H' h hi=>⟨_,_,h.1,h.2,.inl (by exact Om.l4 ‹_› ‹_›)⟩)
   (ZfX H R S lz)
   ⟨none,none,[],rfl,rfl,Same.new hlz,Zb,.nil⟩ (fun i ys σ H4 zz0=> by obtain ⟨_,_,_,_,_,s4,hl,_⟩ := zz0; exact ⟨⟨SqT.of (s4 _ _ hps),SqT.of (s4 _ _ hqs)⟩,hl⟩) ?_ ?_
  ·rintro i v ys σ H4 H5 hi ⟨v0,v1,zs,rfl,rfl,s4,hl4,hZ⟩ ⟨p,u,y,rfl,hp,hu,hy,rfl⟩;rw [QAe] at hu hy
   cases hpi:ps[i]? with
   | none=>rw [hpi] at hu; cases hu
   | some p1 =>
    cases hqi:qs[i]? with
    | none=>rw [hqi] at hy; cases hy
    | some q1 =>
     rw [hpi] at hu;rw [hqi] at hy
     cases hu
     cases hy;obtain ⟨r,hr1,hp1⟩:=Paired.getL hPs hpi;obtain ⟨t,ht1,hq1⟩:=Paired.getL hQs hqi;have tr:=rR.row r (QAt hr1);have tt:=rS.row t (QAt ht1);have s5:Same H4 (upd H4 p (.tup [.ref p1,.ref q1])):=Same.new hp;refine ⟨p,_,rfl,SqT.of Zb,rfl,_,_,rfl,_,_,rfl,rfl,_,rfl,_,rfl,p1,q1,n,r,t,rfl,s5 _ _ (s4 _ _ hp1),s5 _ _ (s4 _ _ hq1),tr,tt,h8,fun z H6 s6 hz0 hz=>?_⟩;have hl6:=s6 _ _ (s5 _ _ hl4);have up:∀ b row,H6 b=some (.tup row)->(upd H6 lz (.lst (zs.map V.ref++[.ref z]))) b=some (.tup row):=fun b row e=>by
      rw [Zg (JH e hl6 (by intro z; cases z))];exact e
     have hzl:zs.length=i:=by rw [hZ.length,QAu,lb]; exact Om.m1 ‹_›
     refine ⟨hl6,by rw [QAa,hzl]; exact Zw (by exact O338 hi hzl),_,_,zs++[z],rfl,by rw [QAn]; rfl,fun b u e=>?_,Zb,?_⟩
     ·rw [Zg (Zi e hlz)];exact s6 _ _ (s5 _ _ (s4 _ _ e))
     ·have eb:(Z9 R S)[i]? = some (cmp r t):=by
       unfold Z9;rw [QAe,QBj hi,QDe,QAc,QAc,hr1,ht1]
       rfl
      have hib:i<(Z9 R S).length:=by exact Om.a1 ‹_› ‹_›
      rw [QAb hib] at eb;rw [Yr _ hib,QZl eb];exact Paired.snoc (Paired.mapP hZ fun _ _ e=>up _ _ (s6 _ _ (s5 _ _ e))) (up _ _ hz)
  ·rintro ys σ H4 ⟨v0,v1,zs,rfl,rfl,s4,hl4,hZ⟩;rw [QBd (by exact Om.l1 ‹_›)] at hZ;exact ⟨lz,_,rfl,.inl ⟨SqL.of hl4,fun t ht=>q t _ (s4.trans (Same.new ht)) ⟨zs,Zb,Paired.mapP hZ fun _ _ e=>(Same.new ht) _ _ e⟩⟩⟩
end
end My
namespace My
open PySem L2
theorem Zhw:∀ {p q:List Int},p.map V.int=q.map V.int->p=q
 | [],[],_=>rfl
 | [],_::_,e=>by cases e
 | _::_,[],e=>by cases e
 | u::p,v::q,e=>by
  rw [QAp,QAp,List.cons.injEq,V.int.injEq] at e;rw [e.1,Zhw e.2]
theorem ZcO:∀ {A B:List (List Int)},(A.map fun r=>r.map V.int)=(B.map fun r=>r.map V.int)->A=B
 | [],[],_=>rfl
 | [],_::_,e=>by cases e
 | _::_,[],e=>by cases e
 | x::A,y::B,e=>by
  rw [QAp,QAp,List.cons.injEq] at e;rw [Zhw e.1,ZcO e.2]
theorem Zav {n:Nat} {R Rn S:List (List Int)} (ok:OkRows n R) (hl:R.length=n) (rn:Ren n Rn) (rs:Ren n S):ZY n (ZY n R Rn) S=ZY n R (Z9 Rn S):=by
 obtain ⟨ok',hl'⟩:=Jj ok hl rn;have h:=Zhh (ZaP ok hl) rn rs;rw [YW ok hl rn,YW ok' hl' rs,YW ok hl (rn.beh rs)] at h;exact ZcO h
end My
namespace My
open PySem L2
section
variable {n:Nat} {R Rn:List (List Int)}
theorem Hop.to (ok:OkRows n R) (hl:R.length=n) (rn:Ren n Rn) {a b:Nat} {w:List Nat} (hp:Hop n R a b w):Hop n (ZY n R Rn) (rw_ Rn 0 a) (rw_ Rn 0 b) (w.map (thO n Rn)):=by
 obtain ⟨ok',hl'⟩:=Jj ok hl rn;refine ⟨J4 rn (by decide) hp.ha,J4 rn (by decide) hp.hb,fun e=>hp.hne (Zen rn (by decide) hp.ha hp.hb e),?_,fun x y hx hy hxy=>?_⟩
 ·exact ZgU (ZfA rn ok hl hp.ha hp.hb) (Yu (Y9 ok hl hp.ha hp.hb)) (Yu (Y9 ok' hl' (J4 rn (by decide) hp.ha) (J4 rn (by decide) hp.hb))) (YS _ _ _) (YS _ _ _) hp.hw
 ·have ix:=Z4 (rn.at (k:=0) (by decide)) hx;have iy:=Z4 (rn.at (k:=0) (by decide)) hy;have e1:=ZdL rn (k:=0) (by decide) hx;have e2:=ZdL rn (k:=0) (by decide) hy;have h:=hp.hm _ _ ix iy fun e=>hxy (by rw [<- e1,<- e2,e])
  have s:=Zhd rn ok hl ix iy;rw [e1,e2] at s;rw [s,Zhd rn ok hl hp.ha hp.hb];exact h
theorem Zkb {g h:List (List Int)} (rg:Ren n g) (rh:Ren n h) (e:∀ k,k<3->∀ x,x<n->rw_ g k x=rw_ h k x):g=h:=by
 obtain ⟨a,b,c,rfl,ta,tb,tc⟩:=rg.three;obtain ⟨a',b',c',rfl,ta',tb',tc'⟩:=rh.three;have key:∀ k,k<3->([a,b,c].getD k [])=([a',b',c'].getD k []):=fun k hk=>by
  refine ZcU (rg.at hk).len (rh.at hk).len fun i hi=>?_;rw [ZiL rg hk hi,ZiL rh hk hi,e k hk i hi]
 have k0:a=a':=key 0 (by decide);have k1:b=b':=key 1 (by decide);have k2:c=c':=key 2 (by decide);rw [k0,k1,k2]
theorem Cols.get {w:List Nat} (c:Cols n w) {j:Nat} (hj:j<n):w.getD j 0<n:=by
 rw [gDN (by rw [c.len]; exact hj)];exact (c.all _).mp (QAq _)
theorem Zeh {w:List Nat} {j:Nat} (h:j<w.length):(toI w).getD j 0=((w.getD j 0:Nat):Int):=by
 unfold toI;rw [QAc,QAe,QAb h,gDN h]
 rfl
theorem Zg3 {w:List Nat} {a j:Nat} (h:j<w.length):(w.map fun x=>ent R a x).getD j 0=ent R a (w.getD j 0):=by
 rw [QAc,QAe,QAb h,gDN h]
 rfl
theorem ZjQ (ok:OkRows n R) (hl:R.length=n) (h1:1<=n) {g:List (List Int)} (rg:Ren n g) {w:List Nat} (c:Cols n w) {a:Nat} (ha:a<n) (h0:rw_ g 0 a=0) (hw:∀ j,j<n->rw_ g 1 (w.getD j 0)=j) (hf:∀ j,j<n->ent (ZY n R g) 0 j=(j:Int)/\ent (ZY n R g) j 0=(j:Int)):ZA n R a w=g:=by
 have t:=JC ok hl c ha;have k2:∀ x,x<n->(w.map fun x=>ent R a x).idxOf (x:Int)=rw_ g 2 x:=fun x hx=>by
  have hj:=J4 rg (k:=2) (by decide) hx;have hc:=c.get hj;refine Jf t hj hx ?_;rw [Zg3 (by rw [c.len]; exact hj)];have h:=Zbf rg ok hl ha hc;rw [h0,hw _ hj,(hf _ hj).1] at h;obtain ⟨e1,e2⟩:=YL ok hl ha hc;have:=Zen rg (k:=2) (by decide) hx e2 (by exact Om.e1 ‹_›);rw [e1,<- this]
 refine Zkb (J9 ok hl c h1 ha) rg fun k hk x hx=>?_
 rcases k with _ | _ | _ | k
 ·obtain ⟨e1,e2⟩:=YL ok hl hx (c.zero h1);show (((ZA n R a w).getD 0 []).getD x 0).toNat=_;rw [al0 ok hl c h1 ha hx,e1,k2 _ e2,QAf];have h:=Zbf rg ok hl hx (c.zero h1);rw [hw 0 (by exact Om.f5 ‹_›),(hf _ (J4 rg (by decide) hx)).2] at h;omega
 ·show (((ZA n R a w).getD 1 []).getD x 0).toNat=_;have hj:=J4 rg (k:=1) (by decide) hx;have:(toI w).idxOf (x:Int)=rw_ g 1 x:=by
   refine Jf c.turn hj hx ?_;rw [Zeh (by rw [c.len]; exact hj)];have:=Zen rg (k:=1) (by decide) (c.get hj) hx (hw _ hj);rw [this]
  rw [al1 c hx,this,QAf]
 ·show (((ZA n R a w).getD 2 []).getD x 0).toNat=_;rw [al2 ok hl c ha hx,k2 x hx,QAf]
 ·exact O337 hk
theorem Zl9 (c:Cols n w) (a:Nat) {j:Nat} (hj:j<n):rw_ (ZA n R a w) 1 (w.getD j 0)=j:=by
 show (((ZA n R a w).getD 1 []).getD (w.getD j 0) 0).toNat=_;rw [al1 c (c.get hj),Jf c.turn hj (c.get hj) (Zeh (by rw [c.len]; exact hj)),QAf]
theorem ZgY (ok:OkRows n R) (hl:R.length=n) (h1:1<=n) {w:List Nat} (c:Cols n w) {a:Nat} (ha:a<n):rw_ (ZA n R a w) 0 a=0:=by
 show (((ZA n R a w).getD 0 []).getD a 0).toNat=_;obtain ⟨e1,e2⟩:=YL ok hl ha (c.zero h1);rw [al0 ok hl c h1 ha ha,e1,Jf (JC ok hl c ha) (show 0<n by exact Om.f5 ‹_›) e2 (by rw [Zg3 (by rw [c.len]; exact Om.f5 ‹_›),<- e1]),QAf]
theorem Ziu {g:List (List Int)} (rg:Ren n g) {k x:Nat} (hk:k<3) (hx:x<n):rw_ (Yo g) k x=ixo (g.getD k []) x:=by
 obtain ⟨a,b,c,rfl,ta,tb,tc⟩:=rg.three
 rcases k with _ | _ | _ | k
 ·show ((inv a).getD x 0).toNat=ixo a x;rw [Zbn ta hx,QAf]
 ·show ((inv b).getD x 0).toNat=ixo b x;rw [Zbn tb hx,QAf]
 ·show ((inv c).getD x 0).toNat=ixo c x;rw [Zbn tc hx,QAf]
 ·exact O337 hk
theorem Zjp {F g:List (List Int)} {L:List (List (List Int))} (ok:OkRows n R) (hl:R.length=n) (h2:2<=n) (ld:LeadOf n R F L) (rg:Ren n g) (e:ZY n R g=F):g∈Zz n R:=by
 have h1:1<=n:=by exact Om.f4 ‹_›
 obtain ⟨g0,hg0,e0⟩:=ld.mem;obtain ⟨a0,b0,w0,hp,rfl⟩:=(ZcP h2).mp hg0;have c0:=hp.cols ok hl;have rn0:=J9 ok hl c0 h1 hp.ha;have hp1:=hp.to ok hl rn0;obtain ⟨okF,hlF⟩:=Jj ok hl rn0;rw [e0] at hp1 okF hlF;have ew:w0.map (thO n (ZA n R a0 w0))=List.range n:=by
  refine QBs (by rw [QAa,c0.len,QAr]) fun j i1 i2=>?_;rw [QAr] at i2;have hj:=c0.get i2;rw [QBk,QCw,<- gDN (by rw [c0.len]; exact i2),Ziv hj,Zl9 c0 a0 i2]
 rw [ew,ZgY ok hl h1 c0 hp.ha] at hp1;have hp2:=hp1.to okF hlF rg.und;have eR:ZY n F (Yo g)=R:=by rw [<- e]; exact Zbe ok hl rg
 rw [eR] at hp2;refine (ZcP h2).mpr ⟨_,_,_,hp2,(ZjQ ok hl h1 rg (hp2.cols ok hl) hp2.ha ?_ (fun j hj=>?_) fun j hj=>?_).symm⟩
 ·rw [Ziu rg (by decide) (by exact Om.f5 ‹_›)];exact ZdL rg (by decide) (by exact Om.f5 ‹_›)
 ·have:((List.range n).map (thO n (Yo g))).getD j 0=thO n (Yo g) j:=by
   rw [QAc,QAe,QBj hj]
   rfl
  rw [this,Ziv hj,Ziu rg (by decide) hj];exact ZdL rg (by decide) hj
 ·rw [e,<- e0];exact ZfG ok hl c0 h1 hp.ha hj
theorem Zcn {r:List Int} (t:Turn 1 r):r=[0]:=by
 have:=t.len
 match r,this with
 | [x],_ =>
  have:=t.rg x QAj;rw [show x=0 by exact O336 this]
theorem JI {F g:List (List Int)} {L:List (List (List Int))} (ok:OkRows n R) (hl:R.length=n) (h1:1<=n) (ld:LeadOf n R F L):g∈L↔Ren n g/\ZY n R g=F:=by
 rw [ld.all,QZo,QZg]
 constructor
 ·rintro ⟨hg,e⟩;exact ⟨Zbq ok hl h1 hg,e⟩
 ·rintro ⟨rg,e⟩;refine ⟨?_,e⟩
  by_cases h:n=1
  ·subst h;unfold Zz;rw [if_pos rfl];obtain ⟨a,b,c,rfl,ta,tb,tc⟩:=rg.three;rw [Zcn ta,Zcn tb,Zcn tc];exact QZc.mpr rfl
  ·exact Zjp ok hl (by exact O333 h1 h) ld rg e
theorem ZeO {s:Nat->Nat}:∀ {f:Nat} {C:List (List Nat)} {U:Nat->Prop},Cov s C U->(Zr f C).Nodup
 | f,[],U,v=>by
  have e:Zr f []=[[]]:=by cases f <;> rfl
  rw [e];exact List.nodup_cons.mpr ⟨by simp,QBr⟩
 | 0,_::_,_,_=>QBr
 | f+1,c::C,U,v=>by
  have hd:∀ (d:List Nat),d∈c::C->∀ st,st<d.length->∀ w':List Nat,(rot d st++w').getD 0 0=d.getD st 0:=fun d hd st hst w'=>by
   have hp:=(v.cy d hd).pos;rw [QAc,QCo (by rw [YV]; exact hp),<- QAc,Zct hst hp,Nat.add_zero,QCm hst]
  rw [Y7];refine List.pairwise_flatMap.mpr ⟨fun i hi=>?_,?_⟩
  ·have hi:=QZe.mp hi;rw [gDL hi]
   split
   ·next q =>
    have hm:=QAq hi;refine List.pairwise_flatMap.mpr ⟨fun st hst=>?_,?_⟩
    ·have v':=v.erase hi (c:=(c::C)[i]) fun x=>Iff.rfl
     rw [<- QCv];exact QZm.mpr ((ZeO v').imp fun ne e=>ne (List.append_cancel_left e))
    ·refine List.Pairwise.imp_of_mem ?_ (QZk.mp QCh);intro a b ha hb hab x hx y hy e;have ha:=QZe.mp ha;have hb:=QZe.mp hb;rw [<- q] at ha hb;obtain ⟨w1,_,rfl⟩:=QZd.mp hx;obtain ⟨w2,_,rfl⟩:=QZd.mp hy;have h1:=hd _ hm a ha w1;rw [e,hd _ hm b hb w2] at h1;exact hab (Zjg (v.cy _ hm).nd ha hb h1.symm)
   ·exact .nil
  ·have key:∀ i,i<(c::C).length->∀ x,(x∈if ((c::C).getD i []).length=mnl (c::C) then (List.range (mnl (c::C))).flatMap fun st=>(Zr f ((c::C).take i++(c::C).drop (i+1))).map fun w=>rot ((c::C).getD i []) st++w else [])->x.getD 0 0∈(c::C).getD i []:=fun i hi x hx=>by
    rw [gDL hi] at hx ⊢
    split at hx
    ·next q =>
     obtain ⟨st,hst,hx⟩:=QZp.mp hx;have hst:=QZe.mp hst;rw [<- q] at hst;obtain ⟨w1,_,rfl⟩:=QZd.mp hx;rw [hd _ (QAq hi) st hst w1,gDN hst];exact QAq _
    ·cases hx
   refine List.Pairwise.imp_of_mem ?_ (QZk.mp QCh);intro a b ha hb hab x hx y hy e;have ha:=QZe.mp ha;have hb:=QZe.mp hb;have k1:=key a ha x hx;have k2:=key b hb y hy;rw [<- e,gDL hb] at k2;rw [gDL ha] at k1;have dj:=List.pairwise_iff_getElem.mp v.dj
   rcases QCg a b with h | h
   ·exact dj a b ha hb h _ k1 k2
   ·exact dj b a hb ha (by exact O335 hab h) _ k2 k1
theorem ZdX (ok:OkRows n R) (hl:R.length=n) (h1:1<=n) {w w':List Nat} (c:Cols n w) (c':Cols n w') {a a':Nat} (ha:a<n) (ha':a'<n) (e:ZA n R a w=ZA n R a' w'):a=a'/\w=w':=by
 constructor
 ·have z:=ZgY ok hl h1 c ha;have z':=ZgY ok hl h1 c' ha';rw [e] at z;exact Zen (J9 ok hl c' h1 ha') (k:=0) (by decide) ha ha' (z.trans z'.symm)
 ·have h:inv (toI w)=inv (toI w'):=congrArg (fun l=>l.getD 1 []) e;have h2:toI w=toI w':=by rw [<- Zbo c.turn,h,Zbo c'.turn]
  refine QBs (by rw [c.len,c'.len]) fun j i1 i2=>?_;have:=Zeh i1;rw [h2,Zeh i2,gDN i1,gDN i2] at this;omega
theorem Zb0 (ok:OkRows n R) (hl:R.length=n) (h2:2<=n) {a b:Nat} (ha:a<n) (hb:b<n) (hne:a≠b) {w:List Nat} (hw:w∈Zr n (rgs n R a b)):sF R a b (w.getD 0 0)=w.getD 1 0:=by
 have v:=Yu (Y9 ok hl ha hb);obtain ⟨ls,al⟩:=(YQ v (YS _ _ _)).mp hw
 cases al with
 | nil h =>
  have:=(YD ok hl ha hb hw).len;rw [List.length_nil] at this;exact (O334 h2 this).elim
 | @step _ c w' ls hc hU hm al =>
  obtain ⟨i,hi,k,hk,e⟩:=v.find hc hU;have hl2:2<=c.length:=by
   rw [e,YV];exact (Zeq ok hl ha hb hne _ (QAq hi)).1
  have h:=hc.nx 0 hc.pos;rw [Nat.zero_add,QCm (by exact Om.f5 ‹_›)] at h;have g0:(c++w').getD 0 0=c.getD 0 0:=by rw [QAc,QCo hc.pos,<- QAc]
  have g1:(c++w').getD 1 0=c.getD 1 0:=by rw [QAc,QCo (by exact Om.f5 ‹_›),<- QAc]
  rw [g0,g1];exact h
theorem Zlp (n:Nat):(Y8 n).Nodup:=by
 unfold Y8;refine List.pairwise_flatMap.mpr ⟨fun a _=>?_,?_⟩
 ·unfold J2;refine QZm.mpr (List.Pairwise.imp ?_ (List.Pairwise.filter _ (QZk.mp QCh)));intro x y h e;exact h (Prod.mk.inj e).2
 ·refine List.Pairwise.imp ?_ (QZk.mp (QCh (n:=n)));intro a b hab x hx y hy e;unfold J2 at hx hy;obtain ⟨_,_,rfl⟩:=QZd.mp hx;obtain ⟨_,_,rfl⟩:=QZd.mp hy;exact hab (Prod.mk.inj e).1
theorem ZkK (ok:OkRows n R) (hl:R.length=n) (h1:1<=n):(Zz n R).Nodup:=by
 unfold Zz
 split
 ·exact List.nodup_cons.mpr ⟨by simp,QBr⟩
 ·next hn =>
  have h2:2<=n:=by exact O333 h1 hn
  have cw:∀ {a b:Nat} {g:List (List Int)},(a,b)∈Y8 n->g∈Zaq n R (a,b)->∃ w,w∈Zr n (rgs n R a b)/\g=ZA n R a w:=fun {a b g} hx hg=>by
   unfold Zaq at hg
   split at hg
   ·obtain ⟨w,hw,rfl⟩:=QZd.mp hg
    dsimp only at hw;rw [<- Zau] at hw;exact ⟨w,hw,rfl⟩
   ·cases hg
  refine List.pairwise_flatMap.mpr ⟨fun x hx=>?_,?_⟩
  ·obtain ⟨a,b⟩:=x;obtain ⟨ha,hb,hne⟩:=mem_two.mp hx;unfold Zaq
   split
   ·dsimp only;rw [<- Zau];refine QZm.mpr (List.Pairwise.imp_of_mem ?_ (ZeO (Yu (Y9 ok hl ha hb))));intro w w' hw hw' ne e;exact ne (ZdX ok hl h1 (YD ok hl ha hb hw) (YD ok hl ha hb hw') ha ha e).2
   ·exact .nil
  ·refine List.Pairwise.imp_of_mem ?_ (Zlp n);rintro ⟨a,b⟩ ⟨a',b'⟩ hx hy ne g hg h hh e;obtain ⟨ha,hb,hne⟩:=mem_two.mp hx;obtain ⟨ha',hb',hne'⟩:=mem_two.mp hy;obtain ⟨w,hw,rfl⟩:=cw hx hg;obtain ⟨w',hw',rfl⟩:=cw hy hh;obtain ⟨e1,e2⟩:=ZdX ok hl h1 (YD ok hl ha hb hw) (YD ok hl ha' hb' hw') ha ha' e;subst e1;subst e2;have c0:=(YD ok hl ha hb hw).zero h1;have s1:=Zb0 ok hl h2 ha hb hne hw;have s2:=Zb0 ok hl h2 ha hb' hne' hw';have t1:=Zcs ok hl ha hb c0;have t2:=Zcs ok hl ha hb' c0;rw [s1] at t1;rw [s2,t1] at t2;exact ne (by rw [Zbv ok hl hb hb' c0 t2])
end
end My
namespace My
open PySem L2
noncomputable def YY (n:Nat):Nat->List (List Nat)
 | 0=>[[]]
 | k+1=>(YY n k).flatMap fun l=>((List.range n).filter fun x=>decide (x∉l)).map fun x=>l++[x]
theorem ZdF {n:Nat}:∀ (k:Nat) (l:List Nat),l.length=k->l.Nodup->(∀ x∈l,x<n)->l∈YY n k
 | 0,l,h,_,_=>by rw [List.length_eq_zero_iff.mp h]; exact QZc.mpr rfl
 | k+1,l,h,nd,hl=>by
  have hne:l≠[]:=fun z=>by rw [z] at h; cases h
  have e:=List.dropLast_concat_getLast hne;have nd':l.dropLast.Nodup/\l.getLast hne∉l.dropLast:=by
   rw [<- e,List.nodup_append] at nd;exact ⟨nd.1,fun z=>nd.2.2 _ z _ (QZc.mpr rfl) rfl⟩
  have ih:=ZdF k l.dropLast (by rw [List.length_dropLast,h]; rfl) nd'.1 fun x hx=>hl x (by rw [<- e]; exact QBh _ hx)
  rw [<- e];exact QZp.mpr ⟨_,ih,QZd.mpr ⟨_,QZo.mpr ⟨QZe.mpr (hl _ (List.getLast_mem hne)),QZh nd'.2⟩,rfl⟩⟩
theorem Zcz {n:Nat}:∀ (k:Nat) (l:List Nat),l∈YY n k->l.length=k/\l.Nodup/\∀ x∈l,x<n
 | 0,l,h=>by rw [QZc.mp h]; exact ⟨rfl,QBr,fun x hx=>by cases hx⟩
 | k+1,l,h=>by
  obtain ⟨l',h1,h2⟩:=QZp.mp h;obtain ⟨x,hx,rfl⟩:=QZd.mp h2;obtain ⟨hx1,hx2⟩:=QZo.mp hx;obtain ⟨e1,e2,e3⟩:=Zcz k l' h1;refine ⟨by rw [QAo,e1]; rfl,List.nodup_append.mpr ⟨e2,List.nodup_cons.mpr ⟨by simp,QBr⟩,fun a ha b hb e=>?_⟩,fun y hy=>?_⟩
  ·rw [QZc.mp hb] at e;exact QZj hx2 (e ▸ ha)
  ·rcases QZf.mp hy with z | z
   ·exact e3 y z
   ·rw [QZc.mp z];exact QZe.mp hx1
end My
namespace L2
open PySem PySem.Spec PyProof.Rows PySem.W SeqAt
section
variable {prog:Program} {w:World} {A:Around} {E:Value->Shared->Prop} {s:Shared}
end
end L2
namespace L2
open PySem PySem.Spec PyProof.Rows PySem.W SeqAt
section
variable {prog:Program} {w:World} {A:Around} {E:Value->Shared->Prop} {s:Shared}
theorem Zde {a:Addr} {vs:List Value} {n:Nat} {P:PySem.Fin->Shared->Prop} (ho:s.heap.get? a=some (seqObj "list" vs.toArray n)) (h2:vs.length<2)
  (h:∀ h' e,(∀ b o,b≠a->s.heap.get? b=some o->h'.get? b=some o)->h'.get? a=some (seqObj "list" vs.toArray e)->P (.done (.ret .none)) { s with heap:=h' }) :
  wpAny (model prog w) A (Builtin.«list.sort» ⟨[.ref a],[]⟩) P E s:=by
 obtain ⟨e1,ho1⟩:∃ e1,(s.heap.update a (Obj.mapSeq fun _=>(#[]:Array Value))).get? a=some (seqObj "list" #[] e1):=⟨_,get?_update_seq ho fun _=>#[]⟩;have keep:∀ b o,b≠a->s.heap.get? b=some o->(((s.heap.update a (Obj.mapSeq fun _=>(#[]:Array Value))).push (seqObj "tuple" vs.toArray 0)).push (seqObj "list" #[] 0)).get? b=some o:=fun b o hb e=>by
  refine QAk _ (QAk _ ?_);rw [Heap.get?_update_ne _ _ _ _ hb];exact e
 have ho6:(((s.heap.update a (Obj.mapSeq fun _=>(#[]:Array Value))).push (seqObj "tuple" vs.toArray 0)).push (seqObj "list" #[] 0)).get? a=some (seqObj "list" #[] e1):=QAk _ (QAk _ ho1);rw [list_sort_plain];refine QZq (listItems_at ho rfl ?_);refine QZq (listUpdate_at ho rfl ?_ (by rw [QAg,sizeLine_eq]; exact O331 h2) (QAh _));refine QZq (seqEpoch_at ho1 rfl ?_);refine QZq (wpAny_newTuple ?_ (by show vs.length<=_; rw [sizeLine_eq]; exact O331 h2));refine QZq (wpAny_newList ?_ (QAh _));refine wpAny_holding ?_;show wpAny (model prog w) A _ P E { s with heap:=((s.heap.update a (Obj.mapSeq fun _=>(#[]:Array Value))).push (seqObj "tuple" vs.toArray 0)).push (seqObj "list" #[] 0) }
 dsimp only;have hn2:vs.toArray.size<2:=by rw [QAg]; assumption
 rw [if_pos hn2,if_pos hn2];refine QZq (QZr ?_);refine QZq (QZr ?_);have hout:Array.map (fun x:Value × Value=>x.snd) (arrOf (SortSt.mk' general' (vs.toArray.zip vs.toArray) #[] 7 none))=vs.toArray:=by
  show Array.map (fun x:Value × Value=>x.snd) (vs.toArray.zip vs.toArray)=vs.toArray;refine Array.ext (by simp) fun i h1 h2=>?_
  simp
 refine QZq (seqEpoch_at ho6 rfl ?_)
 dsimp only;rw [hout];refine QZq (listUpdate_at ho6 rfl ?_ (QAh _) (by rw [QAg,sizeLine_eq]; exact O332 h2));show wpAny (model prog w) A (if (e1 != e1)=true then _ else ret Value.none) P E _;rw [if_neg (by simp)];obtain ⟨e2,ho7⟩:∃ e2,((((s.heap.update a (Obj.mapSeq fun _=>(#[]:Array Value))).push (seqObj "tuple" vs.toArray 0)).push (seqObj "list" #[] 0)).update a (Obj.mapSeq fun _=>vs.toArray)).get? a=some (seqObj "list" vs.toArray e2):=⟨_,get?_update_seq ho6 fun _=>vs.toArray⟩;refine QZr (h _ e2 (fun b o hb e=>?_) ho7);rw [Heap.get?_update_ne _ _ _ _ hb];exact keep b o hb e
end
end L2
namespace L2
open PySem PySem.Spec PyProof.Rows PySem.W SeqAt
section
variable {prog:Program} {w:World} {A:Around} {E:Value->Shared->Prop} {s:Shared}
theorem Zgn {d:Addr} {vs:List Value} {Q:Value->Shared->Prop} (hl:s.heap.IsList d vs.toArray) (h2:vs.length<2)
  (h:∀ (l:Addr) (h1 h':Heap) (e:Nat),(∀ b o,s.heap.get? b=some o->h1.get? b=some o)->h1.objs.size<=l->(∀ b o,h1.get? b=some o->h'.get? b=some o)->h'.get? l=some (seqObj "list" vs.toArray e)->Q (.ref l) { s with heap:=h' }) :
  wpAny (model prog w) A (call (.builtin "sorted") [.ref d]) Q E s:=by
 obtain ⟨o,ho,hc,n,hd⟩:=id hl;refine Calls.call_function_entry kind_sorted plain_sorted entry_sorted (args_sorted1 _) ?_;unfold Builtin.«sorted»;refine QZq (m:=checkCount "sorted" 1 1 _) (QZr (QZq ?_));have hz:vs.toArray.size<=sizeLine:=by rw [QAg,sizeLine_eq]; exact O331 h2
 refine wpAny_collect_seq (hsz:=hz) d (.inl rfl) ho hc hd fun h1 k1=>?_;rw [List.toList_toArray];refine QZq (wpAny_newList ?_ (by rw [sizeLine_eq]; exact O331 h2));have g:(h1.push (seqObj "list" vs.toArray 0)).get? h1.objs.size=some (seqObj "list" vs.toArray 0):=QAy _ rfl;refine QZq (wpAny_holding (wpAny_call_entry slot_list_sort ⟨_,g,rfl⟩ entry_list_sort (Zde g h2 fun h' e kp he=>⟨_,rfl,?_⟩) (args_list_sort _)));refine QZr ⟨_,rfl,h h1.objs.size h1 h' e k1 (QAd _) (fun b o x=>?_) he⟩;have hb:=QAi x;exact kp b o (QAz hb) (QAk _ x)
end
end L2
namespace L2
open PySem PySem.Spec PyProof.Rows PySem.W SeqAt
section
variable {n:Nat} (h0:0<n)
include h0
end
section
variable {prog:Program} {w:World} {A:Around} {E:Value->Shared->Prop} {s:Shared}
noncomputable def GrAt (h:Heap):List Value->List (List Int)->Prop:=Paired fun v row=>∃ a us,v=Value.ref a/\h.IsTuple a (List.toArray us)/\IntsAre us row
theorem GrAt.keep {h h':Heap} {us:List Value} {r:List (List Int)} (x:GrAt h us r) (k:∀ b o,o.cls = .type "tuple" -> h.get? b=some o->h'.get? b=some o):GrAt h' us r :=
 Paired.mapP x fun _ _ ⟨a,u,e,⟨o,g,c,d⟩,i⟩=>⟨a,u,e,⟨o,k _ _ c g,c,d⟩,i⟩
noncomputable def Za5:List (List Int)->List (List Int)->Bool
 | x::xs,y::ys=>if x=y then Za5 xs ys else ZaT x y
 | _,_=>false
theorem Zfm {k:Nat} {Q:Bool->Shared->Prop} (hu:A.units<cLine):∀ {us vs:List Value} {p q:List (List Int)} {i:Nat},GrAt s.heap us p->GrAt s.heap vs q->(∀ x∈p,x.length=k)->(∀ x∈q,x.length=k)->p.length=q.length->Q (Za5 p q) s->KatLex prog w A false false Q (us.zip vs) i s
 | _,_,_,_,_,.nil,.nil,_,_,_,h=>h
 | _,_,_,_,_,.cons _ _,.nil,_,_,e,_=>by cases e
 | _,_,_,_,_,.nil,.cons _ _,_,_,e,_=>by cases e
 | _,_,x::xs,y::ys,i,.cons ⟨a,u,ea,ta,ia⟩ r,.cons ⟨b,v,eb,tb,ib⟩ r',hx,hy,e,h=>by
  subst ea;subst eb;have l:x.length=y.length:=(hx x QAj).trans (hy y QAj).symm;refine kat_cons (ZkS ta tb ia ib l hu prog w _ _ ?_);unfold Za5 at h
  by_cases hxy:x=y
  ·rw [QZh hxy];rw [if_pos hxy] at h;exact kat_yes (Zfm hu r r' (fun z hz=>hx z (QAm _ hz)) (fun z hz=>hy z (QAm _ hz)) (Nat.succ.inj e) h)
  ·rw [QZi hxy];rw [if_neg hxy] at h;exact kat_no (kat_one _ _ (ZkC ta tb ia ib l hu h))
noncomputable def Grs (h:Heap):List Value->List (List (List Int))->Prop:=Paired fun v r=>∃ a o us n,v=Value.ref a/\h.get? a=some o/\o.cls = .type "tuple" /\ o.data = .seq (List.toArray us) n/\GrAt h us r
theorem ZcQ {h:Heap} {M:Model}:∀ {vs:List Value} {S:List (List (List Int))},Grs h vs S->(∀ r∈S,r≠[])->∃ fs,KatTups h vs fs/\fs.length=vs.length/\∀ v∈fs,Looks M h (typeOf v) (.type "tuple")
 | _,_,.nil,_=>⟨[],.nil,rfl,fun v hv=>by cases hv⟩
 | _,_,.cons ⟨a,o,us,n,e,g,c,d,gr⟩ t,hS=>by
  subst e;obtain ⟨fs,k,hl,hT⟩:=ZcQ (M:=M) t fun r hr=>hS r (QAm _ hr)
  have h0:=hS _ QAj
  cases gr with
  | nil=>exact absurd rfl h0
  | cons x r =>
   obtain ⟨a1,u1,e1,⟨o1,g1,c1,d1⟩,_⟩:=x;subst e1;refine ⟨.ref a1::fs,KatTups.cons g c d rfl k,by rw [QAx,QAx,hl],fun v hv=>?_⟩
   rcases QZn.mp hv with e | hv
   ·subst e;exact fun A Q E s k q=>wpAny_typeOf_ref (k _ _ g1) (by rw [c1]; exact q)
   ·exact hT v hv
end
end L2
namespace SM
open PySem PyProof.Rows
noncomputable def Zhy:Bool->Keyed->Array Keyed->Nat->Nat->Nat->StateT SortSt Sem (Option Nat):=sortPriv% PySem.Builtin.gallop
noncomputable def g (a:Array Keyed) (i:Nat):Keyed:=a.getD i (Value.none,Value.none)
theorem g_eq {a:Array Keyed} {i:Nat} (h:i<a.size):a[i]? = some (g a i):=by
 unfold g;rw [QEv,getElem?_pos a i h]
 rfl
theorem ZmM {a:Array Keyed} {i:Nat} (h:i<a.size):g a i∈a.toList:=by
 have:=Array.mem_of_getElem? (g_eq h);exact Array.mem_toList_iff.mpr this
noncomputable def byB (rk:Keyed->Int) (left:Bool) (key x:Keyed):Bool:=if left=true then decide (rk x<rk key) else !decide (rk key<rk x)
section
variable {M:Model} {A:Around} {E:Value->Shared->Prop} {s:Shared} {rk:Keyed->Int} {κ:SortKind} {P:Keyed->Prop}
noncomputable def LtOk (M:Model) (A:Around) (E:Value->Shared->Prop) (s:Shared) (rk:Keyed->Int) (κ:SortKind) (P:Keyed->Prop):Prop :=
 ∀ (x y:Keyed) (st:SortSt) (Q:Option Bool->SortSt->Prop),P x->P y->kindOf st=κ->Q (some (decide (rk x<rk y))) st->wpS M A E s (lt' x y) Q st
theorem ZQ {arr:Array Keyed} {i:Nat} {st:SortSt} {Q:Keyed->SortSt->Prop} (h:i<arr.size) (q:Q (g arr i) st):wpS M A E s (elem' arr i) Q st:=by
 rw [elem'_eq,g_eq h];exact QZt q
theorem ZeN (L:LtOk M A E s rk κ P) {left:Bool} {key:Keyed} {arr:Array Keyed} {j:Nat} {st:SortSt} {Q:Option Bool->SortSt->Prop} (h:j<arr.size) (hk:P key) (hx:P (g arr j)) (hst:kindOf st=κ) (q:Q (some (byB rk left key (g arr j))) st) :
  wpS M A E s (elem' arr j >>= fun x=>if left=true then lt' x key else lt' key x >>= fun r=>pure (Option.map (fun x=>!x) r)) Q st:=by
 refine QZs (ZQ h ?_);unfold byB at q
 cases left with
 | true=>exact L _ _ _ _ hx hk hst q
 | false=>exact QZs (L _ _ _ _ hk hx hst (QZt q))
theorem ZbA (L:LtOk M A E s rk κ P) {left:Bool} {key:Keyed} {arr:Array Keyed} {base n hint:Nat} {st:SortSt} {Q:Option Nat->SortSt->Prop} (hk:P key) (hP:∀ i,i<n->P (g arr (base+i))) (hz:base+n<=arr.size) (hh:hint<n)
  (hs:∀ i j,i<=j->j<n->rk (g arr (base+i))<=rk (g arr (base+j))) (hst:kindOf st=κ)
  (h:∀ k,k<=n->(∀ i,i<k->byB rk left key (g arr (base+i))=true)->(∀ i,k<=i->i<n->byB rk left key (g arr (base+i))=false)->Q (some k) st):wpS M A E s (Zhy left key arr base n hint) Q st:=by
 have up:∀ i j,i<=j->j<n->byB rk left key (g arr (base+j))=true->byB rk left key (g arr (base+i))=true:=by
  intro i j hij hj hb;have:=hs i j hij hj;unfold byB at hb ⊢
  cases left
  ·simp only [QDd,if_false,Bool.not_eq_true',decide_eq_false_iff_not] at hb ⊢;omega
  ·simp only [if_true,QZg] at hb ⊢;omega
 have dn:∀ i j,i<=j->j<n->byB rk left key (g arr (base+i))=false->byB rk left key (g arr (base+j))=false:=by
  intro i j hij hj hb
  cases e:byB rk left key (g arr (base+j)) with
  | false=>rfl
  | true=>rw [up i j hij hj e] at hb; cases hb
 refine QZs (ZeN L (by exact O179 hz hh) hk (hP _ hh) hst ?_)
 dsimp only
 cases hb:byB rk left key (g arr (base+hint)) with
 | true =>
  rw [if_pos rfl];refine QZs (wpS_mono (wpS_forRange
   (I:=fun x c st'=>st=st'/\∃ la of,c=(none,la,of)/\la<n - hint/\la<of/\x<of/\byB rk left key (g arr (base+(hint+la)))=true)
   (Q:=fun c st'=>st=st'/\∃ la of,c=(none,la,of)/\la<n - hint/\la<of/\byB rk left key (g arr (base+(hint+la)))=true/\(of<n - hint->byB rk left key (g arr (base+(hint+of)))=false)) ?_ ?_ ⟨rfl,0,1,rfl,by exact O330 hh,by exact O321 ,by exact O321 ,hb⟩) ?_)
  ·rintro x c st' _ hx ⟨rfl,la,of,rfl,h1,h2,h3,h4⟩
   dsimp only
   by_cases ho:of>=n - hint
   ·rw [if_pos ho];exact QZt ⟨rfl,la,of,rfl,h1,h2,h4,fun z=>by exact (O329 ho z).elim⟩
   ·rw [if_neg ho];refine QZs (ZeN L (by exact O328 hz hh ho) hk (hP _ (by exact O327 hh ho)) hst ?_)
    cases hc:byB rk left key (g arr (base+(hint+of))) with
    | true=>exact QZt ⟨rfl,of,2*of+1,rfl,by exact O326 ho,by exact O316 ,by exact O315 h2 h3,hc⟩
    | false=>exact QZt ⟨rfl,la,of,rfl,h1,h2,h4,fun _=>hc⟩
  ·rintro c st' ⟨rfl,la,of,rfl,h1,h2,h3,h4⟩;exact ⟨rfl,la,of,rfl,h1,h2,h4,fun z=>by exact (O325 hh h3 z).elim⟩
  ·rintro c st' ⟨rfl,la,of,rfl,h1,h2,h3,h4⟩;refine QZs (wpS_mono (wpS_forRange
    (I:=fun x c st'=>st=st'/\∃ lo hi,c=(none,lo,hi)/\lo<=hi/\hi<=n/\hi - lo<=n - x/\(∀ i,i<lo->byB rk left key (g arr (base+i))=true)/\∀ i,hi<=i->i<n->byB rk left key (g arr (base+i))=false)
    (Q:=fun c st'=>st=st'/\∃ lo hi,c=(none,lo,hi)/\hi<=n/\(∀ i,i<hi->byB rk left key (g arr (base+i))=true)/\∀ i,hi<=i->i<n->byB rk left key (g arr (base+i))=false) ?_ ?_
    ⟨rfl,hint+la+1,hint+min of (n - hint),rfl,by exact O324 h1 h2,by omega,by omega,fun i hi=>up i _ (by exact O323 hi) (by omega) h3,fun i hi hn=>dn (hint+of) i (by omega) hn (h4 (by omega))⟩) ?_)
   ·rintro x c st' _ hx ⟨rfl,lo,hi,rfl,h1,h2,h3,h4,h5⟩
    dsimp only
    by_cases ho:lo>=hi
    ·rw [if_pos ho];exact QZt ⟨rfl,lo,hi,rfl,h2,fun i hi=>h4 i (by exact Om.a3 ‹_› ‹_›),h5⟩
    ·rw [if_neg ho];refine QZs (ZeN L (by exact O307 hz h2 ho) hk (hP _ (by exact O303 h2 ho)) hst ?_)
     dsimp only
     cases hc:byB rk left key (g arr (base+(lo+(hi - lo) / 2))) with
     | true=>exact QZt ⟨rfl,_,hi,rfl,by exact O306 ho,by assumption,by exact O305 hx h3 ho,fun i hi=>up i _ (by exact O304 hi) (by exact O303 h2 ho) hc,h5⟩
     | false=>exact QZt ⟨rfl,lo,_,rfl,by exact O302 ,by exact O301 h2 ho,by exact O300 hx h3 ho,h4,fun i hi hn=>dn _ i hi hn hc⟩
   ·rintro c st' ⟨rfl,lo,hi,rfl,h1,h2,h3,h4,h5⟩;exact ⟨rfl,lo,hi,rfl,h2,fun i hi=>h4 i (by exact O299 h1 h3 hi),h5⟩
   ·rintro c st' ⟨rfl,lo,hi,rfl,h2,h4,h5⟩;exact QZt (h hi h2 h4 h5)
 | false =>
  rw [if_neg (by simp)];refine QZs (wpS_mono (wpS_forRange
   (I:=fun x c st'=>st=st'/\∃ la of,c=(none,la,of)/\la<hint+1/\la<of/\x<of/\byB rk left key (g arr (base+(hint - la)))=false)
   (Q:=fun c st'=>st=st'/\∃ la of,c=(none,la,of)/\la<hint+1/\la<of/\byB rk left key (g arr (base+(hint - la)))=false/\(of<hint+1->byB rk left key (g arr (base+(hint - of)))=true)) ?_ ?_ ⟨rfl,0,1,rfl,by exact O322 ,by exact O321 ,by exact O321 ,hb⟩) ?_)
  ·rintro x c st' _ hx ⟨rfl,la,of,rfl,h1,h2,h3,h4⟩
   by_cases ho:of>=hint+1
   ·rw [if_pos ho];exact QZt ⟨rfl,la,of,rfl,h1,h2,h4,fun z=>by exact (O320 ho z).elim⟩
   ·rw [if_neg ho];refine QZs (ZeN L (by exact O319 hz hh ‹_› hx) hk (hP _ (by exact O318 hh ‹_› hx)) hst ?_)
    dsimp only
    cases hc:byB rk left key (g arr (base+(hint - of))) with
    | false=>exact QZt ⟨rfl,of,2*of+1,rfl,by exact O317 ho,by exact O316 ,by exact O315 h2 h3,hc⟩
    | true=>exact QZt ⟨rfl,la,of,rfl,h1,h2,h4,fun _=>hc⟩
  ·rintro c st' ⟨rfl,la,of,rfl,h1,h2,h3,h4⟩;exact ⟨rfl,la,of,rfl,h1,h2,h4,fun z=>by exact (O314 hh h3 z).elim⟩
  ·rintro c st' ⟨rfl,la,of,rfl,h1,h2,h3,h4⟩;refine QZs (wpS_mono (wpS_forRange
    (I:=fun x c st'=>st=st'/\∃ lo hi,c=(none,lo,hi)/\lo<=hi/\hi<=n/\hi - lo<=n - x/\(∀ i,i<lo->byB rk left key (g arr (base+i))=true)/\∀ i,hi<=i->i<n->byB rk left key (g arr (base+i))=false)
    (Q:=fun c st'=>st=st'/\∃ lo hi,c=(none,lo,hi)/\hi<=n/\(∀ i,i<hi->byB rk left key (g arr (base+i))=true)/\∀ i,hi<=i->i<n->byB rk left key (g arr (base+i))=false) ?_ ?_
    ⟨rfl,hint+1 - min of (hint+1),hint - la,rfl,by exact O313 h1 h2,by exact O312 hh h1,by exact O311 hh,fun i hi=>up i (hint - of) (by exact O310 hi) (by exact O309 hh h1 h2) (h4 (by exact O308 hi)),fun i hi hn=>dn (hint - la) i hi hn h3⟩) ?_)
   ·rintro x c st' _ hx ⟨rfl,lo,hi,rfl,h1,h2,h3,h4,h5⟩
    dsimp only
    by_cases ho:lo>=hi
    ·rw [if_pos ho];exact QZt ⟨rfl,lo,hi,rfl,h2,fun i hi=>h4 i (by exact Om.a3 ‹_› ‹_›),h5⟩
    ·rw [if_neg ho];refine QZs (ZeN L (by exact O307 hz h2 ho) hk (hP _ (by exact O303 h2 ho)) hst ?_)
     dsimp only
     cases hc:byB rk left key (g arr (base+(lo+(hi - lo) / 2))) with
     | true=>exact QZt ⟨rfl,_,hi,rfl,by exact O306 ho,by assumption,by exact O305 hx h3 ho,fun i hi=>up i _ (by exact O304 hi) (by exact O303 h2 ho) hc,h5⟩
     | false=>exact QZt ⟨rfl,lo,_,rfl,by exact O302 ,by exact O301 h2 ho,by exact O300 hx h3 ho,h4,fun i hi hn=>dn _ i hi hn hc⟩
   ·rintro c st' ⟨rfl,lo,hi,rfl,h1,h2,h3,h4,h5⟩;exact ⟨rfl,lo,hi,rfl,h2,fun i hi=>h4 i (by exact O299 h1 h3 hi),h5⟩
   ·rintro c st' ⟨rfl,lo,hi,rfl,h2,h4,h5⟩;exact QZt (h hi h2 h4 h5)
end
end SM
namespace SM
open PySem PyProof.Rows
noncomputable def Le (rk:Keyed->Int) (x y:Keyed):Prop:=rk x<=rk y
structure MI (rk:Keyed->Int) (a b out:List Keyed) (ia ib:Nat):Prop where
 perm:(out++(a.drop ia++b.drop ib)).Perm (a++b)
 srt:out.Pairwise (Le rk)
 le:∀ x∈out,∀ y∈a.drop ia++b.drop ib,rk x<=rk y
theorem MI.swap {rk:Keyed->Int} {a b out:List Keyed} {ia ib:Nat} (h:MI rk a b out ia ib):MI rk b a out ib ia :=
 ⟨((List.perm_append_comm.append_left out).trans h.perm).trans List.perm_append_comm,h.srt,fun x hx y hy=>h.le x hx y (QZf.mpr (QZf.mp hy).symm)⟩
theorem MI.take {rk:Keyed->Int} {a b out:List Keyed} {ia ib:Nat} (h:MI rk a b out ia ib) (ha:a.Pairwise (Le rk)) (k:Nat) (hk:∀ x∈(a.drop ia).take k,∀ y∈b.drop ib,rk x<=rk y):MI rk a b (out++(a.drop ia).take k) (ia+k) ib:=by
 have e:a.drop ia=(a.drop ia).take k++a.drop (ia+k):=by rw [<- List.drop_drop]; exact (QCn k _).symm
 have sa:((a.drop ia).take k++a.drop (ia+k)).Pairwise (Le rk):=by rw [<- e]; exact ha.sublist (List.drop_sublist _ _)
 have sp:=List.pairwise_append.mp sa;refine ⟨?_,List.pairwise_append.mpr ⟨h.srt,sp.1,fun x hx y hy=>h.le x hx y (QBh _ (List.mem_of_mem_take hy))⟩,fun x hx y hy=>?_⟩
 ·have:=h.perm;rw [e] at this
  simpa only [QBo] using this
 ·rcases QZf.mp hx with hx | hx
  ·refine h.le x hx y ?_
   rcases QZf.mp hy with hy | hy
   ·rw [e]; exact QBh _ (QBi _ hy)
   ·exact QBi _ hy
  ·rcases QZf.mp hy with hy | hy
   ·exact sp.2.2 x hx y hy
   ·exact hk x hx y hy
noncomputable def Mrg (rk:Keyed->Int) (a b m:List Keyed):Prop:=m.Perm (a++b)/\m.Pairwise (Le rk)
theorem MI.fin {rk:Keyed->Int} {a b out:List Keyed} {ia ib:Nat} (h:MI rk a b out ia ib) {l:List Keyed} (hl:l.Perm (a.drop ia++b.drop ib)) (hs:l.Pairwise (Le rk)):Mrg rk a b (out++l) :=
 ⟨(hl.append_left out).trans h.perm,List.pairwise_append.mpr ⟨h.srt,hs,fun x hx y hy=>h.le x hx y (hl.mem_iff.mp hy)⟩⟩
theorem MI.done {rk:Keyed->Int} {a b out:List Keyed} {ia ib:Nat} (h:MI rk a b out ia ib) (ha:a.Pairwise (Le rk)) (hb:b.Pairwise (Le rk)) (e:a.length<=ia\/b.length<=ib):Mrg rk a b (out++a.drop ia++b.drop ib):=by
 rw [QBo];refine h.fin (List.Perm.refl _) ?_
 rcases e with e | e
 ·rw [List.drop_eq_nil_of_le e]; exact hb.sublist (List.drop_sublist _ _)
 ·rw [List.drop_eq_nil_of_le e,QBu]; exact ha.sublist (List.drop_sublist _ _)
theorem MI.last {rk:Keyed->Int} {a b out:List Keyed} {ia ib:Nat} (h:MI rk a b out ia ib) (ha:a.Pairwise (Le rk)) (hb:b.Pairwise (Le rk)) (hl:∀ x∈b,∀ y∈a.drop (a.length - 1),rk x<=rk y) (e:ia+1=a.length):Mrg rk a b (out++b.drop ib++a.drop ia):=by
 rw [QBo];have:ia=a.length - 1:=by exact O298 e
 refine h.fin List.perm_append_comm (List.pairwise_append.mpr ⟨hb.sublist (List.drop_sublist _ _),ha.sublist (List.drop_sublist _ _),fun x hx y hy=>hl x (List.mem_of_mem_drop hx) y (by rw [<- this]; exact hy)⟩)
theorem Zl1 {a:Array Keyed} {i:Nat} (h:i<a.size):a.toList.drop i=g a i::a.toList.drop (i+1):=by
 have e:=g_eq h;have hl:i<a.toList.length:=by simpa using h
 rw [QBc hl]
 congr 1
 rw [QCj];rw [getElem?_pos a i h] at e;exact QZl e
theorem ZcR {a:Array Keyed} {i:Nat} (h:i<a.size):(a.toList.drop i).take 1=[g a i]:=by
 rw [Zl1 h]; rfl
theorem ZaB (a:Array Keyed) (i k:Nat):(a.extract i (i+k)).toList=(a.toList.drop i).take k:=by
 rw [Array.toList_extract,QEx]
 congr 1
 exact O297 
theorem Zbu (a:Array Keyed) (i:Nat):(a.extract i a.size).toList=a.toList.drop i:=by
 rw [Array.toList_extract,QEx];exact QBd (by rw [QBn,QAw]; exact O296 )
theorem JZ {a:Array Keyed} {i:Nat} {x:Keyed} (hx:x∈a.toList.drop i):∃ j,i<=j/\j<a.size/\x=g a j:=by
 obtain ⟨j,hj,e⟩:=List.mem_iff_getElem.mp hx;rw [QBn,QAw] at hj;refine ⟨i+j,by exact O139 ,by exact O259 hj,?_⟩;rw [<- e,List.getElem_drop,QCj];have:=g_eq (a:=a) (i:=i+j) (by exact O259 hj);rw [getElem?_pos a (i+j) (by exact O259 hj)] at this;exact QZl this
theorem ZkN {a:Array Keyed} {i k:Nat} {x:Keyed} (hx:x∈(a.toList.drop i).take k):∃ j,j<k/\i+j<a.size/\x=g a (i+j):=by
 obtain ⟨j,hj,e⟩:=List.mem_iff_getElem.mp hx;rw [QAu,QBn,QAw] at hj;refine ⟨j,by exact O295 hj,by exact O294 hj,?_⟩;rw [<- e,List.getElem_take,List.getElem_drop,QCj];have:=g_eq (a:=a) (i:=i+j) (by exact O294 hj);rw [getElem?_pos a (i+j) (by exact O294 hj)] at this;exact QZl this
theorem ZeF {rk:Keyed->Int} {a:Array Keyed} (ha:a.toList.Pairwise (Le rk)) {i j:Nat} (hij:i<=j) (hj:j<a.size):rk (g a i)<=rk (g a j):=by
 rcases QCg i j with h | h
 ·have h1:=List.pairwise_iff_getElem.mp ha i j (by simpa using (by exact O144 hj h:i<a.size)) (by simpa using hj) h;rw [QCj,QCj] at h1;have e1:=g_eq (a:=a) (i:=i) (by exact O144 hj h);have e2:=g_eq hj;rw [getElem?_pos a i (by exact O144 hj h)] at e1;rw [getElem?_pos a j hj] at e2;rw [<- QZl e1,<- QZl e2];exact h1
 ·have:i=j:=by exact O143 hij h
  rw [this]; exact QCi _
end SM
namespace SM
open PySem PyProof.Rows
noncomputable def Zjk:Array Keyed->Array Keyed->StateT SortSt Sem (Array Keyed):=sortPriv% PySem.Builtin.mergeLo
noncomputable def Sim (st st':SortSt):Prop:=kindOf st'=kindOf st/\arrOf st'=arrOf st/\pendingOf st'=pendingOf st/\failedOf st'=failedOf st
theorem Sim.rfl' (st:SortSt):Sim st st:=⟨rfl,rfl,rfl,rfl⟩
theorem by_no {rk:Keyed->Int} {key x:Keyed}:byB rk false key x=true↔rk x<=rk key:=by
 unfold byB
 simp
theorem by_no' {rk:Keyed->Int} {key x:Keyed}:byB rk false key x=false↔rk key<rk x:=by
 unfold byB
 simp
theorem by_yes {rk:Keyed->Int} {key x:Keyed}:byB rk true key x=true↔rk x<rk key:=by
 unfold byB
 simp
theorem by_yes' {rk:Keyed->Int} {key x:Keyed}:byB rk true key x=false↔rk key<=rk x:=by
 unfold byB
 simp
section
variable {M:Model} {A:Around} {E:Value->Shared->Prop} {s:Shared} {rk:Keyed->Int} {κ:SortKind} {P:Keyed->Prop}
theorem Zaa (L:LtOk M A E s rk κ P) {left:Bool} {key:Keyed} {arr:Array Keyed} {base n hint:Nat} {st:SortSt} {Q:Option Nat->SortSt->Prop} (hk:P key) (hP:∀ i,i<arr.size->P (g arr i)) (hz:base+n<=arr.size) (hh:hint<n)
  (hs:arr.toList.Pairwise (Le rk)) (hst:kindOf st=κ)
  (h:∀ k,k<=n->(∀ i,i<k->byB rk left key (g arr (base+i))=true)->(∀ i,k<=i->i<n->byB rk left key (g arr (base+i))=false)->Q (some k) st):wpS M A E s (Zhy left key arr base n hint) Q st :=
 ZbA L hk (fun i hi=>hP _ (by exact O179 hz hi)) hz hh (fun i j hij hj=>ZeF hs (by exact O138 hij) (by exact O179 hz hj)) hst h
theorem Zgf (L:LtOk M A E s rk κ P) {a b:Array Keyed} {st:SortSt} {Q:Array Keyed->SortSt->Prop} (hPa:∀ i,i<a.size->P (g a i)) (hPb:∀ i,i<b.size->P (g b i)) (ha:a.toList.Pairwise (Le rk)) (hb:b.toList.Pairwise (Le rk)) (ha0:0<a.size) (hb0:0<b.size)
  (h0:∀ y∈a.toList,rk (g b 0)<=rk y) (hl:∀ x∈b.toList,∀ y∈a.toList.drop (a.toList.length - 1),rk x<=rk y) (hst:kindOf st=κ)
  (h:∀ m st',Sim st st'->Mrg rk a.toList b.toList m.toList->Q m st'):wpS M A E s (Zjk a b) Q st:=by
 have la:a.toList.length=a.size:=QAw;have lb:b.toList.length=b.size:=QAw;have fd:∀ {out:Array Keyed} {ia ib:Nat},MI rk a.toList b.toList out.toList ia ib->a.size<=ia\/b.size<=ib->Mrg rk a.toList b.toList (out++a.extract ia a.size++b.extract ib b.size).toList:=fun i e=>by
  rw [QBy,QBy,Zbu,Zbu];exact i.done ha hb (by rw [la,lb]; exact e)
 have fl:∀ {out:Array Keyed} {ia ib:Nat},MI rk a.toList b.toList out.toList ia ib->ia+1=a.size->Mrg rk a.toList b.toList (out++b.extract ib b.size++a.extract ia a.size).toList:=fun i e=>by
  rw [QBy,QBy,Zbu,Zbu];exact i.last ha hb hl (by rw [la]; exact e)
 have pa:∀ {out:Array Keyed} {ia ib:Nat},MI rk a.toList b.toList out.toList ia ib->ia<a.size->(∀ y∈b.toList.drop ib,rk (g a ia)<=rk y)->MI rk a.toList b.toList (out.push (g a ia)).toList (ia+1) ib:=fun i e hy=>by
  rw [Array.toList_push];have:=i.take ha 1 (by rw [ZcR e]; intro x hx; rw [QZc.mp hx]; exact hy);rw [ZcR e] at this;exact this
 have pb:∀ {out:Array Keyed} {ia ib:Nat},MI rk a.toList b.toList out.toList ia ib->ib<b.size->(∀ y∈a.toList.drop ia,rk (g b ib)<=rk y)->MI rk a.toList b.toList (out.push (g b ib)).toList ia (ib+1):=fun i e hy=>by
  rw [Array.toList_push];have:=i.swap.take hb 1 (by rw [ZcR e]; intro x hx; rw [QZc.mp hx]; exact hy);rw [ZcR e] at this;exact this.swap
 refine QZs (wpS_lift (wpAny_rule ⟨rfl,?_⟩));refine QZs (ZQ hb0 ?_);have i1:MI rk a.toList b.toList #[g b 0].toList 0 1:=by
  have:=pb (out:=#[]) (ia:=0) (ib:=0) ⟨List.Perm.refl _,.nil,fun x hx=>by cases hx⟩ hb0 (by rw [List.drop_zero]; exact h0);exact this
 by_cases e1:1=b.size
 ·rw [if_pos (by simpa using e1)];exact QZt (h _ _ (Sim.rfl' _) (fd i1 (.inr (by exact O293 lb e1))))
 rw [if_neg (by simpa using e1)]
 by_cases e2:0+1=a.size
 ·rw [if_pos (by simpa using e2)];exact QZt (h _ _ (Sim.rfl' _) (fl i1 e2))
 rw [if_neg (by simpa using e2)];refine QZs (wpS_get ?_);refine QZs (wpS_mono (wpS_forRange
  (I:=fun x c st'=>∃ out ia ib mg,c=(none,out,ia,ib,mg)/\Sim st st'/\MI rk a.toList b.toList out.toList ia ib/\ia+1<a.size/\ib<b.size/\x<ia+ib)
  (Q:=fun c st'=>∃ m,c.1=some m/\Sim st st'/\Mrg rk a.toList b.toList m.toList) ?step ?fin ⟨_,0,1,_,rfl,Sim.rfl' _,i1,by exact O292 ha0 la e2,by exact O291 ha0 hb0 la lb e1 e2,by exact O290 ⟩) ?post)
 case post =>
  rintro ⟨r,c⟩ st' ⟨m,e,hs',hm⟩
  dsimp only at e;subst e;exact QZt (h m st' hs' hm)
 case fin =>
  rintro c st' ⟨out,ia,ib,mg,rfl,hs',hi,h1,h2,h3⟩;exact (O289 ha0 hb0 la lb h1 h2 h3).elim
 case step =>
  rintro x c st1 _ hx ⟨out,ia,ib,mg,rfl,hs1,hi,h1,h2,h3⟩;refine QZs (wpS_mono (wpS_forRange
   (I:=fun y c st'=>st1=st'/\∃ out ia ib ac bc,c=(none,out,ia,ib,ac,bc)/\MI rk a.toList b.toList out.toList ia ib/\ia+1<a.size/\ib<b.size/\x+y<ia+ib)
   (Q:=fun c st'=>st1=st'/\((∃ m,c.1=some m/\Mrg rk a.toList b.toList m.toList)\/∃ out ia ib ac bc,c=(none,out,ia,ib,ac,bc)/\MI rk a.toList b.toList out.toList ia ib/\ia+1<a.size/\ib<b.size/\x+1<ia+ib)) ?step1 ?fin1 ⟨rfl,out,ia,ib,_,_,rfl,hi,h1,h2,h3⟩) ?post1)
  case fin1 =>
   rintro c st' ⟨rfl,out,ia,ib,ac,bc,rfl,hi,h1,h2,h3⟩;exact ⟨rfl,.inr ⟨out,ia,ib,ac,bc,rfl,hi,h1,h2,by omega⟩⟩
  case step1 =>
   rintro y c st' _ hy ⟨rfl,out,ia,ib,ac,bc,rfl,hi,h1,h2,h3⟩
   try dsimp only
   refine QZs (ZQ h2 (QZs (ZQ (by exact O266 la h1) (QZs (L _ _ _ _ (hPb _ h2) (hPa _ (by exact O266 la h1)) (hs1.1.trans hst) ?_)))))
   by_cases hw:rk (g b ib)<rk (g a ia)
   ·rw [QZh hw]
    try dsimp only
    rw [if_pos rfl];refine QZs (ZQ h2 ?_);have i2:=pb hi h2 fun y hy=>by
     obtain ⟨j,h5,h6,rfl⟩:=JZ hy;exact QBm (QBp hw) (ZeF ha h5 h6)
    try dsimp only
    by_cases e3:ib+1=b.size
    ·rw [if_pos (by simpa using e3)];exact QZt ⟨rfl,.inl ⟨_,rfl,fd i2 (.inr (by exact O278 lb e3))⟩⟩
    rw [if_neg (by simpa using e3)]
    split
    ·exact QZt ⟨rfl,.inr ⟨_,_,_,_,_,rfl,i2,h1,by exact O267 lb h2 e3,by exact O288 ‹_› h3⟩⟩
    ·exact QZt ⟨rfl,_,_,_,_,_,rfl,i2,h1,by exact O267 lb h2 e3,by exact O287 h3⟩
   ·rw [QZi hw]
    try dsimp only
    rw [if_neg (by simp)];refine QZs (ZQ (by exact O266 la h1) ?_);have i2:=pa hi (by exact O266 la h1) fun y hy=>by
     obtain ⟨j,h5,h6,rfl⟩:=JZ hy;exact QBm (Int.not_lt.mp hw) (ZeF hb h5 h6)
    try dsimp only
    by_cases e3:ia+1+1=a.size
    ·rw [if_pos (by simpa using e3)];exact QZt ⟨rfl,.inl ⟨_,rfl,fl i2 e3⟩⟩
    rw [if_neg (by simpa using e3)]
    split
    ·exact QZt ⟨rfl,.inr ⟨_,_,_,_,_,rfl,i2,by exact O265 la h1 e3,h2,by exact O286 ‹_› h3⟩⟩
    ·exact QZt ⟨rfl,_,_,_,_,_,rfl,i2,by exact O265 la h1 e3,h2,by exact O285 h3⟩
  case post1 =>
   rintro ⟨r,c⟩ st' ⟨rfl,⟨m,e,hm⟩ | ⟨out,ia,ib,ac,bc,e,hi,h1,h2,h3⟩⟩
   ·dsimp only at e;subst e;exact QZt ⟨m,rfl,hs1,hm⟩
   ·obtain ⟨rfl,rfl⟩:=Prod.mk.inj e;refine QZs (wpS_lift (wpAny_rule ⟨rfl,?_⟩));refine QZs (wpS_mono (wpS_forRange
     (I:=fun y c st'=>Sim st st'/\∃ out ia ib mg ac bc,c=(none,out,ia,ib,mg,ac,bc)/\MI rk a.toList b.toList out.toList ia ib/\ia+1<a.size/\ib<b.size/\x+1<ia+ib)
     (Q:=fun c st'=>Sim st st'/\((∃ m,c.1=some m/\Mrg rk a.toList b.toList m.toList)\/∃ out ia ib mg ac bc,c=(none,out,ia,ib,mg,ac,bc)/\MI rk a.toList b.toList out.toList ia ib/\ia+1<a.size/\ib<b.size/\x+1<ia+ib)) ?step2 ?fin2 ⟨hs1,out,ia,ib,_,_,_,rfl,hi,h1,h2,h3⟩) ?post2)
    case fin2 =>
     rintro c st' ⟨hs2,r⟩;exact ⟨hs2,.inr r⟩
    case post2 =>
     rintro ⟨r,c⟩ st' ⟨hs2,⟨m,e,hm⟩ | ⟨out,ia,ib,mg,ac,bc,e,hi,h1,h2,h3⟩⟩
     ·dsimp only at e;subst e;exact QZt ⟨m,rfl,hs2,hm⟩
     ·obtain ⟨rfl,rfl⟩:=Prod.mk.inj e;exact QZs (wpS_modify (QZt ⟨_,_,_,_,rfl,hs2,hi,h1,h2,h3⟩))
    case step2 =>
     rintro y c st2 _ hy ⟨hs2,out,ia,ib,mg,ac,bc,rfl,hi,h1,h2,h3⟩;clear i1 e1 e2
     try dsimp only
     by_cases hm:mg>1
     rw [if_pos hm];generalize mg - 1=z;clear hm;revert z;refine ?key
     rotate_left
     rw [if_neg hm];clear hm;exact ?key mg;intro z;refine QZs (wpS_modify ?_);refine QZs (ZQ h2 (QZs (Zaa L (hPb _ h2) hPa (by exact O284 la h1) (by exact O283 la h1) ha (hs2.1.trans hst) fun k hk1 hk2 hk3=>?_)));have hge:∀ y∈a.toList.drop (ia+k),rk (g b ib)<=rk y:=fun y hy=>by
      obtain ⟨j,h5,h6,rfl⟩:=JZ hy;have:=by_no'.mp (hk3 (j - ia) (by exact O128 h5) (by exact O282 la h1 h5 h6));rw [show ia+(j - ia)=j by exact O126 h5] at this;exact QBp this
     have i2:MI rk a.toList b.toList (out++a.extract ia (ia+k)).toList (ia+k) ib:=by
      rw [QBy,ZaB];refine hi.take ha k fun x hx y hy=>?_;obtain ⟨j,h5,h6,rfl⟩:=ZkN hx;obtain ⟨j',h7,h8,rfl⟩:=JZ hy;exact QBm (by_no.mp (hk2 j h5)) (ZeF hb h7 h8)
     try dsimp only
     by_cases hk0:k>0
     rw [if_pos hk0]
     by_cases e3:ia+k+1=a.size
     ·rw [if_pos (by simpa using e3)];exact QZt ⟨hs2,.inl ⟨_,rfl,fl i2 e3⟩⟩
     rw [if_neg (by simpa using e3)]
     by_cases e4:ia+k=a.size
     ·rw [if_pos (by simpa using e4)];exact QZt ⟨hs2,.inl ⟨_,rfl,fd i2 (.inl (by exact O281 la e4))⟩⟩
     rw [if_neg (by simpa using e4)];have q1:ia+k+1<a.size:=by exact O280 la h1 hk1 e3 e4
     have q2:x+1<ia+k+ib:=by exact O279 h3 hk0
     revert i2 q1 q2 hge;generalize out++a.extract ia (ia+k)=out2;generalize ia+k=ia2;clear hk0 e3 e4;revert out2 ia2;refine ?key2
     rotate_left
     ·rw [if_neg hk0];have:k=0:=by exact O269 hk0
      exact ?key2 out ia (by rw [this] at hge; exact hge) hi h1 h3
     clear hi h1 h3 hk1 hk2 hk3;intro out ia hge hi h1 h3;refine QZs (ZQ h2 ?_);have i2:=pb hi h2 hge
     try dsimp only
     by_cases e3:ib+1=b.size
     ·rw [if_pos (by simpa using e3)];exact QZt ⟨hs2,.inl ⟨_,rfl,fd i2 (.inr (by exact O278 lb e3))⟩⟩
     rw [if_neg (by simpa using e3)];refine QZs (ZQ (by exact O266 la h1) (QZs (Zaa L (hPa _ (by exact O266 la h1)) hPb (by exact O277 lb h2) (by exact O276 lb h2 e3) hb (hs2.1.trans hst) fun k' hk1 hk2 hk3=>?_)));have hge':∀ y∈b.toList.drop (ib+1+k'),rk (g a ia)<=rk y:=fun y hy=>by
      obtain ⟨j,h5,h6,rfl⟩:=JZ hy;have:=by_yes'.mp (hk3 (j - (ib+1)) (by exact O275 h5) (by exact O274 lb h2 h5 h6));rw [show ib+1+(j - (ib+1))=j by exact O273 h5] at this;exact this
     have i3:MI rk a.toList b.toList (out.push (g b ib)++b.extract (ib+1) (ib+1+k')).toList ia (ib+1+k'):=by
      rw [QBy,ZaB];refine (i2.swap.take hb k' fun x hx y hy=>?_).swap;obtain ⟨j,h5,h6,rfl⟩:=ZkN hx;obtain ⟨j',h7,h8,rfl⟩:=JZ hy;exact QBm (QBp (by_yes.mp (hk2 j h5))) (ZeF ha h7 h8)
     have q2:x+1<ia+(ib+1+k'):=by exact O272 h3
     try dsimp only
     by_cases hk0:k'>0
     rw [if_pos hk0]
     by_cases e5:ib+1+k'=b.size
     ·rw [if_pos (by simpa using e5)];exact QZt ⟨hs2,.inl ⟨_,rfl,fd i3 (.inr (by exact O271 lb e5))⟩⟩
     rw [if_neg (by simpa using e5)];have q1:ib+1+k'<b.size:=by exact O270 lb h2 hk1 e5
     revert i3 q1 q2 hge';generalize out.push (g b ib)++b.extract (ib+1) (ib+1+k')=out2;generalize ib+1+k'=ib2;clear hk0 e5;revert out2 ib2;refine ?key3
     rotate_left
     ·rw [if_neg hk0];have:k'=0:=by exact O269 hk0
      exact ?key3 (out.push (g b ib)) (ib+1) (by rw [this] at hge'; exact hge') i2 (by exact O268 h3) (by exact O267 lb h2 e3)
     clear i2 hge hi h2 h3 hk1 hk2 hk3 e3;intro out ib hge i2 h3 h2;refine QZs (ZQ (by exact O266 la h1) ?_);have i3:=pa i2 (by exact O266 la h1) hge
     try dsimp only
     by_cases e3:ia+1+1=a.size
     ·rw [if_pos (by simpa using e3)];exact QZt ⟨hs2,.inl ⟨_,rfl,fl i3 e3⟩⟩
     rw [if_neg (by simpa using e3)]
     split
     ·exact QZt ⟨hs2,.inr ⟨_,_,_,_,_,_,rfl,i3,by exact O265 la h1 e3,h2,by exact O264 h3⟩⟩
     ·exact QZt ⟨hs2,_,_,_,_,_,_,rfl,i3,by exact O265 la h1 e3,h2,by exact O264 h3⟩
end
end SM
namespace SM
open PySem PyProof.Rows
noncomputable def Zjl:Array Keyed->Array Keyed->StateT SortSt Sem (Array Keyed):=sortPriv% PySem.Builtin.mergeHi
noncomputable def ng (rk:Keyed->Int) (x:Keyed):Int:=- rk x
theorem ng_rev {rk:Keyed->Int} {l:List Keyed}:l.reverse.Pairwise (Le (ng rk))↔l.Pairwise (Le rk):=by
 rw [List.pairwise_reverse];have:(fun a b=>Le (ng rk) b a)=Le rk:=by
  funext x y
  unfold Le ng;exact propext ⟨fun h=>by exact O263 h,fun h=>by exact O262 h⟩
 rw [this]
theorem Mrg.back {rk:Keyed->Int} {a b m:List Keyed} (h:Mrg (ng rk) b.reverse a.reverse m.reverse):Mrg rk a b m:=by
 refine ⟨?_,ng_rev.mp h.2⟩;have:=h.1;rw [<- QEi] at this;exact (List.reverse_perm m).symm.trans (this.trans (List.reverse_perm _))
theorem Ze2 {a:Array Keyed} {n:Nat} (h:n<=a.size):a.toList.reverse.drop (a.size - n)=(a.toList.take n).reverse:=by
 rw [List.drop_reverse,QAw]
 congr 2
 exact O261 h
theorem Zcw {a:Array Keyed} {n k:Nat} (h:n<=a.size) (hk:k<=n):(a.toList.reverse.drop (a.size - n)).take (n - k)=(a.extract k n).toList.reverse:=by
 rw [Ze2 h,List.take_reverse,Array.toList_extract,QEx,List.drop_take,QAu,QAw]
 congr 3
 ·exact O260 h hk
 ·exact O260 h hk
theorem Zes {a:Array Keyed} {n:Nat} (h:n<=a.size) {y:Keyed} (hy:y∈a.toList.reverse.drop (a.size - n)):∃ j,j<n/\y=g a j:=by
 rw [Ze2 h,List.mem_reverse] at hy;have hy:y∈(a.toList.drop 0).take n:=by rw [List.drop_zero]; exact hy
 obtain ⟨j,h1,_,h2⟩:=ZkN hy;exact ⟨j,h1,by rw [h2,Nat.zero_add]⟩
theorem Zhg {a:Array Keyed} {n k:Nat} (h:n<=a.size) {y:Keyed} (hy:y∈(a.extract k n).toList.reverse):∃ j,k<=j/\j<n/\y=g a j:=by
 rw [List.mem_reverse,Array.toList_extract,QEx] at hy;obtain ⟨j,h1,h3,h2⟩:=ZkN hy;exact ⟨k+j,by exact O139 ,by exact O259 h1,h2⟩
theorem Zj9 {a:Array Keyed} {n:Nat} (h:n<=a.size) (h0:0<n):(a.extract (n - 1) n).toList.reverse=[g a (n - 1)]:=by
 have e:n=n - 1+1:=by exact O258 h0
 have:=ZaB a (n - 1) 1;rw [<- e,ZcR (by exact O257 h e)] at this;rw [this]
 rfl
section
variable {M:Model} {A:Around} {E:Value->Shared->Prop} {s:Shared} {rk:Keyed->Int} {κ:SortKind} {P:Keyed->Prop}
noncomputable def MH (rk:Keyed->Int) (a b out:Array Keyed) (na nb:Nat):Prop:=MI (ng rk) b.toList.reverse a.toList.reverse out.toList (b.size - nb) (a.size - na)/\na<=a.size/\nb<=b.size
section
variable {a b out:Array Keyed} {na nb:Nat}
theorem MH.ta (ha:a.toList.Pairwise (Le rk)) (i:MH rk a b out na nb) (k:Nat) (hk:k<=na) (hy:∀ j,k<=j->j<na->∀ j',j'<nb->rk (g b j')<=rk (g a j)):MH rk a b (out++(a.extract k na).reverse) k nb:=by
 obtain ⟨i,z1,z2⟩:=i;refine ⟨?_,by exact O64 hk z1,z2⟩;rw [QBy,QEj,<- Zcw z1 hk];have e:a.size - k=a.size - na+(na - k):=by exact O256 hk z1
 rw [e];refine (i.swap.take (ng_rev.mpr ha) (na - k) fun x hx y hy'=>?_).swap;rw [Zcw z1 hk] at hx;obtain ⟨j,h1,h2,rfl⟩:=Zhg z1 hx;obtain ⟨j',h3,rfl⟩:=Zes z2 hy';have:=hy j h1 h2 j' h3;unfold ng;omega
theorem MH.tb (hb:b.toList.Pairwise (Le rk)) (i:MH rk a b out na nb) (k:Nat) (hk:k<=nb) (hy:∀ j,k<=j->j<nb->∀ j',j'<na->rk (g a j')<=rk (g b j)):MH rk a b (out++(b.extract k nb).reverse) na k:=by
 obtain ⟨i,z1,z2⟩:=i;refine ⟨?_,z1,by exact O64 hk z2⟩;rw [QBy,QEj,<- Zcw z2 hk];have e:b.size - k=b.size - nb+(nb - k):=by exact O256 hk z2
 rw [e];refine i.take (ng_rev.mpr hb) (nb - k) fun x hx y hy'=>?_;rw [Zcw z2 hk] at hx;obtain ⟨j,h1,h2,rfl⟩:=Zhg z2 hx;obtain ⟨j',h3,rfl⟩:=Zes z1 hy';have:=hy j h1 h2 j' h3;unfold ng;omega
theorem Ze5 {a out:Array Keyed} {n:Nat} (h:n<=a.size) (h0:0<n):out++(a.extract (n - 1) n).reverse=out.push (g a (n - 1)):=by
 apply Array.ext'
 rw [QBy,QEj,Zj9 h h0,Array.toList_push]
theorem MH.pa (ha:a.toList.Pairwise (Le rk)) (i:MH rk a b out na nb) (h0:0<na) (hy:∀ j,j<nb->rk (g b j)<=rk (g a (na - 1))):MH rk a b (out.push (g a (na - 1))) (na - 1) nb:=by
 rw [<- Ze5 i.2.1 h0];exact i.ta ha _ (by exact O255 h0) fun j h1 h2 j' h3=>by rw [show j=na - 1 by exact O254 h0 h1 h2]; exact hy j' h3
theorem MH.pb (hb:b.toList.Pairwise (Le rk)) (i:MH rk a b out na nb) (h0:0<nb) (hy:∀ j,j<na->rk (g a j)<=rk (g b (nb - 1))):MH rk a b (out.push (g b (nb - 1))) na (nb - 1):=by
 rw [<- Ze5 i.2.2 h0];exact i.tb hb _ (by exact O255 h0) fun j h1 h2 j' h3=>by rw [show j=nb - 1 by exact O254 h0 h1 h2]; exact hy j' h3
theorem Zbt (a:Array Keyed) {n:Nat} (h:n<=a.size):(a.extract 0 n).toList.reverse=a.toList.reverse.drop (a.size - n):=by
 rw [<- Zcw h (QAh _)];exact QBd (by rw [QBn,QEk,QAw]; exact O253 h)
theorem MH.done (ha:a.toList.Pairwise (Le rk)) (hb:b.toList.Pairwise (Le rk)) (i:MH rk a b out na nb) (e:na=0\/nb=0):Mrg rk a.toList b.toList (a.extract 0 na++b.extract 0 nb++out.reverse).toList:=by
 obtain ⟨i,z1,z2⟩:=i
 apply Mrg.back
 rw [QBy,QBy,QEi,QEi,QEj,List.reverse_reverse,Zbt a z1,Zbt b z2,<- QBo];exact i.done (ng_rev.mpr hb) (ng_rev.mpr ha) (by rw [QEk,QEk,QAw,QAw]; exact O252 e z1 z2)
theorem MH.first (ha:a.toList.Pairwise (Le rk)) (hb:b.toList.Pairwise (Le rk)) (h0:∀ y∈a.toList,rk (g b 0)<=rk y) (i:MH rk a b out na nb) (e:nb=1):Mrg rk a.toList b.toList (b.extract 0 nb++a.extract 0 na++out.reverse).toList:=by
 obtain ⟨i,z1,z2⟩:=i
 apply Mrg.back
 rw [QBy,QBy,QEi,QEi,QEj,List.reverse_reverse,Zbt a z1,Zbt b z2,<- QBo];refine i.last (ng_rev.mpr hb) (ng_rev.mpr ha) (fun x hx y hy=>?_) (by rw [QEk,QAw]; exact O251 e z2);rw [QEk,QAw] at hy;obtain ⟨j,h1,rfl⟩:=Zes (n:=1) (by exact O250 e z2) hy;have:=h0 x (List.mem_reverse.mp hx);rw [show j=0 by exact O249 h1];unfold ng;omega
end
theorem Zgg (L:LtOk M A E s rk κ P) {a b:Array Keyed} {st:SortSt} {Q:Array Keyed->SortSt->Prop} (hPa:∀ i,i<a.size->P (g a i)) (hPb:∀ i,i<b.size->P (g b i)) (ha:a.toList.Pairwise (Le rk)) (hb:b.toList.Pairwise (Le rk)) (ha0:0<a.size) (hb0:0<b.size)
  (h0:∀ y∈a.toList,rk (g b 0)<=rk y) (hl:∀ j,j<b.size->rk (g b j)<=rk (g a (a.size - 1))) (hst:kindOf st=κ)
  (h:∀ m st',Sim st st'->Mrg rk a.toList b.toList m.toList->Q m st'):wpS M A E s (Zjl a b) Q st:=by
 refine QZs (wpS_lift (wpAny_rule ⟨rfl,?_⟩));refine QZs (ZQ (by exact O15 ha0) ?_);have i1:MH rk a b #[g a (a.size - 1)] (a.size - 1) b.size :=
  MH.pa (out:=#[]) ha ⟨⟨by
   rw [Nat.sub_self,Nat.sub_self];exact List.Perm.refl _,.nil,fun x hx=>by cases hx⟩,QAd _,QAd _⟩ ha0 hl
 by_cases e1:a.size - 1=0
 ·rw [if_pos (by simpa using e1)];exact QZt (h _ _ (Sim.rfl' _) (i1.done ha hb (.inl e1)))
 rw [if_neg (by simpa using e1)]
 by_cases e2:b.size=1
 ·rw [if_pos (by simpa using e2)];exact QZt (h _ _ (Sim.rfl' _) (i1.first ha hb h0 e2))
 rw [if_neg (by simpa using e2)];refine QZs (wpS_get ?_);refine QZs (wpS_mono (wpS_forRange
  (I:=fun x c st'=>∃ na nb out mg,c=(none,na,nb,out,mg)/\Sim st st'/\MH rk a b out na nb/\0<na/\1<nb/\x+na+nb<a.size+b.size)
  (Q:=fun c st'=>∃ m,c.1=some m/\Sim st st'/\Mrg rk a.toList b.toList m.toList) ?step ?fin ⟨_,_,_,_,rfl,Sim.rfl' _,i1,by exact O248 ha0 hb0 e1 e2,by exact O247 hb0 e2,by exact O246 ha0⟩) ?post)
 case post =>
  rintro ⟨r,c⟩ st' ⟨m,e,hs',hm⟩
  dsimp only at e;subst e;exact QZt (h m st' hs' hm)
 case fin =>
  rintro c st' ⟨na,nb,out,mg,rfl,hs',hi,h1,h2,h3⟩;exact (O245 h1 h2 h3).elim
 case step =>
  rintro x c st1 _ hx ⟨na,nb,out,mg,rfl,hs1,hi,h1,h2,h3⟩;refine QZs (wpS_mono (wpS_forRange
   (I:=fun y c st'=>st1=st'/\∃ na nb out ac bc,c=(none,na,nb,out,ac,bc)/\MH rk a b out na nb/\0<na/\1<nb/\x+y+na+nb<a.size+b.size)
   (Q:=fun c st'=>st1=st'/\((∃ m,c.1=some m/\Mrg rk a.toList b.toList m.toList)\/∃ na nb out ac bc,c=(none,na,nb,out,ac,bc)/\MH rk a b out na nb/\0<na/\1<nb/\x+1+na+nb<a.size+b.size)) ?step1 ?fin1 ⟨rfl,na,nb,out,_,_,rfl,hi,h1,h2,h3⟩) ?post1)
  case fin1 =>
   rintro c st' ⟨rfl,na,nb,out,ac,bc,rfl,hi,h1,h2,h3⟩;exact ⟨rfl,.inr ⟨na,nb,out,ac,bc,rfl,hi,h1,h2,by omega⟩⟩
  case step1 =>
   rintro y c st' _ hy ⟨rfl,na,nb,out,ac,bc,rfl,hi,h1,h2,h3⟩;have z1:=hi.2.1;have z2:=hi.2.2
   try dsimp only
   refine QZs (ZQ (by exact O235 h2 z2) (QZs (ZQ (by exact O226 h1 z1) (QZs (L _ _ _ _ (hPb _ (by exact O235 h2 z2)) (hPa _ (by exact O226 h1 z1)) (hs1.1.trans hst) ?_)))))
   by_cases hw:rk (g b (nb - 1))<rk (g a (na - 1))
   ·rw [QZh hw]
    dsimp only;rw [if_pos rfl];refine QZs (ZQ (by exact O226 h1 z1) ?_);have i2:=hi.pa ha h1 fun j hj=>QBm (ZeF hb (by exact Om.q2 ‹_›:j<=nb - 1) (by exact O235 h2 z2)) (QBp hw)
    try dsimp only
    by_cases e3:na - 1=0
    ·rw [if_pos (by simpa using e3)];exact QZt ⟨rfl,.inl ⟨_,rfl,i2.done ha hb (.inl e3)⟩⟩
    rw [if_neg (by simpa using e3)]
    split
    ·exact QZt ⟨rfl,.inr ⟨_,_,_,_,_,rfl,i2,by exact O225 h1 e3,h2,by exact O244 ‹_› h1 h3⟩⟩
    ·exact QZt ⟨rfl,_,_,_,_,_,rfl,i2,by exact O225 h1 e3,h2,by exact O243 h1 h3⟩
   ·rw [QZi hw]
    dsimp only;rw [if_neg (by simp)];refine QZs (ZQ (by exact O235 h2 z2) ?_);have i2:=hi.pb hb (by exact O234 h2) fun j hj=>QBm (ZeF ha (by exact Om.q2 ‹_›:j<=na - 1) (by exact O226 h1 z1)) (Int.not_lt.mp hw)
    try dsimp only
    by_cases e3:nb - 1=1
    ·rw [if_pos (by simpa using e3)];exact QZt ⟨rfl,.inl ⟨_,rfl,i2.first ha hb h0 e3⟩⟩
    rw [if_neg (by simpa using e3)]
    split
    ·exact QZt ⟨rfl,.inr ⟨_,_,_,_,_,rfl,i2,h1,by exact O241 h2 e3,by exact O242 ‹_› h2 h3⟩⟩
    ·exact QZt ⟨rfl,_,_,_,_,_,rfl,i2,h1,by exact O241 h2 e3,by exact O240 h2 h3⟩
  case post1 =>
   rintro ⟨r,c⟩ st' ⟨rfl,⟨m,e,hm⟩ | ⟨na,nb,out,ac,bc,e,hi,h1,h2,h3⟩⟩
   ·dsimp only at e;subst e;exact QZt ⟨m,rfl,hs1,hm⟩
   ·obtain ⟨rfl,rfl⟩:=Prod.mk.inj e;refine QZs (wpS_lift (wpAny_rule ⟨rfl,?_⟩));refine QZs (wpS_mono (wpS_forRange
     (I:=fun y c st'=>Sim st st'/\∃ na nb out mg ac bc,c=(none,na,nb,out,mg,ac,bc)/\MH rk a b out na nb/\0<na/\1<nb/\x+1+na+nb<a.size+b.size)
     (Q:=fun c st'=>Sim st st'/\((∃ m,c.1=some m/\Mrg rk a.toList b.toList m.toList)\/∃ na nb out mg ac bc,c=(none,na,nb,out,mg,ac,bc)/\MH rk a b out na nb/\0<na/\1<nb/\x+1+na+nb<a.size+b.size)) ?step2 ?fin2 ⟨hs1,na,nb,out,_,_,_,rfl,hi,h1,h2,h3⟩) ?post2)
    case fin2 =>
     rintro c st' ⟨hs2,r⟩;exact ⟨hs2,.inr r⟩
    case post2 =>
     rintro ⟨r,c⟩ st' ⟨hs2,⟨m,e,hm⟩ | ⟨na,nb,out,mg,ac,bc,e,hi,h1,h2,h3⟩⟩
     ·dsimp only at e;subst e;exact QZt ⟨m,rfl,hs2,hm⟩
     ·obtain ⟨rfl,rfl⟩:=Prod.mk.inj e;exact QZs (wpS_modify (QZt ⟨_,_,_,_,rfl,hs2,hi,h1,h2,h3⟩))
    case step2 =>
     rintro y c st2 _ hy ⟨hs2,na,nb,out,mg,ac,bc,rfl,hi,h1,h2,h3⟩;clear i1 e1 e2
     dsimp only
     by_cases hm:mg>1
     rw [if_pos hm];generalize mg - 1=z;clear hm;revert z;refine ?key
     rotate_left
     rw [if_neg hm];clear hm;exact ?key mg;intro z;have z1:=hi.2.1;have z2:=hi.2.2;refine QZs (wpS_modify ?_);refine QZs (ZQ (by exact O235 h2 z2) (QZs (Zaa L (hPb _ (by exact O235 h2 z2)) hPa (by exact O239 z1) (by exact O15 h1) ha (hs2.1.trans hst) fun k hk1 hk2 hk3=>?_)));have hle:∀ j,j<k->rk (g a j)<=rk (g b (nb - 1)):=fun j hj=>by
      have:=by_no.mp (hk2 j hj)
      rwa [Nat.zero_add] at this
     have i2:MH rk a b (out++(a.extract k na).reverse) k nb:=hi.ta ha k hk1 fun j h5 h6 j' h7=>by
      have:=by_no'.mp (hk3 j h5 h6);rw [Nat.zero_add] at this;exact QBm (ZeF hb (by exact Om.q2 ‹_›:j'<=nb - 1) (by exact O235 h2 z2)) (QBp this)
     try dsimp only
     generalize hq:na - k=q
     by_cases hk0:q>0
     rw [if_pos hk0]
     by_cases e3:k=0
     ·rw [if_pos (by simpa using e3)];exact QZt ⟨hs2,.inl ⟨_,rfl,i2.done ha hb (.inl e3)⟩⟩
     rw [if_neg (by simpa using e3)];have q1:0<k:=by exact O238 e3
     have q2:x+1+k+nb<a.size+b.size:=by exact O237 h3 hk1
     revert i2 q1 q2 hle;generalize out++(a.extract k na).reverse=out2;generalize k=na2;clear hk0 e3;revert out2 na2;refine ?key2
     rotate_left
     ·rw [if_neg hk0];have e0:k=na:=by exact O236 hk1 hq hk0
      exact ?key2 out na (by rw [e0] at hle; exact hle) hi h1 h3
     clear hi h1 h3 hk1 hk2 hk3 hq z1;intro out na hle hi h1 h3;have z1:=hi.2.1;refine QZs (ZQ (by exact O235 h2 z2) ?_);have i2:=hi.pb hb (by exact O234 h2) hle
     try dsimp only
     by_cases e3:nb - 1=1
     ·rw [if_pos (by simpa using e3)];exact QZt ⟨hs2,.inl ⟨_,rfl,i2.first ha hb h0 e3⟩⟩
     rw [if_neg (by simpa using e3)];refine QZs (ZQ (by exact O226 h1 z1) (QZs (Zaa L (hPa _ (by exact O226 h1 z1)) hPb (by exact O233 h2 z2) (by exact O232 h2) hb (hs2.1.trans hst) fun k' hk1 hk2 hk3=>?_)));have hle':∀ j,j<k'->rk (g b j)<=rk (g a (na - 1)):=fun j hj=>by
      have:=by_yes.mp (hk2 j hj);rw [Nat.zero_add] at this;exact QBp this
     have i3:MH rk a b (out.push (g b (nb - 1))++(b.extract k' (nb - 1)).reverse) na k':=i2.tb hb k' hk1 fun j h5 h6 j' h7=>by
      have:=by_yes'.mp (hk3 j h5 h6);rw [Nat.zero_add] at this;exact QBm (ZeF ha (by exact Om.q2 ‹_›:j'<=na - 1) (by exact O226 h1 z1)) this
     try dsimp only
     generalize hq':nb - 1 - k'=q'
     by_cases hk0:q'>0
     rw [if_pos hk0]
     by_cases e4:k'=1
     ·rw [if_pos (by simpa using e4)];exact QZt ⟨hs2,.inl ⟨_,rfl,i3.first ha hb h0 e4⟩⟩
     rw [if_neg (by simpa using e4)]
     by_cases e5:k'=0
     ·rw [if_pos (by simpa using e5)];exact QZt ⟨hs2,.inl ⟨_,rfl,i3.done ha hb (.inr e5)⟩⟩
     rw [if_neg (by simpa using e5)];have q1:1<k':=by exact O231 e4 e5
     have q2:x+1+na+k'<a.size+b.size:=by exact O230 h3 hq' hk0 e4 e5 q1
     revert i3 q1 q2 hle';generalize out.push (g b (nb - 1))++(b.extract k' (nb - 1)).reverse=out2;generalize k'=nb2;clear hk0 e4 e5;revert out2 nb2;refine ?key3
     rotate_left
     ·rw [if_neg hk0];have e0:k'=nb - 1:=by exact O229 h2 hk1 hq' hk0
      exact ?key3 (out.push (g b (nb - 1))) (nb - 1) (by rw [e0] at hle'; exact hle') i2 (by exact O228 h2 e3 hq' hk0 e0) (by exact O227 h2 h3 hq' hk0 e0)
     clear i2 hle hi h2 h3 hk1 hk2 hk3 e3 hq' z2;intro out nb hle i2 h2 h3;refine QZs (ZQ (by exact O226 h1 z1) ?_);have i3:=i2.pa ha h1 hle
     try dsimp only
     by_cases e3:na - 1=0
     ·rw [if_pos (by simpa using e3)];exact QZt ⟨hs2,.inl ⟨_,rfl,i3.done ha hb (.inl e3)⟩⟩
     rw [if_neg (by simpa using e3)]
     split
     ·exact QZt ⟨hs2,.inr ⟨_,_,_,_,_,_,rfl,i3,by exact O225 h1 e3,h2,by exact O224 h1 h3⟩⟩
     ·exact QZt ⟨hs2,_,_,_,_,_,_,rfl,i3,by exact O225 h1 e3,h2,by exact O224 h1 h3⟩
end
end SM
namespace SM
open PySem PyProof.Rows
noncomputable def Srt (rk:Keyed->Int) (a:Array Keyed) (lo hi:Nat):Prop:=∀ i j,lo<=i->i<=j->j<hi->rk (g a i)<=rk (g a j)
structure SB (κ:SortKind) (a₀:Array Keyed) (st:SortSt):Prop where
 perm:(arrOf st).Perm a₀
 kind:kindOf st=κ
 failed:failedOf st=none
noncomputable def Kept (st st':SortSt) (lo hi:Nat):Prop:=pendingOf st'=pendingOf st/\∀ i,i<lo\/hi<=i->g (arrOf st') i=g (arrOf st) i
section
variable {κ:SortKind} {a₀:Array Keyed} {rk:Keyed->Int} {st st' st'':SortSt} {lo hi:Nat}
theorem Kept.refl:Kept st st lo hi:=⟨rfl,fun _ _=>rfl⟩
theorem Kept.trans (x:Kept st st' lo hi) (y:Kept st' st'' lo hi):Kept st st'' lo hi:=⟨y.1.trans x.1,fun i h=>(y.2 i h).trans (x.2 i h)⟩
theorem SB.size (h:SB κ a₀ st):(arrOf st).size=a₀.size:=h.perm.size_eq
theorem SB.mem (h:SB κ a₀ st) {i:Nat} (hi:i<a₀.size):g (arrOf st) i∈a₀.toList :=
 (Array.perm_iff_toList_perm.mp h.perm).mem_iff.mp (ZmM (by rw [h.size]; exact hi))
theorem SB.inj (h:SB κ a₀ st) (hd:(a₀.toList.map rk).Nodup) {i j:Nat} (hij:i<j) (hj:j<a₀.size):rk (g (arrOf st) i)≠rk (g (arrOf st) j):=by
 have hn:((arrOf st).toList.map rk).Nodup:=((Array.perm_iff_toList_perm.mp h.perm).map rk).nodup_iff.mpr hd;have hz:=h.size;have:=List.pairwise_iff_getElem.mp hn i j (by rw [QAa,QAw]; exact O223 hij hj hz) (by rw [QAa,QAw]; exact Om.a1 ‹_› ‹_›) hij;rw [QBk,QBk,QCj,QCj] at this;have e1:=g_eq (a:=arrOf st) (i:=i) (by exact O223 hij hj hz);have e2:=g_eq (a:=arrOf st) (i:=j) (by exact Om.a1 ‹_› ‹_›);rw [getElem?_pos (arrOf st) i (by exact O223 hij hj hz)] at e1;rw [getElem?_pos (arrOf st) j (by exact Om.a1 ‹_› ‹_›)] at e2;rw [<- QZl e1,<- QZl e2];exact this
theorem SB.set (h:SB κ a₀ st) {xs:Array Keyed} (hp:xs.Perm (arrOf st)):SB κ a₀ (setArr st xs):=⟨hp.trans h.perm,h.kind,h.failed⟩
theorem ZaQ {xs ys:Array Keyed} {i j:Nat} (h:xs[i]? = ys[j]?):g xs i=g ys j:=by
 unfold g;rw [QEv,QEv,h]
theorem Zjy {xs:Array Keyed} {i j:Nat} (hj:j<=xs.size) (k:Nat):g (mirror xs i j ((j - i) / 2)) k=if i<=k/\k<j then g xs (i+j - 1 - k) else g xs k:=by
 have e:=getElem?_mirror_all (i:=i) hj k
 by_cases h:i<=k/\k<j
 ·rw [if_pos h] at e ⊢; exact ZaQ e
 ·rw [if_neg h] at e ⊢; exact ZaQ e
theorem Zjz {xs:Array Keyed} {src d:Nat} (hs:src<xs.size) (hd:d<=src) (k:Nat):g (bubble xs src d) k=if k=src - d then g xs src else if src - d<k/\k<=src then g xs (k - 1) else g xs k:=by
 have e:=getElem?_bubble hs d hd k
 by_cases h:k=src - d
 ·rw [if_pos h] at e ⊢; exact ZaQ e
 ·rw [if_neg h] at e ⊢
  by_cases h':src - d<k/\k<=src
  ·rw [if_pos h'] at e ⊢; exact ZaQ e
  ·rw [if_neg h'] at e ⊢; exact ZaQ e
end
section
variable {M:Model} {A:Around} {E:Value->Shared->Prop} {s:Shared} {rk:Keyed->Int} {κ:SortKind} {a₀:Array Keyed}
theorem Zdk (L:LtOk M A E s rk κ (· ∈ a₀.toList)) {st:SortSt} {i j:Nat} {Q:Option Bool->SortSt->Prop} (B:SB κ a₀ st) (hi:i<a₀.size) (hj:j<a₀.size) (q:Q (some (decide (rk (g (arrOf st) i)<rk (g (arrOf st) j)))) st):wpS M A E s (ltAt' i j) Q st:=by
 rw [ltAt'_eq];exact QZs (wpS_get (QZs (ZQ (by rw [B.size]; exact hi) (QZs (ZQ (by rw [B.size]; exact hj) (L _ _ _ _ (B.mem hi) (B.mem hj) B.kind q))))))
theorem Zit (L:LtOk M A E s rk κ (· ∈ a₀.toList)) (hd:(a₀.toList.map rk).Nodup) {st:SortSt} {lo nr:Nat} {Q:Option Nat->SortSt->Prop} (B:SB κ a₀ st) (h1:1<=nr) (hz:lo+nr<=a₀.size)
  (h:∀ m st',SB κ a₀ st'->Kept st st' lo (lo+nr)->1<=m->m<=nr->Srt rk (arrOf st') lo (lo+m)->Q (some m) st'):wpS M A E s (countRun' lo nr) Q st:=by
 have up:∀ (st:SortSt),SB κ a₀ st->∀ n,1<=n->n<nr->Srt rk (arrOf st) lo (lo+n)->¬ rk (g (arrOf st) (lo+n))<rk (g (arrOf st) (lo+n - 1))->Srt rk (arrOf st) lo (lo+(n+1)):=by
  intro st B n hn hn' hs hw i j h1 h2 h3
  by_cases hj:j<lo+n
  ·exact hs i j h1 h2 hj
  ·by_cases hi:i=j
   ·rw [hi]; exact QCi _
   ·rw [show j=lo+n by exact O206 h3 hj];exact QBm (hs i (lo+n - 1) h1 (by exact O222 hn h2 h3 hj hi) (by exact O221 hn h3 hj)) (Int.not_lt.mp hw)
 refine QZs (wpS_mono (wpS_forRange (I:=fun x c st'=>st=st'/\c=(none,x)/\Srt rk (arrOf st) lo (lo+x))
  (Q:=fun c st'=>st=st'/\∃ n,c=(none,n)/\1<=n/\n<=nr/\Srt rk (arrOf st) lo (lo+n)/\(n=nr\/rk (g (arrOf st) (lo+n))<rk (g (arrOf st) (lo+n - 1)))) ?s1 ?f1 ⟨rfl,rfl,fun i j h1 h2 h3=>by rw [show i=j by exact O220 h1 h2 h3]; exact QCi _⟩) ?p1)
 case f1 =>
  rintro c st' ⟨rfl,rfl,hs⟩;rw [show max 1 nr=nr by exact O219 h1] at hs ⊢;exact ⟨rfl,nr,rfl,h1,QAd _,hs,.inl rfl⟩
 case s1 =>
  rintro x c st' hx hx' ⟨rfl,rfl,hs⟩;refine QZs (Zdk L B (by exact O179 hz hx') (by exact O218 hz hx hx') ?_)
  by_cases hw:rk (g (arrOf st) (lo+x))<rk (g (arrOf st) (lo+x - 1))
  ·rw [QZh hw];exact QZt ⟨rfl,x,rfl,hx,by exact Om.d1 ‹_›,hs,.inr hw⟩
  ·rw [QZi hw];exact QZt ⟨rfl,rfl,up st B x hx hx' hs hw⟩
 case p1 =>
  rintro c st' ⟨rfl,n,rfl,hn,hn',hs,ho⟩
  try dsimp only
  by_cases e:n=nr
  ·rw [if_pos (by simpa using e)];exact QZt (h n st B Kept.refl hn hn' hs)
  rw [if_neg (by simpa using e)];have ho:=ho.resolve_left e
  by_cases e2:n>1
  ·rw [if_pos e2];refine QZs (Zdk L B (by exact O217 h1 hz) (by exact O213 hz hn' e2) ?_);have hw:rk (g (arrOf st) lo)<rk (g (arrOf st) (lo+n - 1)):=by
    have a1:=hs lo (lo+n - 1) (by exact O186 ) (by exact O216 e2) (by exact O215 e2);have a2:=B.inj hd (i:=lo) (j:=lo+n - 1) (by exact O214 e2) (by exact O213 hz hn' e2);omega
   rw [QZh hw];exact QZt (h n st B Kept.refl hn hn' hs)
  rw [if_neg e2];have e3:n=1:=by exact O212 hn e2
  subst e3;refine QZs (wpS_lift (wpAny_rule ⟨rfl,?_⟩))
  try dsimp only
  refine QZs (wpS_mono (wpS_forRange (I:=fun x c st'=>st=st'/\c=(none,x,0)/\1<=x/\x<=nr/\∀ i j,lo<=i->i<=j->j<lo+x->rk (g (arrOf st) j)<=rk (g (arrOf st) i))
   (Q:=fun c st'=>st=st'/\∃ x,c=(none,x,0)/\1<=x/\x<=nr/\∀ i j,lo<=i->i<=j->j<lo+x->rk (g (arrOf st) j)<=rk (g (arrOf st) i)) ?s2 ?f2 ⟨rfl,rfl,by exact O211 ,by exact O210 h1 e,fun i j h1 h2 h3=>?i2⟩) ?p2)
  case i2 =>
   by_cases hi:i=j
   ·rw [hi]; exact QCi _
   ·rw [show i=lo+1 - 1 by exact O209 h1 h2 h3 hi,show j=lo+1 by exact O208 h1 h2 h3 hi];exact QBp ho
  case f2 =>
   rintro c st' ⟨rfl,rfl,r⟩;exact ⟨rfl,_,rfl,r⟩
  case s2 =>
   rintro x c st' hx hx' ⟨rfl,rfl,h3,h4,h5⟩
   dsimp only;refine QZs (Zdk L B (by exact O179 hz hx') (by exact O203 hz hx hx') ?_)
   by_cases hw:rk (g (arrOf st) (lo+x))<rk (g (arrOf st) (lo+x - 1))
   ·rw [QZh hw];refine QZt ⟨rfl,rfl,by exact O207 hx,by exact Om.f1 ‹_›,fun i j h6 h7 h8=>?_⟩
    by_cases hj:j<lo+x
    ·exact h5 i j h6 h7 hj
    ·by_cases hi:i=j
     ·rw [hi]; exact QCi _
     ·rw [show j=lo+x by exact O206 h8 hj];exact QBm (QBp hw) (h5 i (lo+x - 1) h6 (by exact O205 hx h7 h8 hj hi) (by exact O204 hx h8 hj))
   ·rw [QZi hw];refine QZs (Zdk L B (by exact O203 hz hx hx') (by exact O179 hz hx') ?_);have a2:=B.inj hd (i:=lo+x - 1) (j:=lo+x) (by exact O202 hx) (by exact O179 hz hx');rw [QZh (by exact O201 hw a2)];exact QZt ⟨rfl,x,rfl,h3,h4,h5⟩
  case p2 =>
   rintro c st' ⟨rfl,x,rfl,h3,h4,h5⟩
   try dsimp only
   rw [if_neg (by exact O200 )];refine QZs ?_;show wpS M A E s (reverseSlice' lo (lo+x)) _ st;rw [reverseSlice'_eq];refine wpS_modify ?_;have B':SB κ a₀ (setArr st (mirror (arrOf st) lo (lo+x) ((lo+x - lo) / 2))):=B.set (mirror_perm _ _ _ _);have hz':=B.size;have gm:=Zjy (xs:=arrOf st) (i:=lo) (j:=lo+x) (by exact O199 hz h4 hz');have K':Kept st (setArr st (mirror (arrOf st) lo (lo+x) ((lo+x - lo) / 2))) lo (lo+nr):=⟨rfl,fun i hi=>by
    show g (mirror (arrOf st) lo (lo+x) ((lo+x - lo) / 2)) i=_;rw [gm,if_neg (by exact O198 h4 hi)]⟩
   have S':Srt rk (arrOf (setArr st (mirror (arrOf st) lo (lo+x) ((lo+x - lo) / 2)))) lo (lo+x):=fun i j h6 h7 h8=>by
    show rk (g (mirror (arrOf st) lo (lo+x) ((lo+x - lo) / 2)) i)<=rk (g (mirror (arrOf st) lo (lo+x) ((lo+x - lo) / 2)) j);rw [gm,gm,if_pos (by exact O197 h6 h7 h8),if_pos (by exact O196 h6 h7 h8)];exact h5 _ _ (by exact O195 h8) (by exact O194 h7 h8) (by exact O193 h6 h8)
   revert B' K' S';generalize setArr st (mirror (arrOf st) lo (lo+x) ((lo+x - lo) / 2))=st2;intro B' K' S';refine QZs (wpS_mono (wpS_forRange (I:=fun y c st'=>st2=st'/\c=(none,y)/\1<=y/\y<=nr/\Srt rk (arrOf st2) lo (lo+y))
    (Q:=fun c st'=>st2=st'/\∃ y,c=(none,y)/\1<=y/\y<=nr/\Srt rk (arrOf st2) lo (lo+y)) ?s3 ?f3 ⟨rfl,rfl,h3,h4,S'⟩) ?p3)
   case f3 =>
    rintro c st' ⟨rfl,rfl,r⟩;exact ⟨rfl,_,rfl,r⟩
   case s3 =>
    rintro y c st' hy hy' ⟨rfl,rfl,h6,h7,hs⟩
    try dsimp only
    refine QZs (Zdk L B' (by exact O192 hz hz' hy') (by exact O191 hz hz' hy' h6) ?_)
    by_cases hw:rk (g (arrOf st2) (lo+y))<rk (g (arrOf st2) (lo+y - 1))
    ·rw [QZh hw];exact QZt ⟨rfl,y,rfl,h6,h7,hs⟩
    ·rw [QZi hw];exact QZt ⟨rfl,rfl,by exact O190 h6,by exact Om.f1 ‹_›,up st2 B' y h6 hy' hs hw⟩
   case p3 =>
    rintro c st' ⟨rfl,y,rfl,h6,h7,hs⟩;exact QZt (h y st2 B' K' h6 h7 hs)
theorem ZhW (L:LtOk M A E s rk κ (· ∈ a₀.toList)) {st:SortSt} {lo n ok:Nat} {Q:Bool->SortSt->Prop} (B:SB κ a₀ st) (h1:1<=ok) (hok:ok<=n) (hz:lo+n<=a₀.size) (hs:Srt rk (arrOf st) lo (lo+ok))
  (h:∀ st',SB κ a₀ st'->Kept st st' lo (lo+n)->Srt rk (arrOf st') lo (lo+n)->Q true st'):wpS M A E s (binarySort' lo n ok) Q st:=by
 refine QZs (wpS_mono (wpS_forRange (I:=fun k c st'=>c=(none,())/\SB κ a₀ st'/\Kept st st' lo (lo+n)/\Srt rk (arrOf st') lo (lo+k))
  (Q:=fun c st'=>c=(none,())/\SB κ a₀ st'/\Kept st st' lo (lo+n)/\Srt rk (arrOf st') lo (lo+n)) ?s1 ?f1 ⟨rfl,B,Kept.refl,by rw [show max ok 1=ok by exact O189 h1]; exact hs⟩) ?p1)
 case p1 =>
  rintro c st' ⟨rfl,B',K',S'⟩;exact QZt (h st' B' K' S')
 case f1 =>
  rintro c st' ⟨rfl,B',K',S'⟩;rw [show max (max ok 1) n=n by exact O188 h1 hok] at S';exact ⟨rfl,B',K',S'⟩
 case s1 =>
  rintro k c st' hk hk' ⟨rfl,B',K',S'⟩;refine QZs (wpS_mono (wpS_forRange (I:=fun x c st2=>st'=st2/\∃ l r,c=(none,l,r)/\l<=r/\r<=k/\r - l<=k - x/\(∀ i,i<l->rk (g (arrOf st') (lo+i))<=rk (g (arrOf st') (lo+k)))/\∀ i,r<=i->i<k->rk (g (arrOf st') (lo+k))<=rk (g (arrOf st') (lo+i)))
   (Q:=fun c st2=>st'=st2/\∃ l r,c=(none,l,r)/\l<=k/\(∀ i,i<l->rk (g (arrOf st') (lo+i))<=rk (g (arrOf st') (lo+k)))/\∀ i,l<=i->i<k->rk (g (arrOf st') (lo+k))<=rk (g (arrOf st') (lo+i))) ?s2 ?f2
   ⟨rfl,0,k,rfl,by exact O187 ,by exact O186 ,by exact O185 ,fun i hi=>by exact O184 hi,fun i h5 h6=>by exact O183 h5 h6⟩) ?p2)
  case f2 =>
   rintro c st2 ⟨rfl,l,r,rfl,h3,h4,h5,h6,h7⟩;exact ⟨rfl,l,r,rfl,by exact O64 h3 h4,h6,fun i h8 h9=>h7 i (by exact O182 h3 h5 h8) h9⟩
  case s2 =>
   rintro x c st2 _ hx ⟨rfl,l,r,rfl,h3,h4,h5,h6,h7⟩
   try dsimp only
   by_cases hlr:l>=r
   ·rw [if_pos hlr];exact QZt ⟨rfl,l,r,rfl,by exact O181 h3 h4 hlr,h6,fun i h8 h9=>h7 i (by exact O180 h3 hlr h8) h9⟩
   rw [if_neg hlr];refine QZs (Zdk L B' (by exact O179 hz hk') (by exact O178 hz hk' h4 hlr) ?_)
   by_cases hw:rk (g (arrOf st') (lo+k))<rk (g (arrOf st') (lo+(l+r) / 2))
   ·rw [QZh hw];exact QZt ⟨rfl,l,(l+r) / 2,rfl,by exact O177 hlr,by exact O176 h4 hlr,by exact O175 hx h5 hlr,h6,fun i h8 h9=>QBm (QBp hw) (S' _ _ (by exact O174 hlr) (by exact O173 h8) (by exact O137 h9))⟩
   ·rw [QZi hw];exact QZt ⟨rfl,(l+r) / 2+1,r,rfl,by exact O172 hlr,by assumption,by exact O171 hx h5 hlr,fun i h8=>QBm (S' _ (lo+(l+r) / 2) (by exact O139 ) (by exact O170 h8) (by exact O169 h4 hlr)) (Int.not_lt.mp hw),h7⟩
  case p2 =>
   rintro c st2 ⟨rfl,l,r,rfl,h3,h6,h7⟩;refine QZs ?_;show wpS M A E s (moveDown' (lo+k) (lo+l)) _ st';rw [moveDown'_eq];have hz':=B'.size;have gb:=Zjz (xs:=arrOf st') (src:=lo+k) (d:=lo+k - (lo+l)) (by exact O168 hz hk' hz') (by exact O167 h3);refine wpS_modify (QZt ⟨rfl,B'.set (bubble_perm _ _ _),K'.trans ⟨rfl,fun i hi=>?_⟩,fun i j h8 h9 h10=>?_⟩)
   ·show g (bubble (arrOf st') (lo+k) (lo+k - (lo+l))) i=_;rw [gb,if_neg (by exact O166 hk' h3 hi),if_neg (by exact O165 hk' h3 hi)]
   ·show rk (g (bubble (arrOf st') (lo+k) (lo+k - (lo+l))) i)<=rk (g (bubble (arrOf st') (lo+k) (lo+k - (lo+l))) j);have h6:∀ i,lo<=i->i<lo+l->rk (g (arrOf st') i)<=rk (g (arrOf st') (lo+k)):=fun i p q=>by
     have:=h6 (i - lo) (by exact O130 p q)
     rwa [show lo+(i - lo)=i by exact O129 p] at this
    have h7:∀ i,lo+l<=i->i<lo+k->rk (g (arrOf st') (lo+k))<=rk (g (arrOf st') i):=fun i p q=>by
     have:=h7 (i - lo) (by exact O128 p) (by exact O127 p q)
     rwa [show lo+(i - lo)=i by exact O126 p] at this
    rw [gb,gb]
    repeat' split
    all_goals first
     | (exfalso; lia)
     | exact QCi _
     | exact h6 _ (by lia) (by lia)
     | exact h7 _ (by lia) (by lia)
     | exact S' _ _ (by lia) (by lia) (by lia)
end
end SM
namespace SM
open PySem PyProof.Rows
theorem Ze4 (base:Nat):∀ (l:List Keyed) (j:Nat) (arr:Array Keyed),base+j+l.length<=arr.size->((l.zipIdx j).foldl (fun a x=>a.setIfInBounds (base+x.2) x.1) arr).toList=arr.toList.take (base+j)++(l++arr.toList.drop (base+j+l.length))
 | [],j,arr,_=>by
  simp
 | p::l,j,arr,h=>by
  rw [QAx] at h;rw [List.zipIdx_cons,List.foldl_cons,Ze4 base l (j+1) _ (by rw [Array.size_setIfInBounds]; exact O164 h),Array.toList_setIfInBounds];have hl:base+j<arr.toList.length:=by rw [QAw]; exact O163 h
  have e1:(arr.toList.set (base+j) p).take (base+(j+1))=arr.toList.take (base+j)++[p]:=by
   rw [<- Nat.add_assoc,List.take_succ_eq_append_getElem (by rw [QDb]; exact hl),List.getElem_set_self,List.take_set_of_le (QAd _)]
  have e2:(arr.toList.set (base+j) p).drop (base+(j+1)+l.length)=arr.toList.drop (base+j+(p::l).length):=by
   rw [List.drop_set_of_lt (by exact O162 ),QAx]
   congr 1
   exact O161 
  rw [e1,e2,QBo]
  rfl
theorem ZgO (a:Array Keyed) (i:Nat):g a i=a.toList.getD i (Value.none,Value.none):=by
 unfold g;rw [QEv,QAc,QDc]
theorem Zkh {a a':Array Keyed} {b:Nat} {l:List Keyed} (hz:b+l.length<=a.size) (e:a'.toList=a.toList.take b++(l++a.toList.drop (b+l.length))) {i:Nat} (hi:i<b\/b+l.length<=i):g a' i=g a i:=by
 have ht:(a.toList.take b).length=b:=by rw [QAu,QAw]; exact O157 hz
 rw [ZgO,ZgO,e,QAc,QAc]
 congr 1
 rcases hi with hi | hi
 ·rw [QCo (by exact Om.a1 ‹_› ‹_›),List.getElem?_take_of_lt hi]
 ·rw [QCs (by exact O160 ht hi),QCs (by exact O159 ht hi),List.getElem?_drop,ht]
  congr 1
  exact O158 ht hi
theorem ZlC {a a':Array Keyed} {b:Nat} {l:List Keyed} (hz:b+l.length<=a.size) (e:a'.toList=a.toList.take b++(l++a.toList.drop (b+l.length))) {i:Nat} (h1:b<=i) (h2:i<b+l.length):g a' i=l.getD (i - b) (Value.none,Value.none):=by
 have ht:(a.toList.take b).length=b:=by rw [QAu,QAw]; exact O157 hz
 rw [ZgO,e,QAc,QAc]
 congr 1
 rw [QCs (by exact Om.l4 ‹_› ‹_›),ht,QCo (by exact O156 h1 h2 ht)]
noncomputable def Runs (rk:Keyed->Int) (a:Array Keyed):List (Nat × Nat × Nat)->Nat->Nat->Prop
 | [],lo,hi=>lo=hi
 | p::ps,lo,hi=>p.1=lo/\0<p.2.1/\Srt rk a lo (lo+p.2.1)/\Runs rk a ps (lo+p.2.1) hi
section
variable {rk:Keyed->Int} {a a':Array Keyed}
theorem Runs.le:∀ {ps:List (Nat × Nat × Nat)} {lo hi:Nat},Runs rk a ps lo hi->lo+ps.length<=hi
 | [],_,_,h=>Nat.le_of_eq h
 | p::ps,lo,hi,h=>by
  have:=Runs.le h.2.2.2;have:=h.2.1;rw [QAx];omega
theorem Runs.app:∀ {ps qs:List (Nat × Nat × Nat)} {lo hi:Nat},Runs rk a (ps++qs) lo hi↔∃ m,Runs rk a ps lo m/\Runs rk a qs m hi
 | [],qs,lo,hi=>⟨fun h=>⟨lo,rfl,h⟩,fun zz0=> by obtain ⟨m,e,h⟩ := zz0; exact by cases e; exact h⟩
 | p::ps,qs,lo,hi=>⟨fun zz0=> by obtain ⟨h1,h2,h3,h4⟩ := zz0; exact let ⟨m,h5,h6⟩:=Runs.app.mp h4; ⟨m,⟨h1,h2,h3,h5⟩,h6⟩,fun zz0=> by obtain ⟨m,⟨h1,h2,h3,h5⟩,h6⟩ := zz0; exact ⟨h1,h2,h3,Runs.app.mpr ⟨m,h5,h6⟩⟩⟩
theorem Runs.cong:∀ {ps:List (Nat × Nat × Nat)} {lo hi:Nat},Runs rk a ps lo hi->(∀ i,lo<=i->i<hi->g a' i=g a i)->Runs rk a' ps lo hi
 | [],_,_,h,_=>h
 | p::ps,lo,hi,⟨h1,h2,h3,h4⟩,e=>by
  have:=Runs.le h4;refine ⟨h1,h2,fun i j p q r=>?_,Runs.cong h4 fun i p q=>e i (by exact O155 h2 p) q⟩;rw [e i (by assumption) (by exact O154 this q r),e j (by exact O64 p q) (by exact O153 this r)];exact h3 i j p q r
end
theorem Zdr {α:Type} {l:List α} {i:Nat} {x y:α} (hx:l[i]? = some x) (hy:l[i+1]? = some y):l=l.take i++x::y::l.drop (i+2):=by
 obtain ⟨h1,e1⟩:=QZb.mp hx;obtain ⟨h2,e2⟩:=QZb.mp hy;have d1:=QBc h1;have d2:=QBc h2;rw [e1,d2,e2] at d1;rw [<- d1];exact (QCn i l).symm
theorem ZlX {α:Type} (p:Array α) {i:Nat} {x y z:α} (hx:p[i]? = some x) (hy:p[i+1]? = some y):((p.setIfInBounds i z).eraseIdxIfInBounds (i+1)).toList=p.toList.take i++z::p.toList.drop (i+2):=by
 have hx':p.toList[i]? = some x:=by rw [QDc]; exact hx
 have hy':p.toList[i+1]? = some y:=by rw [QDc]; exact hy
 have hl:i+1<p.size:=(Array.getElem?_eq_some_iff.mp hy).1;have e:=Zdr hx' hy';have ht:(p.toList.take i).length=i:=by rw [QAu,QAw]; exact O152 hl
 rw [Array.toList_eraseIdxIfInBounds,Array.toList_setIfInBounds];generalize p.toList.take i=t at *;generalize p.toList.drop (i+2)=d at *;rw [e,List.set_append_right _ _ (by exact Om.l1 ‹_›),List.eraseIdx_append_of_length_le (by exact O151 ht),ht,Nat.sub_self,show i+1 - i=1 by exact O150 ]
 rfl
section
variable {M:Model} {A:Around} {E:Value->Shared->Prop} {s:Shared} {rk:Keyed->Int} {κ:SortKind} {a₀:Array Keyed}
theorem Zln {σ:Type} {x:σ} {Q:PUnit->σ->Prop} {st:σ} (h:Q ⟨⟩ x):wpS M A E s (set x:StateT σ Sem PUnit) Q st:=by
 unfold wpS;rw [StateT.run_set];exact QZr ⟨rfl,h⟩
theorem Zhz {a:Array Keyed} {b k j:Nat} (h:b+j<k) (hk:k<=a.size):g (a.extract b k) j=g a (b+j):=by
 apply ZaQ
 rw [Array.getElem?_extract];rw [if_pos (by exact O149 h hk)]
theorem Zg5 {a:Array Keyed} {b k:Nat} (hk:k<=a.size) (h:Srt rk a b k):(a.extract b k).toList.Pairwise (Le rk):=by
 rw [List.pairwise_iff_getElem];intro i j hi hj hij;have hz:(a.extract b k).size=k - b:=by rw [Array.size_extract]; exact O148 hk
 rw [QAw,hz] at hi hj;rw [QCj,QCj];have e1:=g_eq (a:=a.extract b k) (i:=i) (by exact Om.a1 ‹_› ‹_›);have e2:=g_eq (a:=a.extract b k) (i:=j) (by exact Om.a1 ‹_› ‹_›);rw [getElem?_pos _ i (by exact Om.a1 ‹_› ‹_›)] at e1;rw [getElem?_pos _ j (by exact Om.a1 ‹_› ‹_›)] at e2;rw [QZl e1,QZl e2,Zhz (by exact O147 hi hj hij hz) hk,Zhz (by exact O145 hi hj hz) hk];exact h _ _ (by exact O139 ) (by exact O146 hij) (by exact O145 hi hj hz)
theorem Zkg {l:List Keyed} (h:l.Pairwise (Le rk)) {i j:Nat} (hij:i<=j) (hj:j<l.length):rk (l.getD i (Value.none,Value.none))<=rk (l.getD j (Value.none,Value.none)):=by
 rcases QCg i j with h' | h'
 ·rw [QAc,QAc,QAb (by exact O144 hj h':i<l.length),QAb hj];exact List.pairwise_iff_getElem.mp h i j (by exact O144 hj h') hj h'
 ·rw [show i=j by exact O143 hij h'];exact QCi _
theorem Zck (L:LtOk M A E s rk κ (· ∈ a₀.toList)) {st:SortSt} {i hi:Nat} {Q:Bool->SortSt->Prop} (B:SB κ a₀ st) (hz:hi<=a₀.size) (R:Runs rk (arrOf st) (pendingOf st).toList 0 hi) (hn:i+1<(pendingOf st).size)
  (h:∀ st',SB κ a₀ st'->(∀ j,hi<=j->g (arrOf st') j=g (arrOf st) j)->Runs rk (arrOf st') (pendingOf st').toList 0 hi->(pendingOf st').size+1=(pendingOf st).size->Q true st'):wpS M A E s (mergeAt' i) Q st:=by
 refine QZs (wpS_get ?_);obtain ⟨⟨sa,na,pa⟩,hx⟩:∃ x,(pendingOf st)[i]? = some x:=⟨_,getElem?_pos _ i (by exact O142 hn)⟩;obtain ⟨⟨sb,nb,pb⟩,hy⟩:∃ x,(pendingOf st)[i+1]? = some x:=⟨_,getElem?_pos _ (i+1) hn⟩;rw [hx,hy]
 try dsimp only
 have hj:=ZlX (pendingOf st) (z:=(sa,na+nb,pa)) hx hy;have hsp:=Zdr (l:=(pendingOf st).toList) (i:=i) (by rw [QDc]; exact hx) (by rw [QDc]; exact hy);have hsz:(((pendingOf st).setIfInBounds i (sa,na+nb,pa)).eraseIdxIfInBounds (i+1)).size+1=(pendingOf st).size:=by
  rw [<- QAw,hj,QAo,QAu,QAx,QBn,QAw];exact O141 hn
 rw [hsp] at R;obtain ⟨m,R1,e1,p1,s1,e2,p2,s2,R2⟩:=Runs.app.mp R
 dsimp only at e1 p1 s1 e2 p2 s2 R2;subst e1;subst e2;have hle:=R2.le;have hzz:=B.size;generalize hp:((pendingOf st).setIfInBounds i (sa,na+nb,pa)).eraseIdxIfInBounds (i+1)=pd at *;have fin:∀ st',SB κ a₀ st'->pendingOf st'=pd->(∀ j,j<sa\/sa+na+nb<=j->g (arrOf st') j=g (arrOf st) j)->Srt rk (arrOf st') sa (sa+na+nb)->Q true st':=fun st' B' ep kp ss=>by
  refine h st' B' (fun j h5=>kp j (.inr (by exact O140 hle h5))) ?_ (by rw [ep]; exact hsz);rw [ep,hj];refine Runs.app.mpr ⟨sa,R1.cong fun j _ h6=>kp j (.inl h6),rfl,Nat.add_pos_left p1 _,?_,?_⟩
  ·rw [<- Nat.add_assoc]; exact ss
  ·rw [<- Nat.add_assoc]; exact R2.cong fun j h6 _=>kp j (.inr h6)
 have kA:∀ i j,i<=j->j<na->rk (g (arrOf st) (sa+i))<=rk (g (arrOf st) (sa+j)):=fun i j h5 h6=>s1 _ _ (by exact O139 ) (by exact O138 h5) (by exact O137 h6)
 have kB:∀ i j,i<=j->j<nb->rk (g (arrOf st) (sa+na+i))<=rk (g (arrOf st) (sa+na+j)):=fun i j h5 h6=>s2 _ _ (by exact O104 ) (by exact O136 h5) (by exact O135 h6)
 refine QZs (Zln ?_);have b1:sa+na<(arrOf st).size:=by exact O134 hz p2 hle hzz
 have b2:sa+na+nb<=(arrOf st).size:=by exact O133 hz hle hzz
 have b3:sa+na - 1<(arrOf st).size:=by exact O132 p1 b1
 refine QZs (ZQ b1 (QZs (ZbA L (B.mem (by exact Om.a2 ‹_› ‹_›)) (fun i hi=>B.mem (by exact O131 hzz b1 hi)) (QBz b1) p1 kA B.kind fun k hk1 hk2 hk3=>?_)));have B1:SB κ a₀ (setPending st pd):=⟨B.perm,B.kind,B.failed⟩
 try dsimp only
 have hk2:∀ i,sa<=i->i<sa+k->rk (g (arrOf st) i)<=rk (g (arrOf st) (sa+na)):=fun i h5 h6=>by
  have:=by_no.mp (hk2 (i - sa) (by exact O130 h5 h6))
  rwa [show sa+(i - sa)=i by exact O129 h5] at this
 have hk3:∀ i,sa+k<=i->i<sa+na->rk (g (arrOf st) (sa+na))<rk (g (arrOf st) i):=fun i h5 h6=>by
  have:=by_no'.mp (hk3 (i - sa) (by exact O128 h5) (by exact O127 h5 h6))
  rwa [show sa+(i - sa)=i by exact O126 h5] at this
 by_cases e1:na - k=0
 ·rw [if_pos (by simpa using e1)];refine QZt (fin _ B1 rfl (fun _ _=>rfl) fun i j h5 h6 h7=>?_)
  by_cases hj:j<sa+na
  ·exact s1 i j h5 h6 hj
  ·by_cases hi:i<sa+na
   ·exact QBm (hk2 i h5 (by exact O125 hk1 e1 hi)) (s2 _ _ (by exact O86 ) (by exact O79 hj) h7)
   ·exact s2 i j (by exact O79 hi) h6 h7
 rw [if_neg (by simpa using e1)];have e0:sa+k+(na - k) - 1=sa+na - 1:=by exact O124 p1 hk1 e1
 rw [e0];refine QZs (ZQ b3 (QZs (ZbA L (B.mem (by exact Om.a2 ‹_› ‹_›)) (fun i hi=>B.mem (by exact O123 hzz b2 hi)) b2 (by exact O15 p2) kB B.kind fun n2 hn1 hn2 hn3=>?_)));have hn2:∀ i,sa+na<=i->i<sa+na+n2->rk (g (arrOf st) i)<rk (g (arrOf st) (sa+na - 1)):=fun i h5 h6=>by
  have:=by_yes.mp (hn2 (i - (sa+na)) (by exact O95 h5 h6))
  rwa [show sa+na+(i - (sa+na))=i by exact O122 h5] at this
 have hn3:∀ i,sa+na+n2<=i->i<sa+na+nb->rk (g (arrOf st) (sa+na - 1))<=rk (g (arrOf st) i):=fun i h5 h6=>by
  have:=by_yes'.mp (hn3 (i - (sa+na)) (by exact O121 h5) (by exact O120 h5 h6))
  rwa [show sa+na+(i - (sa+na))=i by exact O119 h5] at this
 try dsimp only
 by_cases e2:n2=0
 ·rw [if_pos (by simpa using e2)];refine QZt (fin _ B1 rfl (fun _ _=>rfl) fun i j h5 h6 h7=>?_)
  by_cases hj:j<sa+na
  ·exact s1 i j h5 h6 hj
  ·by_cases hi:i<sa+na
   ·exact QBm (s1 _ _ h5 (by exact Om.q2 ‹_›:i<=sa+na - 1) (by exact O118 hk1 e0 hi)) (hn3 _ (by exact O117 e2 hj) h7)
   ·exact s2 i j (by exact O79 hi) h6 h7
 rw [if_neg (by simpa using e2)];generalize hx':(arrOf st).extract (sa+k) (sa+na)=x;generalize hy':(arrOf st).extract (sa+na) (sa+na+n2)=y;have zx:x.size=na - k:=by rw [<- hx',Array.size_extract]; exact O116 b1 hk1
 have zy:y.size=n2:=by rw [<- hy',Array.size_extract]; exact O115 b1 b2 hn1
 have gx:∀ j,j<na - k->g x j=g (arrOf st) (sa+k+j):=fun j hj=>by rw [<- hx',Zhz (by exact O114 hk1 hj) (by exact Om.d1 ‹_›)]
 have gy:∀ j,j<n2->g y j=g (arrOf st) (sa+na+j):=fun j hj=>by rw [<- hy',Zhz (by exact O113 zy hj) (by exact O112 b2 hn1 zy)]
 have sx:x.toList.Pairwise (Le rk):=by rw [<- hx']; exact Zg5 (by exact Om.d1 ‹_›) fun i j h5 h6 h7=>s1 i j (by exact O82 h5) h6 h7
 have sy:y.toList.Pairwise (Le rk):=by rw [<- hy']; exact Zg5 (by exact O112 b2 hn1 zy) fun i j h5 h6 h7=>s2 i j h5 h6 (by exact O87 hn1 zy h7)
 have mx:∀ j,j<x.size->g x j∈a₀.toList:=fun j hj=>by rw [gx j (by exact Om.a2 ‹_› ‹_›)]; exact B.mem (by exact O111 hzz b2 hk1 hn1 zx zy hj)
 have my:∀ j,j<y.size->g y j∈a₀.toList:=fun j hj=>by rw [gy j (by exact Om.a2 ‹_› ‹_›)]; exact B.mem (by exact O110 hzz b2 hn1 zy hj)
 have ox:∀ z∈x.toList,∃ j,sa+k<=j/\j<sa+na/\z=g (arrOf st) j:=fun z hz=>by
  obtain ⟨j,_,h5,rfl⟩:=JZ (i:=0) (by rw [List.drop_zero]; exact hz);exact ⟨sa+k+j,by exact O108 ‹_›,by exact O109 hk1 zx h5,gx j (by exact Om.a2 ‹_› ‹_›)⟩
 have oy:∀ z∈y.toList,∃ j,sa+na<=j/\j<sa+na+n2/\z=g (arrOf st) j:=fun z hz=>by
  obtain ⟨j,_,h5,rfl⟩:=JZ (i:=0) (by rw [List.drop_zero]; exact hz);exact ⟨sa+na+j,by exact O108 ‹_›,by exact O103 zy h5,gy j (by exact Om.a2 ‹_› ‹_›)⟩
 have h0:∀ z∈x.toList,rk (g y 0)<=rk z:=fun z hz=>by
  obtain ⟨j,h5,h6,rfl⟩:=ox z hz;rw [gy 0 (by exact O107 hk1 e2 zy)];exact QBp (hk3 j h5 h6)
 have hl:∀ j,j<y.size->rk (g y j)<=rk (g x (x.size - 1)):=fun j hj=>by
  rw [gy j (by exact Om.a2 ‹_› ‹_›),gx _ (by exact O106 p1 hk1 e1 e2 zx zy),show sa+k+(x.size - 1)=sa+na - 1 by exact O105 p1 hk1 e1 e0 e2 zx zy];exact QBp (hn2 _ (by exact O104 ) (by exact O103 zy hj))
 by_cases hc:na - k<=n2
 rw [if_pos hc];clear hc;refine QZs (Zgf L mx my sx sy (by exact O101 p1 hk1 e1 e2 zx zy) (by exact O100 hk1 e2 zy) h0 (fun z hz z' hz'=>?_) B1.kind ?key)
 ·obtain ⟨j,_,h5,rfl⟩:=JZ (i:=0) (by rw [List.drop_zero]; exact hz);obtain ⟨j',h6,h7,rfl⟩:=JZ hz';rw [QAw] at h6;rw [show j'=x.size - 1 by exact O102 zx h6 h7];exact hl j h5
 rotate_left
 rw [if_neg hc];clear hc;exact QZs (Zgg L mx my sx sy (by exact O101 p1 hk1 e1 e2 zx zy) (by exact O100 hk1 e2 zy) h0 hl B1.kind ?key);intro m st2 hs hm
 try dsimp only
 have ea:arrOf st2=arrOf st:=hs.2.1;have hml:m.toList.length=na - k+n2:=by rw [hm.1.length_eq,QAo,QAw,QAw]; exact O99 zx zy
 have el:=Ze4 (sa+k) m.toList 0 (arrOf st2) (by rw [ea]; exact O98 b2 hk1 hn1 zy hml);refine QZs (wpS_modify (QZs (wpS_get ?_)));generalize ha2:(m.toList.zipIdx 0).foldl (fun a x=>a.setIfInBounds (sa+k+x.2) x.1) (arrOf st2)=a2 at *;rw [ea,Nat.add_zero] at el;have ef:failedOf st2=none:=hs.2.2.2.trans B.failed;show wpS M A E s (pure (failedOf st2).isNone) Q (setArr st2 a2);rw [ef];have hout:=fun i hi=>Zkh (i:=i) (by exact O97 b2 hk1 hn1 zy hml hi) el hi
 have hin:=fun i h1 h2=>ZlC (i:=i) (by exact O96 b2 hk1 hn1 zy hml) el h1 h2
 have hmm:∀ i,sa+k<=i->i<sa+k+m.toList.length->∃ j,sa+k<=j/\j<sa+na+n2/\g a2 i=g (arrOf st) j:=fun i h5 h6=>by
  have:g a2 i∈m.toList:=by
   rw [hin i h5 h6,QAc,QAb (by exact O95 h5 h6)];exact QAq _
  rcases QZf.mp (hm.1.mem_iff.mp this) with hx | hx
  ·obtain ⟨j,h7,h8,e⟩:=ox _ hx;exact ⟨j,h7,by exact O94 zy h8,e⟩
  ·obtain ⟨j,h7,h8,e⟩:=oy _ hx;exact ⟨j,by exact O93 hk1 h7,h8,e⟩
 refine QZt (fin (setArr st2 a2) ⟨?_,hs.1.trans B.kind,ef⟩ hs.2.2.1 (fun j h5=>hout j (by exact O92 hk1 hn1 zy hml h5)) ?_)
 ·refine Array.Perm.trans (Array.perm_iff_toList_perm.mpr ?_) B.perm;show a2.toList.Perm (arrOf st).toList;have d1:=(QCn (na - k) ((arrOf st).toList.drop (sa+k))).symm;have d2:=(QCn n2 ((arrOf st).toList.drop (sa+na))).symm;rw [List.drop_drop,show sa+k+(na - k)=sa+na by exact O91 hk1 zy hml,<- ZaB,show sa+k+(na - k)=sa+na by exact O91 hk1 zy hml,hx'] at d1;rw [List.drop_drop,<- ZaB,hy'] at d2;rw [el,hml,show sa+k+(na - k+n2)=sa+na+n2 by exact O90 hk1 zy hml];refine List.Perm.trans ?_ (List.Perm.of_eq (QCn (sa+k) (arrOf st).toList));rw [d1,d2,<- QBo x.toList];exact (hm.1.append_right _).append_left _
 ·show Srt rk a2 sa (sa+na+nb);intro i j h5 h6 h7
  by_cases hi:i<sa+k
  ·rw [hout i (.inl hi)]
   by_cases hj:j<sa+k
   ·rw [hout j (.inl hj)];exact s1 i j h5 h6 (by exact O89 hk1 hj)
   ·by_cases hj2:j<sa+k+m.toList.length
    ·obtain ⟨j',h8,h9,e⟩:=hmm j (by exact O79 hj) hj2;rw [e]
     by_cases hj3:j'<sa+na
     ·exact s1 i j' h5 (by exact O88 hi h8) hj3
     ·exact QBm (hk2 i h5 hi) (s2 _ _ (by exact O86 ) (by exact O79 hj3) (by exact O87 hn1 zy h9))
    ·rw [hout j (.inr (by exact O77 hj2))];exact QBm (hk2 i h5 hi) (s2 _ _ (by exact O86 ) (by exact O75 hk1 zy hml hj2) h7)
  ·by_cases hi2:i<sa+k+m.toList.length
   ·by_cases hj2:j<sa+k+m.toList.length
    ·rw [hin i (by exact O79 hi) hi2,hin j (by exact O85 h6 hi) hj2];exact Zkg hm.2 (by exact O84 h6 hi) (by exact O83 h6 hi hj2)
    ·obtain ⟨i',h8,h9,e⟩:=hmm i (by exact O79 hi) hi2;rw [e,hout j (.inr (by exact O77 hj2))]
     by_cases hi3:i'<sa+na
     ·exact QBm (s1 i' (sa+na - 1) (by exact O82 h8) (by exact Om.q2 ‹_›) (by exact O81 hk1 e0 e2 zy hml hi3)) (hn3 j (by exact O80 hk1 zy hml hj2) h7)
     ·exact s2 i' j (by exact O79 hi3) (by exact O78 hk1 zy hml hj2 h9) h7
   ·rw [hout i (.inr (by exact O77 hi2)),hout j (.inr (by exact O76 h6 hi2))];exact s2 i j (by exact O75 hk1 zy hml hi2) h6 h7
end
end SM
namespace SM
open PySem PyProof.Rows
theorem Runs.third {rk:Keyed->Int} {a:Array Keyed}:∀ {ps qs:List (Nat × Nat × Nat)} {lo hi:Nat},Runs rk a ps lo hi->qs.map (fun p=>(p.1,p.2.1))=ps.map (fun p=>(p.1,p.2.1))->Runs rk a qs lo hi
 | [],[],_,_,h,_=>h
 | [],_::_,_,_,_,e=>by cases e
 | _::_,[],_,_,_,e=>by cases e
 | p::ps,q::qs,lo,hi,⟨h1,h2,h3,h4⟩,e=>by
  rw [QAp,QAp] at e;obtain ⟨e1,e2⟩:=List.cons.inj e;obtain ⟨e3,e4⟩:=Prod.mk.inj e1;refine ⟨e3.trans h1,by rw [e4]; exact h2,by rw [e4]; exact h3,?_⟩;rw [e4];exact Runs.third h4 e2
theorem ZlY {c:Prop} [Decidable c] {a b n:Nat} (h1:a+1<n) (h2:b+1<n):(if c then a else b)+1<n:=by
 split
 ·exact h1
 ·exact h2
section
variable {M:Model} {A:Around} {E:Value->Shared->Prop} {s:Shared} {rk:Keyed->Int} {κ:SortKind} {a₀:Array Keyed}
theorem wp_sort (L:LtOk M A E s rk κ (· ∈ a₀.toList)) (hd:(a₀.toList.map rk).Nodup) {st:SortSt} {Q:Unit->SortSt->Prop} (B:SB κ a₀ st) (hp:pendingOf st = #[]) (h1:1<=a₀.size)
  (h:∀ st',SB κ a₀ st'->Srt rk (arrOf st') 0 a₀.size->Q () st'):wpS M A E s sortRuns' Q st:=by
 refine QZs (wpS_get ?_);have hz:(arrOf st).size=a₀.size:=B.size
 dsimp only;rw [hz];generalize (sortPriv% PySem.Builtin.minRun) a₀.size a₀.size 0=mr;refine QZs (wpS_mono (wpS_forRange (I:=fun x c st'=>∃ lo,c=(none,lo)/\SB κ a₀ st'/\lo<=a₀.size/\(x<=lo\/a₀.size<=lo)/\Runs rk (arrOf st') (pendingOf st').toList 0 lo)
  (Q:=fun c st'=>c=(none,a₀.size)/\SB κ a₀ st'/\Runs rk (arrOf st') (pendingOf st').toList 0 a₀.size) ?s1 ?f1 ⟨0,rfl,B,QAh _,.inl (QAh _),by rw [hp]; rfl⟩) ?p1)
 case f1 =>
  rintro c st' ⟨lo,rfl,B',h2,h3,R⟩;have:lo=a₀.size:=by exact O74 h1 hz h2 h3
  subst this;exact ⟨rfl,B',R⟩
 case s1 =>
  rintro x c st1 _ hx ⟨lo,rfl,B1,h2,h3,R⟩
  try dsimp only
  by_cases h4:lo>=a₀.size
  ·rw [if_pos h4];have:lo=a₀.size:=by exact O73 hz h2 h4
   subst this;exact QZt ⟨rfl,B1,R⟩
  rw [if_neg h4];refine QZs (Zit L hd B1 (by exact O72 hz h4) (by exact O71 hz h4) fun m st2 B2 K2 m1 m2 S2=>?_);have R2:Runs rk (arrOf st2) (pendingOf st2).toList 0 lo:=by
   rw [K2.1];exact R.cong fun i _ h6=>K2.2 i (.inl h6)
  try dsimp only
  by_cases h5:m<mr
  rw [if_pos h5];refine QZs (wpS_lift (wpAny_rule ⟨rfl,?_⟩));refine QZs (ZhW L B2 m1 (by exact O70 m2 h5) (by exact O68 hz h4) S2 fun st3 B3 K3 S3=>?_);rw [if_neg (by simp)];have R3:Runs rk (arrOf st3) (pendingOf st3).toList 0 lo:=by
   rw [K3.1];exact R2.cong fun i _ h6=>K3.2 i (.inl h6)
  have q1:1<=min (a₀.size - lo) mr:=by exact O69 m1 m2 h5
  have q2:lo+min (a₀.size - lo) mr<=a₀.size:=by exact O68 hz h4
  clear h5 K3;revert st3 q1 q2;generalize min (a₀.size - lo) mr=n;revert n;refine ?key
  rotate_left
  rw [if_neg h5];clear h5;exact ?key m st2 B2 S2 R2 m1 (by exact O67 hz h4 m2);clear S2 B2 K2 m1 m2 R2;intro n st3 B3 S3 R3 q1 q2;have push:∀ st4,SB κ a₀ st4->Runs rk (arrOf st4) (pendingOf st4).toList 0 lo->Srt rk (arrOf st4) lo (lo+n)->Runs rk (arrOf (setPending st4 ((pendingOf st4).push (lo,n,0)))) (pendingOf (setPending st4 ((pendingOf st4).push (lo,n,0)))).toList 0 (lo+n):=fun st4 B4 R4 S4=>by
   show Runs rk (arrOf st4) ((pendingOf st4).push (lo,n,0)).toList 0 (lo+n);rw [Array.toList_push];exact Runs.app.mpr ⟨lo,R4,rfl,q1,S4,rfl⟩
  refine QZs (wpS_get ?_)
  cases hb:(pendingOf st3).back? with
  | none=>exact QZs (wpS_modify (QZt ⟨lo+n,rfl,⟨B3.perm,B3.kind,B3.failed⟩,q2,by exact O63 hz h3 h4 q1,push st3 B3 R3 S3⟩))
  | some t =>
   obtain ⟨s1,n1,p1⟩:=t
   try dsimp only
   generalize (sortPriv% PySem.Builtin.power) a₀.size (2*s1+n1) (2*s1+n1+n1+n) a₀.size=pw;refine QZs (wpS_mono (wpS_forRange (I:=fun y c st'=>c=(none,())/\SB κ a₀ st'/\Runs rk (arrOf st') (pendingOf st').toList 0 lo/\Srt rk (arrOf st') lo (lo+n))
    (Q:=fun c st'=>c=(none,())/\SB κ a₀ st'/\Runs rk (arrOf st') (pendingOf st').toList 0 lo/\Srt rk (arrOf st') lo (lo+n)) ?s2 (fun _ _ r=>r) ⟨rfl,B3,R3,S3⟩) ?p2)
   case s2 =>
    rintro y c st4 _ hy ⟨rfl,B4,R4,S4⟩;refine QZs (wpS_get ?_)
    by_cases h5:(pendingOf st4).size>1
    ·rw [if_pos h5];obtain ⟨⟨u,v,older⟩,ho⟩:∃ x,(pendingOf st4)[(pendingOf st4).size - 2]? = some x:=⟨_,getElem?_pos _ _ (by exact O66 h5)⟩;rw [ho]
     try dsimp only
     split
     ·exact QZt ⟨rfl,B4,R4,S4⟩
     ·refine QZs (Zck L B4 (by assumption) R4 (show (pendingOf st4).size - 2+1<(pendingOf st4).size by exact O65 h5) fun st5 B5 K5 R5 _=>?_);rw [if_neg (by simp)];refine QZt ⟨rfl,B5,R5,fun i j h6 h7 h8=>?_⟩;rw [K5 i (by assumption),K5 j (by exact O64 h6 h7)];exact S4 i j h6 h7 h8
    ·rw [if_neg h5];exact QZt ⟨rfl,B4,R4,S4⟩
   case p2 =>
    rintro c st4 ⟨rfl,B4,R4,S4⟩;refine QZs (wpS_modify (QZs (wpS_modify (QZt ?_))));have R5:Runs rk (arrOf st4) ((pendingOf st4).modify ((pendingOf st4).size - 1) fun x=>(x.1,x.2.1,pw)).toList 0 lo:=by
     refine R4.third ?_;rw [Array.toList_modify];refine QDi fun i=>?_;rw [QAe,QAe,List.getElem?_modify]
     cases (pendingOf st4).toList[i]? with
     | none=>rfl
     | some t =>
      simp only [QDe,Option.map_eq_map]
      split <;> rfl
    exact ⟨lo+n,rfl,⟨B4.perm,B4.kind,B4.failed⟩,q2,by exact O63 hz h3 h4 q1,push (setPending st4 ((pendingOf st4).modify ((pendingOf st4).size - 1) fun x=>(x.1,x.2.1,pw))) ⟨B4.perm,B4.kind,B4.failed⟩ R5 S4⟩
 case p1 =>
  rintro c st1 ⟨rfl,B1,R1⟩;refine QZs (wpS_mono (wpS_forRange (I:=fun x c st'=>c=(none,())/\SB κ a₀ st'/\Runs rk (arrOf st') (pendingOf st').toList 0 a₀.size/\(pendingOf st').size+x<=a₀.size+1)
   (Q:=fun c st'=>c=(none,())/\SB κ a₀ st'/\Runs rk (arrOf st') (pendingOf st').toList 0 a₀.size/\(pendingOf st').size<=1) ?s3 ?f3 ⟨rfl,B1,R1,?i3⟩) ?p3)
  case i3 =>
   have:=R1.le;rw [QAw] at this;omega
  case f3 =>
   rintro c st2 ⟨rfl,B2,R2,h2⟩;exact ⟨rfl,B2,R2,by exact O62 h1 hz h2⟩
  case s3 =>
   rintro x c st2 _ hx ⟨rfl,B2,R2,h2⟩;refine QZs (wpS_get ?_)
   by_cases h5:(pendingOf st2).size<=1
   ·rw [if_pos h5];exact QZt ⟨rfl,B2,R2,h5⟩
   rw [if_neg h5]
   try dsimp only
   have fin:∀ i,i+1<(pendingOf st2).size->wpS M A E s (mergeAt' i) (fun b st3=>b=true/\SB κ a₀ st3/\Runs rk (arrOf st3) (pendingOf st3).toList 0 a₀.size/\(pendingOf st3).size+(x+1)<=a₀.size+1) st2:=fun i hi =>
    Zck L B2 (QAd _) R2 hi fun st3 B3 _ R3 h3=>⟨rfl,B3,R3,by exact O61 hz h2 h3⟩
   refine QZs (wpS_mono (fin _ ?_) ?_)
   ·exact ZlY (show (pendingOf st2).size - 2 - 1+1<(pendingOf st2).size by exact O60 h5) (show (pendingOf st2).size - 2+1<(pendingOf st2).size by exact O59 h5)
   ·rintro b st3 ⟨rfl,B3,R3,h3⟩;rw [if_neg (by simp)];exact QZt ⟨rfl,B3,R3,h3⟩
  case p3 =>
   rintro c st2 ⟨rfl,B2,R2,h2⟩;refine QZt (h st2 B2 ?_);rw [<- QAw] at h2;generalize (pendingOf st2).toList=ps at R2 h2
   match ps,R2,h2 with
   | [],R2,_ =>
    have:0=a₀.size:=R2;exact (O58 h1 hz this).elim
   | [p],⟨_,_,h5,h6⟩,_ =>
    have:0+p.2.1=a₀.size:=h6;rw [this] at h5;exact h5
   | _::_::_,_,h =>
    rw [QAx,QAx] at h;exact (O57 h).elim
end
end SM
namespace L2
open PySem PySem.Spec PyProof.Rows PySem.W SeqAt
noncomputable def Zhi (h:Heap):Value->List Int
 | .ref a=>match h.get? a with
  | some o=>match o.data with
   | .seq xs _=>xs.toList.map numOf
   | _=>[]
  | none=>[]
 | _=>[]
noncomputable def ZZ (h:Heap):Value->List (List Int)
 | .ref a=>match h.get? a with
  | some o=>match o.data with
   | .seq xs _=>xs.toList.map (Zhi h)
   | _=>[]
  | none=>[]
 | _=>[]
theorem ZiP {h:Heap} {a:Addr} {us:List Value} {r:List Int} (t:h.IsTuple a (List.toArray us)) (i:IntsAre us r):Zhi h (.ref a)=r:=by
 obtain ⟨o,g,c,n,d⟩:=t;unfold Zhi
 simp only [g,d];exact i.nums
theorem Zdv {h:Heap}:∀ {us:List Value} {r:List (List Int)},GrAt h us r->us.map (Zhi h)=r
 | _,_,.nil=>rfl
 | _,_,.cons ⟨a,u,e,t,i⟩ x=>by
  subst e;rw [QAp,ZiP t i,Zdv x]
theorem Zaw {h:Heap} {a:Addr} {o:Obj} {us:List Value} {n:Nat} {r:List (List Int)} (g:h.get? a=some o) (d:o.data = .seq (List.toArray us) n) (x:GrAt h us r):ZZ h (.ref a)=r:=by
 unfold ZZ
 simp only [g,d];exact Zdv x
theorem Ja {h:Heap}:∀ {vs:List Value} {S:List (List (List Int))},Grs h vs S->vs.map (ZZ h)=S
 | _,_,.nil=>rfl
 | _,_,.cons ⟨a,o,us,n,e,g,c,d,x⟩ t=>by
  subst e;rw [QAp,Zaw g d x,Ja t]
section
variable {prog:Program} {w:World} {A:Around} {E:Value->Shared->Prop} {s:Shared}
theorem ZlS {vs:List Value} {S:List (List (List Int))} {m k:Nat} {rk:List (List Int)->Int} (ht:Grs s.heap vs S) (hk:∀ r∈S,r.length=m/\∀ x∈r,x.length=k) (hu:A.units<cLine) (hrk:∀ p∈S,∀ q∈S,Za5 p q=decide (rk p<rk q)) :
  SM.LtOk (model prog w) A E s (fun x=>rk (ZZ s.heap x.1)) (tuples' false) (fun x=>x∈(pairsOf vs).toList):=by
 intro x y st Q hx hy hst q;rw [pairsOf_toList] at hx hy;have hx:=(mem_zip_self hx).2;have hy:=(mem_zip_self hy).2;obtain ⟨i,hi,ei⟩:=QBe hx;obtain ⟨j,hj,ej⟩:=QBe hy;obtain ⟨ri,hri,bi,oi,ui,mi,e1,gi,ci,di,ii⟩:=Paired.getL ht (QAb hi);obtain ⟨rj,hrj,bj,oj,uj,mj,e2,gj,cj,dj,ij⟩:=Paired.getL ht (QAb hj);have l1:=hk ri (QAt hri);have l2:=hk rj (QAt hrj);have e3:x.1 = .ref bi:=by rw [<- ei,e1]
 have e4:y.1 = .ref bj:=by rw [<- ej,e2]
 have q:Q (some (decide (rk (ZZ s.heap x.1)<rk (ZZ s.heap y.1)))) st:=q;have eq:decide (rk (ZZ s.heap x.1)<rk (ZZ s.heap y.1))=Za5 ri rj:=by
  rw [e3,e4,Zaw gi di ii,Zaw gj dj ij,hrk ri (QAt hri) rj (QAt hrj)]
 rw [eq] at q;rw [lt'_eq];refine QZs (wpS_get ?_);rw [hst,e3,e4];refine QZs (wpS_lift (wpAny_attempt (kat_lt gi di gj dj ?_)));have hsz:decide ((List.toArray ui).size<(List.toArray uj).size)=false:=by
  rw [QAg,QAg,Paired.length ii,Paired.length ij,l1.1,l2.1]
  simp
 rw [hsz];exact Zfm (k:=k) hu ii ij l1.2 l2.2 (l1.1.trans l2.1.symm) ⟨rfl,QZt q⟩
theorem Zdf {a:Addr} {vs:List Value} {S:List (List (List Int))} {n m k:Nat} {rk:List (List Int)->Int} {P:PySem.Fin->Shared->Prop} (ho:s.heap.get? a=some (seqObj "list" vs.toArray n)) (ht:Grs s.heap vs S) (hk:∀ r∈S,r.length=m/\∀ x∈r,x.length=k) (hm0:0<m) (hu:A.units+3<cLine)
  (h2:2<=vs.length) (hz:vs.length<=100000) (hrk:∀ p∈S,∀ q∈S,Za5 p q=decide (rk p<rk q)) (hd:(S.map rk).Nodup)
  (h:∀ out:List Value,out.Perm vs->(out.map fun v=>rk (ZZ s.heap v)).Pairwise (· <= ·)->P (.done (.ret .none)) { s with heap:=sortedHeap s.heap a vs (List.toArray out) }) :
  wpAny (model prog w) A (Builtin.«list.sort» ⟨[.ref a],[]⟩) P E s:=by
 have ha:a<s.heap.objs.size:=QAi ho;obtain ⟨e1,ho1⟩:∃ e1,(s.heap.update a (Obj.mapSeq fun _=>(#[]:Array Value))).get? a=some (seqObj "list" #[] e1):=⟨_,get?_update_seq ho fun _=>#[]⟩;have keep:∀ b o,b≠a->s.heap.get? b=some o->(((s.heap.update a (Obj.mapSeq fun _=>(#[]:Array Value))).push (seqObj "tuple" vs.toArray 0)).push (seqObj "list" #[] 0)).get? b=some o:=fun b o hb e=>by
  refine QAk _ (QAk _ ?_);rw [Heap.get?_update_ne _ _ _ _ hb];exact e
 have ho6:(((s.heap.update a (Obj.mapSeq fun _=>(#[]:Array Value))).push (seqObj "tuple" vs.toArray 0)).push (seqObj "list" #[] 0)).get? a=some (seqObj "list" #[] e1):=QAk _ (QAk _ ho1);have ht3:Grs (((s.heap.update a (Obj.mapSeq fun _=>(#[]:Array Value))).push (seqObj "tuple" vs.toArray 0)).push (seqObj "list" #[] 0)) vs S:=Paired.mapP ht fun v r ⟨b,o,us,m,e,g,c,d,iu⟩=>by
  have kt:∀ b o,o.cls = .type "tuple" -> s.heap.get? b=some o->(((s.heap.update a (Obj.mapSeq fun _=>(#[]:Array Value))).push (seqObj "tuple" vs.toArray 0)).push (seqObj "list" #[] 0)).get? b=some o:=fun b o c g=>keep b o (fun z=>by
   rw [z,ho] at g
   cases g;exact absurd c (by simp [seqObj])) g
  exact ⟨b,o,us,m,e,kt b o c g,c,d,GrAt.keep iu kt⟩
 rw [list_sort_plain];refine QZq (listItems_at ho rfl ?_);refine QZq (listUpdate_at ho rfl ?_ (by rw [QAg,sizeLine_eq]; exact Om.b1 ‹_› rfl) (QAh _));refine QZq (seqEpoch_at ho1 rfl ?_);refine QZq (wpAny_newTuple ?_ (by show vs.length<=_; rw [sizeLine_eq]; exact Om.b1 ‹_› rfl));refine QZq (wpAny_newList ?_ (QAh _));refine wpAny_holding ?_;have er:∀ v∈vs,ZZ (((s.heap.update a (Obj.mapSeq fun _=>(#[]:Array Value))).push (seqObj "tuple" vs.toArray 0)).push (seqObj "list" #[] 0)) v=ZZ s.heap v:=by
  have:=(Ja ht3).trans (Ja ht).symm;exact List.map_inj_left.mp this
 show wpAny (model prog w) A _ P E { s with heap:=((s.heap.update a (Obj.mapSeq fun _=>(#[]:Array Value))).push (seqObj "tuple" vs.toArray 0)).push (seqObj "list" #[] 0) }
 dsimp only;have hn2:¬ vs.toArray.size<2:=by rw [QAg]; exact O56 h2 hz
 rw [if_neg hn2,if_neg hn2];obtain ⟨fs,kt,hfl,hT⟩:=ZcQ (M:=model prog w) ht3 (fun r hr z=>by have:=(hk r hr).1; rw [z] at this; simp at this; exact (O55 hm0 this).elim);refine QZq (kat_kind kt (by exact O54 h2 hz hfl) hT rfl ?_);have hps:(pairsOf vs).size=vs.length:=pairsOf_size vs;have LO:=ZlS (prog:=prog) (w:=w) (A:=A) (E:=E) (s:={ s with heap:=((s.heap.update a (Obj.mapSeq fun _=>(#[]:Array Value))).push (seqObj "tuple" vs.toArray 0)).push (seqObj "list" #[] 0) }) (rk:=rk) ht3 hk (by exact O53 hu) hrk;generalize hh:((s.heap.update a (Obj.mapSeq fun _=>(#[]:Array Value))).push (seqObj "tuple" vs.toArray 0)).push (seqObj "list" #[] 0)=h6 at *;have hnd:((pairsOf vs).toList.map fun x=>rk (ZZ h6 x.1)).Nodup:=by
  have e:(pairsOf vs).toList.map (fun x=>rk (ZZ h6 x.1))=S.map rk:=by
   rw [pairsOf_toList,<- Ja ht3,QBa];have:(vs.zip vs).map (fun x=>rk (ZZ h6 x.1))=((vs.zip vs).map Prod.fst).map fun v=>rk (ZZ h6 v):=by rw [QBa]; rfl
   rw [this,List.map_fst_zip (QAd _)]
   rfl
  rw [e];exact hd
 refine QZq (wpAny_mono (SM.wp_sort (a₀:=pairsOf vs) (st:=SortSt.mk' (tuples' false) (vs.toArray.zip vs.toArray) #[] 7 none)
  (Q:=fun _ st'=>SM.SB (tuples' false) (pairsOf vs) st'/\SM.Srt (fun x=>rk (ZZ h6 x.1)) (arrOf st') 0 (pairsOf vs).size)
  LO hnd ⟨Array.Perm.refl _,rfl,rfl⟩ rfl (by exact O52 h2 hz hfl hps) fun st' b1 b2=>⟨b1,b2⟩) ?_ fun _ _ e=>e)
 rintro ⟨⟨⟩,st'⟩ s' ⟨rfl,B,hS⟩
 dsimp only;have hsz:((arrOf st').map (·.2)).size=vs.length:=by rw [Array.size_map,B.size,hps]
 refine QZq (seqEpoch_at ho6 rfl ?_);refine QZq (listUpdate_at ho6 rfl ?_ (QAh _) (QAs (Nat.le_of_eq hsz) (by rw [sizeLine_eq]; exact Om.b1 ‹_› rfl)));rw [B.failed]
 simp only [bne_self_eq_false,QDd,if_false];have hpl:(arrOf st').toList.Perm (vs.zip vs):=by
  rw [<- pairsOf_toList];exact Array.perm_iff_toList_perm.mp B.perm
 have hz2:(arrOf st').size=vs.length:=by rw [B.size,hps]
 refine QZr ?_;have hq:=h ((arrOf st').toList.map (·.2)) ?_ ?_
 ·unfold sortedHeap at hq;rw [hh] at hq;have ea:(arrOf st').map (·.2)=List.toArray ((arrOf st').toList.map (·.2)):=by
   apply Array.ext'
   rw [Array.toList_map]
  rw [ea];exact hq
 ·have:=hpl.map Prod.snd;rw [List.map_snd_zip (QAd _)] at this;exact this
 ·rw [QBa,List.pairwise_iff_getElem];intro i j hi hj hij;rw [QAa,QAw] at hi hj;rw [QBk,QBk,QCj,QCj];have hs:=hS i j (QAh _) (QBz hij) (by exact O51 hfl hps hsz hz2 hj);have g1:=SM.g_eq hi;have g2:=SM.g_eq hj;rw [getElem?_pos (arrOf st') i hi] at g1;rw [getElem?_pos (arrOf st') j hj] at g2;rw [<- QZl g1,<- QZl g2] at hs;have m1:=mem_zip_self (hpl.mem_iff.mp (Array.getElem_mem_toList hi));have m2:=mem_zip_self (hpl.mem_iff.mp (Array.getElem_mem_toList hj));show rk (ZZ s.heap ((arrOf st')[i]).2)<=rk (ZZ s.heap ((arrOf st')[j]).2);rw [<- m1.1,<- m2.1,<- er _ m1.2,<- er _ m2.2];exact hs
theorem Zgo {d:Addr} {vs:List Value} {S:List (List (List Int))} {m k:Nat} {rk:List (List Int)->Int} {Q:Value->Shared->Prop} (hl:s.heap.IsList d vs.toArray) (ht:Grs s.heap vs S) (hk:∀ r∈S,r.length=m/\∀ x∈r,x.length=k) (hm0:0<m) (hu:A.units+6<cLine)
  (h2:2<=vs.length) (hz:vs.length<=100000) (hrk:∀ p∈S,∀ q∈S,Za5 p q=decide (rk p<rk q)) (hd:(S.map rk).Nodup)
  (h:∀ (out:List Value) (l:Addr) (h1 h':Heap) (e:Nat),out.Perm vs->(out.map fun v=>rk (ZZ s.heap v)).Pairwise (· <= ·)->(∀ b o,s.heap.get? b=some o->h1.get? b=some o)->h1.objs.size<=l->(∀ b o,h1.get? b=some o->h'.get? b=some o)->h'.get? l=some (seqObj "list" (List.toArray out) e)->Q (.ref l) { s with heap:=h' }) :
  wpAny (model prog w) A (call (.builtin "sorted") [.ref d]) Q E s:=by
 obtain ⟨o,ho,hc,n,hd'⟩:=id hl;refine Calls.call_function_entry kind_sorted plain_sorted entry_sorted (args_sorted1 _) ?_;unfold Builtin.«sorted»;refine QZq (m:=checkCount "sorted" 1 1 _) (QZr (QZq ?_));have hz':vs.toArray.size<=sizeLine:=by rw [QAg,sizeLine_eq]; exact Om.b1 ‹_› rfl
 refine wpAny_collect_seq (hsz:=hz') d (.inl rfl) ho hc hd' fun h1 k1=>?_;rw [List.toList_toArray];refine QZq (wpAny_newList ?_ (by rw [sizeLine_eq]; exact Om.b1 ‹_› rfl));have g:(h1.push (seqObj "list" vs.toArray 0)).get? h1.objs.size=some (seqObj "list" vs.toArray 0):=QAy _ rfl;have ht1:Grs (h1.push (seqObj "list" vs.toArray 0)) vs S:=Paired.mapP ht fun v r ⟨b,o,us,m,e,g,c,d,iu⟩=>⟨b,o,us,m,e,QAk _ (k1 _ _ g),c,d,GrAt.keep iu fun b o _ g=>QAk _ (k1 _ _ g)⟩
 have er:∀ v∈vs,ZZ (h1.push (seqObj "list" vs.toArray 0)) v=ZZ s.heap v:=List.map_inj_left.mp ((Ja ht1).trans (Ja ht).symm);refine QZq (wpAny_holding (wpAny_call_entry slot_list_sort ⟨_,g,rfl⟩ entry_list_sort (Zdf (rk:=rk) g ht1 hk hm0 (by show A.units+1+1+3<cLine; exact O50 hu) h2 hz hrk hd fun out hp hs=>⟨_,rfl,?_⟩) (args_list_sort _)));obtain ⟨e,he⟩:=sortedHeap_at (out:=List.toArray out) g;refine QZr ⟨_,rfl,h out h1.objs.size h1 _ e hp ?_ k1 (QAd _) (fun b o x=>?_) he⟩
 ·have:(out.map fun v=>rk (ZZ s.heap v))=out.map fun v=>rk (ZZ (h1.push (seqObj "list" vs.toArray 0)) v):=QBx fun v hv=>by rw [er v (hp.mem_iff.mp hv)]
  rw [this];exact hs
 ·have hb:=QAi x;rw [sortedHeap_old (QAz hb) (by rw [size_push']; exact QCz hb)];exact QAk _ x
end
noncomputable def Zak:Value->Addr
 | .ref a=>a
 | _=>0
theorem ZbB:∀ {ps:List Addr} {us:List Value},Vals (ps.map V.ref) us->us=ps.map Value.ref
 | [],_,h=>by cases h; rfl
 | p::ps,_,h=>by
  rw [QAp] at h
  cases h with
  | cons r1 r2 =>
   cases r1;rw [QAp,ZbB r2]
theorem Zdu:∀ ps:List Addr,Vals (ps.map V.ref) (ps.map Value.ref)
 | []=>.nil
 | p::ps=>.cons rfl (Zdu ps)
noncomputable def TGL (H:Hp) (q:Addr) (r:List (List Int)):Prop:=∃ rs:List Addr,H q=some (.tup (rs.map V.ref))/\Paired (fun a (x:List Int)=>H a=some (.tup (x.map V.int))) rs r
noncomputable def Zgu:List V->Hp->VK->Prop:=fun xs H Q=>∃ (d:Addr) (ps:List Addr) (S:List (List (List Int))) (m k:Nat) (rk:List (List Int)->Int),xs=[.ref d]/\H d=some (.lst (ps.map V.ref))/\Paired (TGL H) ps S/\(∀ r∈S,r.length=m/\∀ x∈r,x.length=k)/\0<m/\S.length<=100000/\(∀ p∈S,∀ q∈S,Za5 p q=decide (rk p<rk q))/\(S.map rk).Nodup /\
 ∀ (l:Addr) (qs:List Addr) (S':List (List (List Int))),H l=none->Paired (TGL H) qs S'->S'.Perm S->(S'.map rk).Pairwise (· <= ·)->Q (.ref l) (upd H l (.lst (qs.map V.ref)))
theorem Zc3 {X:Cx} (hu:X.A.units+6<cLine):Y5 X (.builtin "sorted") Zgu:=by
 intro pins s σ H xs us Q I r h;obtain ⟨d,ps,S,m,k,rk,rfl,hd,hP,hk,hm0,hz,hrk,hnd,q⟩:=h;obtain ⟨u,rfl,rx⟩:=J1 r
 cases rx;obtain ⟨z,its,n,rv,hl,e⟩:=I.lstM hd;have row:∀ {rs:List Addr} {R:List (List Int)} {us:List Value},Paired (fun a (x:List Int)=>H a=some (.tup (x.map V.int))) rs R->Vals (rs.map V.ref) us->GrAt s.heap us R:=by
  intro rs R us hP
  induction hP generalizing us with
  | nil=>intro rv; cases rv; exact .nil
  | @cons a x rs R ha _ ih =>
   intro rv;rw [QAp] at rv
   cases rv with
   | cons r1 r2 =>
    cases r1;obtain ⟨_,u1,ru1,p1⟩:=I.hok a _ ha;have p1:IsTupN s.heap a u1.toArray:=p1;exact .cons ⟨a,u1,rfl,p1.is,YC ru1⟩ (ih r2)
 have tup:∀ {ps:List Addr} {S:List (List (List Int))} {its:List Value},Paired (TGL H) ps S->Vals (ps.map V.ref) its->Grs s.heap its S:=by
  intro ps S its hP
  induction hP generalizing its with
  | nil=>intro rv; cases rv; exact .nil
  | @cons q r ps S hq _ ih =>
   intro rv;rw [QAp] at rv
   cases rv with
   | cons r1 r2 =>
    cases r1;obtain ⟨rs,hq,hr⟩:=hq;obtain ⟨_,us,ru,o,g,c,m,e⟩:=I.hok q _ hq;exact .cons ⟨q,o,us,m,rfl,g,c,congrArg Prod.fst e,row hr ru⟩ (ih r2)
 have ht:=tup hP rv;have hlen:its.length=S.length:=Paired.length ht;have hpl:ps.length=S.length:=hP.length;have hits:=ZbB rv
 by_cases h2:its.length<2
 ·refine Zgn (d:=d) (vs:=its) ⟨_,e,rfl,n,rfl⟩ h2 fun l h1 h' e' k1 hl1 k2 he=>?_;have I1:Inv X pins σ H { s with heap:=h1 }:=I.kept (t':=s.toks) k1;refine ⟨.ref l,_,I1.laid (t':=s.toks) (o:=.lst (ps.map V.ref)) k2 hl1 ?_,rfl,q _ ps S (I1.hok.fresh hl1) hP (List.Perm.refl _) ?_⟩
  ·exact ⟨by rw [QAa,hpl,sizeLine_eq]; exact Om.b1 ‹_› rfl,its,e',rv,by simpa using he⟩
  ·match S,hlen with
   | [],_=>exact .nil
   | [x],_=>exact List.pairwise_singleton _ _
   | _::_::_,hlen=>rw [QAx,QAx] at hlen; exact (O49 hl ‹_› h2 hlen).elim
 ·refine Zgo (d:=d) (vs:=its) (rk:=rk) ⟨_,e,rfl,n,rfl⟩ ht hk hm0 hu (by exact O48 hz hlen hpl h2) (by exact Om.b4 ‹_› ‹_› rfl) hrk hnd fun out l h1 h' e' hp hs k1 hl1 k2 he=>?_;have I1:Inv X pins σ H { s with heap:=h1 }:=I.kept (t':=s.toks) k1;have hqs:out=(out.map Zak).map Value.ref:=by
   rw [QBa];have:out.map id=out.map (Value.ref ∘ Zak):=QBx fun v hv=>by
    have:=hp.mem_iff.mp hv;rw [hits] at this;obtain ⟨p,_,rfl⟩:=QZd.mp this
    rfl
   rw [<- this,List.map_id]
  have hqp:(out.map Zak).Perm ps:=by
   have:=hp.map Zak;rw [hits,QBa] at this;have e2:ps.map (Zak ∘ Value.ref)=ps:=by
    have:(Zak ∘ Value.ref)=id:=rfl;rw [this,List.map_id]
   rw [e2] at this;exact this
  have hS':(out.map (ZZ s.heap)).Perm S:=by
   have:=hp.map (ZZ s.heap);rw [Ja ht] at this;exact this
  refine ⟨.ref l,_,I1.laid (t':=s.toks) (o:=.lst ((out.map Zak).map V.ref)) k2 hl1 ?_,rfl,q _ (out.map Zak) (out.map (ZZ s.heap)) (I1.hok.fresh hl1) ?_ hS' ?_⟩
  ·exact ⟨by rw [QAa,hqp.length_eq,hpl,sizeLine_eq]; exact Om.b1 ‹_› rfl,out,e',by have:=Zdu (out.map Zak); rw [<- hqs] at this; exact this,by simpa using he⟩
  ·have key:∀ v∈out,TGL H (Zak v) (ZZ s.heap v):=fun v hv=>by
    have hv:=hp.mem_iff.mp hv;obtain ⟨i,hi,ev⟩:=QBe hv;obtain ⟨ri,hri,bi,oi,ui,mi,e1,gi,ci,di,ii⟩:=Paired.getL ht (QAb hi);have hip:i<ps.length:=by exact O47 hlen hpl hi
    obtain ⟨r2,hr2,tg⟩:=Paired.getL hP (QAb hip);have e3:its[i]=Value.ref ps[i]:=by
     have:its[i]? = (ps.map Value.ref)[i]?:=by rw [<- hits]
     rw [QAb hi,QAe,QAb hip] at this;exact QZl this
    rw [hri] at hr2
    cases hr2;have e4:ZZ s.heap v=ri:=by rw [<- ev,e1]; exact Zaw gi di ii
    have e5:Zak v=ps[i]:=by rw [<- ev,e3]; rfl
    rw [e4,e5];exact tg
   have go:∀ l:List Value,(∀ v∈l,v∈out)->Paired (TGL H) (l.map Zak) (l.map (ZZ s.heap)):=by
    intro l
    induction l with
    | nil=>intro _; exact .nil
    | cons v l ih=>exact fun hl=>.cons (key v (hl v QAj)) (ih fun u hu=>hl u (QAm _ hu))
   exact go out fun _ h=>h
  ·rw [QBa];exact hs
end L2
namespace My
open PySem L2
section
variable {n:Nat} {R F:List (List Int)} {L:List (List (List Int))}
noncomputable def Own (n:Nat) (R h:List (List Int)):Prop:=Ren n h/\ZY n R h=R
noncomputable def ZcC (L:List (List (List Int))) (g0:List (List Int)):List (List (List Int)):=L.map fun g=>Z9 g (Yo g0)
theorem ZlH (ok:OkRows n R) (hl:R.length=n) (h1:1<=n) (ld:LeadOf n R F L) {g0:List (List Int)} (rg:Ren n g0):(ZcC L g0).Nodup:=by
 have nd:L.Nodup:=by
  rw [ld.all];exact List.Pairwise.filter _ (ZkK ok hl h1)
 refine QZm.mpr (List.Pairwise.imp_of_mem ?_ nd);intro x y hx hy ne e;have rx:=((JI ok hl h1 ld).mp hx).1;have ry:=((JI ok hl h1 ld).mp hy).1;have e2:Z9 (Z9 x (Yo g0)) g0=Z9 (Z9 y (Yo g0)) g0:=congrArg (fun z=>Z9 z g0) e;rw [JB rx rg.und rg,JB ry rg.und rg,(Y4 rg).2.1,(Y4 rx).2.2.2.1,(Y4 ry).2.2.2.1] at e2;exact ne e2
theorem Zkm (ok:OkRows n R) (hl:R.length=n) (h1:1<=n) (ld:LeadOf n R F L) {g0:List (List Int)} (hg:g0∈L) {h:List (List Int)}:h∈ZcC L g0↔Own n R h:=by
 obtain ⟨r0,e0⟩:=(JI ok hl h1 ld).mp hg
 constructor
 ·intro hh;obtain ⟨g,hg',rfl⟩:=QZd.mp hh;obtain ⟨rg,eg⟩:=(JI ok hl h1 ld).mp hg';refine ⟨rg.beh r0.und,?_⟩;rw [<- Zav ok hl rg r0.und,eg,<- e0,Zbe ok hl r0]
 ·rintro ⟨rh,eh⟩;refine QZd.mpr ⟨Z9 h g0,(JI ok hl h1 ld).mpr ⟨rh.beh r0,by rw [<- Zav ok hl rh r0,eh,e0]⟩,?_⟩;rw [JB rh r0 r0.und,(Y4 r0).1,(Y4 rh).2.2.2.1]
end
section
variable {α:Type}
noncomputable def Jy (B:Int) (v:α->Int):List α->Int
 | []=>0
 | x::xs=>v x*B ^ xs.length+Jy B v xs
theorem Zbk {B:Int} {v:α->Int} (hB:0<B):∀ (l:List α),(∀ x∈l,0<=v x/\v x<B)->0<=Jy B v l/\Jy B v l<B ^ l.length
 | [],_=>⟨QCi _,by simp [Jy]⟩
 | x::l,h=>by
  obtain ⟨i1,i2⟩:=Zbk hB l fun y hy=>h y (QAm _ hy)
  obtain ⟨h1,h2⟩:=h x QAj;have hp:0<B ^ l.length:=Int.pow_pos hB;have m1:=Int.mul_nonneg h1 (QBp hp);have m2:=QEl (show v x+1<=B by exact O46 h2) (QBp hp);rw [Int.add_mul,Int.one_mul] at m2;unfold Jy;rw [QAx,Int.pow_succ,Int.mul_comm _ B]
  constructor <;> omega
theorem ZbL {B:Int} {v:α->Int} (hB:0<B) {x y:α} {xs ys:List α} (hl:xs.length=ys.length) (hx:∀ z∈x::xs,0<=v z/\v z<B) (hy:∀ z∈y::ys,0<=v z/\v z<B) (h:v x<v y):Jy B v (x::xs)<Jy B v (y::ys):=by
 obtain ⟨i1,i2⟩:=Zbk hB xs fun y hy=>hx y (QAm _ hy)
 obtain ⟨i3,i4⟩:=Zbk hB ys fun z hz=>hy z (QAm _ hz)
 have hp:0<B ^ ys.length:=Int.pow_pos hB;have m2:=QEl (show v x+1<=v y by exact O46 h) (QBp hp);rw [Int.add_mul,Int.one_mul] at m2;unfold Jy;rw [hl] at i2 ⊢;omega
theorem Zez {B:Int} {v:α->Int} (hB:0<B):∀ (l m:List α),l.length=m.length->(∀ x∈l,0<=v x/\v x<B)->(∀ x∈m,0<=v x/\v x<B)->(∀ x∈l,∀ y∈m,v x=v y->x=y)->Jy B v l=Jy B v m->l=m
 | [],[],_,_,_,_,_=>rfl
 | [],_::_,h,_,_,_,_=>by cases h
 | _::_,[],h,_,_,_,_=>by cases h
 | x::l,y::m,h,h1,h2,hi,e=>by
  have hl:l.length=m.length:=Nat.succ.inj h;have hv:v x=v y:=by
   rcases Int.lt_trichotomy (v x) (v y) with z | z | z
   ·have:=ZbL hB hl h1 h2 z;exact (O45 e this).elim
   ·exact z
   ·have:=ZbL hB hl.symm h2 h1 z;exact (O44 e this).elim
  have ex:=hi x QAj y QAj hv;have e2:Jy B v l=Jy B v m:=by
   have:v x*B ^ l.length+Jy B v l=v y*B ^ m.length+Jy B v m:=e;rw [hv,hl] at this;omega
  rw [ex,Zez hB l m hl (fun z hz=>h1 z (QAm _ hz)) (fun z hz=>h2 z (QAm _ hz)) (fun a ha b hb=>hi a (QAm _ ha) b (QAm _ hb)) e2]
end
noncomputable def v1 (x:Int):Int:=x
noncomputable def rkT (l:List Int):Int:=Jy 6 v1 l
noncomputable def rkG (n:Nat) (g:List (List Int)):Int:=Jy (6 ^ n) rkT g
theorem Zfo:∀ (l m:List Int),l.length=m.length->(∀ x∈l,0<=x/\x<6)->(∀ x∈m,0<=x/\x<6)->ZaT l m=decide (rkT l<rkT m)
 | [],[],_,_,_=>rfl
 | [],_::_,h,_,_=>by cases h
 | _::_,[],h,_,_=>by cases h
 | x::l,y::m,h,h1,h2=>by
  have hl:l.length=m.length:=Nat.succ.inj h;unfold ZaT
  by_cases e:x=y
  ·subst e;rw [if_pos rfl,Zfo l m hl (fun z hz=>h1 z (QAm _ hz)) (fun z hz=>h2 z (QAm _ hz))];have:rkT (x::l)<rkT (x::m)↔rkT l<rkT m:=by
    show v1 x*6 ^ l.length+Jy 6 v1 l<v1 x*6 ^ m.length+Jy 6 v1 m↔Jy 6 v1 l<Jy 6 v1 m;rw [hl];exact O43
   rw [QBf,QZg,QZg,this]
  ·rw [if_neg e];rw [QBf,QZg,QZg]
   constructor
   ·intro z;exact ZbL (by decide) hl h1 h2 z
   ·intro z
    rcases Int.lt_trichotomy x y with q | q | q
    ·exact q
    ·exact absurd q e
    ·have:rkT (y::m)<rkT (x::l):=ZbL (by decide) hl.symm h2 h1 q;exact (O42 z this).elim
structure Dig (n:Nat) (g:List (List Int)):Prop where
 len:g.length=3
 row:∀ r∈g,r.length=n/\∀ x∈r,0<=x/\x<6
theorem Ren.dig {n:Nat} {g:List (List Int)} (rg:Ren n g) (h6:n<=6):Dig n g:=⟨rg.len,fun r hr=>⟨(rg.row r hr).len,fun x hx=>by have:=(rg.row r hr).rg x hx; omega⟩⟩
theorem Zce {n:Nat} {r:List Int} (hl:r.length=n) (h:∀ x∈r,0<=x/\x<6):0<=rkT r/\rkT r<6 ^ n:=by
 have:=Zbk (B:=6) (v:=v1) (by decide) r h;rw [hl] at this;exact this
theorem Zhf {l m:List Int} (hl:l.length=m.length) (h1:∀ x∈l,0<=x/\x<6) (h2:∀ x∈m,0<=x/\x<6) (e:rkT l=rkT m):l=m:=Zez (by decide) l m hl h1 h2 (fun _ _ _ _ e=>e) e
theorem Zfl {n:Nat}:∀ (g h:List (List Int)),g.length=h.length->(∀ r∈g,r.length=n/\∀ x∈r,0<=x/\x<6)->(∀ r∈h,r.length=n/\∀ x∈r,0<=x/\x<6)->Za5 g h=decide (rkG n g<rkG n h)
 | [],[],_,_,_=>rfl
 | [],_::_,h,_,_=>by cases h
 | _::_,[],h,_,_=>by cases h
 | x::l,y::m,h,h1,h2=>by
  have hl:l.length=m.length:=Nat.succ.inj h;have hB:(0:Int)<6 ^ n:=Int.pow_pos (by decide);have r1:∀ z∈x::l,0<=rkT z/\rkT z<6 ^ n:=fun z hz=>Zce (h1 z hz).1 (h1 z hz).2
  have r2:∀ z∈y::m,0<=rkT z/\rkT z<6 ^ n:=fun z hz=>Zce (h2 z hz).1 (h2 z hz).2
  have hxy:x.length=y.length:=by rw [(h1 x QAj).1,(h2 y QAj).1]
  unfold Za5
  by_cases e:x=y
  ·subst e;rw [if_pos rfl,Zfl l m hl (fun z hz=>h1 z (QAm _ hz)) (fun z hz=>h2 z (QAm _ hz))];have:rkG n (x::l)<rkG n (x::m)↔rkG n l<rkG n m:=by
    show rkT x*(6 ^ n) ^ l.length+Jy (6 ^ n) rkT l<rkT x*(6 ^ n) ^ m.length+Jy (6 ^ n) rkT m↔Jy (6 ^ n) rkT l<Jy (6 ^ n) rkT m;rw [hl];exact O43
   rw [QBf,QZg,QZg,this]
  ·rw [if_neg e,Zfo x y hxy (h1 x QAj).2 (h2 y QAj).2];rw [QBf,QZg,QZg]
   constructor
   ·intro z;exact ZbL hB hl r1 r2 z
   ·intro z
    rcases Int.lt_trichotomy (rkT x) (rkT y) with q | q | q
    ·exact q
    ·exact absurd (Zhf hxy (h1 x QAj).2 (h2 y QAj).2 q) e
    ·have:rkG n (y::m)<rkG n (x::l):=ZbL hB hl.symm r2 r1 q;exact (O42 z this).elim
theorem Dig.lt {n:Nat} {g h:List (List Int)} (dg:Dig n g) (dh:Dig n h):Za5 g h=decide (rkG n g<rkG n h):=Zfl g h (dg.len.trans dh.len.symm) dg.row dh.row
theorem Dig.inj {n:Nat} {g h:List (List Int)} (dg:Dig n g) (dh:Dig n h) (e:rkG n g=rkG n h):g=h :=
 Zez (Int.pow_pos (by decide)) g h (dg.len.trans dh.len.symm) (fun r hr=>Zce (dg.row r hr).1 (dg.row r hr).2) (fun r hr=>Zce (dh.row r hr).1 (dh.row r hr).2) (fun x hx y hy e=>Zhf ((dg.row x hx).1.trans (dh.row y hy).1.symm) (dg.row x hx).2 (dh.row y hy).2 e) e
theorem Zmv {n:Nat} {S:List (List (List Int))} (nd:S.Nodup) (hd:∀ g∈S,Dig n g):(S.map (rkG n)).Nodup:=by
 refine QZm.mpr (List.Pairwise.imp_of_mem ?_ nd);intro x y hx hy ne e;exact ne ((hd x hx).inj (hd y hy) e)
theorem Zhe {n:Nat}:∀ {A B:List (List (List Int))},(∀ g∈A,Dig n g)->(∀ g∈B,Dig n g)->A.map (rkG n)=B.map (rkG n)->A=B
 | [],[],_,_,_=>rfl
 | [],_::_,_,_,e=>by cases e
 | _::_,[],_,_,e=>by cases e
 | a::A,b::B,h1,h2,e=>by
  rw [QAp,QAp] at e;obtain ⟨e1,e2⟩:=List.cons.inj e;rw [(h1 a QAj).inj (h2 b QAj) e1,Zhe (fun g hg=>h1 g (QAm _ hg)) (fun g hg=>h2 g (QAm _ hg)) e2]
theorem Zh7 {n:Nat} {R:List (List Int)} (h6:n<=6) {A B A' B':List (List (List Int))} (hA:A.Nodup) (hB:B.Nodup) (mA:∀ h,h∈A↔Own n R h) (mB:∀ h,h∈B↔Own n R h) (pA:A'.Perm A) (pB:B'.Perm B) (sA:(A'.map (rkG n)).Pairwise (· <= ·)) (sB:(B'.map (rkG n)).Pairwise (· <= ·)):A'=B':=by
 have p:A.Perm B:=(QEr hA hB).mpr fun h=>(mA h).trans (mB h).symm
 have p':A'.Perm B':=pA.trans (p.trans pB.symm);refine Zhe (n:=n) (fun g hg=>?_) (fun g hg=>?_) (JO (p'.map _) sA sB)
 ·exact ((mA g).mp (pA.mem_iff.mp hg)).1.dig h6
 ·exact ((mB g).mp (pB.mem_iff.mp hg)).1.dig h6
section
variable {n:Nat} {R:List (List Int)}
theorem Zcd:∀ {a b:List Nat},toI a=toI b->a=b
 | [],[],_=>rfl
 | [],_::_,e=>by cases e
 | _::_,[],e=>by cases e
 | x::a,y::b,e=>by
  have e:(x:Int)::toI a=(y:Int)::toI b:=e;obtain ⟨e1,e2⟩:=List.cons.inj e;rw [Zcd e2,show x=y by exact Om.e1 ‹_›]
theorem Zba {a:List Int} (t:Turn n a):∃ r∈YY n n,a=toI r:=by
 have e:a=toI (a.map Int.toNat):=by
  unfold toI;rw [QBa];have:a.map id=a.map (fun x=>((x.toNat:Nat):Int)):=QBx fun x hx=>by
   have:=t.rg x hx;show x=((x.toNat:Nat):Int);exact O41 this
  rw [List.map_id] at this;exact this
 refine ⟨a.map Int.toNat,ZdF n _ (by rw [QAa,t.len]) ?_ fun x hx=>?_,e⟩
 ·refine QZm.mpr (List.Pairwise.imp_of_mem ?_ t.nd);intro x y hx hy ne e;have:=t.rg x hx;have:=t.rg y hy;exact ne (by exact O40 e ‹_› this)
 ·obtain ⟨y,hy,rfl⟩:=QZd.mp hx;have:=t.rg y hy;omega
theorem Zbh (n:Nat):∀ k,(YY n k).Nodup
 | 0=>List.nodup_cons.mpr ⟨by simp,QBr⟩
 | k+1=>by
  refine List.pairwise_flatMap.mpr ⟨fun l _=>?_,?_⟩
  ·refine QZm.mpr (List.Pairwise.imp ?_ (List.Pairwise.filter _ (QZk.mp QCh)));intro x y ne e;exact ne (List.cons.inj (List.append_cancel_left e)).1
  ·refine List.Pairwise.imp_of_mem ?_ (Zbh n k);intro a b ha hb ne x hx y hy e;obtain ⟨_,_,rfl⟩:=QZd.mp hx;obtain ⟨_,_,rfl⟩:=QZd.mp hy;exact ne (List.append_inj_left' e rfl)
end
end My
namespace My
open PySem L2
theorem Zfv {α:Type} (p:α->Bool):∀ L:List α,L.length=(L.filter p).length+(L.filter fun y=>!p y).length
 | []=>rfl
 | x::L=>by
  have ih:=Zfv p L
  cases h:p x
  ·rw [QDq (by rw [h]; simp),QDp (by rw [h]; rfl),QAx,QAx];omega
  ·rw [QDp h,QDq (by rw [h]; simp),QAx,QAx];omega
theorem Zfx {α β:Type} [DecidableEq β] (f:α->β) (m:Nat):∀ (k:Nat) (L:List α),L.length=k->(∀ x∈L,(L.filter fun y=>decide (f y=f x)).length=m)->m ∣ L.length:=by
 intro k
 induction k using Nat.strongRecOn with
 | _ k ih =>
  intro L hL h
  match L,hL,h with
  | [],_,_=>exact Nat.dvd_zero m
  | x::L,hL,h =>
   have hx:=h x QAj;generalize hM:x::L=M at hL h hx;have hxM:x∈M:=by rw [<- hM]; exact QAj
   have e:M.length=(M.filter fun y=>decide (f y=f x)).length+(M.filter fun y=>!decide (f y=f x)).length:=by
    exact Zfv (fun y=>decide (f y=f x)) M
   have hm:0<m:=by
    rw [<- hx];exact QDt (QZo.mpr ⟨hxM,QZh rfl⟩)
   have hd:m ∣ (M.filter fun y=>!decide (f y=f x)).length:=by
    refine ih _ (by exact O39 hL hx e hm) _ rfl fun y hy=>?_;obtain ⟨hy1,hy2⟩:=QZo.mp hy;have hne:f y≠f x:=fun z=>by rw [z,QZh rfl] at hy2; cases hy2
    rw [List.filter_filter,<- h y hy1]
    congr 1
    refine List.filter_congr fun z _=>?_
    by_cases hz:f z=f y
    ·rw [QZh hz,QZi (fun q=>hne (hz.symm.trans q))]
     rfl
    ·rw [QZi hz]
     rfl
   rw [e,hx];exact Nat.dvd_add (Nat.dvd_refl m) hd
noncomputable def Zir (n:Nat):List (List (List Int)):=(YY n n).flatMap fun a=>(YY n n).flatMap fun b=>(YY n n).map fun c=>[toI a,toI b,toI c]
theorem ZbT {α β:Type} {g:α->List β} {m:Nat}:∀ (l:List α),(∀ x∈l,(g x).length=m)->(l.flatMap g).length=l.length*m
 | [],_=>by simp
 | x::l,h=>by rw [QDj,QAo,QAx,QCt,h x QAj,ZbT l fun y hy=>h y (QAm _ hy),Nat.add_comm]
theorem ZfH (n:Nat):(Zir n).length=(YY n n).length*((YY n n).length*(YY n n).length) :=
 ZbT _ fun a _=>ZbT _ fun b _=>QAa _
theorem ZbH {n:Nat} {r:List Nat} (h:r∈YY n n):Turn n (toI r):=by
 obtain ⟨rl,rnd,rrg⟩:=Zcz n r h;refine ⟨by rw [Yx,rl],?_,fun x hx=>?_⟩
 ·exact QZm.mpr (rnd.imp fun q e=>q (by exact Om.e1 ‹_›))
 ·obtain ⟨y,hy,rfl⟩:=QZd.mp hx;have:=rrg y hy;omega
theorem allR_mem {n:Nat} {g:List (List Int)}:g∈Zir n↔Ren n g:=by
 constructor
 ·intro h;obtain ⟨a,ha,h⟩:=QZp.mp h;obtain ⟨b,hb,h⟩:=QZp.mp h;obtain ⟨c,hc,rfl⟩:=QZd.mp h;exact Ren.of3 (ZbH ha) (ZbH hb) (ZbH hc)
 ·intro h;obtain ⟨a,b,c,rfl,ta,tb,tc⟩:=h.three;obtain ⟨a,ha,rfl⟩:=Zba ta;obtain ⟨b,hb,rfl⟩:=Zba tb;obtain ⟨c,hc,rfl⟩:=Zba tc;exact QZp.mpr ⟨a,ha,QZp.mpr ⟨b,hb,QZd.mpr ⟨c,hc,rfl⟩⟩⟩
theorem ZkY (n:Nat):(Zir n).Nodup:=by
 refine List.pairwise_flatMap.mpr ⟨fun a _=>List.pairwise_flatMap.mpr ⟨fun b _=>?_,?_⟩,?_⟩
 ·refine QZm.mpr (List.Pairwise.imp ?_ (Zbh n n));intro x y ne e;exact ne (Zcd (List.cons.inj (List.cons.inj (List.cons.inj e).2).2).1)
 ·refine List.Pairwise.imp ?_ (Zbh n n);intro x y ne g hg h hh e;obtain ⟨_,_,rfl⟩:=QZd.mp hg;obtain ⟨_,_,rfl⟩:=QZd.mp hh;exact ne (Zcd (List.cons.inj (List.cons.inj e).2).1)
 ·refine List.Pairwise.imp ?_ (Zbh n n);intro x y ne g hg h hh e;obtain ⟨_,_,hg⟩:=QZp.mp hg;obtain ⟨_,_,hh⟩:=QZp.mp hh;obtain ⟨_,_,rfl⟩:=QZd.mp hg;obtain ⟨_,_,rfl⟩:=QZd.mp hh;exact ne (Zcd (List.cons.inj e).1)
theorem Zhk {n:Nat} {R:List (List Int)} (ok:OkRows n R) (hl:R.length=n) {B:List (List (List Int))} (nd:B.Nodup) (mm:∀ h,h∈B↔Own n R h):B.length ∣ (Zir n).length:=by
 refine Zfx (fun g=>ZY n R g) B.length _ (Zir n) rfl fun g0 h0=>?_;have r0:=allR_mem.mp h0;have p:((Zir n).filter fun y=>decide (ZY n R y=ZY n R g0)).Perm (B.map fun h=>Z9 h g0):=by
  refine (QEr ((ZkY n).filter _) ?_).mpr fun g=>?_
  ·refine QZm.mpr (List.Pairwise.imp_of_mem ?_ nd);intro x y hx hy ne e;have rx:=((mm x).mp hx).1;have ry:=((mm y).mp hy).1;have e2:Z9 (Z9 x g0) (Yo g0)=Z9 (Z9 y g0) (Yo g0):=congrArg (fun z=>Z9 z (Yo g0)) e;rw [JB rx r0 r0.und,JB ry r0 r0.und,(Y4 r0).1,(Y4 rx).2.2.2.1,(Y4 ry).2.2.2.1] at e2;exact ne e2
  ·rw [QZo,QZg,allR_mem,QZd]
   constructor
   ·rintro ⟨rg,e⟩;refine ⟨Z9 g (Yo g0),(mm _).mpr ⟨rg.beh r0.und,?_⟩,?_⟩
    ·rw [<- Zav ok hl rg r0.und,e,Zbe ok hl r0]
    ·rw [JB rg r0.und r0,(Y4 r0).2.1,(Y4 rg).2.2.2.1]
   ·rintro ⟨h,hh,rfl⟩;obtain ⟨rh,eh⟩:=(mm h).mp hh;exact ⟨rh.beh r0,by rw [<- Zav ok hl rh r0,eh]⟩
 rw [p.length_eq,QAa]
noncomputable def fac:Nat->Nat
 | 0=>1
 | n+1=>fac n*(n+1)
theorem Zdx:∀ n,n<7->(YY n n).length=fac n:=by decide +kernel
theorem Zkn {n:Nat} {R:List (List Int)} (ok:OkRows n R) (hl:R.length=n) (h6:n<=6) {B:List (List (List Int))} (nd:B.Nodup) (mm:∀ h,h∈B↔Own n R h):fac n ^ 3 / B.length*B.length=fac n ^ 3:=by
 have h:=Zhk ok hl nd mm;rw [ZfH,Zdx n (by exact Om.f3 ‹_›)] at h;have e:fac n ^ 3=fac n*(fac n*fac n):=by rw [Nat.pow_succ,Nat.pow_succ,Nat.pow_one,Nat.mul_assoc]
 rw [e];exact Nat.div_mul_cancel h
theorem Zdy {n:Nat} {R:List (List Int)} (ok:OkRows n R) (hl:R.length=n):Own n R (YT n):=by
 refine ⟨ZaG n,?_⟩;have h:=Zdt (ZaP ok hl);rw [YW ok hl (ZaG n)] at h;exact ZcO h
theorem Zko {n:Nat} {R g h:List (List Int)} (ok:OkRows n R) (hl:R.length=n) (a:Own n R g) (b:Own n R h):Own n R (Z9 g h):=⟨a.1.beh b.1,by rw [<- Zav ok hl a.1 b.1,a.2,b.2]⟩
theorem Zkl {n:Nat} {R g:List (List Int)} (ok:OkRows n R) (hl:R.length=n) (a:Own n R g):Own n R (Yo g):=by
 refine ⟨a.1.und,?_⟩;have:=Zbe ok hl a.1;rw [a.2] at this;exact this
end My
namespace My
open PySem L2
noncomputable def OwnS (n:Nat) (R:List (List Int)) (A:List (List (List Int))):Prop:=∃ B:List (List (List Int)),B.Nodup/\(∀ h,h∈B↔Own n R h)/\A.Perm B/\(A.map (rkG n)).Pairwise (· <= ·)
theorem OwnS.one {n:Nat} {R:List (List Int)} (h6:n<=6) {A A':List (List (List Int))} (a:OwnS n R A) (b:OwnS n R A'):A=A':=by
 obtain ⟨B,h1,h2,h3,h4⟩:=a;obtain ⟨B',h1',h2',h3',h4'⟩:=b;exact Zh7 h6 h1 h1' h2 h2' h3 h3' h4 h4'
inductive ZjW (vs:List V) (H:Hp) (Q:VK):Prop where
 | mk (g:Addr) (n:Nat) (R:List (List Int)) (_:vs=[.ref g]) (_:TG H g R) (_:OkRows n R) (_:R.length=n) (_:1<=n) (_:n<=6) (_:∀ l H' A,Same H H'->RL H' l A->OwnS n R A->A.length<=46656->Q (.ref l) H'):ZjW vs H Q
noncomputable def ZiD:Sp:=fun vs H Q _=>ZjW vs H Q
section
variable {P:Program} {w:World} {K:QZa} {mg:Str->Option Value} {base:Heap}
theorem scOwn:Zs ["square","ways","back"] ["square"] (Zd Zdb):=⟨rfl,rfl,rfl,by decide +kernel,rfl,by decide +kernel,by decide +kernel⟩
inductive Zea (L:List (List (List Int))) (h:List (List Int)) (b:Addr) (H2:Hp) (lc:Addr) (j:Nat) (ys:List V) (σ:St) (H3:Hp):Prop where
 | mk (v0:Option V) (us:List Addr) (_:σ=[v0,some (.ref b)]) (_:ys=us.map V.ref) (_:Same H2 H3) (_:H3 lc=some (.lst ys)) (_:Paired (fun p x=>TG H3 p x) us (ZcC (L.take j) h)):Zea L h b H2 lc j ys σ H3
theorem Zi5 {f fG fN fB:Addr} {fd dG dN dB:FuncData} (F:Fun K "own" "own" Zdb f fd) (T:Blt mg) (DG:Dfn K mg "leading" YH ["square"] fG dG) (DN:Dfn K mg "undone" Ji ["renaming"] fN dN) (DB:Dfn K mg "behind" JS ["one","other"] fB dB) (GG:FnOk P w K mg base CX0 6 fG dG ["square"] ZiF) (GN:FnOk P w K mg base CX0 6 fN dN ["renaming"] Zcq) (GB:FnOk P w K mg base CX0 6 fB dB ["one","other"] ZeT):FnOk P w K mg base CX0 7 f fd ["square"] ZiD:=by
 refine F.ok scOwn (fun vs H Q E h=>?_) (fun cdv A outer s H vs Q E hr h=>?_)
 ·obtain ⟨_,_,_,rfl,_⟩:=h
  rfl
 ·obtain ⟨g,n,R,rfl,hT,ok,hRl,h1,h6,q⟩:=h;have hu:((A.deeper (PyProof.Rows.envOfC "own" (Zd Zdb) s.heap.objs.size f cdv))).units+6<cLine:=by have:=hr.un; omega
  refine' ⟨_,Ze ?s1 (Ze ?s2 (Zf (Zq ?s3))),?rd⟩
  case s1=>exact Zk (i:=1) scOwn.nd rfl (Or.inl rfl) (ZU (YK K) (Zm GG hr rfl DG.m DG.F.kp DG.b .nil ZF (Za (pv 0) Zc)) Zh (fun _ _=>rfl))
  case s2=>exact Zk (i:=2) scOwn.nd rfl (Or.inr rfl) (Zm GN hr rfl DN.m DN.F.kp DN.b .nil ZF (Za (ZU (YJ K) (pv 1) Zh (fun _ _=>rfl)) Zc))
  case s3=>exact Zl (Zc3 hu) rfl T.sorted PyProof.Rows.boot_sorted (Za (Yi ["way","back"] [none,some 2] rfl rfl (Z2 K (pv 1)) (fun _ _ _ _ _=>Yw 0) (fun _ _ _ _ _=>ZB) (fun _ _ _ _ _=>Zm GB hr rfl DB.m DB.F.kp DB.b .nil ZF (Za (pv 0) (Za (pv 1) Zc)))) Zc)
  case rd =>
   have h8:n<=8:=by exact Om.b1 ‹_› rfl
   refine ⟨_,rfl,g,n,R,rfl,hT,ok,hRl,h1,h6,fun t p l H1 FF L s1 ht hF hL ld=>?_⟩;obtain ⟨h,hh,_⟩:=ld.plain;obtain ⟨zs,hz,hZ⟩:=hL;have hzl:0<zs.length:=by
    rw [hZ.length];exact (QZb.mp hh).1
   obtain ⟨h',hh',hp⟩:=Paired.getL hZ (QAb hzl);rw [hh] at hh'
   cases hh';have hhL:=QAt hh;have rh:=((JI ok hRl h1 ld).mp hhL).1;have hlen:L.length<=36*1296:=by
    rw [ld.all];exact QAs (List.length_filter_le _ _) (Zfr ok hRl h6)
   refine ⟨t,_,_,.ref l,rfl,rfl,SqT.of ht,rfl,?_⟩;refine ⟨_,rfl,l,_,_,.ref zs[0],rfl,rfl,SqL.of hz,YO (i:=0) (by rw [QAe,QAb hzl]; rfl),?_⟩;refine ⟨zs[0],n,h,rfl,hp,rh,h1,h8,fun b H2 s2 hB=>?_⟩;have hz2:=s2 _ _ hz;refine ⟨_,rfl,l,rfl,⟨_,SqL.of hz2⟩,fun lc hlc=>?_⟩;have hzs:(zs.map V.ref).length=L.length:=by rw [QAa,hZ.length]
   refine Z8 (Z1 (xs:=zs.map V.ref)) (Zea L h b H2 lc)
    ⟨none,[],rfl,rfl,Same.new hlc,Zb,.nil⟩ (fun j ys σ H3 zz0=> by obtain ⟨_,_,_,_,s3,hl,_⟩ := zz0; exact ⟨SqL.of (s3 _ _ hz2),hl⟩) ?_ ?_
   ·rintro j x ys σ H3 hj ⟨v0,us,rfl,rfl,s3,hl3,hU⟩;rw [QAe] at hj
    cases hpj:zs[j]? with
    | none=>rw [hpj] at hj; cases hj
    | some pr =>
    rw [hpj] at hj
    cases hj;obtain ⟨rj,hrj,hpr⟩:=Paired.getL hZ hpj;have rn:=((JI ok hRl h1 ld).mp (QAt hrj)).1;refine ⟨_,rfl,_,rfl,pr,b,n,rj,Yo h,rfl,hpr.same (s2.trans s3),hB.same s3,rn,rh.und,h1,h8,fun tm H4 s4 hM=>?_⟩;have hl4:=s4 _ _ hl3;have hjl:=(QZb.mp hrj).1;have hul:us.length=j:=by
     rw [hU.length];unfold ZcC;rw [QAa,QAu];exact Om.m1 ‹_›
    have up:∀ b row,H4 b=some (.tup row)->(upd H4 lc (.lst (us.map V.ref++[.ref tm]))) b=some (.tup row):=fun b row e=>by
     rw [Zg (JH e hl4 (by intro z; cases z))];exact e
    refine ⟨hl4,by rw [QAa,hul]; exact Ju (by exact Om.b2 ‹_› ‹_› rfl),_,us++[tm],rfl,by rw [QAn]; rfl,fun b u e=>?_,Zb,?_⟩
    ·rw [Zg (Zi e hlc)];exact s4 _ _ (s3 _ _ e)
    ·have et:ZcC (L.take (j+1)) h=ZcC (L.take j) h++[Z9 rj (Yo h)]:=by
      unfold ZcC;rw [QCc,hrj,QAn]
      rfl
     rw [et];exact Paired.snoc (Paired.mapP hU fun _ _ z=>z.up fun b row e=>up b row (s4 _ _ e)) (hM.up up)
   rintro ys σ HA ⟨v0,us,rfl,rfl,sA,hlA,hU⟩;rw [hzs,QBd (QAd _)] at hU;have nd:=ZlH ok hRl h1 ld rh;have mm:=fun x=>Zkm ok hRl h1 ld hhL (h:=x)
   refine ⟨lc,us,ZcC L h,3,n,rkG n,rfl,hlA,hU,fun r hr=>?_,by decide,?_,fun p hp q hq=>?_,?_,fun l qs S' hl hQ hp hs=>?_⟩
   ·have d:=((mm r).mp hr).1.dig h6;exact ⟨d.len,fun x hx=>(d.row x hx).1⟩
   ·unfold ZcC;rw [QAa];exact Om.b1 ‹_› rfl
   ·exact Dig.lt (((mm p).mp hp).1.dig h6) (((mm q).mp hq).1.dig h6)
   ·exact Zmv nd fun g hg=>((mm g).mp hg).1.dig h6
   ·have s5:Same HA (upd HA l (.lst (qs.map V.ref))):=Same.new hl;exact q l _ S' (s1.trans (s2.trans (sA.trans s5))) ⟨qs,Zb,Paired.mapP hQ fun _ _ z=>TG.same (show TG HA _ _ from z) s5⟩ ⟨ZcC L h,nd,mm,hp,hs⟩ (by rw [hp.length_eq]; unfold ZcC; rw [QAa]; assumption)
end
end My
namespace My
open PySem L2
theorem Zjc (l:List Nat):l.filterMap (fun _:Nat=>(none:Option V))=[]:=by
 induction l with
 | nil=>rfl
 | cons _ _ ih=>exact ih
inductive ZfI (vs:List V) (H:Hp) (Q:VK):Prop where
 | mk (z:Int) (_:vs=[.int z]) (_:Q (.bl true) H):ZfI vs H Q
noncomputable def Zej:Sp:=fun vs H Q _=>ZfI vs H Q
section
variable {P:Program} {w:World} {K:QZa} {mg:Str->Option Value} {base:Heap}
theorem Zj7:Zs ["_law_found"] ["_law_found"] (Zd JY):=⟨rfl,rfl,rfl,by decide +kernel,rfl,by decide +kernel,by decide +kernel⟩
theorem Zfa {f:Addr} {fd:FuncData} (F:Fun K "_law_whole" "_law_whole" JY f fd) (T:Blt mg):FnOk P w K mg base CX0 1 f fd ["_law_found"] Zej:=by
 refine F.ok Zj7 (fun vs H Q E h=>?_) (fun cdv A outer s H vs Q E hr h=>?_)
 ·obtain ⟨_,rfl,_⟩:=h
  rfl
 ·obtain ⟨z,rfl,q⟩:=h;refine ⟨_,Zf (Zq (ZiW (Zl (Js K) rfl T.isin Zby (Za (pv 0) (Za (Zbi (v:=.ty "int") rfl T.int ZjO rfl) Zc))) (ZiV (ZlF (Zl (Js K) rfl T.isin Zby (Za (pv 0) (Za (Zbi (v:=.ty "bool") rfl T.bool ZkW rfl) Zc))))))),?_⟩;refine ⟨_,rfl,_,"int",_,true,rfl,.int z,rfl,_,rfl,ZbR ?_⟩;exact ⟨_,rfl,_,"bool",_,false,rfl,.int z,rfl,_,rfl,q⟩
end
inductive ZfM (vs:List V) (H:Hp) (Q:VK):Prop where
 | mk (t:Addr) (n:Nat) (R:List (List Int)) (_:vs=[.ref t,.int (n:Int)]) (_:TG H t R) (_:Ren n R) (_:n<=8) (_:∀ H',Same H H'->Q (.bl true) H'):ZfM vs H Q
noncomputable def Zg9:Sp:=fun vs H Q _=>ZfM vs H Q
section
variable {K:QZa}
end
section
variable {P:Program} {w:World} {K:QZa} {mg:Str->Option Value} {base:Heap}
theorem scIsRen:Zs ["_law_found","_law_n","_law_turn_here"] ["_law_found","_law_n"] (Zd Zac):=⟨rfl,rfl,rfl,by decide +kernel,rfl,by decide +kernel,by decide +kernel⟩
inductive Zge (H:Hp) (t:Addr) (n:Nat) (i:Nat) (σ:St) (H1:Hp):Prop where
 | mk (v2:Option V) (_:σ=[some (.ref t),some (.int (n:Int)),v2]) (_:Same H H1):Zge H t n i σ H1
theorem Zi6 {f fW:Addr} {fd dW:FuncData} (F:Fun K "_law_is_renaming" "_law_is_renaming" Zac f fd) (T:Blt mg) (DW:Dfn K mg "_law_whole" JY ["_law_found"] fW dW):FnOk P w K mg base CX0 2 f fd ["_law_found","_law_n"] Zg9:=by
 have GW:FnOk P w K mg base CX0 1 fW dW ["_law_found"] Zej:=Zfa DW.F T;refine F.ok scIsRen (fun vs H Q E h=>?_) (fun cdv A outer s H vs Q E hr h=>?_)
 ·obtain ⟨_,_,_,rfl,_⟩:=h
  rfl
 ·obtain ⟨t,n,R,rfl,hT,rn,h8,q⟩:=h;have hu:((A.deeper (PyProof.Rows.envOfC "_law_is_renaming" (Zd Zac) s.heap.objs.size f cdv))).units<cLine:=by have:=hr.un; omega
  refine' ⟨_,Ze (Yy (PW.pt (Zdw ?c0 (Zcx ?c1))) (Zf (Zq Zan)) ZR) (Ze (Yv PassesOwn.never rfl (Zgy (pv 0)) (ZJ (i:=2) scIsRen.nd rfl (Or.inl rfl)) (Ze (Yy (PW.pt (Zdw ?d0 (Zcx ?d1))) (Zf (Zq Zan)) ZR) (Zf (Yy ?d2 (Zf (Zq Zan)) ZR)))) (Zf (Zq Zan))),?rd⟩
  case c0=>exact Zaj (Zai (Zl (Js K) rfl T.isin Zby (Za (pv 0) (Za (Zbi (v:=.ty "tuple") rfl T.tuple ZI rfl) Zc))))
  case c1=>exact ZC Zhl (Zl (Zt K) rfl T.len PySem.boot_len (Za (pv 0) Zc)) Zh (ZV _)
  case d0=>exact Zaj (Zai (Zl (Js K) rfl T.isin Zby (Za (pv 2) (Za (Zbi (v:=.ty "tuple") rfl T.tuple ZI rfl) Zc))))
  case d1=>exact ZC (ZgC hu K) (Yi ["_law_k"] [none] rfl rfl (ZaK K (pv 2)) (fun _ _ _ _ _=>Yw 0) (fun _ _ _ _ _=>Zbg (Zaj (Zai (Zm GW hr rfl DW.m DW.F.kp DW.b .nil ZF (Za (pv 0) Zc))))) (fun _ _ _ _ _=>pv 0)) (Yd Zc) (ZV _)
  case d2=>exact ZC (ZgC hu K) (Zl (ZeI K) rfl T.sorted PyProof.Rows.boot_sorted (Za (pv 2) Zc)) (Zp (Zc4 rfl) rfl T.list ZaS (Za (Zp JX rfl T.range Zbx (Za (pv 1) Zc)) Zc)) (ZV _)
  case rd =>
   obtain ⟨ps,hps,hPs⟩:=id hT;have hpl:(ps.map V.ref).length=3:=by rw [QAa,hPs.length,rn.len]
   have eb:Y1 ((ZG n).map V.int) (rng n)=true:=by rw [Zep]; exact ZdQ (ZM _)
   refine ⟨_,rfl,_,"tuple",_,true,rfl,.tup hps,rfl,_,rfl,YZ ?_⟩;refine ⟨_,rfl,t,_,rfl,.inr (SqT.of hps),rfl,_,rfl,?_⟩;rw [hpl,show decide (V.int ((3:Nat):Int)=V.int 3)=true from QZh rfl];refine YZ ⟨_,rfl,t,rfl,⟨_,SqT.of hps⟩,?_⟩;refine ZhA (xs:=ps.map V.ref) (Zge H t n) ⟨none,rfl,Same.refl _⟩ (fun i σ H1 _ zz0=> by obtain ⟨_,_,s1⟩ := zz0; exact SqT.of (s1 _ _ hps)) ?_ ?_
   ·rintro i x σ H1 hx ⟨v2,rfl,s1⟩;rw [QAe] at hx
    cases hpi:ps[i]? with
    | none=>rw [hpi] at hx; cases hx
    | some p =>
     rw [hpi] at hx
     cases hx;obtain ⟨r,hri,hp⟩:=Paired.getL hPs hpi;obtain ⟨tl,tn,tg⟩:=rn.row r (QAt hri);have hp1:=s1 _ _ hp;refine ⟨_,rfl,_,"tuple",_,true,rfl,.tup hp1,rfl,_,rfl,YZ ?_⟩;refine ⟨_,rfl,p,rfl,⟨_,SqT.of hp1⟩,fun la hla=>ZD (fun _=>none) (fun σ=>∃ v,σ=[v]) (ZaD (xs:=r.map V.int)) (by rw [QAa,tl]; exact Zy (by exact Om.b1 ‹_› rfl)) hla (fun H' sm=>SqT.of (sm _ _ hp1)) ⟨none,rfl⟩ ?_ ?_⟩
     ·rintro j x σ H' R' hj ⟨v,rfl⟩ sm' kk;obtain ⟨z,_,rfl⟩:=QZd.mp (QAt hj);exact ⟨_,rfl,z,rfl,_,rfl,YZ (kk _ _ ⟨_,rfl⟩ (Same.refl _))⟩
     ·intro H2 s2 hla2;rw [Zjc] at hla2;refine ⟨QAh _,fun le hle=>⟨la,le,[],[],rfl,rfl,SqL.of ((Same.new hle) _ _ hla2),SqL.of Zb,.inl ⟨rfl,rfl⟩,_,rfl,YZ ?_⟩⟩;have s3:Same H2 (upd H2 le (.lst [])):=Same.new hle;have s13:=s2.trans s3;generalize upd H2 le (.lst [])=H3 at s13 ⊢;refine ⟨_,rfl,p,r,rfl,SqT.of (s13 _ _ hp1),by rw [tl]; exact O38 h8 tl,fun ls ns' hls pm pw=>?_⟩;have es:ns'=ZG n:=JO (pm.trans (ZiM tl tn tg)) pw (ZeY n);subst es;refine ⟨_,rfl,n,rfl,fun lr hlr=>⟨lr,n,rfl,Zb,by exact Om.b1 ‹_› rfl,fun lx hlx=>?_⟩⟩;have s4:Same H3 (upd H3 ls (.lst ((ZG n).map V.int))):=Same.new hls;have s5:Same (upd H3 ls (.lst ((ZG n).map V.int))) (upd (upd H3 ls (.lst ((ZG n).map V.int))) lr (.rng 0 (n:Int))):=Same.new hlr;have s6:Same (upd (upd H3 ls (.lst ((ZG n).map V.int))) lr (.rng 0 (n:Int))) (upd (upd (upd H3 ls (.lst ((ZG n).map V.int))) lr (.rng 0 (n:Int))) lx (.lst (rng n))):=Same.new hlx;refine ⟨ls,lx,(ZG n).map V.int,rng n,rfl,rfl,SqL.of ((s5.trans s6) _ _ Zb),SqL.of Zb,.inl ⟨ZM _,ZiN n⟩,_,rfl,?_⟩;rw [eb];exact YZ ⟨_,rfl,s1.trans (s13.trans (s4.trans (s5.trans s6)))⟩
   ·rintro σ H1 ⟨v2,rfl,s1⟩;exact q _ s1
end
end My
namespace L2
open PySem PySem.Spec PyProof.Rows PySem.W SeqAt
noncomputable def Jg (e r:Nat->Bool):Nat->Nat->Bool
 | 0,_=>true
 | k+1,i=>if e i then Jg e r k (i+1) else r i
noncomputable def Zk3 (A:Around) (s:Shared) (u v:Value) (b:Bool):Prop:=∀ (prog:Program) (w:World) (E:Value->Shared->Prop) (Q:Value->Shared->Prop),Q (.bool b) s->wpAny (model prog w) A (richCompare .GtE u v) Q E s
theorem Zh0 (l b:Addr) (us vs:List Value) (n n2:Nat) (dd dd2:Option Addr) (sl sl2:Array (Option Value)) (e r:Nat->Bool) (hlen:us.length=vs.length) :
  Meets (Builtin.«tuple.__ge__» ⟨[.ref l,.ref b],[]⟩)
   (fun A R s=>s.heap.get? l=some { cls:=.type "tuple",dict:=dd,data:=.seq us.toArray n,slots:=sl }/\s.heap.get? b=some { cls:=.type "tuple",dict:=dd2,data:=.seq vs.toArray n2,slots:=sl2 } /\
    (∀ i u v,us[i]? = some u->vs[i]? = some v->EqAt A.in1 s u v (e i)/\(e i=false->Zk3 A.in1 s u v (r i))) /\
    R (.ok (.ret (.bool (Jg e r us.length 0)))) s) :=
 .of_wp fun prog w A R s h=>by
  obtain ⟨hp,g,d,tk,os⟩:=s;obtain ⟨hl,hb,hc,h⟩:=h;have f2:=AutoSeq1.sub_tuple_tuple;have hZ:(us.zip vs).length=us.length:=by simp; exact O37 hlen
  wp_walk using AutoSeq1.wpAny_loadPart' hl,AutoSeq1.wpAny_loadPart' hb,wpAny_forIn_list _ (fun rest b s'=>b.1=none/\s'=⟨hp,g,d,tk,os⟩/\∃ i,rest=(us.zip vs).drop i /\
   R (.ok (.ret (.bool (Jg e r (us.length - i) i)))) ⟨hp,g,d,tk,os⟩) _
  case turn =>
   rintro ⟨y,x⟩ rest b s' ⟨hb',rfl,i,hz,hR⟩;have hlt:i<(us.zip vs).length:=by
    rcases QCg i (us.zip vs).length with z | z
    ·exact z
    ·rw [QBt z] at hz; cases hz
   have hix:i<us.length:=hZ ▸ hlt;have hiy:i<vs.length:=by exact Om.a2 ‹_› ‹_›
   rw [QBc hlt] at hz
   injection hz with hyx hrest
   have hy:y=us[i]:=by
    have q:=congrArg Prod.fst hyx;rw [QDv] at q;exact q
   have hx:x=vs[i]:=by
    have q:=congrArg Prod.snd hyx;rw [QDv] at q;exact q
   subst hy hx;obtain ⟨c1,c2⟩:=hc i _ _ (QAb hix) (QAb hiy);rw [show us.length - i=(us.length - (i+1))+1 by exact O36 hlen hZ hlt] at hR;unfold Jg at hR;refine QZq (c1 prog w _ _ ?_)
   cases he:e i with
   | true =>
    rw [he] at hR
    wp_walk
    exact ⟨rfl,rfl,i+1,hrest,hR⟩
   | false =>
    rw [he] at hR;generalize hRC:richCompare=RC
    wp_walk
    subst hRC;refine c2 he prog w _ _ ?_
    wp_walk
    exact ⟨_,rfl,hR⟩
  case fin =>
   rintro ⟨b1,b2⟩ s' ⟨hb',rfl,i,hz,hR⟩
   simp only at hb';subst hb';have hge:us.length<=i:=by
    rcases QCg i (us.zip vs).length with z | z
    ·rw [QBc z] at hz; cases hz
    ·exact hZ ▸ z
   rw [show us.length - i=0 by exact O35 hlen hZ hge] at hR
   wp_walk
   refine ⟨_,rfl,?_⟩
   simpa [Builtin.Tuple.tupleCompareSizes,Jg,hlen] using hR
  case h =>
   exact ⟨rfl,rfl,0,by simp,by simpa using h⟩
theorem ZkM {A:Around} {s:Shared} {l b:Addr} {us vs:List Value} {e r:Nat->Bool} (hl:s.heap.IsTuple l us.toArray) (hb:s.heap.IsTuple b vs.toArray) (hlen:us.length=vs.length) (hu:A.units<cLine)
  (hc:∀ i u v,us[i]? = some u->vs[i]? = some v->EqAt A.in1 s u v (e i)/\(e i=false->Zk3 A.in1 s u v (r i))):Zk3 A s (.ref l) (.ref b) (Jg e r us.length 0):=fun prog w E Q h=>by
 obtain ⟨⟨cls,dd,data,sl⟩,ho,hc1,n,hd⟩:=id hl;obtain ⟨⟨cls2,dd2,data2,sl2⟩,ho2,hc2,n2,hd2⟩:=id hb
 simp only at hc1 hd hc2 hd2;subst hc1 hd hc2 hd2;exact richCompare_meets_room (op:=.GtE) ⟨_,ho,rfl⟩ ⟨_,ho2,rfl⟩ F.slot_tuple_ge F.entry_tuple_ge (F.args_tuple_ge_2 _ _) (Zh0 l b us vs n n2 dd dd2 sl sl2 e r hlen)
  ⟨ho,ho2,hc,show Value.bool (Jg e r us.length 0)≠Value.notImplemented/\Q (.bool (Jg e r us.length 0)) s from ⟨(fun x=>nomatch x),h⟩⟩ hu
inductive GeD (K:QZa) (H:Hp):Nat->V->V->Bool->Prop where
 | nums {d:Nat} (x y:Int):GeD K H d (.int x) (.int y) (decide (y<=x))
 | tups {d:Nat} {a c:Addr} {us vs:List V} {e r:Nat->Bool} (h1:SqT K H a us) (h2:SqT K H c vs) (hl:us.length=vs.length) (he:∀ i u v,us[i]? = some u->vs[i]? = some v->EqD K H d u v (e i)) (hr:∀ i u v,us[i]? = some u->vs[i]? = some v->e i=false->GeD K H d u v (r i)):GeD K H (d+1) (.ref a) (.ref c) (Jg e r us.length 0)
section
variable {X:Cx} {pins:List (Addr × Obj)} {σ:St} {H:Hp} {s:Shared}
theorem GeD.at (I:Inv X pins σ H s) {d:Nat} {x y:V} {b:Bool} (h:GeD X.K H d x y b):∀ {A:Around} {u v:Value},RelV x u->RelV y v->A.units+d<cLine->Zk3 A s u v b:=by
 induction h with
 | nums x y =>
  intro A u v rx ry hu prog w E Q q;obtain ⟨t1,rfl⟩:=rx;obtain ⟨t2,rfl⟩:=ry;exact PyProof.Rows.ge_int (a:=x) (b:=y) q
 | @tups d a c us vs e r h1 h2 hl he hr ih =>
  intro A u v rx ry hu
  cases rx
  cases ry;obtain ⟨its,r1,p1,_⟩:=I.tuple h1;obtain ⟨its2,r2,p2,_⟩:=I.tuple h2;have e1:=r1.length;have e2:=r2.length;rw [e1];refine ZkM p1 p2 (by exact O34 hl e1 e2) (by exact O33 hu) fun i u v hu1 hv1=>?_;have l1:i<us.length:=by rw [e1]; exact (QZb.mp hu1).1
  have l2:i<vs.length:=by rw [e2]; exact (QZb.mp hv1).1
  obtain ⟨u',g1,ru⟩:=r1.get (QAb l1);obtain ⟨v',g2,rv⟩:=r2.get (QAb l2);have z1:u'=u:=by
   rw [hu1] at g1
   cases g1
   rfl
  have z2:v'=v:=by
   rw [hv1] at g2
   cases g2
   rfl
  subst z1;subst z2;exact ⟨((he i _ _ (QAb l1) (QAb l2)).all I (A:=A.in1) ru rv (by show A.units+1+d<cLine; exact O32 hu)).1,fun q=>ih i _ _ (QAb l1) (QAb l2) q ru rv (by show A.units+1+d<cLine; exact O32 hu)⟩
end
noncomputable def Zng (K:QZa) (d:Nat):R2:=fun x y H Q=>∃ b,GeD K H d x y b/\Q (.bl b) H
theorem ZlJ {X:Cx} {d:Nat} (hu:X.A.units+d<cLine) (K:QZa) (hK:X.K=K:=by rfl):OpR X (compareOp .GtE) (Zng K d):=by
 subst hK;intro pins s σ H x y v u Q I rx ry h;obtain ⟨b,e,q⟩:=h;exact e.at I rx ry hu _ _ _ _ ⟨.bl b,H,I,rfl,q⟩
end L2
namespace My
open PySem L2
inductive ZhO (vs:List V) (H:Hp) (Q:VK):Prop where
 | mk (n:Nat) (_:vs=[.int (n:Int)]) (_:n<=6) (_:Q (.int ((fac n:Nat):Int)) H):ZhO vs H Q
noncomputable def ZiC:Sp:=fun vs H Q _=>ZhO vs H Q
inductive ZhP (vs:List V) (H:Hp) (Q:VK):Prop where
 | mk (g:Addr) (n:Nat) (R:List (List Int)) (_:vs=[.ref g]) (_:TG H g R) (_:OkRows n R) (_:R.length=n) (_:1<=n) (_:n<=6) (_:∀ H' A,Same H H'->OwnS n R A->Q (.int (((fac n ^ 3 / A.length:Nat)):Int)) H'):ZhP vs H Q
noncomputable def ZiE:Sp:=fun vs H Q _=>ZhP vs H Q
theorem ZjE:∀ n,n<7->fac n<=720:=by decide
theorem OwnS.len {n:Nat} {R:List (List Int)} {A:List (List (List Int))} (h:OwnS n R A) (ok:OkRows n R) (hl:R.length=n) (h6:n<=6):0<A.length/\A.length<=720*(720*720)/\fac n ^ 3 / A.length*A.length=fac n ^ 3:=by
 obtain ⟨B,nd,mm,p,_⟩:=h;rw [p.length_eq];have h0:0<B.length:=QDt ((mm _).mpr (Zdy ok hl));have hd:=Zhk ok hl nd mm;rw [ZfH,Zdx n (by exact Om.f3 ‹_›)] at hd;have hf:=ZjE n (by exact Om.f3 ‹_›);have hp:0<fac n:=by
  rcases Nat.eq_zero_or_pos (fac n) with z | z
  ·exfalso;have:∀ n,n<7->0<fac n:=by decide
   have:=this n (by exact Om.f3 ‹_›);exact (O31 z this).elim
  ·exact z
 refine ⟨h0,QAs (Nat.le_of_dvd (Nat.mul_pos hp (Nat.mul_pos hp hp)) hd) (QCd hf (QCd hf hf)),Zkn ok hl h6 nd mm⟩
section
variable {P:Program} {w:World} {K:QZa} {mg:Str->Option Value} {base:Heap}
theorem scProd:Zs ["n","product","number"] ["n"] (Zd Jo):=⟨rfl,rfl,rfl,by decide +kernel,rfl,by decide +kernel,by decide +kernel⟩
inductive Zeb (H:Hp) (n:Nat) (i:Nat) (σ:St) (H2:Hp):Prop where
 | mk (v2:Option V) (_:σ=[some (.int (n:Int)),some (.int ((fac i:Nat):Int)),v2]) (_:H2=H):Zeb H n i σ H2
theorem Zkr {f:Addr} {fd:FuncData} (F:Fun K "product_to" "product_to" Jo f fd) (T:Blt mg):FnOk P w K mg base CX0 1 f fd ["n"] ZiC:=by
 refine F.ok scProd (fun vs H Q E h=>?_) (fun cdv A outer s H vs Q E hr h=>?_)
 ·obtain ⟨_,rfl,_⟩:=h
  rfl
 ·obtain ⟨n,rfl,h6,q⟩:=h
  refine' ⟨_,Ze (Zk (i:=1) scProd.nd rfl (Or.inl rfl) Zh) (Ze (Yv PassesOwn.never rfl (Zh5 rfl T.range (Za Zh (Za (Zj Yj (pv 0) Zh) Zc))) (ZJ (i:=2) scProd.nd rfl (Or.inl rfl)) (Zf (ZlD (i:=1) scProd.nd rfl (Or.inl rfl) (pv 2) ZkH))) (Zf (Zq (pv 1)))),?rd⟩
  case rd =>
   refine ⟨_,rfl,_,_,rfl,rfl,1,((n+1:Nat):Int),by rw [Int.natCast_add]; rfl,⟨by decide,by decide,by exact Om.c2,by exact O30 h6⟩,?_⟩;rw [show (((n+1:Nat):Int) - 1).toNat=n by exact O29 h6];refine Ym (lo:=1) (n:=n) (Zeb H n) ⟨none,rfl,rfl⟩ ?_ ?_
   ·rintro i σ H2 hi ⟨v2,rfl,rfl⟩;refine ⟨_,rfl,_,rfl,_,_,rfl,rfl,.inr ⟨by exact O28 ,by exact O27 h6 hi⟩,some (.int (1+(i:Int))),?_,rfl⟩;show [some (V.int (n:Int)),some (V.int (((fac i:Nat):Int)*(1+(i:Int)))),some (V.int (1+(i:Int)))]=_;have:((fac (i+1):Nat):Int)=((fac i:Nat):Int)*(1+(i:Int)):=by
     show ((fac i*(i+1):Nat):Int)=_;rw [Int.natCast_mul,Int.natCast_add,Int.add_comm]
     rfl
    rw [<- this]
   ·rintro σ H2 ⟨v2,rfl,rfl⟩;exact ⟨_,rfl,q⟩
theorem Zlt:Zs ["square"] ["square"] (Zd Zb2):=⟨rfl,rfl,rfl,by decide +kernel,rfl,by decide +kernel,by decide +kernel⟩
theorem Zks {f fP fO:Addr} {fd dP dO:FuncData} (F:Fun K "alike_many" "alike_many" Zb2 f fd) (T:Blt mg) (DP:Dfn K mg "product_to" Jo ["n"] fP dP) (DO:Dfn K mg "own" Zdb ["square"] fO dO) (GO:FnOk P w K mg base CX0 7 fO dO ["square"] ZiD):FnOk P w K mg base CX0 8 f fd ["square"] ZiE:=by
 have GP:FnOk P w K mg base CX0 7 fP dP ["n"] ZiC:=(Zkr DP.F T).mono (by decide);refine F.ok Zlt (fun vs H Q E h=>?_) (fun cdv A outer s H vs Q E hr h=>?_)
 ·obtain ⟨_,_,_,rfl,_⟩:=h
  rfl
 ·obtain ⟨g,n,R,rfl,hT,ok,hRl,h1,h6,q⟩:=h
  refine' ⟨_,Zf (Zq (Zj Ys (Zj Za2 (Zm GP hr rfl DP.m DP.F.kp DP.b .nil ZF (Za (Zl (Zt K) rfl T.len PySem.boot_len (Za (pv 0) Zc)) Zc)) Zh) (Zl (Zt K) rfl T.len PySem.boot_len (Za (Zm GO hr rfl DO.m DO.F.kp DO.b .nil ZF (Za (pv 0) Zc)) Zc)))),?rd⟩
  case rd =>
   obtain ⟨gs,hgs,hGs⟩:=id hT;have hgl:(gs.map V.ref).length=n:=by rw [QAa,hGs.length,hRl]
   have hf:=ZjE n (by exact Om.f3 ‹_›);refine ⟨_,rfl,g,_,rfl,.inr (SqT.of hgs),n,by rw [hgl]; rfl,h6,?_⟩;refine ⟨_,_,rfl,rfl,⟨by decide,by decide,by rw [Int.natAbs_natCast]; exact QEd hf (by decide)⟩,?_⟩;refine ⟨_,rfl,g,n,R,rfl,hT,ok,hRl,h1,h6,fun l H' A s' hA ow _=>?_⟩;obtain ⟨ps,hps,hP⟩:=hA;obtain ⟨l0,l1,l2⟩:=ow.len ok hRl h6;have hpl:(ps.map V.ref).length=A.length:=by rw [QAa,hP.length]
   refine ⟨l,_,rfl,.inl (SqL.of hps),_,_,rfl,rfl,⟨by rw [hpl]; exact O5 ‹_› l0 hpl,by rw [hpl]; exact O26 ‹_› l0 hpl⟩,?_⟩;have e:((fac n:Nat):Int) ^ (3:Int).toNat / (((ps.map V.ref).length:Nat):Int)=((fac n ^ 3 / A.length:Nat):Int):=by
    rw [hpl];show ((fac n:Nat):Int) ^ 3 / _=_;rw [<- Int.natCast_pow,Int.natCast_ediv]
   show Q (V.int (((fac n:Nat):Int) ^ (3:Int).toNat / (((ps.map V.ref).length:Nat):Int))) _;rw [e];exact q H' A s' ow
end
end My
namespace My
open PySem L2
theorem ZcT:∀ (F G:List Int) (k i:Nat),F.length=G.length->F.length - i=k->i<=F.length->Jg (fun j=>decide (F.getD j 0=G.getD j 0)) (fun j=>decide (G.getD j 0<=F.getD j 0)) k i = !ZaT (F.drop i) (G.drop i)
 | F,G,0,i,hl,hk,hi=>by
  rw [QBt (by exact O22 hl hk),QBt (by exact O21 hl hk)]
  rfl
 | F,G,k+1,i,hl,hk,hi=>by
  have h1:i<F.length:=by exact O20 hl hk hi
  have h2:i<G.length:=by exact Om.a2 ‹_› ‹_›
  have g1:F.getD i 0=F[i]:=by rw [QAc,QAb h1]; rfl
  have g2:G.getD i 0=G[i]:=by rw [QAc,QAb h2]; rfl
  rw [Jg,QBc h1,QBc h2,g1,g2,ZaT]
  by_cases e:F[i]=G[i]
  ·rw [if_pos (QZh e),if_pos e];exact ZcT F G k (i+1) hl (by exact O25 hl hk h1 h2) h1
  ·rw [if_neg (by rw [QZg]; exact e),if_neg e,QBf,QZg,Bool.not_eq_true',decide_eq_false_iff_not];exact ⟨fun z=>by exact O24 h1 h2 z,fun z=>by exact O23 h1 h2 z⟩
theorem Zb4:∀ (F G:List (List Int)) (k i:Nat),F.length=G.length->F.length - i=k->i<=F.length->Jg (fun j=>decide (F.getD j []=G.getD j [])) (fun j=>!ZaT (F.getD j []) (G.getD j [])) k i = !Za5 (F.drop i) (G.drop i)
 | F,G,0,i,hl,hk,hi=>by
  rw [QBt (by exact O22 hl hk),QBt (by exact O21 hl hk)]
  rfl
 | F,G,k+1,i,hl,hk,hi=>by
  have h1:i<F.length:=by exact O20 hl hk hi
  have h2:i<G.length:=by exact Om.a2 ‹_› ‹_›
  have g1:F.getD i []=F[i]:=by rw [QAc,QAb h1]; rfl
  have g2:G.getD i []=G[i]:=by rw [QAc,QAb h2]; rfl
  rw [Jg,QBc h1,QBc h2,g1,g2,Za5]
  by_cases e:F[i]=G[i]
  ·rw [if_pos (QZh e),if_pos e];exact Zb4 F G k (i+1) hl (by exact O19 hl hk h1) h1
  ·rw [if_neg (by rw [QZg]; exact e),if_neg e]
section
variable {K:QZa}
theorem _root_.L2.GeD.cast {H:Hp} {d:Nat} {x y:V} {b b':Bool} (h:GeD K H d x y b) (e:b=b'):GeD K H d x y b':=e ▸ h
theorem ZkL {H:Hp} {d:Nat} {a c:Addr} {xs ys:List Int} (h1:SqT K H a (xs.map V.int)) (h2:SqT K H c (ys.map V.int)) (hl:xs.length=ys.length):GeD K H (d+1) (.ref a) (.ref c) (!ZaT xs ys):=by
 refine (GeD.tups (e:=fun j=>decide (xs.getD j 0=ys.getD j 0)) (r:=fun j=>decide (ys.getD j 0<=xs.getD j 0)) h1 h2 (by rw [QAa,QAa,hl]) (fun i u v hu hv=>?_) (fun i u v hu hv _=>?_)).cast ?_
 ·rw [JV hu,JV hv];exact ZhD _ _
 ·rw [JV hu,JV hv];exact GeD.nums _ _
 ·rw [QAa];exact ZcT xs ys xs.length 0 hl (Nat.sub_zero _) (QAh _)
theorem Zl0 {H:Hp} {n:Nat} {a c:Addr} {F G:List (List Int)} (x:TG H a F) (y:TG H c G) (dF:Dig n F) (dG:Dig n G):GeD K H 2 (.ref a) (.ref c) (!Za5 F G):=by
 obtain ⟨ps,h1,r1⟩:=x;obtain ⟨qs,h2,r2⟩:=y;have e1:(ps.map V.ref).length=F.length:=by rw [QAa,r1.length]
 have e2:(qs.map V.ref).length=G.length:=by rw [QAa,r2.length]
 have hl:F.length=G.length:=dF.len.trans dG.len.symm;refine (GeD.tups (d:=1) (e:=fun j=>decide (F.getD j []=G.getD j [])) (r:=fun j=>!ZaT (F.getD j []) (G.getD j [])) (SqT.of h1) (SqT.of h2) (by exact Om.u2 ‹_› ‹_› ‹_›) (fun i u v hu hv=>?_) (fun i u v hu hv _=>?_)).cast ?_
 ·obtain ⟨p,rfl,hp,_⟩:=Jk r1 hu;obtain ⟨q,rfl,hq,_⟩:=Jk r2 hv;exact ZeG (SqT.of hp) (SqT.of hq)
 ·obtain ⟨p,rfl,hp,m1⟩:=Jk r1 hu;obtain ⟨q,rfl,hq,m2⟩:=Jk r2 hv;exact ZkL (SqT.of hp) (SqT.of hq) (by rw [(dF.row _ (QAt m1)).1,(dG.row _ (QAt m2)).1])
 ·rw [e1];exact Zb4 F G F.length 0 hl (Nat.sub_zero _) (QAh _)
end
theorem OwnS.mem {n:Nat} {R:List (List Int)} {A:List (List (List Int))} (h:OwnS n R A) (g:List (List Int)):g∈A↔Own n R g:=by
 obtain ⟨B,_,mm,p,_⟩:=h;exact p.mem_iff.trans (mm g)
theorem OwnS.rise {n:Nat} {R:List (List Int)} {A:List (List (List Int))} (h:OwnS n R A) (h6:n<=6) {i j:Nat} {x y:List (List Int)} (hij:i<j) (hx:A[i]? = some x) (hy:A[j]? = some y):Za5 x y=true:=by
 have hm:=h.mem;obtain ⟨B,nd,mm,p,so⟩:=h;have dx:=((hm x).mp (QAt hx)).1.dig h6;have dy:=((hm y).mp (QAt hy)).1.dig h6;have ndA:A.Nodup:=p.nodup_iff.mpr nd;obtain ⟨i1,e1⟩:=QZb.mp hx;obtain ⟨j1,e2⟩:=QZb.mp hy;have le:=List.pairwise_iff_getElem.mp so i j (by rw [QAa]; exact i1) (by rw [QAa]; exact j1) hij;rw [QBk,QBk,e1,e2] at le;have ne:x≠y:=by
  have:=List.pairwise_iff_getElem.mp ndA i j i1 j1 hij;rw [e1,e2] at this;exact this
 rw [dx.lt dy,QZg]
 rcases Int.lt_or_eq_of_le le with z | z
 ·exact z
 ·exact absurd (dx.inj dy z) ne
inductive ZfN (vs:List V) (H:Hp) (Q:VK):Prop where
 | mk (l g:Addr) (n:Nat) (R:List (List Int)) (A:List (List (List Int))) (_:vs=[.ref l,.ref g]) (_:RL H l A) (_:TG H g R) (_:OkRows n R) (_:R.length=n) (_:1<=n) (_:n<=6) (_:OwnS n R A) (_:∀ H',Same H H'->Q (.bl true) H'):ZfN vs H Q
noncomputable def Zha:Sp:=fun vs H Q _=>ZfN vs H Q
section
variable {P:Program} {w:World} {K:QZa} {mg:Str->Option Value} {base:Heap}
theorem scGrown:Zs ["_law_found","_law_square_here","_law_k"] ["_law_found","_law_square_here"] (Zd Zad):=⟨rfl,rfl,rfl,by decide +kernel,rfl,by decide +kernel,by decide +kernel⟩
inductive Zef (H:Hp) (l:Addr) (g:Addr) (i:Nat) (σ:St) (H2:Hp):Prop where
 | mk (v2:Option V) (_:σ=[some (.ref l),some (.ref g),v2]) (_:Same H H2):Zef H l g i σ H2
theorem Zi7 {f fI fM fW:Addr} {fd dI dM dW:FuncData} (F:Fun K "_law_grown" "_law_grown" Zad f fd) (T:Blt mg) (DI:Dfn K mg "_law_is_renaming" Zac ["_law_found","_law_n"] fI dI) (DM:Dfn K mg "_law_renamed" Zbc ["_law_begun","_law_renaming_here"] fM dM) (DW:Dfn K mg "_law_whole" JY ["_law_found"] fW dW):FnOk P w K mg base CX0 3 f fd ["_law_found","_law_square_here"] Zha:=by
 have GI:FnOk P w K mg base CX0 2 fI dI ["_law_found","_law_n"] Zg9:=Zi6 DI.F T DW;have GM:FnOk P w K mg base CX0 2 fM dM ["_law_begun","_law_renaming_here"] J3:=(Zhm DM.F T).mono (by decide);refine F.ok scGrown (fun vs H Q E h=>?_) (fun cdv A outer s H vs Q E hr h=>?_)
 ·obtain ⟨_,_,_,_,_,rfl,_⟩:=h
  rfl
 ·obtain ⟨l,g,n,R,A0,rfl,hL,hT,ok,hRl,h1,h6,ow,q⟩:=h;have hu:((A.deeper (PyProof.Rows.envOfC "_law_grown" (Zd Zad) s.heap.objs.size f cdv))).units+2<cLine:=by have:=hr.un; omega
  refine' ⟨_,Ze (Yv PassesOwn.never rfl (Zx rfl T.range (Za (Zl (Zt K) rfl T.len PySem.boot_len (Za (pv 0) Zc)) Zc)) (ZJ (i:=2) scGrown.nd rfl (Or.inl rfl)) (Ze (Yy (PW.pt (Zdw ?c0 (Zcx ?c1))) (Zf (Zq Zan)) ZR) (Zf (Yy (PW.pt (Zgv ?d0 (Zeu ?d1))) (Zf (Zq Zan)) ZR)))) (Zf (Zq Zan)),?rd⟩
  case c0=>exact Zaj (Zai (Zm GI hr rfl DI.m DI.F.kp DI.b .nil ZF (Za (ZU (YJ K) (pv 0) (pv 2) (fun _ _=>rfl)) (Za (Zl (Zt K) rfl T.len PySem.boot_len (Za (pv 1) Zc)) Zc))))
  case c1=>exact ZC (ZiZ (d:=2) hu K) (Zm GM hr rfl DM.m DM.F.kp DM.b .nil ZF (Za (pv 1) (Za (ZU (YJ K) (pv 0) (pv 2) (fun _ _=>rfl)) Zc))) (pv 1) (ZV _)
  case d0=>exact ZC ZmD (pv 2) Zh (ZV _)
  case d1=>exact ZC (ZlJ (d:=2) hu K) (ZU (YJ K) (pv 0) (Zj ZgB (pv 2) Zh) (fun _ _=>rfl)) (ZU (YJ K) (pv 0) (pv 2) (fun _ _=>rfl)) (ZV _)
  case rd =>
   obtain ⟨ps,hps,hP⟩:=id hL;obtain ⟨gs,hgs,hGs⟩:=id hT;have hgl:(gs.map V.ref).length=n:=by rw [QAa,hGs.length,hRl]
   have hpl:(ps.map V.ref).length=A0.length:=by rw [QAa,hP.length]
   obtain ⟨l0,l1,_⟩:=ow.len ok hRl h6;refine ⟨_,rfl,l,_,rfl,.inl (SqL.of hps),_,rfl,by exact Om.c2,by rw [hpl]; exact O18 l0 l1,?_⟩;rw [hpl,QAf];refine Ym (lo:=0) (n:=A0.length) (Zef H l g) ⟨none,rfl,Same.refl _⟩ ?_ ?_
   ·rintro i σ H2 hi ⟨v2,rfl,s2⟩;rw [QBw];obtain ⟨p,hpi,hTp⟩:=Paired.getR hP (QAb hi);have oi:=(ow.mem A0[i]).mp (QAq hi);have ki:atI (ps.map V.ref) (i:Int)=some (.ref p):=YO (by rw [QAe,hpi]; rfl);refine ⟨_,rfl,_,rfl,l,_,_,.ref p,rfl,rfl,SqL.of (s2 _ _ hps),ki,_,rfl,g,_,rfl,.inr (SqT.of (s2 _ _ hgs)),p,n,A0[i],by rw [hgl]; rfl,hTp.same s2,oi.1,by exact Om.b1 ‹_› rfl,fun H3 s3=>?_⟩;have s23:=s2.trans s3;refine ⟨_,rfl,YZ ?_⟩;refine ⟨_,rfl,_,rfl,_,rfl,l,_,_,.ref p,rfl,rfl,SqL.of (s23 _ _ hps),ki,g,p,n,_,A0[i],rfl,(hT.same s23).grid,ZaP ok hRl,hTp.same s23,oi.1,h1,by exact Om.b1 ‹_› rfl,fun tm H4 s4 hG4=>?_⟩;rw [YW ok hRl oi.1,oi.2] at hG4;have s24:=s23.trans s4;refine ⟨_,rfl,true,(ZcW (GridT.tg hG4) (hT.same s24)).cast (QZh rfl),_,rfl,YZ ?_⟩;refine ⟨_,rfl,_,_,rfl,rfl,_,rfl,?_⟩;refine ZaA (fun hd=>?_) (fun _=>⟨_,rfl,s24⟩);have hi0:0<i:=by have:=QZj hd; omega
    have hi1:i - 1<A0.length:=by exact O17 hi hi0
    obtain ⟨p',hpi',hTp'⟩:=Paired.getR hP (QAb hi1);have oi':=(ow.mem A0[i - 1]).mp (QAq hi1);have ki':atI (ps.map V.ref) ((i:Int) - 1)=some (.ref p'):=by
     rw [show (i:Int) - 1=((i - 1:Nat):Int) by exact O16 hi0];exact YO (by rw [QAe,hpi']; rfl)
    refine ⟨_,rfl,_,rfl,_,_,rfl,rfl,l,_,_,.ref p',rfl,rfl,SqL.of (s24 _ _ hps),ki',_,rfl,_,rfl,l,_,_,.ref p,rfl,rfl,SqL.of (s24 _ _ hps),ki,false,?_,_,rfl,YZ ⟨_,rfl,s24⟩⟩;refine (Zl0 (hTp'.same s24) (hTp.same s24) (oi'.1.dig h6) (oi.1.dig h6)).cast ?_;rw [ow.rise h6 (show i - 1<i by exact O15 hi0) (QAb hi1) (QAb hi)]
    rfl
   ·rintro σ H2 ⟨v2,rfl,s2⟩;exact q H2 s2
end
end My
namespace My
open PySem PySem.Spec PyProof.Rows PySem.W SeqAt L2
section
variable {X:Cx} {pins:List (Addr × Obj)} {σ:L2.St} {H:Hp} {s:Shared}
theorem ZkI (I:L2.Inv X pins σ H s):∀ {rs:List Addr} {R:List (List Int)} {us:List Value},Paired (fun a (x:List Int)=>H a=some (.tup (x.map V.int))) rs R->Vals (rs.map V.ref) us->GrAt s.heap us R:=by
 intro rs R us hP
 induction hP generalizing us with
 | nil=>intro rv; cases rv; exact .nil
 | @cons a x rs R ha _ ih =>
  intro rv;rw [QAp] at rv
  cases rv with
  | cons r1 r2 =>
   cases r1;obtain ⟨_,u1,ru1,p1⟩:=I.hok a _ ha;have p1:IsTupN s.heap a u1.toArray:=p1;exact .cons ⟨a,u1,rfl,p1.is,YC ru1⟩ (ih r2)
theorem ZdM (I:L2.Inv X pins σ H s) {q:Addr} {r:List (List Int)} (h:TG H q r):ZZ s.heap (.ref q)=r:=by
 obtain ⟨rs,hq,hr⟩:=h;obtain ⟨_,us,ru,o,g,c,m,e⟩:=I.hok q _ hq;exact Zaw g (congrArg Prod.fst e) (ZkI I hr ru)
end
noncomputable def Znf (K:QZa):R2:=fun x y H Q=>∃ (l p:Addr) (S:List (List (List Int))) (G:List (List Int)),x = .ref p/\y = .ref l/\RL H l S/\TG H p G/\Q (.bl (decide (G∈S))) H
theorem ZhL {G:List (List Int)}:∀ S:List (List (List Int)),(S.any fun r=>decide (r=G))=decide (G∈S)
 | []=>by simp
 | x::S=>by
  rw [List.any_cons,ZhL S,QBf,QCp,QZg,QZg,QZg,QBq];exact ⟨fun h=>h.imp Eq.symm id,fun h=>h.imp Eq.symm id⟩
theorem Zi0 {X:Cx} (hu:X.A.units+4<cLine) (K:QZa) (hK:X.K=K:=by rfl):OpR X (compareOp .In) (Znf K):=by
 subst hK;intro pins s σ H x y v u Q I rx ry h;obtain ⟨l,p,S,G,rfl,rfl,⟨ps,hps,hP⟩,hG,q⟩:=h
 cases rx
 cases ry;obtain ⟨its,r,pl,hz⟩:=I.list (SqL.of hps);have hits:=ZbB r;have hm:∀ {ps:List Addr} {S:List (List (List Int))},Paired (fun p (r:List (List Int))=>TG H p r) ps S->ps.map (ZZ s.heap ∘ Value.ref)=S:=by
  intro ps S hP
  induction hP with
  | nil=>rfl
  | cons h _ ih=>rw [QAp,ih]; congr 1; exact ZdM I h
 have hmap:its.map (ZZ s.heap)=S:=by
  rw [hits,QBa];exact hm hP
 refine SeqAt.in_listAt (fun u=>decide (ZZ s.heap u=G)) pl.isList (fun w hw=>?_) ⟨.bl _,H,I,rfl,?_⟩
 ·have hw:w∈its:=by simpa using hw
  rw [hits] at hw;obtain ⟨p',hp',rfl⟩:=QZd.mp hw;obtain ⟨i,hi,rfl⟩:=QBe hp';obtain ⟨r',hr',tg⟩:=Paired.getL hP (QAb hi);rw [ZdM I tg];exact ((ZcW tg hG).all I rfl rfl (by show X.A.units+1+2<cLine; exact O14 hu)).1
 ·have e:its.toArray.any (fun u=>decide (ZZ s.heap u=G))=decide (G∈S):=by
   rw [<- ZhL,<- hmap,List.any_map]
   simp
   rfl
  rw [e];exact q
inductive Zd0 (vs:List V) (H:Hp) (Q:VK):Prop where
 | mk (l a b:Addr) (n:Nat) (S:List (List (List Int))) (G G':List (List Int)) (_:vs=[.ref l,.ref a,.ref b]) (_:RL H l S) (_:TG H a G) (_:TG H b G') (_:Ren n G) (_:Ren n G') (_:1<=n) (_:n<=6) (_:Z9 G G'∈S) (_:Yo G∈S) (_:∀ H',Same H H'->Q (.bl true) H'):Zd0 vs H Q
noncomputable def ZeS:Sp:=fun vs H Q _=>Zd0 vs H Q
section
variable {P:Program} {w:World} {K:QZa} {mg:Str->Option Value} {base:Heap}
theorem scClosed:Zs ["_law_found","_law_one","_law_other","_law_both","_law_back","_law_first","_law_second"] ["_law_found","_law_one","_law_other"] (Zd Jw):=⟨rfl,rfl,rfl,by decide +kernel,rfl,by decide +kernel,by decide +kernel⟩
inductive Zeg (H:Hp) (l:Addr) (a:Addr) (b:Addr) (G:List (List Int)) (G':List (List Int)) (lb:Addr) (lk:Addr) (i:Nat) (σ:L2.St) (H4:Hp):Prop where
 | mk (v5 v6:Option V) (zs ws:List Addr) (_:σ=[some (.ref l),some (.ref a),some (.ref b),some (.ref lb),some (.ref lk),v5,v6]) (_:Same H H4) (_:H4 lb=some (.lst (zs.map V.ref))) (_:H4 lk=some (.lst (ws.map V.ref))) (_:Paired (fun q (r:List Int)=>H4 q=some (.tup (r.map V.int))) zs ((Z9 G G').take i)) (_:Paired (fun q (r:List Int)=>H4 q=some (.tup (r.map V.int))) ws ((Yo G).take i)):Zeg H l a b G G' lb lk i σ H4
theorem Zia {f:Addr} {fd:FuncData} (F:Fun K "_law_closed" "_law_closed" Jw f fd) (T:Blt mg):FnOk P w K mg base CX0 1 f fd ["_law_found","_law_one","_law_other"] ZeS:=by
 refine F.ok scClosed (fun vs H Q E h=>?_) (fun cdv A outer s H vs Q E hr h=>?_)
 ·obtain ⟨_,_,_,_,_,_,_,rfl,_⟩:=h
  rfl
 ·obtain ⟨l,a,b,n,S,G,G',rfl,hL,hA,hB,rG,rG',h1,h6,m1,m2,q⟩:=h;have hu:((A.deeper (PyProof.Rows.envOfC "_law_closed" (Zd Jw) s.heap.objs.size f cdv))).units+4<cLine:=by have:=hr.un; omega
  refine' ⟨_,Ze (Zk (i:=3) scClosed.nd rfl (Or.inl rfl) (Yd Zc)) (Ze (Zk (i:=4) scClosed.nd rfl (Or.inl rfl) (Yd Zc)) (Ze (Yv PassesOwn.never rfl (Zhj K rfl T.zip (Za (pv 1) (Za (pv 2) Zc))) (Zev rfl (ZS (ZJ (i:=5) scClosed.nd rfl (Or.inr rfl)) (ZS (ZJ (i:=6) scClosed.nd rfl (Or.inr rfl)) Jx))) (Ze ?b0 (Zf ?b1))) (Zf (Zq (ZiW ?c0 (ZiV ?c1)))))),?rd⟩
  case b0=>exact Yz (Jr PySem.F.plainAttrs_list PySem.F.slot_list_append PySem.F.type_list_append Ya (pv 3) (Za (Zp (Zv K) rfl T.tuple ZI (Za (Yi ["_law_k","_law_second"] [none,some 6] rfl rfl (ZaK K (pv 5)) (fun _ _ _ _ _=>Yw 0) (fun _ _ _ _ _=>ZB) (fun _ _ _ _ _=>ZU (YK K) (pv 1) (pv 0) (fun _ _=>rfl))) Zc)) Zc))
  case b1=>exact Yz (Jr PySem.F.plainAttrs_list PySem.F.slot_list_append PySem.F.type_list_append Ya (pv 4) (Za (Zp (Zv K) rfl T.tuple ZI (Za (Yi ["_law_k","_law_first"] [none,some 5] rfl rfl (Zx rfl T.range (Za (Zl (Zt K) rfl T.len PySem.boot_len (Za (pv 5) Zc)) Zc)) (fun _ _ _ _ _=>Yw 0) (fun _ _ _ _ _=>ZB) (fun _ _ _ _ _=>J6 (pv 1) (Za (pv 0) Zc))) Zc)) Zc))
  case c0=>exact Zcg (Zi0 hu K) (Zp (Zv K) rfl T.tuple ZI (Za (pv 3) Zc)) (pv 0) rfl
  case c1=>exact Zcg (Zi0 hu K) (Zp (Zv K) rfl T.tuple ZI (Za (pv 4) Zc)) (pv 0) rfl
  case rd =>
   obtain ⟨ps,hps,hPs⟩:=id hA;obtain ⟨qs,hqs,hQs⟩:=id hB;have lp:(ps.map V.ref).length=3:=by rw [QAa,hPs.length,rG.len]
   have lq:(qs.map V.ref).length=3:=by rw [QAa,hQs.length,rG'.len]
   have lbe:(Z9 G G').length=3:=by unfold Z9; rw [QAa,QAr]
   have lun:(Yo G).length=3:=by unfold Yo; rw [QAa,rG.len]
   refine ⟨QAh _,fun lb hlb=>?_⟩;have s1:Same H (upd H lb (.lst [])):=Same.new hlb;have c1:(upd H lb (.lst [])) lb=some (.lst (([]:List Addr).map V.ref)):=Zb;generalize upd H lb (.lst [])=H1 at s1 c1 ⊢;refine ⟨QAh _,fun lk hlk=>?_⟩;have s2:Same H1 (upd H1 lk (.lst [])):=Same.new hlk;have c2:(upd H1 lk (.lst [])) lk=some (.lst (([]:List Addr).map V.ref)):=Zb;have nbk:lb≠lk:=fun z=>by rw [<- z,c1] at hlk; cases hlk
   have hlkH:H lk=none:=s1.free hlk;generalize upd H1 lk (.lst [])=H2 at s2 c2 ⊢;have c1':=s2 _ _ c1;have s12:=s1.trans s2;refine ⟨_,rfl,_,rfl,a,b,_,_,rfl,SqT.of (s12 _ _ hps),SqT.of (s12 _ _ hqs),?_⟩;refine ZhB (n:=3) (Y:=fun i H v H'=>∃ p x y,v = .ref p/\H p=none/\(ps.map V.ref)[i]? = some x/\(qs.map V.ref)[i]? = some y/\H'=upd H p (.tup [x,y])) (P:=fun H'=>SqT K H' a (ps.map V.ref)/\SqT K H' b (qs.map V.ref))
    (fun i H' h hi=>⟨_,_,(ps.map V.ref)[i]'(by exact Om.a1 ‹_› ‹_›),(qs.map V.ref)[i]'(by exact Om.a1 ‹_› ‹_›),h.1,h.2,QAb _,QAb _⟩)
    (fun i H' v H'' h zz0 _=> by obtain ⟨p,x,y,e1,e2,e3,e4,e5⟩ := zz0; exact ⟨p,x,y,e1,e2,e3 _ h.1,e4 _ h.2,e5⟩) (fun i H' h hi=>⟨_,_,h.1,h.2,.inl (by exact Om.l4 ‹_› ‹_›)⟩)
    (Zeg H l a b G G' lb lk)
    ⟨none,none,[],[],rfl,s12,c1',c2,.nil,.nil⟩ (fun i σ H4 zz0=> by obtain ⟨_,_,_,_,_,s4,_,_,_,_⟩ := zz0; exact ⟨SqT.of (s4 _ _ hps),SqT.of (s4 _ _ hqs)⟩) ?_ ?_
   ·rintro i v σ H4 H5 hi ⟨v5,v6,zs,ws,rfl,s4,hb4,hk4,hZ,hW⟩ ⟨p,u,y,rfl,hp,hu',hy,rfl⟩;rw [QAe] at hu' hy
    cases hpi:ps[i]? with
    | none=>rw [hpi] at hu'; cases hu'
    | some p1 =>
    cases hqi:qs[i]? with
    | none=>rw [hqi] at hy; cases hy
    | some q1 =>
    rw [hpi] at hu';rw [hqi] at hy
    cases hu'
    cases hy;obtain ⟨r,hr1,hp1⟩:=Paired.getL hPs hpi;obtain ⟨t,ht1,hq1⟩:=Paired.getL hQs hqi;have tr:=rG.row r (QAt hr1);have tt:=rG'.row t (QAt ht1);have s5:Same H4 (upd H4 p (.tup [.ref p1,.ref q1])):=Same.new hp;have g5:(upd H4 p (.tup [.ref p1,.ref q1])) p=some (.tup [.ref p1,.ref q1]):=Zb;generalize upd H4 p (.tup [.ref p1,.ref q1])=H5 at s5 g5 ⊢;have s45:=s4.trans s5;have hp15:=s45 _ _ hp1;have hq15:=s45 _ _ hq1;have hb5:=s5 _ _ hb4;have hzl:zs.length=i:=by rw [hZ.length,QAu,lbe]; exact Om.m1 ‹_›
    have hwl:ws.length=i:=by rw [hW.length,QAu,lun]; exact Om.m1 ‹_›
    refine ⟨p,_,rfl,SqT.of g5,rfl,_,_,rfl,_,_,rfl,rfl,?_⟩;refine ⟨_,rfl,.inl ⟨rfl,_,SqL.of hb5⟩,_,rfl,p1,rfl,⟨_,SqT.of hp15⟩,fun lc hlc=>ZD (fun i=>some (.int (t.getD (r.getD i 0).toNat 0))) (fun σ=>∃ v,σ=[v,some (.ref q1)]) (ZaD (xs:=r.map V.int)) (by rw [QAa,tr.len]; exact Zy (by exact Om.b1 ‹_› rfl)) hlc (fun H' sm=>SqT.of (sm _ _ hp15)) ⟨none,rfl⟩ ?_ ?_⟩
    ·rintro j x σ H' R' hj ⟨v,rfl⟩ sm kk;have hjn:j<n:=by
      have:=(QZb.mp hj).1;rw [QAa,tr.len] at this;exact this
     obtain ⟨x',hx',hxn⟩:=tr.val hjn;have ej:x = .int (x':Int):=by
      rw [QAe,QAb (by rw [tr.len]; exact hjn)] at hj;rw [ZK (by rw [tr.len]; exact hjn)] at hx';rw [hx'] at hj
      cases hj
      rfl
     subst ej;refine ⟨_,rfl,_,rfl,q1,_,_,_,rfl,rfl,SqT.of (sm _ _ hq15),JL (i:=x') (by rw [tt.len]; exact hxn),?_⟩;have:=kk [some (.int (x':Int)),some (.ref q1)] H' ⟨_,rfl⟩ (Same.refl _)
     simp only [hx',QAf] at this;exact this
    intro H6 s6 h6c;have e0:(List.range (r.map V.int).length).filterMap (fun i:Nat=>some (V.int (t.getD (r.getD i 0).toNat 0)))=(cmp r t).map V.int:=by
     rw [YA,QAa];refine QBs (by rw [QAa,QAr,QAa,Y2]) fun i e1 e2=>?_;rw [QAa,QAr] at e1;rw [QBk,QCw,QBk,<- ZK,YN tr (by rw [<- tr.len]; exact e1)]
    rw [e0] at h6c;refine ⟨lc,_,rfl,.inl ⟨SqL.of h6c,fun tp htp=>?_⟩⟩;have s7:Same H6 (upd H6 tp (.tup ((cmp r t).map V.int))):=Same.new htp;have g7:(upd H6 tp (.tup ((cmp r t).map V.int))) tp=some (.tup ((cmp r t).map V.int)):=Zb;generalize upd H6 tp (.tup ((cmp r t).map V.int))=H7 at s7 g7 ⊢;have s57:=s6.trans s7;have s47:=s5.trans s57;have hb7:=s57 _ _ hb5;refine ⟨lb,_,_,rfl,rfl,hb7,by rw [QAa,hzl]; exact Zw (by exact O13 hi hzl hwl),?_⟩;have c8:(upd H7 lb (.lst (zs.map V.ref++[.ref tp]))) lb=some (.lst ((zs++[tp]).map V.ref)):=by rw [Zb,QAn]; rfl
    have o8:∀ x o,x≠lb->H7 x=some o->(upd H7 lb (.lst (zs.map V.ref++[.ref tp]))) x=some o:=fun x o hx e=>by rw [Zg hx]; exact e
    generalize upd H7 lb (.lst (zs.map V.ref++[.ref tp]))=H8 at c8 o8 ⊢;have t8:∀ x row,H7 x=some (.tup row)->H8 x=some (.tup row):=fun x row e=>o8 _ _ (JH e hb7 (by intro z; cases z)) e
    have hk8:H8 lk=some (.lst (ws.map V.ref)):=o8 _ _ (Ne.symm nbk) (s47 _ _ hk4);have hp18:=t8 _ _ (s57 _ _ hp15);have sH8:Same H H8:=fun x o e=>o8 _ _ (fun z=>by rw [z,hlb] at e; cases e) (s47 _ _ (s4 _ _ e))
    refine ⟨_,rfl,.inl ⟨rfl,_,SqL.of hk8⟩,_,rfl,p1,_,rfl,.inr (SqT.of hp18),_,rfl,by exact Om.c2,by rw [QAa,tr.len]; exact Om.c1 ‹_› rfl,fun ld hld=>?_⟩;rw [QAa,tr.len,QAf];refine ZD (fun i=>some (.int ((r.idxOf (i:Int):Nat):Int))) (fun σ=>∃ v,σ=[v,some (.ref p1)]) (ZO (n:=n)) (by rw [Zu]; exact Zy (by exact Om.b1 ‹_› rfl)) hld (fun H' sm=>trivial) ⟨none,rfl⟩ ?_ ?_
    ·rintro j x σ H' R' hj ⟨v,rfl⟩ sm kk;obtain ⟨hjn,rfl⟩:=Z6 hj;refine ⟨_,rfl,p1,r,rfl,sm _ _ hp18,_,rfl,_,rfl,sm _ _ hp18,YU tr.len tr.nd tr.rg ⟨by exact Om.c6,by exact Om.c5 ‹_›⟩,?_⟩;exact kk [some (.int (j:Int)),some (.ref p1)] H' ⟨_,rfl⟩ (Same.refl _)
    intro H9 s9 h9;have e1:(List.range (rng n).length).filterMap (fun i:Nat=>some (V.int ((r.idxOf (i:Int):Nat):Int)))=(inv r).map V.int:=by
     rw [YA,Zu];unfold inv;rw [tr.len,QBa]
     rfl
    rw [e1] at h9;refine ⟨ld,_,rfl,.inl ⟨SqL.of h9,fun tw htw=>?_⟩⟩;have sA:Same H9 (upd H9 tw (.tup ((inv r).map V.int))):=Same.new htw;have gA:(upd H9 tw (.tup ((inv r).map V.int))) tw=some (.tup ((inv r).map V.int)):=Zb;generalize upd H9 tw (.tup ((inv r).map V.int))=HA at sA gA ⊢;have s8A:=s9.trans sA;have hkA:=s8A _ _ hk8;refine ⟨lk,_,_,rfl,rfl,hkA,by rw [QAa,hwl]; exact Zw (by exact O13 hi hzl hwl),?_⟩;have cB:(upd HA lk (.lst (ws.map V.ref++[.ref tw]))) lk=some (.lst ((ws++[tw]).map V.ref)):=by rw [Zb,QAn]; rfl
    have oB:∀ x o,x≠lk->HA x=some o->(upd HA lk (.lst (ws.map V.ref++[.ref tw]))) x=some o:=fun x o hx e=>by rw [Zg hx]; exact e
    generalize upd HA lk (.lst (ws.map V.ref++[.ref tw]))=HB at cB oB ⊢;have tB:∀ x row,HA x=some (.tup row)->HB x=some (.tup row):=fun x row e=>oB _ _ (JH e hkA (by intro z; cases z)) e
    have up:∀ x row,H4 x=some (.tup row)->HB x=some (.tup row):=fun x row e=>tB _ _ (s8A _ _ (t8 _ _ (s47 _ _ e)))
    refine ⟨_,_,zs++[tp],ws++[tw],rfl,fun x o e=>oB _ _ (fun z=>by rw [z,hlkH] at e; cases e) (s8A _ _ (sH8 _ _ e)),oB _ _ nbk (s8A _ _ c8),cB,?_,?_⟩
    ·have eb:(Z9 G G')[i]? = some (cmp r t):=by
      unfold Z9;rw [QAe,QBj hi,QDe,QAc,QAc,hr1,ht1]
      rfl
     have et:(Z9 G G').take (i+1)=(Z9 G G').take i++[cmp r t]:=by rw [QCc,eb]; rfl
     rw [et];exact Paired.snoc (Paired.mapP hZ fun _ _ e=>up _ _ e) (tB _ _ (s8A _ _ (t8 _ _ g7)))
    ·have eb:(Yo G)[i]? = some (inv r):=by
      unfold Yo;rw [QAe,hr1]
      rfl
     have et:(Yo G).take (i+1)=(Yo G).take i++[inv r]:=by rw [QCc,eb]; rfl
     rw [et];exact Paired.snoc (Paired.mapP hW fun _ _ e=>up _ _ e) (tB _ _ gA)
   ·rintro σ H4 ⟨v5,v6,zs,ws,rfl,s4,hb4,hk4,hZ,hW⟩;rw [QBd (by omega)] at hZ hW;refine ⟨_,rfl,lb,_,rfl,.inl ⟨SqL.of hb4,fun tb htb=>?_⟩⟩;have s5:Same H4 (upd H4 tb (.tup (zs.map V.ref))):=Same.new htb;have g5:TG (upd H4 tb (.tup (zs.map V.ref))) tb (Z9 G G'):=⟨zs,Zb,Paired.mapP hZ fun _ _ e=>s5 _ _ e⟩;generalize upd H4 tb (.tup (zs.map V.ref))=H5 at s5 g5 ⊢;refine ⟨_,rfl,l,tb,S,Z9 G G',rfl,rfl,hL.same (s4.trans s5),g5,true,by rw [QZh m1],ZbR ?_⟩;refine ⟨_,rfl,lk,_,rfl,.inl ⟨SqL.of (s5 _ _ hk4),fun tk htk=>?_⟩⟩;have s6:Same H5 (upd H5 tk (.tup (ws.map V.ref))):=Same.new htk;have g6:TG (upd H5 tk (.tup (ws.map V.ref))) tk (Yo G):=⟨ws,Zb,Paired.mapP hW fun _ _ e=>s6 _ _ (s5 _ _ e)⟩;generalize upd H5 tk (.tup (ws.map V.ref))=H6 at s6 g6 ⊢;refine ⟨_,rfl,l,tk,S,Yo G,rfl,rfl,hL.same (s4.trans (s5.trans s6)),g6,?_⟩;rw [QZh m2];exact q _ (s4.trans (s5.trans s6))
end
end My
namespace My
open PySem L2
theorem Ze8:∀ n,n<7->((YY n n).all fun r=>decide (rkT (ZG n)<=rkT (toI r)))=true:=by decide +kernel
theorem ZaX {n:Nat} (h6:n<=6) {r:List Int} (t:Turn n r):rkT (ZG n)<=rkT r:=by
 obtain ⟨p,hp,rfl⟩:=Zba t;exact QZj (List.all_eq_true.mp (Ze8 n (by exact Om.f3 ‹_›)) p hp)
theorem ZeQ {n:Nat} (h6:n<=6) {g:List (List Int)} (rg:Ren n g):rkG n (YT n)<=rkG n g:=by
 obtain ⟨a,b,c,rfl,ta,tb,tc⟩:=rg.three;have la:=ZaX h6 ta;have lb:=ZaX h6 tb;have lc:=ZaX h6 tc;have hB:(0:Int)<6 ^ n:=Int.pow_pos (by decide);have p2:(0:Int)<(6 ^ n) ^ 2:=Int.pow_pos hB;have p1:(0:Int)<(6 ^ n) ^ 1:=Int.pow_pos hB;have p0:(0:Int)<(6 ^ n) ^ 0:=Int.pow_pos hB;have m2:=QEl la (QBp p2);have m1:=QEl lb (QBp p1);have m0:=QEl lc (QBp p0);show rkT (ZG n)*(6 ^ n) ^ 2+(rkT (ZG n)*(6 ^ n) ^ 1+(rkT (ZG n)*(6 ^ n) ^ 0+0))<=rkT a*(6 ^ n) ^ 2+(rkT b*(6 ^ n) ^ 1+(rkT c*(6 ^ n) ^ 0+0));exact O12 m2 m1 m0
theorem OwnS.first {n:Nat} {R:List (List Int)} {A:List (List (List Int))} (h:OwnS n R A) (ok:OkRows n R) (hl:R.length=n) (h6:n<=6):A[0]? = some (YT n):=by
 obtain ⟨l0,_,_⟩:=h.len ok hl h6;have hm:=h.mem;obtain ⟨i,hi,e⟩:=QBe ((hm (YT n)).mpr (Zdy ok hl));have o0:=(hm A[0]).mp (QAq l0);obtain ⟨B,nd,mm,p,so⟩:=h;have le:rkG n A[0]<=rkG n (YT n):=by
  rcases Nat.eq_zero_or_pos i with z | z
  ·subst z;rw [e];exact QCi _
  ·have:=List.pairwise_iff_getElem.mp so 0 i (by rw [QAa]; exact l0) (by rw [QAa]; exact hi) z;rw [QBk,QBk,e] at this;exact this
 have ge:=ZeQ h6 o0.1;rw [QAb l0,(o0.1.dig h6).inj ((ZaG n).dig h6) (Int.le_antisymm le ge)]
theorem ZkT {ns:List Int} {lo hi:Option Int} {i:Nat} {x:V} (h:(Za7 (ns.map V.int) lo hi)[i]? = some x):∃ z:Int,x = .int z:=by
 have hx:=QAt h;unfold Za7 at hx;obtain ⟨z,_,e⟩:=QZd.mp (List.mem_of_mem_drop (List.mem_of_mem_take hx));exact ⟨z,e.symm⟩
noncomputable def Ze7:Nat->Int
 | 0=>1
 | i+1=>Ze7 i*((i:Int)+1) ^ 3
theorem ZiS:∀ n,n<7->Ze7 n=((fac n ^ 3:Nat):Int):=by decide +kernel
theorem Zki:∀ n,n<7 -> -(2 ^ 64)<Ze7 n/\Ze7 n<2 ^ 64:=by decide +kernel
theorem Zj6 {u v:TS} {D:Zdj} {σ:St} {H:Hp} (M:St->Hp->Prop) (h2:∀ σ H,M σ H->v D σ H) (h1:(∀ σ H,M σ H->v D σ H)->Zj3 u v D σ H):Zj3 u v D σ H:=h1 h2
theorem RL.up {H H':Hp} {l:Addr} {L:List (List (List Int))} (g:RL H l L) (hl:H' l=H l) (f:∀ b row,H b=some (.tup row)->H' b=some (.tup row)):RL H' l L :=
 let ⟨ps,h,r⟩:=g
 ⟨ps,hl.trans h,Paired.mapP r fun _ _ z=>z.up f⟩
inductive ZjX (K:QZa) (vs:List V) (H:Hp) (Q:VK):Prop where
 | mk (a:Addr) (ns:List Int) (_:vs=[.ref a]) (_:SqL K H a (ns.map V.int)) (_:ns.length<=63) (_:∀ H',Q (.bl true) H'):ZjX K vs H Q
noncomputable def Zg8 (K:QZa):Sp:=fun vs H Q _=>ZjX K vs H Q
structure Defs (P:Program) (w:World) (K:QZa) (mg:Str->Option Value) (base:Heap) (fC fQ fO fG fL fM fW:Addr) (dC dQ dO dG dL dM dW:FuncData):Prop where
 T:Blt mg
 C:Dfn K mg "_law_cell_at" Zat ["_law_script","_law_k"] fC dC
 Q:Dfn K mg "_law_square" JP ["_law_script","_law_k","_law_n"] fQ dQ
 O:Dfn K mg "own" Zdb ["square"] fO dO
 G:Dfn K mg "_law_grown" Zad ["_law_found","_law_square_here"] fG dG
 L:Dfn K mg "_law_closed" Jw ["_law_found","_law_one","_law_other"] fL dL
 M:Dfn K mg "alike_many" Zb2 ["square"] fM dM
 W:Dfn K mg "_law_whole" JY ["_law_found"] fW dW
 GQ:FnOk P w K mg base CX0 11 fQ dQ ["_law_script","_law_k","_law_n"] (ZeR K)
 GO:FnOk P w K mg base CX0 11 fO dO ["square"] ZiD
 GG:FnOk P w K mg base CX0 11 fG dG ["_law_found","_law_square_here"] Zha
 GM:FnOk P w K mg base CX0 11 fM dM ["square"] ZiE
section
variable {P:Program} {w:World} {K:QZa} {mg:Str->Option Value} {base:Heap}
variable {fC fQ fO fG fL fM fW:Addr} {dC dQ dO dG dL dM dW:FuncData}
theorem Zl4 {H:Hp} {l m:Addr} {A:List (List (List Int))} (x:RL H l A) (y:RL H m A):EqD K H 3 (.ref l) (.ref m) true:=by
 obtain ⟨ps,h1,r1⟩:=x;obtain ⟨qs,h2,r2⟩:=y;refine ZjF (SqL.of h1) (SqL.of h2) (by rw [QAa,QAa,r1.length,r2.length]) fun j u v hu hv=>?_;rw [QAe] at hu hv
 cases e1:ps[j]? with
 | none=>rw [e1] at hu; cases hu
 | some p =>
  cases e2:qs[j]? with
  | none=>rw [e2] at hv; cases hv
  | some q =>
   rw [e1] at hu;rw [e2] at hv
   cases hu
   cases hv;obtain ⟨F,hF,tF⟩:=Paired.getL r1 e1;obtain ⟨G,hG,tG⟩:=Paired.getL r2 e2;rw [hF] at hG
   cases hG;exact (ZcW tF tG).cast (QZh rfl)
theorem scLaw:Zs ["_law_script","_law_n","_law_square_here","_law_found","_law_cell","_law_many","_law_k","_law_alikes","_law_kept"] ["_law_script"] (Zd Zb8):=⟨rfl,rfl,rfl,by decide +kernel,rfl,by decide +kernel,by decide +kernel⟩
inductive Zee (H:Hp) (a:Addr) (σ:St) (H':Hp):Prop where
 | mk (n:Nat) (_:σ=[some (.ref a),some (.int (n:Int)),none,none,none,none,none,none,none]) (_:H'=H) (_:1<=n) (_:n<=6):Zee H a σ H'
inductive Zed (a:Addr) (n:Nat) (g:Addr) (l:Addr) (H8:Hp) (i:Nat) (σ:St) (H9:Hp):Prop where
 | mk (v4:Option V) (_:σ=[some (.ref a),some (.int (n:Int)),some (.ref g),some (.ref l),v4,none,none,none,none]) (_:Same H8 H9):Zed a n g l H8 i σ H9
inductive Zec (a:Addr) (n:Nat) (g:Addr) (l:Addr) (H9:Hp) (v4':Option V) (i:Nat) (σ:St) (HA:Hp):Prop where
 | mk (v6:Option V) (_:σ=[some (.ref a),some (.int (n:Int)),some (.ref g),some (.ref l),v4',some (.int (Ze7 i)),v6,none,none]) (_:HA=H9):Zec a n g l H9 v4' i σ HA
set_option maxHeartbeats 1000000 in
theorem ZlM {f:Addr} {fd:FuncData} (F:Fun K "law" "law" Zb8 f fd) (Z:Defs P w K mg base fC fQ fO fG fL fM fW dC dQ dO dG dL dM dW):FnOk P w K mg base CX0 12 f fd ["_law_script"] (Zg8 K):=by
 have T:=Z.T;have GC:FnOk P w K mg base CX0 11 fC dC ["_law_script","_law_k"] (ZbF K):=(Zho Z.C.F T).mono (by decide);have GL:FnOk P w K mg base CX0 11 fL dL ["_law_found","_law_one","_law_other"] ZeS:=(Zia Z.L.F T).mono (by decide);have GW:FnOk P w K mg base CX0 11 fW dW ["_law_found"] Zej:=(Zfa Z.W.F T).mono (by decide);have GQ:=Z.GQ;have GO:=Z.GO;have GG:=Z.GG;have GM:=Z.GM;refine F.ok scLaw (fun vs H Q E h=>?_) (fun cdv A outer s H vs Q E hr h=>?_)
 ·obtain ⟨_,_,rfl,_⟩:=h
  rfl
 ·obtain ⟨a,ns,rfl,hS,hnl,k⟩:=h;have hu0:((A.deeper (PyProof.Rows.envOfC "law" (Zd Zb8) s.heap.objs.size f cdv))).units<cLine:=by have:=hr.un; omega
  have hu2:((A.deeper (PyProof.Rows.envOfC "law" (Zd Zb8) s.heap.objs.size f cdv))).units+2<cLine:=by have:=hr.un; omega
  have hu3:((A.deeper (PyProof.Rows.envOfC "law" (Zd Zb8) s.heap.objs.size f cdv))).units+3<cLine:=by have:=hr.un; omega
  refine' ⟨_,W.h (Yg ?s0 (Yg ?s1 (Yg ?s2 (Yg ?s3 (Yg ?s4 (Yg ?s5 (Yg ?s6 (Yg ?s7 (Yg ?s8 (Yg ?s9 (Yg ?sa (Yg ?sb (Yg ?sc (ZjZ ?sd)))))))))))))),?rd⟩
  case s0=>exact ⟨Zk (i:=1) scLaw.nd rfl (Or.inl rfl) (Zj Yj Zh (Zj Z3 (Zm GC hr rfl Z.C.m Z.C.F.kp Z.C.b .nil ZF (Za (pv 0) (Za Zh Zc))) Zh))⟩
  case s1=>exact ⟨Yy (ZC Zay (Zj Z3 (Zj Ys (Zm GC hr rfl Z.C.m Z.C.F.kp Z.C.b .nil ZF (Za (pv 0) (Za Zh Zc))) Zh) Zh) Zh (ZV _)) (Zf (Zk (i:=1) scLaw.nd rfl (Or.inl rfl) Zh)) ZR⟩
  case s2=>exact ⟨Zk (i:=2) scLaw.nd rfl (Or.inl rfl) (Zm GQ hr rfl Z.Q.m Z.Q.F.kp Z.Q.b .nil ZF (Za (pv 0) (Za Zh (Za (pv 1) Zc))))⟩
  case s3=>exact ⟨Zk (i:=3) scLaw.nd rfl (Or.inl rfl) (Zm GO hr rfl Z.O.m Z.O.F.kp Z.O.b .nil ZF (Za (pv 2) Zc))⟩
  case s4 =>
   refine' W.mk (Yy (PW.pt (Zdw ?c0 (Zdw ?c1 (Zcx ?c2)))) (Zf (Zq Zan)) ZR)
   case c0=>exact Zaj (Zai (Zl (Js K) rfl T.isin Zby (Za (pv 3) (Za (Zbi (v:=.ty "list") rfl T.list ZaS rfl) Zc))))
   case c1=>exact ZC (Zi1 hu0 K) (pv 3) (Yd Zc) (ZV _)
   case c2=>exact Zaj (Zai (Zm GG hr rfl Z.G.m Z.G.F.kp Z.G.b .nil ZF (Za (pv 3) (Za (pv 2) Zc))))
  case s5=>exact ⟨Yy (ZC (ZiZ (d:=2) hu2 K) (ZU (YJ K) (pv 3) Zh (fun _ _=>rfl)) (Zj Zkp (Za0 (Za (Zp (Zb5 rfl) rfl T.tuple ZI (Za (Zp JX rfl T.range Zbx (Za (pv 1) Zc)) Zc)) Zc)) Zh) (ZV _)) (Zf (Zq Zan)) ZR⟩
  case s6 =>
   refine' W.mk (Yv PassesOwn.never rfl ?i ?g (Zf ?b0))
   case i=>exact Zcf (JF ZaH (pv 0) (JU Zh) (JU Zh))
   case g=>exact ZJ (i:=4) scLaw.nd rfl (Or.inl rfl)
   case b0=>exact Yy (Zaj (Zai (Zm GL hr rfl Z.L.m Z.L.F.kp Z.L.b .nil ZF (Za (pv 3) (Za (ZU (YJ K) (pv 3) (Zj Z3 (pv 4) (Zl (Zt K) rfl T.len PySem.boot_len (Za (pv 3) Zc))) (fun _ _=>rfl)) (Za (ZU (YJ K) (pv 3) (Zj Z3 (Zj Ys (pv 4) Zh) (Zl (Zt K) rfl T.len PySem.boot_len (Za (pv 3) Zc))) (fun _ _=>rfl)) Zc)))))) (Zf (Zq Zan)) ZR
  case s7=>exact ⟨Zk (i:=5) scLaw.nd rfl (Or.inl rfl) Zh⟩
  case s8=>exact ⟨Yv PassesOwn.never rfl (Zx rfl T.range (Za (pv 1) Zc)) (ZJ (i:=6) scLaw.nd rfl (Or.inl rfl)) (Zf (Zk (i:=5) scLaw.nd rfl (Or.inl rfl) (Zj JG (pv 5) (Zj Za2 (Zj Yj (pv 6) Zh) Zh))))⟩
  case s9=>exact ⟨Zk (i:=7) scLaw.nd rfl (Or.inl rfl) (Zm GM hr rfl Z.M.m Z.M.F.kp Z.M.b .nil ZF (Za (pv 2) Zc))⟩
  case sa=>exact ⟨Yy (PW.pt (Zdw (Zaj (Zai (Zm GW hr rfl Z.W.m Z.W.F.kp Z.W.b .nil ZF (Za (pv 7) Zc)))) (Zcx (ZC Zhl (Zj JG (pv 7) (Zl (Zt K) rfl T.len PySem.boot_len (Za (pv 3) Zc))) (pv 5) (ZV _))))) (Zf (Zq Zan)) ZR⟩
  case sb=>exact ⟨Zk (i:=8) scLaw.nd rfl (Or.inl rfl) (Zp (Za9 K) rfl T.list ZaS (Za (pv 3) Zc))⟩
  case sc=>exact ⟨Yz (Jr PySem.F.plainAttrs_list PySem.F.slot_list_append PySem.F.type_list_append Ya (pv 3) (Za Zew Zc))⟩
  case sd=>exact ⟨Zq (Zcg (Zi2 (d:=3) hu3 K) (Zm GO hr rfl Z.O.m Z.O.F.kp Z.O.b .nil ZF (Za (pv 2) Zc)) (pv 8) (ZV _))⟩
  case rd =>
   refine ⟨_,rfl,a,ns,0,rfl,hS,fun z0=>?_⟩;refine ⟨_,_,rfl,rfl,(by show (0:Int)<5; decide),_,_,rfl,rfl,?_⟩;obtain ⟨n0,hz0,h10,h60⟩:∃ n:Nat,1+z0 % 5=(n:Int)/\1<=n/\n<=6:=⟨(1+z0 % 5).toNat,by exact O11 ,by exact O10 ,by exact O9 ⟩;show J7 1 (V.int (1+z0 % 5)) _ _ _;rw [hz0]
   dsimp only [J7];refine Zj6 (Zee H a) ?_ (fun hv=>?_)
   rotate_left
   ·refine ⟨_,rfl,a,ns,0,rfl,hS,fun z2=>?_⟩;refine ⟨_,_,rfl,rfl,⟨by decide,by decide⟩,_,_,rfl,rfl,(by show (0:Int)<16; decide),rfl,_,rfl,?_⟩;exact ZaA (fun _=>hv _ _ ⟨6,rfl,rfl,by decide,by decide⟩) (fun _=>hv _ _ ⟨n0,rfl,rfl,h10,h60⟩)
   rintro σ H' ⟨n,rfl,rfl,h1,h6⟩;have h8:n<=8:=by exact Om.b1 ‹_› rfl
   refine ⟨_,rfl,_,rfl,a,ns,2,n,rfl,hS,h1,h8,fun g H1 R s1 hT ok hRl=>?_⟩;refine ⟨_,rfl,g,n,R,rfl,hT,ok,hRl,h1,h6,fun l H2 B s2 hB ow hbd=>?_⟩;have hT2:=hT.same s2;have s12:=s1.trans s2;obtain ⟨l0,l1,l2⟩:=ow.len ok hRl h6;obtain ⟨ps,hps,hP⟩:=id hB;have hpl:(ps.map V.ref).length=B.length:=by rw [QAa,hP.length]
   have ixB:∀ z:Int,∃ (j:Nat) (p:Addr) (G:List (List Int)),z % (((ps.map V.ref).length:Nat):Int)=(j:Int)/\atI (ps.map V.ref) (j:Int)=some (.ref p)/\TG H2 p G/\Own n R G:=fun z=>by
    rw [hpl];have e0:=QCq z (show ((B.length:Nat):Int)≠0 by exact O8 hbd l0 hpl);have e1:=QDw z (show (0:Int)<((B.length:Nat):Int) by exact O5 hbd l0 hpl);have hj:(z % ((B.length:Nat):Int)).toNat<B.length:=by exact O7 hbd l0 hpl e1
    obtain ⟨p,hp,tp⟩:=Paired.getR hP (QAb hj);exact ⟨_,p,_,(Int.toNat_of_nonneg e0).symm,YO (by rw [QAe,hp]; rfl),tp,(ow.mem _).mp (QAq hj)⟩
   obtain ⟨p0,hp0,tp0⟩:=Paired.getR hP (ow.first ok hRl h6);have k0:atI (ps.map V.ref) (0:Int)=some (.ref p0):=YO (i:=0) (by rw [QAe,hp0]; rfl);refine ⟨_,rfl,_,"list",_,true,rfl,.lst hps,rfl,_,rfl,YZ ?_⟩;refine ⟨_,rfl,QAh _,fun le hle=>?_⟩;have s3:Same H2 (upd H2 le (.lst [])):=Same.new hle;have g3:(upd H2 le (.lst [])) le=some (.lst []):=Zb;generalize upd H2 le (.lst [])=H3 at s3 g3 ⊢;have ne:(ps.map V.ref).length≠([]:List V).length:=by rw [hpl,List.length_nil]; exact O6 hbd l0 hpl
   have ev:Y1 (ps.map V.ref) []=false:=by unfold Y1; rw [QZi ne,QCa]
   refine ⟨l,le,_,_,rfl,rfl,SqL.of (s3 _ _ hps),SqL.of g3,.inr ne,false,by rw [ev]; rfl,YZ ?_⟩;refine ⟨_,rfl,_,rfl,l,g,n,R,B,rfl,hB.same s3,hT2.same s3,ok,hRl,h1,h6,ow,fun H4 s4=>⟨_,rfl,YZ ?_⟩⟩;have s24:=s3.trans s4;refine ⟨_,rfl,l,_,_,.ref p0,rfl,rfl,SqL.of (s24 _ _ hps),k0,?_⟩;refine ⟨_,rfl,n,rfl,fun lr hlr=>⟨lr,n,rfl,Zb,by exact Om.b1 ‹_› rfl,fun lt hlt=>⟨(show 1<=sizeLine from Zy (by decide)),fun lq hlq=>?_⟩⟩⟩;have u1:Same H4 (upd H4 lr (.rng 0 (n:Int))):=Same.new hlr;have u2:Same (upd H4 lr (.rng 0 (n:Int))) (upd (upd H4 lr (.rng 0 (n:Int))) lt (.tup (rng n))):=Same.new hlt;have v2:(upd (upd H4 lr (.rng 0 (n:Int))) lt (.tup (rng n))) lt=some (.tup ((ZG n).map V.int)):=by rw [Zb,Zep]
   generalize upd (upd H4 lr (.rng 0 (n:Int))) lt (.tup (rng n))=H5 at u2 v2 hlq ⊢;have u12:=u1.trans u2;have u3:Same H5 (upd H5 lq (.tup [.ref lt])):=Same.new hlq;have v3:(upd H5 lq (.tup [.ref lt])) lq=some (.tup [.ref lt]):=Zb;generalize upd H5 lq (.tup [.ref lt])=H6 at u3 v3 ⊢;refine ⟨lq,3,_,rfl,rfl,v3,List.cons_ne_nil _ _,by decide,by decide,(show 3<=sizeLine from Zy (by decide)),fun lw hlw=>?_⟩;have u4:Same H6 (upd H6 lw (.tup (List.replicate (3:Int).toNat [V.ref lt]).flatten)):=Same.new hlw;have v4:TG (upd H6 lw (.tup (List.replicate (3:Int).toNat [V.ref lt]).flatten)) lw (YT n):=⟨[lt,lt,lt],Zb,.cons (u4 _ _ (u3 _ _ v2)) (.cons (u4 _ _ (u3 _ _ v2)) (.cons (u4 _ _ (u3 _ _ v2)) .nil))⟩;generalize upd H6 lw (.tup (List.replicate (3:Int).toNat [V.ref lt]).flatten)=H7 at u4 v4 ⊢;have s47:=u12.trans (u3.trans u4);have s27:=s24.trans s47;refine ⟨true,(ZcW (tp0.same s27) v4).cast (QZh rfl),_,rfl,YZ ?_⟩;have s17:=s12.trans s27;refine ⟨_,rfl,6,rfl,26,rfl,a,_,rfl,s17.seq hS,fun lp hlp=>?_⟩;have s8:Same H7 (upd H7 lp (.lst (Za7 (ns.map V.int) (some 6) (some 26)))):=Same.new hlp;have g8:(upd H7 lp (.lst (Za7 (ns.map V.int) (some 6) (some 26)))) lp=some (.lst (Za7 (ns.map V.int) (some 6) (some 26))):=Zb;generalize upd H7 lp (.lst (Za7 (ns.map V.int) (some 6) (some 26)))=H8 at s8 g8 ⊢;have s28:=s27.trans s8;refine ⟨lp,rfl,⟨_,SqL.of g8⟩,ZcS (xs:=Za7 (ns.map V.int) (some 6) (some 26)) (Zed a n g l H8) ⟨none,rfl,Same.refl _⟩ (fun i σ H9 _ zz0=> by obtain ⟨_,_,s9⟩ := zz0; exact SqL.of (s9 _ _ g8)) ?_ ?_⟩
   ·rintro i x σ H9 hx ⟨v4',rfl,s9⟩;obtain ⟨z,rfl⟩:=ZkT hx;have s29:=s28.trans s9;have hl9:=s29 _ _ hps;have hpos:(0:Int)<(((ps.map V.ref).length:Nat):Int):=by rw [hpl]; exact O5 hbd l0 hpl
    obtain ⟨j1,q1,G1,e1,a1,t1,o1⟩:=ixB z;obtain ⟨j2,q2,G2,e2,a2,t2,o2⟩:=ixB (z / 100);rw [<- e1] at a1;rw [<- e2] at a2;refine ⟨_,rfl,_,rfl,_,rfl,_,rfl,l,_,rfl,.inl (SqL.of hl9),_,_,rfl,rfl,hpos,l,_,_,.ref q1,rfl,rfl,SqL.of hl9,a1,?_⟩;refine ⟨_,rfl,_,rfl,_,_,rfl,rfl,⟨by decide,by decide⟩,_,rfl,l,_,rfl,.inl (SqL.of hl9),_,_,rfl,rfl,hpos,l,_,_,.ref q2,rfl,rfl,SqL.of hl9,a2,?_⟩;exact ⟨l,q1,q2,n,B,G1,G2,rfl,hB.same s29,t1.same s29,t2.same s29,o1.1,o2.1,h1,h6,(ow.mem _).mpr (Zko ok hRl o1 o2),(ow.mem _).mpr (Zkl ok hRl o1),fun HA sA=>⟨_,rfl,YZ ⟨_,rfl,s9.trans sA⟩⟩⟩
   rintro σ H9 ⟨v4',rfl,s9⟩;have s29:=s28.trans s9;refine ⟨_,rfl,(n:Int),rfl,by exact Om.c2,by exact Om.c1 ‹_› rfl,?_⟩;rw [QAf];refine Ym (lo:=0) (n:=n) (Zec a n g l H9 v4') ⟨none,rfl,rfl⟩ ?_ ?_
   ·rintro i σ HA hi ⟨v6,rfl,rfl⟩;rw [QBw];refine ⟨_,rfl,_,rfl,_,_,rfl,rfl,_,_,rfl,rfl,⟨by decide,by decide,(by rw [show ((i:Int)+1).natAbs=i+1 by omega]; exact QEd (show i+1<=7 by exact O4 h1 h6 hRl hi) (by decide))⟩,_,_,rfl,rfl,.inl (Zki i (by exact O3 h1 h6 hRl hi)),?_⟩;exact ⟨_,rfl,rfl⟩
   rintro σ HA ⟨v6,rfl,rfl⟩;rw [ZiS n (by exact Om.f3 ‹_›)];refine ⟨_,rfl,g,n,R,rfl,hT2.same s29,ok,hRl,h1,h6,fun HB B' sB ow'=>?_⟩;have eB:B'=B:=ow'.one h6 ow;subst eB;have s2B:=s29.trans sB;refine ⟨_,rfl,_,rfl,_,rfl,YZ ?_⟩;have hmul:((fac n ^ 3 / B'.length:Nat):Int)*(((ps.map V.ref).length:Nat):Int)=((fac n ^ 3:Nat):Int):=by
    rw [hpl,<- Int.natCast_mul,l2]
   refine ⟨_,rfl,_,rfl,l,_,rfl,.inl (SqL.of (s2B _ _ hps)),_,_,rfl,rfl,.inr ⟨by rw [hpl]; exact O2 hbd l0 hpl,by rw [hpl]; exact O1 hbd l0 hpl⟩,_,rfl,rfl,_,rfl,?_⟩;rw [hmul,QZh rfl];refine YZ ?_;refine ⟨_,rfl,l,_,rfl,.inl (SqL.of (s2B _ _ hps)),fun lk hlk=>?_⟩;have sC:Same HB (upd HB lk (.lst (ps.map V.ref))):=Same.new hlk;have gC:RL (upd HB lk (.lst (ps.map V.ref))) lk B':=⟨ps,Zb,Paired.mapP hP fun _ _ z=>z.same (s2B.trans sC)⟩;have hlC:=sC _ _ (s2B _ _ hps);have nlk:lk≠l:=fun z=>by rw [z,s2B _ _ hps] at hlk; cases hlk
   have hTC:=hT2.same (s2B.trans sC);generalize upd HB lk (.lst (ps.map V.ref))=HC at sC gC hlC hTC ⊢;refine ⟨_,rfl,.inl ⟨rfl,_,SqL.of hlC⟩,l,_,_,rfl,rfl,hlC,by rw [hpl]; exact Ju (by exact O0 hbd l0 hpl),?_⟩;have tD:∀ b row,HC b=some (.tup row)->(upd HC l (.lst (ps.map V.ref++[.non]))) b=some (.tup row):=fun b row e=>by
    rw [Zg (JH e hlC (by intro z; cases z))];exact e
   have gD:RL (upd HC l (.lst (ps.map V.ref++[.non]))) lk B':=gC.up (Zg nlk) tD;have hTD:=hTC.up tD;generalize upd HC l (.lst (ps.map V.ref++[.non]))=HD at gD hTD ⊢;refine ⟨_,rfl,g,n,R,rfl,hTD,ok,hRl,h1,h6,fun l' HE B2 sE hB2 ow2 _=>?_⟩;have e2:B2=B':=ow2.one h6 ow;subst e2;exact ⟨_,rfl,true,Zl4 hB2 (gD.same sE),k _⟩
end
end My
namespace My
open PySem L2
theorem exL {α:Type} {us:List α} {k:Nat} (h:us.length=k+1):∃ a t,us=a::t/\t.length=k:=by
 cases us with
 | nil=>cases h
 | cons a t=>exact ⟨a,t,rfl,Nat.succ.inj h⟩
theorem Zcc {K:QZa} {x qual:Str} {st:Stmt} {f:Addr} {fd:FuncData} {ps:List Str} (hl:ps.length=1) (F:Fun K x qual st f fd) (h:∀ (kV doc pm:Value) (an:Option Addr) (cdv ct:Value) (a0:Value),bindArgs (PySem.W.fnOf x qual (Zo st) (Zn st) (Zd st) .none kV doc pm an cdv ct) ⟨[a0],[]⟩=pure (ps.zip [a0])):Binds K fd ps [] :=
 F.binds fun kV doc pm an cdv ct us hu=>by obtain ⟨a0,us,rfl,h0⟩:=exL (hu.trans hl); obtain rfl:=QEz h0; exact h kV doc pm an cdv ct a0
theorem ZbY {K:QZa} {x qual:Str} {st:Stmt} {f:Addr} {fd:FuncData} {ps:List Str} (hl:ps.length=2) (F:Fun K x qual st f fd) (h:∀ (kV doc pm:Value) (an:Option Addr) (cdv ct:Value) (a0 a1:Value),bindArgs (PySem.W.fnOf x qual (Zo st) (Zn st) (Zd st) .none kV doc pm an cdv ct) ⟨[a0,a1],[]⟩=pure (ps.zip [a0,a1])):Binds K fd ps [] :=
 F.binds fun kV doc pm an cdv ct us hu=>by obtain ⟨a0,us,rfl,h0⟩:=exL (hu.trans hl); obtain ⟨a1,us,rfl,h1⟩:=exL h0; obtain rfl:=QEz h1; exact h kV doc pm an cdv ct a0 a1
theorem Ziq {K:QZa} {x qual:Str} {st:Stmt} {f:Addr} {fd:FuncData} {ps:List Str} (hl:ps.length=3) (F:Fun K x qual st f fd) (h:∀ (kV doc pm:Value) (an:Option Addr) (cdv ct:Value) (a0 a1 a2:Value),bindArgs (PySem.W.fnOf x qual (Zo st) (Zn st) (Zd st) .none kV doc pm an cdv ct) ⟨[a0,a1,a2],[]⟩=pure (ps.zip [a0,a1,a2])):Binds K fd ps [] :=
 F.binds fun kV doc pm an cdv ct us hu=>by obtain ⟨a0,us,rfl,h0⟩:=exL (hu.trans hl); obtain ⟨a1,us,rfl,h1⟩:=exL h0; obtain ⟨a2,us,rfl,h2⟩:=exL h1; obtain rfl:=QEz h2; exact h kV doc pm an cdv ct a0 a1 a2
theorem ZmR {K:QZa} {x qual:Str} {st:Stmt} {f:Addr} {fd:FuncData} {ps:List Str} (hl:ps.length=4) (F:Fun K x qual st f fd) (h:∀ (kV doc pm:Value) (an:Option Addr) (cdv ct:Value) (a0 a1 a2 a3:Value),bindArgs (PySem.W.fnOf x qual (Zo st) (Zn st) (Zd st) .none kV doc pm an cdv ct) ⟨[a0,a1,a2,a3],[]⟩=pure (ps.zip [a0,a1,a2,a3])):Binds K fd ps [] :=
 F.binds fun kV doc pm an cdv ct us hu=>by obtain ⟨a0,us,rfl,h0⟩:=exL (hu.trans hl); obtain ⟨a1,us,rfl,h1⟩:=exL h0; obtain ⟨a2,us,rfl,h2⟩:=exL h1; obtain ⟨a3,us,rfl,h3⟩:=exL h2; obtain rfl:=QEz h3; exact h kV doc pm an cdv ct a0 a1 a2 a3
set_option maxHeartbeats 2000000 in
theorem all_mk {l:PySem.W.OpenLaw} {w:World} {K:QZa} {h:Heap} {mg:Str->Option Value} {fa fS fBT fBE fTU fU fY fM fRF fRG fLE fWA fTW fAL fHO fLD fOW fPR fAM fC fWH fN fT fR fL fB fA fV fX fG fQ fIR fGR fCL fLaw:Addr}  (X:K.In h) (G:h.Ns mainGlobals mg) (hfa:mg "law" = some (.ref fa))
  {odS anS odBT anBT odBE anBE odTU anTU odU anU odY anY odM anM odRF anRF odRG anRG odLE anLE odWA anWA odTW anTW odAL anAL odHO anHO odLD anLD odOW anOW odPR anPR odAM anAM odC anC odWH anWH odN anN odT anT odR anR odL anL odB anB odA anA odV anV odX anX odG anG odQ anQ odIR anIR odGR anGR odCL anCL odLaw anLaw:Option Addr} {slS slBT slBE slTU slU slY slM slRF slRG slLE slWA slTW slAL slHO slLD slOW slPR slAM slC slWH slN slT slR slL slB slA slV slX slG slQ slIR slGR slCL slLaw:Array (Option Value)}
  {ocS kVS dcS pmS cdS ctS ocBT kVBT dcBT pmBT cdBT ctBT ocBE kVBE dcBE pmBE cdBE ctBE ocTU kVTU dcTU pmTU cdTU ctTU ocU kVU dcU pmU cdU ctU ocY kVY dcY pmY cdY ctY ocM kVM dcM pmM cdM ctM ocRF kVRF dcRF pmRF cdRF ctRF ocRG kVRG dcRG pmRG cdRG ctRG ocLE kVLE dcLE pmLE cdLE ctLE ocWA kVWA dcWA pmWA cdWA ctWA ocTW kVTW dcTW pmTW cdTW ctTW ocAL kVAL dcAL pmAL cdAL ctAL ocHO kVHO dcHO pmHO cdHO ctHO ocLD kVLD dcLD pmLD cdLD ctLD ocOW kVOW dcOW pmOW cdOW ctOW ocPR kVPR dcPR pmPR cdPR ctPR ocAM kVAM dcAM pmAM cdAM ctAM ocC kVC dcC pmC cdC ctC ocWH kVWH dcWH pmWH cdWH ctWH ocN kVN dcN pmN cdN ctN ocT kVT dcT pmT cdT ctT ocR kVR dcR pmR cdR ctR ocL kVL dcL pmL cdL ctL ocB kVB dcB pmB cdB ctB ocA kVA dcA pmA cdA ctA ocV kVV dcV pmV cdV ctV ocX kVX dcX pmX cdX ctX ocG kVG dcG pmG cdG ctG ocQ kVQ dcQ pmQ cdQ ctQ ocIR kVIR dcIR pmIR cdIR ctIR ocGR kVGR dcGR pmGR cdGR ctGR ocCL kVCL dcCL pmCL cdCL ctCL ocLaw kVLaw dcLaw pmLaw cdLaw ctLaw:Value}
  (aS:PySem.W.nsIn K mainGlobals "still" = some (some (.ref fS))) (lS:K.lookup fS=some ⟨ocS,odS,.func (PySem.W.fnOf "still" "still" (Zo Zas) (Zn Zas) (Zd Zas) .none kVS dcS pmS anS cdS ctS),slS⟩) (cS:PySem.W.codeIn K cdS "still" = true) (kS:PySem.W.keepIn K (.ref fS)=true)
  (aBT:PySem.W.nsIn K mainGlobals "turn_behind" = some (some (.ref fBT))) (lBT:K.lookup fBT=some ⟨ocBT,odBT,.func (PySem.W.fnOf "turn_behind" "turn_behind" (Zo Yp) (Zn Yp) (Zd Yp) .none kVBT dcBT pmBT anBT cdBT ctBT),slBT⟩) (cBT:PySem.W.codeIn K cdBT "turn_behind" = true) (kBT:PySem.W.keepIn K (.ref fBT)=true)
  (aBE:PySem.W.nsIn K mainGlobals "behind" = some (some (.ref fBE))) (lBE:K.lookup fBE=some ⟨ocBE,odBE,.func (PySem.W.fnOf "behind" "behind" (Zo JS) (Zn JS) (Zd JS) .none kVBE dcBE pmBE anBE cdBE ctBE),slBE⟩) (cBE:PySem.W.codeIn K cdBE "behind" = true) (kBE:PySem.W.keepIn K (.ref fBE)=true)
  (aTU:PySem.W.nsIn K mainGlobals "turn_undone" = some (some (.ref fTU))) (lTU:K.lookup fTU=some ⟨ocTU,odTU,.func (PySem.W.fnOf "turn_undone" "turn_undone" (Zo ZT) (Zn ZT) (Zd ZT) .none kVTU dcTU pmTU anTU cdTU ctTU),slTU⟩) (cTU:PySem.W.codeIn K cdTU "turn_undone" = true) (kTU:PySem.W.keepIn K (.ref fTU)=true)
  (aU:PySem.W.nsIn K mainGlobals "undone" = some (some (.ref fU))) (lU:K.lookup fU=some ⟨ocU,odU,.func (PySem.W.fnOf "undone" "undone" (Zo Ji) (Zn Ji) (Zd Ji) .none kVU dcU pmU anU cdU ctU),slU⟩) (cU:PySem.W.codeIn K cdU "undone" = true) (kU:PySem.W.keepIn K (.ref fU)=true)
  (aY:PySem.W.nsIn K mainGlobals "entry_renamed" = some (some (.ref fY))) (lY:K.lookup fY=some ⟨ocY,odY,.func (PySem.W.fnOf "entry_renamed" "entry_renamed" (Zo Zae) (Zn Zae) (Zd Zae) .none kVY dcY pmY anY cdY ctY),slY⟩) (cY:PySem.W.codeIn K cdY "entry_renamed" = true) (kY:PySem.W.keepIn K (.ref fY)=true)
  (aM:PySem.W.nsIn K mainGlobals "renamed" = some (some (.ref fM))) (lM:K.lookup fM=some ⟨ocM,odM,.func (PySem.W.fnOf "renamed" "renamed" (Zo Jn) (Zn Jn) (Zd Jn) .none kVM dcM pmM anM cdM ctM),slM⟩) (cM:PySem.W.codeIn K cdM "renamed" = true) (kM:PySem.W.keepIn K (.ref fM)=true)
  (aRF:PySem.W.nsIn K mainGlobals "ring_from" = some (some (.ref fRF))) (lRF:K.lookup fRF=some ⟨ocRF,odRF,.func (PySem.W.fnOf "ring_from" "ring_from" (Zo YE) (Zn YE) (Zd YE) .none kVRF dcRF pmRF anRF cdRF ctRF),slRF⟩) (cRF:PySem.W.codeIn K cdRF "ring_from" = true) (kRF:PySem.W.keepIn K (.ref fRF)=true)
  (aRG:PySem.W.nsIn K mainGlobals "rings" = some (some (.ref fRG))) (lRG:K.lookup fRG=some ⟨ocRG,odRG,.func (PySem.W.fnOf "rings" "rings" (Zo JQ) (Zn JQ) (Zd JQ) .none kVRG dcRG pmRG anRG cdRG ctRG),slRG⟩) (cRG:PySem.W.codeIn K cdRG "rings" = true) (kRG:PySem.W.keepIn K (.ref fRG)=true)
  (aLE:PySem.W.nsIn K mainGlobals "lengths_of" = some (some (.ref fLE))) (lLE:K.lookup fLE=some ⟨ocLE,odLE,.func (PySem.W.fnOf "lengths_of" "lengths_of" (Zo Jp) (Zn Jp) (Zd Jp) .none kVLE dcLE pmLE anLE cdLE ctLE),slLE⟩) (cLE:PySem.W.codeIn K cdLE "lengths_of" = true) (kLE:PySem.W.keepIn K (.ref fLE)=true)
  (aWA:PySem.W.nsIn K mainGlobals "walks" = some (some (.ref fWA))) (lWA:K.lookup fWA=some ⟨ocWA,odWA,.func (PySem.W.fnOf "walks" "walks" (Zo Zar) (Zn Zar) (Zd Zar) .none kVWA dcWA pmWA anWA cdWA ctWA),slWA⟩) (cWA:PySem.W.codeIn K cdWA "walks" = true) (kWA:PySem.W.keepIn K (.ref fWA)=true)
  (aTW:PySem.W.nsIn K mainGlobals "two_rows" = some (some (.ref fTW))) (lTW:K.lookup fTW=some ⟨ocTW,odTW,.func (PySem.W.fnOf "two_rows" "two_rows" (Zo Jm) (Zn Jm) (Zd Jm) .none kVTW dcTW pmTW anTW cdTW ctTW),slTW⟩) (cTW:PySem.W.codeIn K cdTW "two_rows" = true) (kTW:PySem.W.keepIn K (.ref fTW)=true)
  (aAL:PySem.W.nsIn K mainGlobals "renaming_along" = some (some (.ref fAL))) (lAL:K.lookup fAL=some ⟨ocAL,odAL,.func (PySem.W.fnOf "renaming_along" "renaming_along" (Zo JT) (Zn JT) (Zd JT) .none kVAL dcAL pmAL anAL cdAL ctAL),slAL⟩) (cAL:PySem.W.codeIn K cdAL "renaming_along" = true) (kAL:PySem.W.keepIn K (.ref fAL)=true)
  (aHO:PySem.W.nsIn K mainGlobals "hopeful" = some (some (.ref fHO))) (lHO:K.lookup fHO=some ⟨ocHO,odHO,.func (PySem.W.fnOf "hopeful" "hopeful" (Zo YI) (Zn YI) (Zd YI) .none kVHO dcHO pmHO anHO cdHO ctHO),slHO⟩) (cHO:PySem.W.codeIn K cdHO "hopeful" = true) (kHO:PySem.W.keepIn K (.ref fHO)=true)
  (aLD:PySem.W.nsIn K mainGlobals "leading" = some (some (.ref fLD))) (lLD:K.lookup fLD=some ⟨ocLD,odLD,.func (PySem.W.fnOf "leading" "leading" (Zo YH) (Zn YH) (Zd YH) .none kVLD dcLD pmLD anLD cdLD ctLD),slLD⟩) (cLD:PySem.W.codeIn K cdLD "leading" = true) (kLD:PySem.W.keepIn K (.ref fLD)=true)
  (aOW:PySem.W.nsIn K mainGlobals "own" = some (some (.ref fOW))) (lOW:K.lookup fOW=some ⟨ocOW,odOW,.func (PySem.W.fnOf "own" "own" (Zo Zdb) (Zn Zdb) (Zd Zdb) .none kVOW dcOW pmOW anOW cdOW ctOW),slOW⟩) (cOW:PySem.W.codeIn K cdOW "own" = true) (kOW:PySem.W.keepIn K (.ref fOW)=true)
  (aPR:PySem.W.nsIn K mainGlobals "product_to" = some (some (.ref fPR))) (lPR:K.lookup fPR=some ⟨ocPR,odPR,.func (PySem.W.fnOf "product_to" "product_to" (Zo Jo) (Zn Jo) (Zd Jo) .none kVPR dcPR pmPR anPR cdPR ctPR),slPR⟩) (cPR:PySem.W.codeIn K cdPR "product_to" = true) (kPR:PySem.W.keepIn K (.ref fPR)=true)
  (aAM:PySem.W.nsIn K mainGlobals "alike_many" = some (some (.ref fAM))) (lAM:K.lookup fAM=some ⟨ocAM,odAM,.func (PySem.W.fnOf "alike_many" "alike_many" (Zo Zb2) (Zn Zb2) (Zd Zb2) .none kVAM dcAM pmAM anAM cdAM ctAM),slAM⟩) (cAM:PySem.W.codeIn K cdAM "alike_many" = true) (kAM:PySem.W.keepIn K (.ref fAM)=true)
  (aC:PySem.W.nsIn K mainGlobals "_law_cell_at" = some (some (.ref fC))) (lC:K.lookup fC=some ⟨ocC,odC,.func (PySem.W.fnOf "_law_cell_at" "_law_cell_at" (Zo Zat) (Zn Zat) (Zd Zat) .none kVC dcC pmC anC cdC ctC),slC⟩) (cC:PySem.W.codeIn K cdC "_law_cell_at" = true) (kC:PySem.W.keepIn K (.ref fC)=true)
  (aWH:PySem.W.nsIn K mainGlobals "_law_whole" = some (some (.ref fWH))) (lWH:K.lookup fWH=some ⟨ocWH,odWH,.func (PySem.W.fnOf "_law_whole" "_law_whole" (Zo JY) (Zn JY) (Zd JY) .none kVWH dcWH pmWH anWH cdWH ctWH),slWH⟩) (cWH:PySem.W.codeIn K cdWH "_law_whole" = true) (kWH:PySem.W.keepIn K (.ref fWH)=true)
  (aN:PySem.W.nsIn K mainGlobals "_law_number" = some (some (.ref fN))) (lN:K.lookup fN=some ⟨ocN,odN,.func (PySem.W.fnOf "_law_number" "_law_number" (Zo Jv) (Zn Jv) (Zd Jv) .none kVN dcN pmN anN cdN ctN),slN⟩) (cN:PySem.W.codeIn K cdN "_law_number" = true) (kN:PySem.W.keepIn K (.ref fN)=true)
  (aT:PySem.W.nsIn K mainGlobals "_law_turn" = some (some (.ref fT))) (lT:K.lookup fT=some ⟨ocT,odT,.func (PySem.W.fnOf "_law_turn" "_law_turn" (Zo ZaU) (Zn ZaU) (Zd ZaU) .none kVT dcT pmT anT cdT ctT),slT⟩) (cT:PySem.W.codeIn K cdT "_law_turn" = true) (kT:PySem.W.keepIn K (.ref fT)=true)
  (aR:PySem.W.nsIn K mainGlobals "_law_renaming" = some (some (.ref fR))) (lR:K.lookup fR=some ⟨ocR,odR,.func (PySem.W.fnOf "_law_renaming" "_law_renaming" (Zo YR) (Zn YR) (Zd YR) .none kVR dcR pmR anR cdR ctR),slR⟩) (cR:PySem.W.codeIn K cdR "_law_renaming" = true) (kR:PySem.W.keepIn K (.ref fR)=true)
  (aL:PySem.W.nsIn K mainGlobals "_law_renamed" = some (some (.ref fL))) (lL:K.lookup fL=some ⟨ocL,odL,.func (PySem.W.fnOf "_law_renamed" "_law_renamed" (Zo Zbc) (Zn Zbc) (Zd Zbc) .none kVL dcL pmL anL cdL ctL),slL⟩) (cL:PySem.W.codeIn K cdL "_law_renamed" = true) (kL:PySem.W.keepIn K (.ref fL)=true)
  (aB:PySem.W.nsIn K mainGlobals "_law_base" = some (some (.ref fB))) (lB:K.lookup fB=some ⟨ocB,odB,.func (PySem.W.fnOf "_law_base" "_law_base" (Zo Zbd) (Zn Zbd) (Zd Zbd) .none kVB dcB pmB anB cdB ctB),slB⟩) (cB:PySem.W.codeIn K cdB "_law_base" = true) (kB:PySem.W.keepIn K (.ref fB)=true)
  (aA:PySem.W.nsIn K mainGlobals "_law_along" = some (some (.ref fA))) (lA:K.lookup fA=some ⟨ocA,odA,.func (PySem.W.fnOf "_law_along" "_law_along" (Zo Zaf) (Zn Zaf) (Zd Zaf) .none kVA dcA pmA anA cdA ctA),slA⟩) (cA:PySem.W.codeIn K cdA "_law_along" = true) (kA:PySem.W.keepIn K (.ref fA)=true)
  (aV:PySem.W.nsIn K mainGlobals "_law_row" = some (some (.ref fV))) (lV:K.lookup fV=some ⟨ocV,odV,.func (PySem.W.fnOf "_law_row" "_law_row" (Zo Zem) (Zn Zem) (Zd Zem) .none kVV dcV pmV anV cdV ctV),slV⟩) (cV:PySem.W.codeIn K cdV "_law_row" = true) (kV:PySem.W.keepIn K (.ref fV)=true)
  (aX:PySem.W.nsIn K mainGlobals "_law_by_rows" = some (some (.ref fX))) (lX:K.lookup fX=some ⟨ocX,odX,.func (PySem.W.fnOf "_law_by_rows" "_law_by_rows" (Zo JR) (Zn JR) (Zd JR) .none kVX dcX pmX anX cdX ctX),slX⟩) (cX:PySem.W.codeIn K cdX "_law_by_rows" = true) (kX:PySem.W.keepIn K (.ref fX)=true)
  (aG:PySem.W.nsIn K mainGlobals "_law_by_rings" = some (some (.ref fG))) (lG:K.lookup fG=some ⟨ocG,odG,.func (PySem.W.fnOf "_law_by_rings" "_law_by_rings" (Zo Jq) (Zn Jq) (Zd Jq) .none kVG dcG pmG anG cdG ctG),slG⟩) (cG:PySem.W.codeIn K cdG "_law_by_rings" = true) (kG:PySem.W.keepIn K (.ref fG)=true)
  (aQ:PySem.W.nsIn K mainGlobals "_law_square" = some (some (.ref fQ))) (lQ:K.lookup fQ=some ⟨ocQ,odQ,.func (PySem.W.fnOf "_law_square" "_law_square" (Zo JP) (Zn JP) (Zd JP) .none kVQ dcQ pmQ anQ cdQ ctQ),slQ⟩) (cQ:PySem.W.codeIn K cdQ "_law_square" = true) (kQ:PySem.W.keepIn K (.ref fQ)=true)
  (aIR:PySem.W.nsIn K mainGlobals "_law_is_renaming" = some (some (.ref fIR))) (lIR:K.lookup fIR=some ⟨ocIR,odIR,.func (PySem.W.fnOf "_law_is_renaming" "_law_is_renaming" (Zo Zac) (Zn Zac) (Zd Zac) .none kVIR dcIR pmIR anIR cdIR ctIR),slIR⟩) (cIR:PySem.W.codeIn K cdIR "_law_is_renaming" = true) (kIR:PySem.W.keepIn K (.ref fIR)=true)
  (aGR:PySem.W.nsIn K mainGlobals "_law_grown" = some (some (.ref fGR))) (lGR:K.lookup fGR=some ⟨ocGR,odGR,.func (PySem.W.fnOf "_law_grown" "_law_grown" (Zo Zad) (Zn Zad) (Zd Zad) .none kVGR dcGR pmGR anGR cdGR ctGR),slGR⟩) (cGR:PySem.W.codeIn K cdGR "_law_grown" = true) (kGR:PySem.W.keepIn K (.ref fGR)=true)
  (aCL:PySem.W.nsIn K mainGlobals "_law_closed" = some (some (.ref fCL))) (lCL:K.lookup fCL=some ⟨ocCL,odCL,.func (PySem.W.fnOf "_law_closed" "_law_closed" (Zo Jw) (Zn Jw) (Zd Jw) .none kVCL dcCL pmCL anCL cdCL ctCL),slCL⟩) (cCL:PySem.W.codeIn K cdCL "_law_closed" = true) (kCL:PySem.W.keepIn K (.ref fCL)=true)
  (aLaw:PySem.W.nsIn K mainGlobals "law" = some (some (.ref fLaw))) (lLaw:K.lookup fLaw=some ⟨ocLaw,odLaw,.func (PySem.W.fnOf "law" "law" (Zo Zb8) (Zn Zb8) (Zd Zb8) .none kVLaw dcLaw pmLaw anLaw cdLaw ctLaw),slLaw⟩) (cLaw:PySem.W.codeIn K cdLaw "law" = true) (kLaw:PySem.W.keepIn K (.ref fLaw)=true)
  (z0:PySem.W.nsIn K mainGlobals "len" = some none)
  (z1:PySem.W.nsIn K mainGlobals "range" = some none)
  (z2:PySem.W.nsIn K mainGlobals "tuple" = some none)
  (z3:PySem.W.nsIn K mainGlobals "list" = some none)
  (z4:PySem.W.nsIn K mainGlobals "isinstance" = some none)
  (z5:PySem.W.nsIn K mainGlobals "int" = some none)
  (z6:PySem.W.nsIn K mainGlobals "bool" = some none)
  (z7:PySem.W.nsIn K mainGlobals "zip" = some none)
  (z8:PySem.W.nsIn K mainGlobals "max" = some none)
  (z9:PySem.W.nsIn K mainGlobals "sorted" = some none)
  (z10:PySem.W.nsIn K mainGlobals "enumerate" = some none)
  (z11:PySem.W.nsIn K mainGlobals "min" = some none) :
  ∃ fd:FuncData,(∀ (s:Shared) (v:Value),BindsTo s fd ⟨[v],[]⟩ [("_law_script",v)])/\∀ base:Heap,K.In base->base.Ns mainGlobals mg->FnOk l.prog w K mg base CX0 12 fa fd ["_law_script"] (Zg8 K):=by
 have e:=hfa.symm.trans (PySem.W.mg_of X G aLaw)
 cases e;have T:Blt mg:=⟨PySem.W.mg_none_of X G z0,PySem.W.mg_none_of X G z1,PySem.W.mg_none_of X G z2,PySem.W.mg_none_of X G z3,PySem.W.mg_none_of X G z4,PySem.W.mg_none_of X G z5,PySem.W.mg_none_of X G z6,PySem.W.mg_none_of X G z7,PySem.W.mg_none_of X G z8,PySem.W.mg_none_of X G z9,PySem.W.mg_none_of X G z10,PySem.W.mg_none_of X G z11⟩;have FS:=ZH (st:=Zas) lS cS kS;have FBT:=ZH (st:=Yp) lBT cBT kBT;have FBE:=ZH (st:=JS) lBE cBE kBE;have FTU:=ZH (st:=ZT) lTU cTU kTU;have FU:=ZH (st:=Ji) lU cU kU;have FY:=ZH (st:=Zae) lY cY kY;have FM:=ZH (st:=Jn) lM cM kM;have FRF:=ZH (st:=YE) lRF cRF kRF;have FRG:=ZH (st:=JQ) lRG cRG kRG;have FLE:=ZH (st:=Jp) lLE cLE kLE;have FWA:=ZH (st:=Zar) lWA cWA kWA;have FTW:=ZH (st:=Jm) lTW cTW kTW;have FAL:=ZH (st:=JT) lAL cAL kAL;have FHO:=ZH (st:=YI) lHO cHO kHO;have FLD:=ZH (st:=YH) lLD cLD kLD;have FOW:=ZH (st:=Zdb) lOW cOW kOW;have FPR:=ZH (st:=Jo) lPR cPR kPR;have FAM:=ZH (st:=Zb2) lAM cAM kAM;have FC:=ZH (st:=Zat) lC cC kC;have FWH:=ZH (st:=JY) lWH cWH kWH;have FN:=ZH (st:=Jv) lN cN kN;have FT:=ZH (st:=ZaU) lT cT kT;have FR:=ZH (st:=YR) lR cR kR;have FL:=ZH (st:=Zbc) lL cL kL;have FB:=ZH (st:=Zbd) lB cB kB;have FA:=ZH (st:=Zaf) lA cA kA;have FV:=ZH (st:=Zem) lV cV kV;have FX:=ZH (st:=JR) lX cX kX;have FG:=ZH (st:=Jq) lG cG kG;have FQ:=ZH (st:=JP) lQ cQ kQ;have FIR:=ZH (st:=Zac) lIR cIR kIR;have FGR:=ZH (st:=Zad) lGR cGR kGR;have FCL:=ZH (st:=Jw) lCL cCL kCL;have FLaw:=ZH (st:=Zb8) lLaw cLaw kLaw;have DS:Dfn K mg "still" Zas ["n"] fS _:=⟨FS,Zcc (ps:=["n"]) rfl FS fun _ _ _ _ _ _ _=>rfl,PySem.W.mg_of X G aS⟩;have DBT:Dfn K mg "turn_behind" Yp ["one","other"] fBT _:=⟨FBT,ZbY (ps:=["one","other"]) rfl FBT fun _ _ _ _ _ _ _ _=>rfl,PySem.W.mg_of X G aBT⟩;have DBE:Dfn K mg "behind" JS ["one","other"] fBE _:=⟨FBE,ZbY (ps:=["one","other"]) rfl FBE fun _ _ _ _ _ _ _ _=>rfl,PySem.W.mg_of X G aBE⟩;have DTU:Dfn K mg "turn_undone" ZT ["turn"] fTU _:=⟨FTU,Zcc (ps:=["turn"]) rfl FTU fun _ _ _ _ _ _ _=>rfl,PySem.W.mg_of X G aTU⟩;have DU:Dfn K mg "undone" Ji ["renaming"] fU _:=⟨FU,Zcc (ps:=["renaming"]) rfl FU fun _ _ _ _ _ _ _=>rfl,PySem.W.mg_of X G aU⟩;have DY:Dfn K mg "entry_renamed" Zae ["entry","things"] fY _:=⟨FY,ZbY (ps:=["entry","things"]) rfl FY fun _ _ _ _ _ _ _ _=>rfl,PySem.W.mg_of X G aY⟩;have DM:Dfn K mg "renamed" Jn ["begun","renaming"] fM _:=⟨FM,ZbY (ps:=["begun","renaming"]) rfl FM fun _ _ _ _ _ _ _ _=>rfl,PySem.W.mg_of X G aM⟩;have DRF:Dfn K mg "ring_from" YE ["square","one","other","column"] fRF _:=⟨FRF,ZmR (ps:=["square","one","other","column"]) rfl FRF fun _ _ _ _ _ _ _ _ _ _=>rfl,PySem.W.mg_of X G aRF⟩;have DRG:Dfn K mg "rings" JQ ["square","one","other"] fRG _:=⟨FRG,Ziq (ps:=["square","one","other"]) rfl FRG fun _ _ _ _ _ _ _ _ _=>rfl,PySem.W.mg_of X G aRG⟩;have DLE:Dfn K mg "lengths_of" Jp ["circles"] fLE _:=⟨FLE,Zcc (ps:=["circles"]) rfl FLE fun _ _ _ _ _ _ _=>rfl,PySem.W.mg_of X G aLE⟩;have DWA:Dfn K mg "walks" Zar ["circles"] fWA _:=⟨FWA,Zcc (ps:=["circles"]) rfl FWA fun _ _ _ _ _ _ _=>rfl,PySem.W.mg_of X G aWA⟩;have DTW:Dfn K mg "two_rows" Jm ["size"] fTW _:=⟨FTW,Zcc (ps:=["size"]) rfl FTW fun _ _ _ _ _ _ _=>rfl,PySem.W.mg_of X G aTW⟩;have DAL:Dfn K mg "renaming_along" JT ["square","top","walk"] fAL _:=⟨FAL,Ziq (ps:=["square","top","walk"]) rfl FAL fun _ _ _ _ _ _ _ _ _=>rfl,PySem.W.mg_of X G aAL⟩;have DHO:Dfn K mg "hopeful" YI ["square"] fHO _:=⟨FHO,Zcc (ps:=["square"]) rfl FHO fun _ _ _ _ _ _ _=>rfl,PySem.W.mg_of X G aHO⟩;have DLD:Dfn K mg "leading" YH ["square"] fLD _:=⟨FLD,Zcc (ps:=["square"]) rfl FLD fun _ _ _ _ _ _ _=>rfl,PySem.W.mg_of X G aLD⟩;have DOW:Dfn K mg "own" Zdb ["square"] fOW _:=⟨FOW,Zcc (ps:=["square"]) rfl FOW fun _ _ _ _ _ _ _=>rfl,PySem.W.mg_of X G aOW⟩;have DPR:Dfn K mg "product_to" Jo ["n"] fPR _:=⟨FPR,Zcc (ps:=["n"]) rfl FPR fun _ _ _ _ _ _ _=>rfl,PySem.W.mg_of X G aPR⟩;have DAM:Dfn K mg "alike_many" Zb2 ["square"] fAM _:=⟨FAM,Zcc (ps:=["square"]) rfl FAM fun _ _ _ _ _ _ _=>rfl,PySem.W.mg_of X G aAM⟩;have DC:Dfn K mg "_law_cell_at" Zat ["_law_script","_law_k"] fC _:=⟨FC,ZbY (ps:=["_law_script","_law_k"]) rfl FC fun _ _ _ _ _ _ _ _=>rfl,PySem.W.mg_of X G aC⟩
 have DWH:Dfn K mg "_law_whole" JY ["_law_found"] fWH _:=⟨FWH,Zcc (ps:=["_law_found"]) rfl FWH fun _ _ _ _ _ _ _=>rfl,PySem.W.mg_of X G aWH⟩;have DN:Dfn K mg "_law_number" Jv ["_law_script","_law_k"] fN _:=⟨FN,ZbY (ps:=["_law_script","_law_k"]) rfl FN fun _ _ _ _ _ _ _ _=>rfl,PySem.W.mg_of X G aN⟩;have DT:Dfn K mg "_law_turn" ZaU ["_law_n","_law_number_here"] fT _:=⟨FT,ZbY (ps:=["_law_n","_law_number_here"]) rfl FT fun _ _ _ _ _ _ _ _=>rfl,PySem.W.mg_of X G aT⟩;have DR:Dfn K mg "_law_renaming" YR ["_law_script","_law_k","_law_n"] fR _:=⟨FR,Ziq (ps:=["_law_script","_law_k","_law_n"]) rfl FR fun _ _ _ _ _ _ _ _ _=>rfl,PySem.W.mg_of X G aR⟩;have DL:Dfn K mg "_law_renamed" Zbc ["_law_begun","_law_renaming_here"] fL _:=⟨FL,ZbY (ps:=["_law_begun","_law_renaming_here"]) rfl FL fun _ _ _ _ _ _ _ _=>rfl,PySem.W.mg_of X G aL⟩;have DB:Dfn K mg "_law_base" Zbd ["_law_n","_law_number_here"] fB _:=⟨FB,ZbY (ps:=["_law_n","_law_number_here"]) rfl FB fun _ _ _ _ _ _ _ _=>rfl,PySem.W.mg_of X G aB⟩;have DA:Dfn K mg "_law_along" Zaf ["_law_rows","_law_one","_law_other","_law_column"] fA _:=⟨FA,ZmR (ps:=["_law_rows","_law_one","_law_other","_law_column"]) rfl FA fun _ _ _ _ _ _ _ _ _ _=>rfl,PySem.W.mg_of X G aA⟩;have DV:Dfn K mg "_law_row" Zem ["_law_rows","_law_made","_law_digits"] fV _:=⟨FV,Ziq (ps:=["_law_rows","_law_made","_law_digits"]) rfl FV fun _ _ _ _ _ _ _ _ _=>rfl,PySem.W.mg_of X G aV⟩;have DX:Dfn K mg "_law_by_rows" JR ["_law_n","_law_number_here"] fX _:=⟨FX,ZbY (ps:=["_law_n","_law_number_here"]) rfl FX fun _ _ _ _ _ _ _ _=>rfl,PySem.W.mg_of X G aX⟩;have DG:Dfn K mg "_law_by_rings" Jq ["_law_n","_law_number_here"] fG _:=⟨FG,ZbY (ps:=["_law_n","_law_number_here"]) rfl FG fun _ _ _ _ _ _ _ _=>rfl,PySem.W.mg_of X G aG⟩;have DQ:Dfn K mg "_law_square" JP ["_law_script","_law_k","_law_n"] fQ _:=⟨FQ,Ziq (ps:=["_law_script","_law_k","_law_n"]) rfl FQ fun _ _ _ _ _ _ _ _ _=>rfl,PySem.W.mg_of X G aQ⟩;have DIR:Dfn K mg "_law_is_renaming" Zac ["_law_found","_law_n"] fIR _:=⟨FIR,ZbY (ps:=["_law_found","_law_n"]) rfl FIR fun _ _ _ _ _ _ _ _=>rfl,PySem.W.mg_of X G aIR⟩;have DGR:Dfn K mg "_law_grown" Zad ["_law_found","_law_square_here"] fGR _:=⟨FGR,ZbY (ps:=["_law_found","_law_square_here"]) rfl FGR fun _ _ _ _ _ _ _ _=>rfl,PySem.W.mg_of X G aGR⟩;have DCL:Dfn K mg "_law_closed" Jw ["_law_found","_law_one","_law_other"] fCL _:=⟨FCL,Ziq (ps:=["_law_found","_law_one","_law_other"]) rfl FCL fun _ _ _ _ _ _ _ _ _=>rfl,PySem.W.mg_of X G aCL⟩;exact ⟨PySem.W.fnOf "law" "law" (Zo Zb8) (Zn Zb8) (Zd Zb8) .none kVLaw dcLaw pmLaw anLaw cdLaw ctLaw,fun s v=>.of_eq rfl,fun base _ _=>ZlM FLaw (Defs.mk T DC DQ DOW DGR DCL DAM DWH (Zh8 FQ T (SqD.mk DC DN DT DR DL DB DA DV DX DG)) ((Zi5 FOW T DLD DU DBE (Zhn FLD T (HpD.mk DS DTU DRF DRG DLE DWA DTW DAL) DHO DM DU DY) ((ZbK FU T DTU).mono (by decide)) ((ZdA FBE T DBT).mono (by decide))).mono (by decide)) ((Zi7 FGR T DIR DL DWH).mono (by decide)) ((Zks FAM T DPR DOW (Zi5 FOW T DLD DU DBE (Zhn FLD T (HpD.mk DS DTU DRF DRG DLE DWA DTW DAL) DHO DM DU DY) ((ZbK FU T DTU).mono (by decide)) ((ZdA FBE T DBT).mono (by decide)))).mono (by decide)))⟩
theorem walk {l:PySem.W.OpenLaw} {q:Program} {loose:List Str} {XP:(Str->Option Value)->Heap->Prop} {YP:World->Heap->Prop} {d:DefRec} {K:Params->QZa} (hn:l.most=some 63) (hdf:d.params.defaults=[])
  (hY:∀ (w:World) (h:Heap),YP w h->(K w.params).In h)
  (F:∀ (w:World) (mg:Str->Option Value) (fa:Addr) (h:Heap),(K w.params).In h->h.Ns mainGlobals mg->mg d.name=some (.ref fa) ->
   ∃ fd:FuncData,(∀ (s:Shared) (u:Value),BindsTo s fd ⟨[u],[]⟩ [("_law_script",u)])/\∀ base:Heap,(K w.params).In base->base.Ns mainGlobals mg->FnOk l.prog w (K w.params) mg base CX0 12 fa fd ["_law_script"] (Zg8 (K w.params))) :
  PySem.W.WalkO q loose XP YP l.row.toRowW d [] (fun f vs=>PySem.call f vs) :=
 L2.walk_of (n:=63) (k:=12) (x:="_law_script") (CX:=fun _=>CX0) (sp:=fun w=>Zg8 (K w.params)) hn (by decide) hdf ⟨rfl,by decide,by decide⟩ hY F (fun _ _ a ns hl _ hS=>⟨a,ns,rfl,hS,hl,fun _=>rfl⟩) fun _ _ _ _ _ z=>z
end My
open PySem PySem.W PyProof.Rows
set_option maxRecDepth 100000 in
set_option maxHeartbeats 0 in
theorem PySem.Challenge.cw_latinclose_k54_own_renamings_holds : PySem.Challenge.rw_latinclose_k54_own_renamings.Holds := by
 w_on; o_law; k_head; (case hw=>w_witness2)
 k_fill
 refine My.walk (l:=PySem.Challenge.rw_latinclose_k54_own_renamings) rfl rfl (fun w h Y=>PySem.W.kIn_of Y) ?F
 case F =>
  intro w mg fa h KX G hmg
  refine' My.all_mk KX G hmg ?aS ?lS ?cS ?kS ?aBT ?lBT ?cBT ?kBT ?aBE ?lBE ?cBE ?kBE ?aTU ?lTU ?cTU ?kTU ?aU ?lU ?cU ?kU ?aY ?lY ?cY ?kY ?aM ?lM ?cM ?kM ?aRF ?lRF ?cRF ?kRF ?aRG ?lRG ?cRG ?kRG ?aLE ?lLE ?cLE ?kLE ?aWA ?lWA ?cWA ?kWA ?aTW ?lTW ?cTW ?kTW ?aAL ?lAL ?cAL ?kAL ?aHO ?lHO ?cHO ?kHO ?aLD ?lLD ?cLD ?kLD ?aOW ?lOW ?cOW ?kOW ?aPR ?lPR ?cPR ?kPR ?aAM ?lAM ?cAM ?kAM ?aC ?lC ?cC ?kC ?aWH ?lWH ?cWH ?kWH ?aN ?lN ?cN ?kN ?aT ?lT ?cT ?kT ?aR ?lR ?cR ?kR ?aL ?lL ?cL ?kL ?aB ?lB ?cB ?kB ?aA ?lA ?cA ?kA ?aV ?lV ?cV ?kV ?aX ?lX ?cX ?kX ?aG ?lG ?cG ?kG ?aQ ?lQ ?cQ ?kQ ?aIR ?lIR ?cIR ?kIR ?aGR ?lGR ?cGR ?kGR ?aCL ?lCL ?cCL ?kCL ?aLaw ?lLaw ?cLaw ?kLaw ?z0 ?z1 ?z2 ?z3 ?z4 ?z5 ?z6 ?z7 ?z8 ?z9 ?z10 ?z11
  (case aS=>k_is)
  (case lS=>k_is)
  (case cS=>k_is)
  (case kS=>k_is)
  (case aBT=>k_is)
  (case lBT=>k_is)
  (case cBT=>k_is)
  (case kBT=>k_is)
  (case aBE=>k_is)
  (case lBE=>k_is)
  (case cBE=>k_is)
  (case kBE=>k_is)
  (case aTU=>k_is)
  (case lTU=>k_is)
  (case cTU=>k_is)
  (case kTU=>k_is)
  (case aU=>k_is)
  (case lU=>k_is)
  (case cU=>k_is)
  (case kU=>k_is)
  (case aY=>k_is)
  (case lY=>k_is)
  (case cY=>k_is)
  (case kY=>k_is)
  (case aM=>k_is)
  (case lM=>k_is)
  (case cM=>k_is)
  (case kM=>k_is)
  (case aRF=>k_is)
  (case lRF=>k_is)
  (case cRF=>k_is)
  (case kRF=>k_is)
  (case aRG=>k_is)
  (case lRG=>k_is)
  (case cRG=>k_is)
  (case kRG=>k_is)
  (case aLE=>k_is)
  (case lLE=>k_is)
  (case cLE=>k_is)
  (case kLE=>k_is)
  (case aWA=>k_is)
  (case lWA=>k_is)
  (case cWA=>k_is)
  (case kWA=>k_is)
  (case aTW=>k_is)
  (case lTW=>k_is)
  (case cTW=>k_is)
  (case kTW=>k_is)
  (case aAL=>k_is)
  (case lAL=>k_is)
  (case cAL=>k_is)
  (case kAL=>k_is)
  (case aHO=>k_is)
  (case lHO=>k_is)
  (case cHO=>k_is)
  (case kHO=>k_is)
  (case aLD=>k_is)
  (case lLD=>k_is)
  (case cLD=>k_is)
  (case kLD=>k_is)
  (case aOW=>k_is)
  (case lOW=>k_is)
  (case cOW=>k_is)
  (case kOW=>k_is)
  (case aPR=>k_is)
  (case lPR=>k_is)
  (case cPR=>k_is)
  (case kPR=>k_is)
  (case aAM=>k_is)
  (case lAM=>k_is)
  (case cAM=>k_is)
  (case kAM=>k_is)
  (case aC=>k_is)
  (case lC=>k_is)
  (case cC=>k_is)
  (case kC=>k_is)
  (case aWH=>k_is)
  (case lWH=>k_is)
  (case cWH=>k_is)
  (case kWH=>k_is)
  (case aN=>k_is)
  (case lN=>k_is)
  (case cN=>k_is)
  (case kN=>k_is)
  (case aT=>k_is)
  (case lT=>k_is)
  (case cT=>k_is)
  (case kT=>k_is)
  (case aR=>k_is)
  (case lR=>k_is)
  (case cR=>k_is)
  (case kR=>k_is)
  (case aL=>k_is)
  (case lL=>k_is)
  (case cL=>k_is)
  (case kL=>k_is)
  (case aB=>k_is)
  (case lB=>k_is)
  (case cB=>k_is)
  (case kB=>k_is)
  (case aA=>k_is)
  (case lA=>k_is)
  (case cA=>k_is)
  (case kA=>k_is)
  (case aV=>k_is)
  (case lV=>k_is)
  (case cV=>k_is)
  (case kV=>k_is)
  (case aX=>k_is)
  (case lX=>k_is)
  (case cX=>k_is)
  (case kX=>k_is)
  (case aG=>k_is)
  (case lG=>k_is)
  (case cG=>k_is)
  (case kG=>k_is)
  (case aQ=>k_is)
  (case lQ=>k_is)
  (case cQ=>k_is)
  (case kQ=>k_is)
  (case aIR=>k_is)
  (case lIR=>k_is)
  (case cIR=>k_is)
  (case kIR=>k_is)
  (case aGR=>k_is)
  (case lGR=>k_is)
  (case cGR=>k_is)
  (case kGR=>k_is)
  (case aCL=>k_is)
  (case lCL=>k_is)
  (case cCL=>k_is)
  (case kCL=>k_is)
  (case aLaw=>k_is)
  (case lLaw=>k_is)
  (case cLaw=>k_is)
  (case kLaw=>k_is)
  (case z0=>k_is)
  (case z1=>k_is)
  (case z2=>k_is)
  (case z3=>k_is)
  (case z4=>k_is)
  (case z5=>k_is)
  (case z6=>k_is)
  (case z7=>k_is)
  (case z8=>k_is)
  (case z9=>k_is)
  (case z10=>k_is)
  (case z11=>k_is)
