import PyProof.Rows.All
import Wide.All
import OpenK.AllK
import Wide.FinOn
import Lean
import PyProof.EqAt
import PyProof.EqKinds
import PyProof.TupleCall
import PyProof.NeKinds
import PyProof.StrOps2
import PyProof.InstStoreFacts
import PyProof.ExcInit
import PyProof.ListRange
import PyProof.ListMulRoad
import PyProof.DictWalks
import PyProof.Rows.SortWalk
import KE.KDictOf
import PyProof.AttrMissSeq
import PyProof.DictItemsLoops
import PyProof.ZipIter
import PyProof.Rows.SetFrom
import PyProof.Rows.ZipGen
import PyProof.EnumIter
import PyProof.TupleIter
import KE.KDictSum
import PyProof.DictIter
import PyProof.TupleOfSeq
import PyProof.Draws
import PyProof.EnumFor
import PyProof.EnumMake
import PyProof.EnumStmt
import PyProof.Rows.EnumRows
import KE.KRevSl
import KE.KSortTup
import PyProof.MinMaxWalk
import KE.KMinKey
import PyProof.Rows.CallKwBuiltin
import PyProof.MeetsSeq3
import PyProof.Rows.SortShell
import PySem.Challenge.RW_latinclose_k55_all_own_renamings
set_option Elab.async false
set_option linter.all false
set_option maxRecDepth 100000
noncomputable def QAa:=@List.length_map
noncomputable def QAb:=@List.getElem?_eq_getElem
noncomputable def QAc:=@Nat.le_refl
noncomputable def QAd:=@List.getD_eq_getElem?_getD
noncomputable def QAe:=@List.getElem?_map
noncomputable def QAf:=@Int.toNat_natCast
noncomputable def QAg:=@List.size_toArray
noncomputable def QAh:=@Nat.zero_le
noncomputable def QAi:=@PySem.Heap.lt_size
noncomputable def QAj:=@List.mem_cons_self
noncomputable def QAk:=@PySem.Heap.get?_push_of_some
noncomputable def QAl:=@Bool.false_ne_true
noncomputable def QAm:=@List.map_append
noncomputable def QAn:=@List.length_append
noncomputable def QAo:=@List.mem_cons_of_mem
noncomputable def QAp:=@List.length_range
noncomputable def QAq:=@Nat.le_trans
noncomputable def QAr:=@List.map_cons
noncomputable def QAs:=@List.getElem_mem
noncomputable def QAt:=@List.length_take
noncomputable def QAu:=@List.mem_of_getElem?
noncomputable def QAv:=@Array.length_toList
noncomputable def QAw:=@Bool.and_eq_true
noncomputable def QAx:=@PySem.Heap.get?_push_size
noncomputable def QAy:=@List.length_cons
noncomputable def QAz:=@Nat.lt_of_lt_of_le
noncomputable def QBa:=@Nat.ne_of_lt
noncomputable def QBb:=@List.map_map
noncomputable def QBc:=@List.take_of_length_le
noncomputable def QBd:=@List.getElem_of_mem
noncomputable def QBe:=@List.all_eq_true
noncomputable def QBf:=@List.mem_append_left
noncomputable def QBg:=@List.mem_append_right
noncomputable def QBh:=@List.append_nil
noncomputable def QBi:=@Bool.eq_iff_iff
noncomputable def QBj:=@List.lookup_cons
noncomputable def QBk:=@List.getElem?_range
noncomputable def QBl:=@List.drop_eq_getElem_cons
noncomputable def QBm:=@Int.le_trans
noncomputable def QBn:=@List.length_drop
noncomputable def QBo:=@List.append_assoc
noncomputable def QBp:=@List.ext_getElem
noncomputable def QBq:=@List.map_congr_left
noncomputable def QBr:=@List.nodup_nil
noncomputable def QBs:=@List.mem_cons
noncomputable def QBt:=@List.countP_cons
noncomputable def QBu:=@List.getElem_map
noncomputable def QBv:=@Int.le_of_lt
noncomputable def QBw:=@Nat.le_of_lt
noncomputable def QBx:=@Int.zero_add
noncomputable def QBy:=@List.take_add_one
noncomputable def QBz:=@Array.toList_append
noncomputable def QCa:=@List.not_mem_nil
noncomputable def QCb:=@Nat.lt_irrefl
noncomputable def QCc:=@Bool.false_and
noncomputable def QCd:=@List.nodup_range
noncomputable def QCe:=@List.drop_of_length_le
noncomputable def QCf:=@Nat.mul_le_mul
noncomputable def QCg:=@Array.getElem_toList
noncomputable def QCh:=@Nat.le_succ
noncomputable def QCi:=@PySem.Heap.size_push
noncomputable def QCj:=@Bool.true_and
noncomputable def QCk:=@Nat.mod_eq_of_lt
noncomputable def QCl:=@List.take_append_drop
noncomputable def QCm:=@List.getElem?_set
noncomputable def QCn:=@Int.le_refl
noncomputable def QCo:=@List.getElem?_append_left
noncomputable def QCp:=@Nat.succ_mul
noncomputable def QCq:=@Nat.lt_or_ge
noncomputable def QCr:=@List.getElem?_eq_none
noncomputable def QCs:=@List.flatMap_cons
noncomputable def QCt:=@List.getElem?_append_right
noncomputable def QCu:=@List.length_set
noncomputable def QCv:=@List.mem_append
noncomputable def QCw:=@List.eraseIdx_eq_take_drop_succ
noncomputable def QCx:=@Int.emod_nonneg
noncomputable def QCz:=@List.replicate_succ
noncomputable def QDa:=@Array.getElem?_toList
noncomputable def QDb:=@Bool.false_eq_true
noncomputable def QDc:=@List.range_succ
noncomputable def QDd:=@List.mem_singleton
noncomputable def QDe:=@List.sum_cons
noncomputable def QDg:=@List.getElem_range
noncomputable def QDh:=@List.ext_getElem?
noncomputable def QDi:=@List.flatMap_append
noncomputable def QDj:=@List.flatMap_nil
noncomputable def QDk:=@Nat.lt_succ_of_lt
noncomputable def QDl:=@List.filterMap_cons
noncomputable def QDm:=@List.length_singleton
noncomputable def QDn:=@Bool.or_eq_true
noncomputable def QDp:=@Option.map_some
noncomputable def QDr:=@Nat.not_lt_zero
noncomputable def QDv:=@PySem.Heap.get?_update_other
noncomputable def QDy:=@List.filter_cons_of_pos
noncomputable def QDz:=@List.filter_cons_of_neg
noncomputable def QEa:=@Int.emod_lt_of_pos
noncomputable def QEb:=@List.length_filter_le
noncomputable def QEd:=@List.reverse_append
noncomputable def QEe:=@Array.toList_reverse
noncomputable def QEf:=@List.length_reverse
noncomputable def QEs:=@Array.getD_eq_getD_getElem?
noncomputable def QEu:=@List.extract_eq_take_drop
noncomputable def QEy:=@List.eq_nil_of_length_eq_zero
namespace Om
theorem a1 {a b c:Nat} (h:c=b) (g:a<b):a<c := h ▸ g
theorem a2 {a b c:Nat} (g:a<b) (h:b=c):a<c := h ▸ g
theorem a3 {a b c:Nat} (g:a<b) (h:b<=c):a<c := QAz g h
theorem b1 {a m k:Nat} (h:a<=m) (g:Nat.ble m k=true):a<=k := QAq h (Nat.le_of_ble_eq_true g)
theorem b2 {a n m k:Nat} (f:a<n) (h:n<=m) (g:Nat.ble m k=true):a<=k := QAq (QBw f) (b1 h g)
theorem b3 {a n m k:Nat} (f:a<=n) (h:n<=m) (g:Nat.ble m k=true):a<=k := QAq f (b1 h g)
theorem b4 {a n m k:Nat} (f:a=n) (h:n<=m) (g:Nat.ble m k=true):a<=k := f ▸ b1 h g
theorem b5 {a n j m k:Nat} (f:a=n) (e:n<j) (h:j<=m) (g:Nat.ble m k=true):a<=k := f ▸ b2 e h g
theorem c1 {n m:Nat} (h:n<=m) (g:Nat.ble m 100000=true):(n:Int)<2 ^ 62 := Int.lt_of_le_of_lt (Int.ofNat_le.mpr (b1 h g)) (by decide)
theorem c2 {n:Nat}:-2 ^ 62<=(n:Int) := QBm (by decide:(-2 ^ 62:Int)<=0) (Int.natCast_nonneg n)
theorem c3 {n:Nat} (h:1<=n):(0:Int)<n := Int.natCast_pos.mpr h
theorem c5 {a b:Nat} (h:a<b):(a:Int)<(b:Int) := Int.ofNat_lt.mpr h
theorem c6 {a:Nat}:(0:Int)<=(a:Int) := Int.natCast_nonneg a
theorem d1 {a b:Nat} (h:a<b):a<=b := QBw h
theorem e1 {a b:Nat} (h:(a:Int)=(b:Int)):a=b := Int.ofNat.inj h
theorem f1 {a b:Nat} (h:a<b):a+1<=b := h
theorem f2 {a b:Nat} (h:a<b):a<b+1 := QDk h
theorem f3 {a b:Nat} (h:a<=b):a<b+1 := Nat.lt_succ_of_le h
theorem f4 {a b:Nat} (h:a+1<=b):a<=b := Nat.le_of_succ_le h
theorem f5 {a b:Nat} (h:a+1<=b):a<b := h
theorem p1 {a:Nat} (h:2<=a):0<a := QAz (Nat.zero_lt_succ 1) h
theorem q1 {a b:Nat} (h:a<=b+1) (g:¬a=b+1):a<=b := Nat.le_of_lt_succ (Nat.lt_of_le_of_ne h g)
theorem q2 {a b:Nat} (h:a<b):a<=b-1 := Nat.le_sub_one_of_lt h
theorem g2 {a b c:Nat} (h:a=b) (g:c=b):a=c := h.trans g.symm
theorem l1 {a b:Nat} (h:a=b):a<=b := Nat.le_of_eq h
theorem l4 {a b c:Nat} (h:a=b) (g:b<=c):a<=c := h ▸ g
theorem z1 {a:Int} (h:0<=a):a=(a.toNat:Int) := (Int.toNat_of_nonneg h).symm
theorem m1 {a b:Nat} (h:a<b):min a b=a := Nat.min_eq_left (QBw h)
theorem m2 {a b:Nat} (h:a<=b):min a b=a := Nat.min_eq_left h
theorem u2 {a b c d:Nat} (h:a=c) (f:b=d) (g:c=d):a=b := h.trans (g.trans f.symm)
theorem x1 {a b c:Nat} (h:a=b) (g:b<c):a<c := h ▸ g
theorem y2 {a b m:Nat} (h:b=a) (e:b<=m) (g:Nat.ble m k=true):a<=k := h ▸ b1 e g
theorem k0 {x0 x1 x2 x3:Nat} (h0:x2=x1) (h1:x1<=64) (h2:x3=x1):(min x0 x1)<=64:=by lia
theorem k1 {x0 x1 x2 x3:Nat} (h0:x2=x1) (h1:x1<=64) (h2:x0<64) (h3:x3=x1):(min x0 x1)<=64:=by lia
theorem k2 {x0:Nat} {y0:Int} (h0:((1:Int)+(y0 % (4:Int)))=((x0:Nat):Int)):x0<=6:=by lia
theorem k3 {y0:Int}:(((1:Int)+(y0 % (4:Int)))).toNat<=4:=by lia
theorem k4 {y0:Int}:(1:Nat)<=(((1:Int)+(y0 % (4:Int)))).toNat:=by lia
theorem k5 {y0:Int}:((1:Int)+(y0 % (4:Int)))=(((((1:Int)+(y0 % (4:Int)))).toNat:Nat):Int):=by lia
theorem k6 {x0:Nat} (h0:x0<0):False:=by lia
theorem k7 {x0 x1:Nat} (h0:(1:Nat)<=x0) (h1:x0<=6) (h2:x1=x0):(((1:Nat)*x0)+1)<=1000:=by lia
theorem k8 {x0 x1:Nat} (h0:(1:Nat)<=x0) (h1:x0<=6) (h2:x1=x0):((x0:Nat):Int)<((2:Int) ^ 63):=by lia
theorem k9 {x0 x1:Nat} (h0:(1:Nat)<=x0) (h1:x0<=6) (h2:x1=x0):(-((2:Int) ^ 63))<=((x0:Nat):Int):=by lia
theorem k10 {x0 x1:Nat} (h0:x0<(x1+1)) (h1:¬(x0=x1)):x0<x1:=by lia
theorem k11 {x0 x1 x2 x3:Nat} (h0:¬((x2=x3)/\(x0=x1))) (h1:x2=x3) (h2:x0<(x1+1)):x0<x1:=by lia
theorem k12 {x0:Nat} {y0 y1:Int} (h0:(y0).toNat=(y1).toNat) (h1:((0:Int)<=y0)/\(y0<((x0:Nat):Int))) (h2:((0:Int)<=y1)/\(y1<((x0:Nat):Int))):y0=y1:=by lia
theorem k13 {x0:Nat} {y0:Int} (h0:((0:Int)<=y0)/\(y0<((x0:Nat):Int))):y0=(((y0).toNat:Nat):Int):=by lia
theorem k14 {x0 x1 x2:Nat} {y0:Int} (h0:x1=x0) (h1:x2<x0) (h2:y0=((x2:Nat):Int)):(0:Nat)<x0:=by lia
theorem k15 {x0 x1 x2:Nat} (h0:x1=x0) (h1:x2<x0):(0:Nat)<x0:=by lia
theorem k16 {y0 y1:Int} (h0:y0<y1) (h1:y1<y0):False:=by lia
theorem k17 {y0 y1 y2:Int}:((y0+y1)<(y0+y2))↔(y1<y2):=by lia
theorem k18 {y0 y1:Int} (h0:y0=y1) (h1:y1<y0):False:=by lia
theorem k19 {y0 y1:Int} (h0:y0=y1) (h1:y0<y1):False:=by lia
theorem k20 {y0 y1:Int} (h0:y0<y1):(y0+(1:Int))<=y1:=by lia
theorem k21 {x0 x1 x2 x3:Nat} (h0:x2=x3) (h1:x1=x3) (h2:x0<x2):x0<x1:=by lia
theorem k22 {x0 x1 x2:Nat} (h0:x1<=100000) (h1:x0=x1) (h2:x2=x1) (h3:¬(x0<2)):(2:Nat)<=x0:=by lia
theorem k23 {x0 x1 x2 x3:Nat} (h0:x0=x1) (h1:x1=x2) (h2:x1<2) (h3:x1=((x3+1)+1)):False:=by lia
theorem k24 {x0 x1:Nat} (h0:(x0+6)<x1):(((x0+1)+1)+3)<x1:=by lia
theorem k25 {x0 x1 x2 x3 x4 x5:Nat} (h0:x2=x3) (h1:x1=x3) (h2:x4=x3) (h3:x5=x3) (h4:x0<x5):x0<x1:=by lia
theorem k26 {x0 x1 x2:Nat} (h0:(2:Nat)<=x1) (h1:x1<=100000) (h2:x2=x1) (h3:x0=x1):(1:Nat)<=x0:=by lia
theorem k27 {x0 x1:Nat} (h0:(x0+3)<x1):x0<x1:=by lia
theorem k28 {x0 x1:Nat} (h0:(2:Nat)<=x1) (h1:x1<=100000) (h2:x0=x1):(0:Nat)<x0:=by lia
theorem k29 {x0:Nat} (h0:(0:Nat)<x0) (h1:(0:Nat)=x0):False:=by lia
theorem k30 {x0:Nat} (h0:(2:Nat)<=x0) (h1:x0<=100000):¬(x0<2):=by lia
theorem k31 {x0:Nat} (h0:((x0+1)+1)<=1):False:=by lia
theorem k32 {x0 x1:Nat} (h0:(1:Nat)<=x0) (h1:x1=x0) (h2:(0:Nat)=x0):False:=by lia
theorem k33 {x0:Nat} (h0:¬(x0<=1)):((x0-2)+1)<x0:=by lia
theorem k34 {x0:Nat} (h0:¬(x0<=1)):(((x0-2)-1)+1)<x0:=by lia
theorem k35 {x0 x1 x2 x3 x4:Nat} (h0:x3=x2) (h1:(x4+x1)<=(x2+1)) (h2:(x0+1)=x4):(x0+(x1+1))<=(x2+1):=by lia
theorem k36 {x0 x1 x2:Nat} (h0:(1:Nat)<=x1) (h1:x2=x1) (h2:(x0+(max (0:Nat) x1))<=(x1+1)):x0<=1:=by lia
theorem k37 {x0 x1 x2 x3 x4:Nat} (h0:x4=x3) (h1:(x0<=x1)\/(x3<=x1)) (h2:¬(x1 ≥ x3)) (h3:(1:Nat)<=x2):((x0+1)<=(x1+x2))\/(x3<=(x1+x2)):=by lia
theorem k38 {x0 x1 x2:Nat} (h0:x0<=x2) (h1:x2<=x1):x0<=x1:=by lia
theorem k39 {x0:Nat} (h0:x0>(1:Nat)):((x0-2)+1)<x0:=by lia
theorem k40 {x0:Nat} (h0:x0>(1:Nat)):(x0-2)<x0:=by lia
theorem k41 {x0 x1 x2 x3:Nat} (h0:x3=x2) (h1:¬(x0 ≥ x2)) (h2:x1<=(x2-x0)):(x0+x1)<=x2:=by lia
theorem k42 {x0 x1 x2 x3:Nat} (h0:x3=x1) (h1:¬(x0 ≥ x1)):(x0+(min (x1-x0) x2))<=x1:=by lia
theorem k43 {x0 x1 x2 x3:Nat} (h0:(1:Nat)<=x3) (h1:x3<=(x0-x1)) (h2:x3<x2):(1:Nat)<=(min (x0-x1) x2):=by lia
theorem k44 {x0 x1 x2 x3:Nat} (h0:x0<=(x1-x2)) (h1:x0<x3):x0<=(min (x1-x2) x3):=by lia
theorem k45 {x0 x1 x2:Nat} (h0:x2=x1) (h1:¬(x0 ≥ x1)):(x0+(x1-x0))<=x1:=by lia
theorem k46 {x0 x1 x2:Nat} (h0:x2=x0) (h1:¬(x1 ≥ x0)):(1:Nat)<=(x0-x1):=by lia
theorem k47 {x0 x1 x2:Nat} (h0:x2=x1) (h1:x0<=x1) (h2:x0 ≥ x1):x0=x1:=by lia
theorem k48 {x0 x1 x2:Nat} (h0:(1:Nat)<=x1) (h1:x2=x1) (h2:x0<=x1) (h3:((max (0:Nat) x1)<=x0)\/(x1<=x0)):x0=x1:=by lia
theorem k49 {x0 x1 x2 x3 x4 x5 x6:Nat} (h0:x3<=x1) (h1:x4=x5) (h2:x6=((x1-x3)+x5)) (h3:¬(x2<((x0+x3)+x6))):(x0+x1)<=x2:=by lia
theorem k50 {x0 x1 x2 x3 x4:Nat} (h0:x4<=x3) (h1:¬(x4<((x0+x1)+x2))):((x0+x1)+x2)<=x3:=by lia
theorem k51 {x0 x1 x2 x3:Nat} (h0:¬(x3<((x0+x1)+x2))):((x0+x1)+x2)<=x3:=by lia
theorem k52 {x0 x1 x2 x3 x4 x5 x6 x7:Nat} (h0:x2<=x3) (h1:x4=x5) (h2:x6=((x3-x2)+x5)) (h3:¬(x1<((x7+x2)+x6))) (h4:x0<((x7+x3)+x5)):x0<=x1:=by lia
theorem k53 {x0 x1 x2:Nat} (h0:¬(x2<(x0+x1))):(x0+x1)<=x2:=by lia
theorem k54 {x0 x1 x2 x3 x4 x5 x6:Nat} (h0:x4<=x1) (h1:x5=x2) (h2:x6=((x1-x4)+x2)) (h3:¬(x3<((x0+x4)+x6))):((x0+x1)+x2)<=x3:=by lia
theorem k55 {x0 x1 x2 x3 x4 x5 x6:Nat} (h0:x2<=x1) (h1:(((x0+x2)+(x1-x2))-1)=((x0+x1)-1)) (h2:¬(x3=0)) (h3:x4=x3) (h4:x5=((x1-x2)+x3)) (h5:x6<(x0+x1)):((x0+x1)-1)<(x0+x1):=by lia
theorem k56 {x0 x1 x2:Nat} (h0:(x0+x2)<=x1):x0<=x1:=by lia
theorem k57 {x0 x1 x2 x3 x4:Nat} (h0:x4<=x0) (h1:¬(x4<(x1+x2))) (h2:x0<((x1+x2)+x3)):(x0-(x1+x2))<x3:=by lia
theorem k58 {x0 x1 x2 x3:Nat} (h0:x0<=x3) (h1:¬(x0<(x1+x2))):(x0-(x1+x2))<=(x3-(x1+x2)):=by lia
theorem k59 {x0 x1 x2 x3:Nat} (h0:x3<=x2) (h1:¬(x3<(x0+x1))):(x0+x1)<=x2:=by lia
theorem k60 {x0 x1:Nat}:(x0+x1)<=(x0+x1):=by lia
theorem k61 {x0 x1 x2 x3 x4 x5:Nat} (h0:x4<=x3) (h1:x5=x4) (h2:x0<((x1+x2)+x4)):x0<((x1+x2)+x3):=by lia
theorem k62 {x0 x1 x2 x3:Nat} (h0:x0<(x2+x3)) (h1:(x2+x3)<=x1):x0<=x1:=by lia
theorem k63 {x0 x1 x2 x3:Nat} (h0:x3<=x2) (h1:x0<(x1+x3)):x0<(x1+x2):=by lia
theorem k64 {x0 x1 x2 x3 x4 x5:Nat} (h0:x1<=x2) (h1:x4=x3) (h2:x5=((x2-x1)+x3)):((x0+x1)+((x2-x1)+x3))=((x0+x2)+x3):=by lia
theorem k65 {x0 x1 x2 x3 x4 x5:Nat} (h0:x1<=x2) (h1:x3=x4) (h2:x5=((x2-x1)+x4)):((x0+x1)+(x2-x1))=(x0+x2):=by lia
theorem k66 {x0 x1 x2 x3 x4 x5 x6 x7:Nat} (h0:x2<=x4) (h1:x5<=x6) (h2:x7=x5) (h3:x3=((x4-x2)+x5)) (h4:(x0<x1)\/(((x1+x4)+x6)<=x0)):(x0<(x1+x2))\/(((x1+x2)+x3)<=x0):=by lia
theorem k67 {x0 x1 x2 x3:Nat} (h0:x1<=x3) (h1:(x0+x3)<=x2):(x0+x1)<=x2:=by lia
theorem k68 {x0 x1 x2 x3 x4:Nat} (h0:x4=x3) (h1:x0<(x1+x2)):x0<((x1+x2)+x3):=by lia
theorem k69 {x0 x1 x2 x3:Nat} (h0:(x1+x2)<=x0) (h1:x0<((x1+x2)+x3)):(x0-(x1+x2))<x3:=by lia
theorem k70 {x0 x1 x2 x3 x4 x5 x6 x7:Nat} (h0:((x0+x4)+x5)<=x3) (h1:x1<=x4) (h2:x6<=x5) (h3:x7=x6) (h4:x2=((x4-x1)+x6)):((x0+x1)+x2)<=x3:=by lia
theorem k71 {x0 x1 x2 x3 x4 x5 x6 x7 x8:Nat} (h0:((x0+x4)+x5)<=x3) (h1:x1<=x4) (h2:x6<=x5) (h3:x7=x6) (h4:x2=((x4-x1)+x6)) (h5:(x8<(x0+x1))\/(((x0+x1)+x2)<=x8)):((x0+x1)+x2)<=x3:=by lia
theorem k72 {x0 x1 x2 x3 x4 x5 x6 x7:Nat} (h0:((x0+x4)+x5)<=x3) (h1:x1<=x4) (h2:x6<=x5) (h3:x7=x6) (h4:x2=((x4-x1)+x6)):(((x0+x1)+0)+x2)<=x3:=by lia
theorem k73 {x0 x1 x2 x3 x4:Nat} (h0:x0=(x2-x3)) (h1:x1=x4):(x0+x1)=((x2-x3)+x4):=by lia
theorem k74 {x0 x1 x2 x3:Nat} (h0:x1<=x2) (h1:¬(x3=0)) (h2:x0=x3):(0:Nat)<x0:=by lia
theorem k75 {x0 x1 x2 x3 x4:Nat} (h0:(0:Nat)<x1) (h1:x2<=x1) (h2:¬((x1-x2)=0)) (h3:¬(x3=0)) (h4:x0=(x1-x2)) (h5:x4=x3):(0:Nat)<x0:=by lia
theorem k76 {x0 x1 x2 x3:Nat} (h0:x1=(x2-x3)) (h1:(x1-1)<=x0) (h2:x0<x1):x0=(x1-1):=by lia
theorem k77 {x0 x1 x2 x3 x4:Nat} (h0:x4=x3) (h1:x2<x4):((x0+x1)+x2)<((x0+x1)+x3):=by lia
theorem k78 {x0 x1 x2:Nat}:(x0+x1)<=((x0+x1)+x2):=by lia
theorem k79 {x0 x1 x2 x3 x4 x5:Nat} (h0:(0:Nat)<x3) (h1:x1<=x3) (h2:¬((x3-x1)=0)) (h3:(((x0+x1)+(x3-x1))-1)=((x0+x3)-1)) (h4:¬(x4=0)) (h5:x2=(x3-x1)) (h6:x5=x4):((x0+x1)+(x2-1))=((x0+x3)-1):=by lia
theorem k80 {x0 x1 x2 x3 x4:Nat} (h0:(0:Nat)<x1) (h1:x2<=x1) (h2:¬((x1-x2)=0)) (h3:¬(x3=0)) (h4:x0=(x1-x2)) (h5:x4=x3):(x0-1)<(x1-x2):=by lia
theorem k81 {x0 x1 x2 x3:Nat} (h0:x1<=x2) (h1:¬(x0=0)) (h2:x3=x0):(0:Nat)<x0:=by lia
theorem k82 {x0 x1 x2:Nat} (h0:(0:Nat)<=x2):(x0+x1)<=((x0+x1)+x2):=by lia
theorem k83 {x0 x1 x2 x3 x4:Nat} (h0:x1<=x3) (h1:x4=(x3-x1)) (h2:x2<x4):((x0+x1)+x2)<(x0+x3):=by lia
theorem k84 {x0 x1 x2 x3 x4 x5 x6 x7:Nat} (h0:x4=x3) (h1:((x0+x1)+x5)<=x4) (h2:x6<=x5) (h3:x7=x6) (h4:x2<x7):((x0+x1)+x2)<x3:=by lia
theorem k85 {x0 x1 x2 x3 x4 x5 x6 x7 x8 x9:Nat} (h0:x4=x3) (h1:((x0+x5)+x6)<=x4) (h2:x1<=x5) (h3:x7<=x6) (h4:x8=(x5-x1)) (h5:x9=x7) (h6:x2<x8):((x0+x1)+x2)<x3:=by lia
theorem k86 {x0 x1 x2 x3 x4 x5:Nat} (h0:((x0+x1)+x4)<=x3) (h1:x2<=x4) (h2:x5=x2):((x0+x1)+x2)<=x3:=by lia
theorem k87 {x0 x1 x2 x3 x4:Nat} (h0:x4=x3) (h1:x2<x3):((x0+x1)+x2)<((x0+x1)+x3):=by lia
theorem k88 {x0 x1 x2 x3:Nat} (h0:x1<=x3) (h1:x2<(x3-x1)):((x0+x1)+x2)<(x0+x3):=by lia
theorem k89 {x0 x1 x2 x3 x4:Nat} (h0:(x0+x1)<x3) (h1:((x0+x1)+x4)<=x3) (h2:x2<=x4):((min ((x0+x1)+x2) x3)-(x0+x1))=x2:=by lia
theorem k90 {x0 x1 x2 x3:Nat} (h0:(x0+x1)<x2) (h1:x3<=x1):((min (x0+x1) x2)-(x0+x3))=(x1-x3):=by lia
theorem k91 {x0 x1 x2 x3:Nat} (h0:x2=0) (h1:¬(x3<(x0+x1))):((x0+x1)+x2)<=x3:=by lia
theorem k92 {x0 x1 x2 x3:Nat} (h0:x2<=x1) (h1:(((x0+x2)+(x1-x2))-1)=((x0+x1)-1)) (h2:x3<(x0+x1)):((x0+x1)-1)<(x0+x1):=by lia
theorem k93 {x0 x1 x2 x3:Nat} (h0:((x0+x1)+x3)<=x2):((x0+x1)+(x2-(x0+x1)))=x2:=by lia
theorem k94 {x0 x1 x2 x3 x4:Nat} (h0:((x1+x2)+x4)<=x0) (h1:x0<((x1+x2)+x3)):(x0-(x1+x2))<x3:=by lia
theorem k95 {x0 x1 x2 x3:Nat} (h0:((x2+x3)+x0)<=x1):x0<=(x1-(x2+x3)):=by lia
theorem k96 {x0 x1 x2:Nat} (h0:(x0+x1)<=x2):((x0+x1)+(x2-(x0+x1)))=x2:=by lia
theorem k97 {x0:Nat} (h0:(0:Nat)<x0):(x0-1)<x0:=by lia
theorem k98 {x0 x1 x2 x3 x4 x5:Nat} (h0:x4=x3) (h1:((x0+x1)+x5)<=x4) (h2:x2<x5):((x0+x1)+x2)<x3:=by lia
theorem k99 {x0 x1 x2:Nat} (h0:(0:Nat)<x2) (h1:x1<=x2) (h2:¬((x2-x1)=0)):(((x0+x1)+(x2-x1))-1)=((x0+x2)-1):=by lia
theorem k100 {x0 x1 x2 x3:Nat} (h0:x2<=x3) (h1:(x3-x2)=0) (h2:x0<(x1+x3)):x0<(x1+x2):=by lia
theorem k101 {x0 x1 x2:Nat} (h0:(x0+x2)<=x1):(x0+(x1-x0))=x1:=by lia
theorem k102 {x0 x1 x2 x3:Nat} (h0:(x1+x3)<=x0) (h1:x0<(x1+x2)):(x0-x1)<x2:=by lia
theorem k103 {x0 x1 x2:Nat} (h0:(x2+x0)<=x1):x0<=(x1-x2):=by lia
theorem k104 {x0 x1:Nat} (h0:x0<=x1):(x0+(x1-x0))=x1:=by lia
theorem k105 {x0 x1 x2:Nat} (h0:x1<=x0) (h1:x0<(x1+x2)):(x0-x1)<x2:=by lia
theorem k106 {x0 x1 x2 x3 x4:Nat} (h0:x3=x2) (h1:(x0+x4)<x3) (h2:x1<x4):(x0+x1)<x2:=by lia
theorem k107 {x0 x1 x2:Nat} (h0:(0:Nat)<x1) (h1:(x0+x1)<x2):((x0+x1)-1)<x2:=by lia
theorem k108 {x0 x1 x2 x3 x4 x5 x6:Nat} (h0:x4<=x5) (h1:(((x0+x1)+x2)+x6)<=x4) (h2:x3=x5):((x0+x1)+x2)<=x3:=by lia
theorem k109 {x0 x1 x2 x3 x4 x5 x6:Nat} (h0:x3<=x4) (h1:(0:Nat)<x5) (h2:(((x0+x1)+x5)+x6)<=x3) (h3:x2=x4):(x0+x1)<x2:=by lia
theorem k110 {x0 x1 x2 x3:Nat} (h0:x2<x3):((x0+x1)+x2)<((x0+x1)+x3):=by lia
theorem k111 {x0 x1 x2 x3:Nat} (h0:x2<=x3):((x0+x1)+x2)<=((x0+x1)+x3):=by lia
theorem k112 {x0 x1 x2:Nat} (h0:x1<x2):(x0+x1)<(x0+x2):=by lia
theorem k113 {x0 x1 x2:Nat} (h0:x1<=x2):(x0+x1)<=(x0+x2):=by lia
theorem k114 {x0 x1:Nat}:x0<=(x0+x1):=by lia
theorem k115 {x0 x1 x2 x3 x4 x5:Nat} (h0:(((x0+x1)+x2)+x4)<=x5) (h1:x5<=x3):((x0+x1)+x2)<=x3:=by lia
theorem k116 {x0 x1:Nat} (h0:(x0+1)<x1):(((min x0 x1)+((x1-(x0+2))+1))+1)=x1:=by lia
theorem k117 {x0 x1:Nat} (h0:(x0+1)<x1):x0<x1:=by lia
theorem k118 {x0 x1:Nat} (h0:x0<=x1) (h1:x0 ≥ x1):x0=x1:=by lia
theorem k119 {x0 x1 x2:Nat} (h0:x2<x1) (h1:x0<x2):x0<x1:=by lia
theorem k120 {x0 x1 x2 x3 x4:Nat} (h0:x3<(x2-x0)) (h1:x1<(x2-x0)) (h2:x4=(x2-x0)):(x0+x1)<x2:=by lia
theorem k121 {x0 x1 x2:Nat} (h0:x1<x2):(x0+x1)<=(x0+x2):=by lia
theorem k122 {x0 x1 x2 x3 x4:Nat} (h0:x1<(x2-x0)) (h1:x3<(x2-x0)) (h2:x1<x3) (h3:x4=(x2-x0)):(x0+x1)<x2:=by lia
theorem k123 {x0 x1 x2:Nat} (h0:x0<=x1):((min x0 x1)-x2)=(x0-x2):=by lia
theorem k124 {x0 x1 x2 x3:Nat} (h0:(x3+x0)<x1) (h1:x1<=x2):x0<((min x1 x2)-x3):=by lia
theorem k125 {x0:Nat}:((x0+1)-x0)=1:=by lia
theorem k126 {x0 x1:Nat} (h0:x0=x1):x0<=(x1+1):=by lia
theorem k127 {x0 x1:Nat} (h0:(x0+1)<x1):(min x0 x1)=x0:=by lia
theorem k128 {x0 x1 x2 x3 x4:Nat} (h0:((x2+x3)+x4)<=x1) (h1:x0<(x2+x3)):x0<x1:=by lia
theorem k129 {x0 x1 x2 x3 x4 x5:Nat} (h0:((x2+x3)+x4)<=x1) (h1:x0<=x5) (h2:x5<(x2+x3)):x0<x1:=by lia
theorem k130 {x0 x1 x2:Nat} (h0:(0:Nat)<x2) (h1:(x0+x2)<=x1):x0<=x1:=by lia
theorem k131 {x0 x1 x2 x3:Nat} (h0:x1<=x0) (h1:x0<(x1+x2)) (h2:x3=x1):(x0-x1)<x2:=by lia
theorem k132 {x0 x1 x2:Nat} (h0:(x0+x2)<=x1):(min x0 x1)=x0:=by lia
theorem k133 {x0 x1 x2 x3:Nat} (h0:x3=x0) (h1:(x0+x1)<=x2):((x0+x1)+((x2-x0)-x1))=x2:=by lia
theorem k134 {x0 x1 x2 x3:Nat} (h0:x2=x3) (h1:(x3+x0)<=x1):x0<=(x1-x2):=by lia
theorem k135 {x0 x1 x2 x3:Nat} (h0:x0=x2) (h1:(x2+x3)<=x1):x0<=x1:=by lia
theorem k136 {x0 x1 x2:Nat}:((x0+(x1+1))+x2)=((x0+x1)+(x2+1)):=by lia
theorem k137 {x0 x1 x2:Nat}:(x0+x1)<((x0+(x1+1))+x2):=by lia
theorem k138 {x0 x1 x2 x3:Nat} (h0:((x0+x1)+(x3+1))<=x2):(x0+x1)<x2:=by lia
theorem k139 {x0 x1 x2 x3:Nat} (h0:((x0+x1)+(x2+1))<=x3):((x0+(x1+1))+x2)<=x3:=by lia
theorem k140 {x0 x1 x2 x3 x4:Nat} (h0:x2<=x3) (h1:x0<=x1) (h2:(((x0+x3)-((x0+x3)-(x0+x2)))<x1)/\(x1<=(x0+x3))) (h3:¬(x4=((x0+x3)-((x0+x3)-(x0+x2))))) (h4:(((x0+x3)-((x0+x3)-(x0+x2)))<x4)/\(x4<=(x0+x3))):x0<=(x1-1):=by lia
theorem k141 {x0 x1 x2 x3 x4:Nat} (h0:x0<(x1+(x2+1))) (h1:x3=((x1+x2)-((x1+x2)-(x1+x4)))) (h2:(((x1+x2)-((x1+x2)-(x1+x4)))<x0)/\(x0<=(x1+x2))):(x0-1)<(x1+x2):=by lia
theorem k142 {x0 x1 x2 x3 x4:Nat} (h0:x1<=x3) (h1:x4=((x0+x3)-((x0+x3)-(x0+x1)))) (h2:¬(x2=((x0+x3)-((x0+x3)-(x0+x1))))) (h3:(((x0+x3)-((x0+x3)-(x0+x1)))<x2)/\(x2<=(x0+x3))):(x0+x1)<=(x2-1):=by lia
theorem k143 {x0 x1 x2 x3 x4:Nat} (h0:x2<=x3) (h1:x0<=x4) (h2:x4<(x1+(x3+1))) (h3:¬(x0=((x1+x3)-((x1+x3)-(x1+x2))))) (h4:¬((((x1+x3)-((x1+x3)-(x1+x2)))<x0)/\(x0<=(x1+x3)))) (h5:x4=((x1+x3)-((x1+x3)-(x1+x2)))):x0<(x1+x2):=by lia
theorem k144 {x0 x1 x2 x3 x4:Nat} (h0:x1<x4) (h1:x2<=x1) (h2:(x3<x0)\/((x0+x4)<=x3)):¬((((x0+x1)-((x0+x1)-(x0+x2)))<x3)/\(x3<=(x0+x1))):=by lia
theorem k145 {x0 x1 x2 x3 x4:Nat} (h0:x2<x4) (h1:x3<=x2) (h2:(x0<x1)\/((x1+x4)<=x0)):¬(x0=((x1+x2)-((x1+x2)-(x1+x3)))):=by lia
theorem k146 {x0 x1 x2:Nat} (h0:x2<=x1):((x0+x1)-(x0+x2))<=(x0+x1):=by lia
theorem k147 {x0 x1 x2 x3 x4:Nat} (h0:(x0+x3)<=x4) (h1:x1<x3) (h2:x2=x4):(x0+x1)<x2:=by lia
theorem k148 {x0 x1 x2 x3:Nat} (h0:x2<=x3) (h1:¬(x1 ≥ x2)):(x0+((x1+x2) / (2:Nat)))<(x0+x3):=by lia
theorem k149 {x0 x1 x2 x3:Nat} (h0:x1<(((x2+x3) / (2:Nat))+1)):(x0+x1)<=(x0+((x2+x3) / (2:Nat))):=by lia
theorem k150 {x0 x1 x2 x3:Nat} (h0:x3<x2) (h1:(x0-x1)<=(x2-x3)) (h2:¬(x1 ≥ x0)):(x0-(((x1+x0) / (2:Nat))+1))<=(x2-(x3+1)):=by lia
theorem k151 {x0 x1:Nat} (h0:¬(x0 ≥ x1)):(((x0+x1) / (2:Nat))+1)<=x1:=by lia
theorem k152 {x0 x1 x2 x3:Nat} (h0:((x1+x2) / (2:Nat))<=x3):(x0+((x1+x2) / (2:Nat)))<=(x0+x3):=by lia
theorem k153 {x0 x1 x2:Nat} (h0:¬(x1 ≥ x2)):x0<=(x0+((x1+x2) / (2:Nat))):=by lia
theorem k154 {x0 x1 x2 x3:Nat} (h0:x3<x2) (h1:(x1-x0)<=(x2-x3)) (h2:¬(x0 ≥ x1)):(((x0+x1) / (2:Nat))-x0)<=(x2-(x3+1)):=by lia
theorem k155 {x0 x1 x2:Nat} (h0:x1<=x2) (h1:¬(x0 ≥ x1)):((x0+x1) / (2:Nat))<=x2:=by lia
theorem k156 {x0 x1:Nat} (h0:¬(x0 ≥ x1)):x0<=((x0+x1) / (2:Nat)):=by lia
theorem k157 {x0 x1 x2 x3 x4 x5:Nat} (h0:(x0+x4)<=x3) (h1:x5<x4) (h2:x2<=x5) (h3:¬(x1 ≥ x2)):(x0+((x1+x2) / (2:Nat)))<x3:=by lia
theorem k158 {x0 x1 x2 x3:Nat} (h0:(x0+x3)<=x2) (h1:x1<x3):(x0+x1)<x2:=by lia
theorem k159 {x0 x1 x2:Nat} (h0:x2<=x0) (h1:x2 ≥ x0) (h2:x2<=x1):x0<=x1:=by lia
theorem k160 {x0 x1 x2:Nat} (h0:x0<=x2) (h1:x2<=x1) (h2:x0 ≥ x2):x0<=x1:=by lia
theorem k161 {x0 x1 x2 x3:Nat} (h0:x2<=x0) (h1:(x0-x2)<=(x3-(max (0:Nat) x3))) (h2:x2<=x1):x0<=x1:=by lia
theorem k162 {x0 x1:Nat} {y0 y1:Int} (h0:x0<=x1) (h1:x1<x0):y0<=y1:=by lia
theorem k163 {x0:Nat} {y0 y1:Int} (h0:x0<0):y0<=y1:=by lia
theorem k164 {x0:Nat}:(x0-0)<=(x0-0):=by lia
theorem k165 {x0:Nat}:x0<=x0:=by lia
theorem k166 {x0:Nat}:(0:Nat)<=x0:=by lia
theorem k167 {x0 x1:Nat} (h0:(1:Nat)<=x0) (h1:x0<=x1):(max (max x0 (1:Nat)) x1)=x1:=by lia
theorem k168 {x0:Nat} (h0:(1:Nat)<=x0):(max x0 (1:Nat))=x0:=by lia
theorem k169 {x0:Nat} (h0:(1:Nat)<=x0):(1:Nat)<=(x0+1):=by lia
theorem k170 {x0 x1 x2 x3 x4:Nat} (h0:(x0+x3)<=x2) (h1:x4=x2) (h2:x1<x3) (h3:(1:Nat)<=x1):((x0+x1)-1)<x2:=by lia
theorem k171 {x0 x1 x2 x3 x4:Nat} (h0:(x0+x3)<=x2) (h1:x4=x2) (h2:x1<x3):(x0+x1)<x2:=by lia
theorem k172 {x0 x1 x2 x3:Nat} (h0:x0<=x2) (h1:x3<(x0+x1)):(((x0+(x0+x1))-1)-x2)<(x0+x1):=by lia
theorem k173 {x0 x1 x2 x3:Nat} (h0:x3<=x2) (h1:x2<(x0+x1)):(((x0+(x0+x1))-1)-x2)<=(((x0+(x0+x1))-1)-x3):=by lia
theorem k174 {x0 x1 x2:Nat} (h0:x2<(x0+x1)):x0<=(((x0+(x0+x1))-1)-x2):=by lia
theorem k175 {x0 x1 x2 x3:Nat} (h0:x0<=x3) (h1:x3<=x1) (h2:x1<(x0+x2)):(x0<=x1)/\(x1<(x0+x2)):=by lia
theorem k176 {x0 x1 x2 x3:Nat} (h0:x0<=x1) (h1:x1<=x3) (h2:x3<(x0+x2)):(x0<=x1)/\(x1<(x0+x2)):=by lia
theorem k177 {x0 x1 x2 x3:Nat} (h0:x2<=x3) (h1:(x1<x0)\/((x0+x3)<=x1)):¬((x0<=x1)/\(x1<(x0+x2))):=by lia
theorem k178 {x0 x1 x2 x3 x4:Nat} (h0:(x0+x3)<=x4) (h1:x1<=x3) (h2:x2=x4):(x0+x1)<=x2:=by lia
theorem k179:¬((0:Nat)>(0:Nat)):=by lia
theorem k180 {y0 y1:Int} (h0:¬(y1<y0)) (h1:y0≠y1):y0<y1:=by lia
theorem k181 {x0 x1:Nat} (h0:((1:Nat)+1)<=x1):((x0+x1)-1)<(x0+x1):=by lia
theorem k182 {x0 x1 x2 x3:Nat} (h0:(x0+x3)<=x2) (h1:((1:Nat)+1)<=x1) (h2:x1<x3):((x0+x1)-1)<x2:=by lia
theorem k183 {x0 x1 x2:Nat} (h0:((1:Nat)+1)<=x1) (h1:x2<(x0+(x1+1))) (h2:¬(x2<(x0+x1))):((x0+x1)-1)<(x0+x1):=by lia
theorem k184 {x0 x1 x2 x3:Nat} (h0:((1:Nat)+1)<=x2) (h1:x0<=x3) (h2:x3<(x1+(x2+1))) (h3:¬(x3<(x1+x2))) (h4:¬(x0=x3)):x0<=((x1+x2)-1):=by lia
theorem k185 {x0 x1 x2:Nat} (h0:x0<(x1+(x2+1))) (h1:¬(x0<(x1+x2))):x0=(x1+x2):=by lia
theorem k186 {x0:Nat} (h0:((1:Nat)+1)<=x0):(1:Nat)<=(x0+1):=by lia
theorem k187 {x0 x1 x2:Nat} (h0:x1<=x2) (h1:x2<=x0) (h2:x0<(x1+((1:Nat)+1))) (h3:¬(x2=x0)):x0=(x1+1):=by lia
theorem k188 {x0 x1 x2:Nat} (h0:x1<=x0) (h1:x0<=x2) (h2:x2<(x1+((1:Nat)+1))) (h3:¬(x0=x2)):x0=((x1+1)-1):=by lia
theorem k189 {x0:Nat} (h0:(1:Nat)<=x0) (h1:¬((1:Nat)=x0)):((1:Nat)+1)<=x0:=by lia
theorem k190:(1:Nat)<=((1:Nat)+1):=by lia
theorem k191 {x0:Nat} (h0:(1:Nat)<=x0) (h1:¬(x0>(1:Nat))):x0=1:=by lia
theorem k192 {x0 x1 x2 x3:Nat} (h0:(x0+x3)<=x2) (h1:x1<=x3) (h2:x1>(1:Nat)):((x0+x1)-1)<x2:=by lia
theorem k193 {x0 x1:Nat} (h0:x1>(1:Nat)):x0<((x0+x1)-1):=by lia
theorem k194 {x0 x1:Nat} (h0:x1>(1:Nat)):((x0+x1)-1)<(x0+x1):=by lia
theorem k195 {x0 x1:Nat} (h0:x1>(1:Nat)):x0<=((x0+x1)-1):=by lia
theorem k196 {x0 x1 x2:Nat} (h0:(1:Nat)<=x2) (h1:(x0+x2)<=x1):x0<x1:=by lia
theorem k197 {x0 x1 x2 x3:Nat} (h0:(x0+x3)<=x2) (h1:(1:Nat)<=x1) (h2:x1<x3):((x0+x1)-1)<x2:=by lia
theorem k198 {x0:Nat} (h0:(1:Nat)<=x0):(max (1:Nat) x0)=x0:=by lia
theorem k199 {x0 x1 x2:Nat} (h0:x2<=x0) (h1:x0<=x1) (h2:x1<(x2+1)):x0=x1:=by lia
theorem k200 {x0 x1 x2:Nat} (h0:(1:Nat)<=x1) (h1:x2<(x0+(x1+1))) (h2:¬(x2<(x0+x1))):((x0+x1)-1)<(x0+x1):=by lia
theorem k201 {x0 x1 x2 x3:Nat} (h0:(1:Nat)<=x2) (h1:x0<=x3) (h2:x3<(x1+(x2+1))) (h3:¬(x3<(x1+x2))) (h4:¬(x0=x3)):x0<=((x1+x2)-1):=by lia
theorem k202 {x0 x1 x2 x3:Nat} (h0:x0<x2) (h1:x2<x3) (h2:x1=x3):x0<x1:=by lia
theorem k203 {x0 x1 x2 x3 x4:Nat} (h0:(0:Nat)<x1) (h1:(((x0+1)+x1)+x2)<(x3+x4)):(((x0+1)+(x1-1))+x2)<(x3+x4):=by lia
theorem k204 {x0:Nat} (h0:(0:Nat)<x0) (h1:¬((x0-1)=0)):(0:Nat)<(x0-1):=by lia
theorem k205 {x0 x1:Nat} (h0:(0:Nat)<x0) (h1:x0<=x1):(x0-1)<x1:=by lia
theorem k206 {x0 x1 x2 x3 x4 x5 x6:Nat} (h0:(1:Nat)<x2) (h1:(((x0+1)+x1)+x2)<(x3+x4)) (h2:((x2-1)-x5)=x6) (h3:¬(x6>(0:Nat))) (h4:x5=(x2-1)):(((x0+1)+x1)+(x2-1))<(x3+x4):=by lia
theorem k207 {x0 x1 x2:Nat} (h0:(1:Nat)<x0) (h1:¬((x0-1)=1)) (h2:((x0-1)-x1)=x2) (h3:¬(x2>(0:Nat))) (h4:x1=(x0-1)):(1:Nat)<(x0-1):=by lia
theorem k208 {x0 x1 x2:Nat} (h0:(1:Nat)<x1) (h1:x0<=(x1-1)) (h2:((x1-1)-x0)=x2) (h3:¬(x2>(0:Nat))):x0=(x1-1):=by lia
theorem k209 {x0 x1 x2 x3 x4 x5 x6:Nat} (h0:(((x0+1)+x1)+x5)<(x3+x4)) (h1:((x5-1)-x2)=x6) (h2:x6>(0:Nat)) (h3:¬(x2=1)) (h4:¬(x2=0)) (h5:(1:Nat)<x2):(((x0+1)+x1)+x2)<(x3+x4):=by lia
theorem k210 {x0:Nat} (h0:¬(x0=1)) (h1:¬(x0=0)):(1:Nat)<x0:=by lia
theorem k211 {x0:Nat} (h0:(1:Nat)<x0):((x0-1)-1)<(x0-1):=by lia
theorem k212 {x0 x1:Nat} (h0:(1:Nat)<x0) (h1:x0<=x1):((0:Nat)+(x0-1))<=x1:=by lia
theorem k213 {x0:Nat} (h0:(1:Nat)<x0):(0:Nat)<x0:=by lia
theorem k214 {x0 x1:Nat} (h0:(1:Nat)<x0) (h1:x0<=x1):(x0-1)<x1:=by lia
theorem k215 {x0 x1 x2:Nat} (h0:x0<=x1) (h1:(x1-x0)=x2) (h2:¬(x2>(0:Nat))):x0=x1:=by lia
theorem k216 {x0 x1 x2 x3 x4 x5:Nat} (h0:(((x0+1)+x5)+x2)<(x3+x4)) (h1:x1<=x5):(((x0+1)+x1)+x2)<(x3+x4):=by lia
theorem k217 {x0:Nat} (h0:¬(x0=0)):(0:Nat)<x0:=by lia
theorem k218 {x0 x1:Nat} (h0:x0<=x1):((0:Nat)+x0)<=x1:=by lia
theorem k219 {x0 x1 x2 x3 x4 x5:Nat} (h0:(1:Nat)<x3) (h1:(((x0+x1)+x2)+x3)<(x4+x5)):(((x0+(x1+1))+x2)+(x3-1))<(x4+x5):=by lia
theorem k220 {x0:Nat} (h0:(1:Nat)<x0) (h1:¬((x0-1)=1)):(1:Nat)<(x0-1):=by lia
theorem k221 {x0 x1 x2 x3 x4 x5:Nat} (h0:(0:Nat)<=x5) (h1:(1:Nat)<x2) (h2:(((x0+x5)+x1)+x2)<(x3+x4)):(((x0+1)+x1)+(x2-1))<(x3+x4):=by lia
theorem k222 {x0 x1 x2 x3 x4 x5:Nat} (h0:(0:Nat)<x2) (h1:(((x0+x1)+x2)+x3)<(x4+x5)):(((x0+(x1+1))+(x2-1))+x3)<(x4+x5):=by lia
theorem k223 {x0 x1 x2 x3 x4 x5:Nat} (h0:(0:Nat)<=x5) (h1:(0:Nat)<x1) (h2:(((x0+x5)+x1)+x2)<(x3+x4)):(((x0+1)+(x1-1))+x2)<(x3+x4):=by lia
theorem k224 {x0 x1 x2 x3:Nat} (h0:(0:Nat)<x0) (h1:(1:Nat)<x1) (h2:(((max (0:Nat) (x2+x3))+x0)+x1)<(x2+x3)):False:=by lia
theorem k225 {x0 x1:Nat} (h0:(0:Nat)<x0):(((0:Nat)+(x0-1))+x1)<(x0+x1):=by lia
theorem k226 {x0:Nat} (h0:(0:Nat)<x0) (h1:¬(x0=1)):(1:Nat)<x0:=by lia
theorem k227 {x0 x1:Nat} (h0:(0:Nat)<x0) (h1:(0:Nat)<x1) (h2:¬((x0-1)=0)) (h3:¬(x1=1)):(0:Nat)<(x0-1):=by lia
theorem k228 {x0:Nat} (h0:x0<1):x0=0:=by lia
theorem k229 {x0 x1:Nat} (h0:x1=1) (h1:x1<=x0):(1:Nat)<=x0:=by lia
theorem k230 {x0 x1:Nat} (h0:x1=1) (h1:x1<=x0):((x0-x1)+1)=x0:=by lia
theorem k231 {x0 x1 x2 x3:Nat} (h0:(x3=0)\/(x1=0)) (h1:x3<=x2) (h2:x1<=x0):(x0<=(x0-x1))\/(x2<=(x2-x3)):=by lia
theorem k232 {x0 x1:Nat} (h0:x1<=x0):(x0-(x0-x1))<=(x1-0):=by lia
theorem k233 {x0 x1:Nat} (h0:(0:Nat)<x1) (h1:(x1-1)<=x0) (h2:x0<x1):x0=(x1-1):=by lia
theorem k234 {x0:Nat} (h0:(0:Nat)<x0):(x0-1)<=x0:=by lia
theorem k235 {x0 x1 x2:Nat} (h0:x1<=x2) (h1:x2<=x0):(x0-x1)=((x0-x2)+(x2-x1)):=by lia
theorem k236 {x0 x1:Nat} (h0:x0<=x1) (h1:x0=((x0-1)+1)):(x0-1)<x1:=by lia
theorem k237 {x0:Nat} (h0:(0:Nat)<x0):x0=((x0-1)+1):=by lia
theorem k238 {x0 x1 x2:Nat} (h0:x1<(x2-x0)):(x0+x1)<x2:=by lia
theorem k239 {x0 x1 x2:Nat} (h0:x0<=x1) (h1:x2<=x0):((min x0 x1)-(x0-x2))=x2:=by lia
theorem k240 {x0 x1:Nat} (h0:x1<=x0):(x0-(x0-x1))=x1:=by lia
theorem k241 {y0 y1:Int} (h0:y1<=y0):(-y0)<=(-y1):=by lia
theorem k242 {y0 y1:Int} (h0:(-y1)<=(-y0)):y0<=y1:=by lia
theorem k243 {x0 x1 x2:Nat} (h0:(x0+1)<(x1+x2)):(x0+1)<((x1+1)+x2):=by lia
theorem k244 {x0 x1 x2:Nat} (h0:x2=x1) (h1:(x0+1)<x1) (h2:¬(((x0+1)+1)=x1)):((x0+1)+1)<x1:=by lia
theorem k245 {x0 x1 x2:Nat} (h0:x2=x1) (h1:(x0+1)<x1):x0<x1:=by lia
theorem k246 {x0 x1 x2:Nat} (h0:x2=x1) (h1:x0<x1) (h2:¬((x0+1)=x1)):(x0+1)<x1:=by lia
theorem k247 {x0 x1 x2:Nat} (h0:(x0+1)<(x1+x2)):(x0+1)<(x1+(x2+1)):=by lia
theorem k248 {x0:Nat} (h0:¬(x0>(0:Nat))):x0=0:=by lia
theorem k249 {x0 x1 x2 x3:Nat} (h0:x3=x2) (h1:x0<x2) (h2:x1<=(x2-(x0+1))) (h3:¬(((x0+1)+x1)=x2)):((x0+1)+x1)<x2:=by lia
theorem k250 {x0 x1 x2 x3:Nat} (h0:x3=x0) (h1:((x1+1)+x2)=x0):x0<=((x1+1)+x2):=by lia
theorem k251 {x0 x1 x2 x3:Nat} (h0:(x0+1)<(x1+x2)):(x0+1)<(x1+((x2+1)+x3)):=by lia
theorem k252 {x0 x1 x2:Nat} (h0:((x0+1)+x2)<=x1):((x0+1)+(x1-(x0+1)))=x1:=by lia
theorem k253 {x0 x1 x2 x3 x4:Nat} (h0:x3=x2) (h1:x1<x2) (h2:((x1+1)+x4)<=x0) (h3:x0<x2):(x0-(x1+1))<(x2-(x1+1)):=by lia
theorem k254 {x0 x1 x2:Nat} (h0:((x2+1)+x0)<=x1):x0<=(x1-(x2+1)):=by lia
theorem k255 {x0 x1 x2:Nat} (h0:x2=x0) (h1:x1<x0) (h2:¬((x1+1)=x0)):(0:Nat)<(x0-(x1+1)):=by lia
theorem k256 {x0 x1 x2:Nat} (h0:x2=x1) (h1:x0<x1):((x0+1)+(x1-(x0+1)))<=x1:=by lia
theorem k257 {x0 x1 x2:Nat} (h0:x2=x0) (h1:(x1+1)=x0):x0<=(x1+1):=by lia
theorem k258 {x0 x1 x2 x3:Nat} (h0:(x0+1)<(x1+x3)) (h1:x2>(0:Nat)):(x0+1)<((x1+x2)+x3):=by lia
theorem k259 {x0 x1 x2 x3:Nat} (h0:x3=x2) (h1:(x0+1)<x2) (h2:x1<=(x2-x0)) (h3:¬(((x0+x1)+1)=x2)) (h4:¬((x0+x1)=x2)):((x0+x1)+1)<x2:=by lia
theorem k260 {x0 x1 x2 x3:Nat} (h0:x3=x0) (h1:(x1+x2)=x0):x0<=(x1+x2):=by lia
theorem k261 {x0 x1 x2 x3 x4:Nat} (h0:x3=x2) (h1:(x1+1)<x2) (h2:(x1+x4)<=x0) (h3:x0<x2):(x0-x1)<(x2-x1):=by lia
theorem k262 {x0 x1 x2:Nat} (h0:x2=x0) (h1:(x1+1)<x0):(0:Nat)<(x0-x1):=by lia
theorem k263 {x0 x1 x2:Nat} (h0:x2=x1) (h1:(x0+1)<x1):(x0+(x1-x0))<=x1:=by lia
theorem k264 {x0 x1 x2 x3:Nat} (h0:(x0+x1)<(x2+x3)):(x0+(x1+1))<((x2+1)+x3):=by lia
theorem k265 {x0 x1 x2 x3:Nat} (h0:(0:Nat)<=x3) (h1:(x0+x3)<(x1+x2)):(x0+1)<((x1+1)+x2):=by lia
theorem k266 {x0 x1 x2 x3:Nat} (h0:(x0+x1)<(x2+x3)):(x0+(x1+1))<(x2+(x3+1)):=by lia
theorem k267 {x0 x1 x2 x3:Nat} (h0:(0:Nat)<=x3) (h1:(x0+x3)<(x1+x2)):(x0+1)<(x1+(x2+1)):=by lia
theorem k268 {x0 x1 x2 x3 x4 x5:Nat} (h0:(0:Nat)<x0) (h1:(0:Nat)<x1) (h2:x2=x0) (h3:x3=x1) (h4:(x4+1)<x0) (h5:x5<x1) (h6:(max (0:Nat) (x0+x1))<(x4+x5)):False:=by lia
theorem k269:(0:Nat)<((0:Nat)+1):=by lia
theorem k270 {x0 x1 x2 x3:Nat} (h0:(0:Nat)<x1) (h1:(0:Nat)<x0) (h2:x2=x1) (h3:x3=x0) (h4:¬((1:Nat)=x0)) (h5:¬(((0:Nat)+1)=x1)):(1:Nat)<x0:=by lia
theorem k271 {x0 x1:Nat} (h0:(0:Nat)<x0) (h1:x1=x0) (h2:¬(((0:Nat)+1)=x0)):((0:Nat)+1)<x0:=by lia
theorem k272 {x0 x1:Nat} (h0:x1=x0) (h1:(1:Nat)=x0):x0<=1:=by lia
theorem k273 {x0 x1 x2 x3:Nat} (h0:x1<(min x3 (x2-x0))):(x0+x1)<x2:=by lia
theorem k274 {x0 x1 x2 x3:Nat} (h0:x0<(min x1 (x2-x3))):x0<x1:=by lia
theorem k275 {x0 x1:Nat}:(x0-x1)<=(x0-x1):=by lia
theorem k276 {x0 x1:Nat}:((x0+x1)-x0)=x1:=by lia
theorem k277 {x0 x1:Nat} (h0:(x0+1)=x1):x0=(x1-1):=by lia
theorem k278 {x0 x1 x2 x3:Nat} (h0:x1<=x2) (h1:(x2-x1)<=(x3-(max (0:Nat) x3))) (h2:x0<x2):x0<x1:=by lia
theorem k279 {x0 x1 x2 x3:Nat} (h0:x3<x2) (h1:(x1-x0)<=(x2-x3)) (h2:¬(x0 ≥ x1)):((x0+((x1-x0) / (2:Nat)))-x0)<=(x2-(x3+1)):=by lia
theorem k280 {x0 x1 x2:Nat} (h0:x1<=x2) (h1:¬(x0 ≥ x1)):(x0+((x1-x0) / (2:Nat)))<=x2:=by lia
theorem k281 {x0 x1:Nat}:x0<=(x0+((x1-x0) / (2:Nat))):=by lia
theorem k282 {x0 x1 x2:Nat} (h0:x1<=x2) (h1:¬(x0 ≥ x1)):(x0+((x1-x0) / (2:Nat)))<x2:=by lia
theorem k283 {x0 x1 x2:Nat} (h0:x0<((x1+((x2-x1) / (2:Nat)))+1)):x0<=(x1+((x2-x1) / (2:Nat))):=by lia
theorem k284 {x0 x1 x2 x3:Nat} (h0:x3<x2) (h1:(x0-x1)<=(x2-x3)) (h2:¬(x1 ≥ x0)):(x0-((x1+((x0-x1) / (2:Nat)))+1))<=(x2-(x3+1)):=by lia
theorem k285 {x0 x1:Nat} (h0:¬(x0 ≥ x1)):((x0+((x1-x0) / (2:Nat)))+1)<=x1:=by lia
theorem k286 {x0 x1 x2 x3 x4:Nat} (h0:(x0+x4)<=x3) (h1:x2<=x4) (h2:¬(x1 ≥ x2)):(x0+(x1+((x2-x1) / (2:Nat))))<x3:=by lia
theorem k287 {x0 x1 x2:Nat} (h0:x2<((x1+1)-(min x0 (x1+1)))):x0<(x1+1):=by lia
theorem k288 {x0 x1 x2 x3:Nat} (h0:x0<x2) (h1:x3<(x0+1)) (h2:x3<x1):(x0-x1)<x2:=by lia
theorem k289 {x0 x1 x2:Nat} (h0:x0<((x1+1)-(min x2 (x1+1)))):x0<=(x1-x2):=by lia
theorem k290 {x0 x1 x2 x3:Nat} (h0:x0<x3):((x0-x1)-((x0+1)-(min x2 (x0+1))))<=(x3-0):=by lia
theorem k291 {x0 x1 x2:Nat} (h0:x0<x2) (h1:x1<(x0+1)):(x0-x1)<=x2:=by lia
theorem k292 {x0 x1 x2:Nat} (h0:x2<(x0+1)) (h1:x2<x1):((x0+1)-(min x1 (x0+1)))<=(x0-x2):=by lia
theorem k293 {x0 x1 x2:Nat} (h0:x0<x1) (h1:(max (0:Nat) x1)<x2) (h2:x2<(x0+1)):False:=by lia
theorem k294 {x0 x1 x2:Nat} (h0:x2<x1) (h1:x0<x1):(x0+1)<(((2:Nat)*x1)+1):=by lia
theorem k295 {x0:Nat}:x0<(((2:Nat)*x0)+1):=by lia
theorem k296 {x0 x1:Nat} (h0:¬(x0 ≥ (x1+1))):x0<(x1+1):=by lia
theorem k297 {x0 x1 x2 x3:Nat} (h0:x0<x2) (h1:(0:Nat)<=x3) (h2:x3<x1) (h3:¬(x1 ≥ (x0+1))):(x0-x1)<x2:=by lia
theorem k298 {x0 x1 x2 x3 x4 x5:Nat} (h0:(x0+x4)<=x3) (h1:x1<x4) (h2:(0:Nat)<=x5) (h3:x5<x2) (h4:¬(x2 ≥ (x1+1))):(x0+(x1-x2))<x3:=by lia
theorem k299 {x0 x1:Nat} (h0:x0 ≥ (x1+1)) (h1:x0<(x1+1)):False:=by lia
theorem k300:(0:Nat)<1:=by lia
theorem k301 {x0:Nat}:(0:Nat)<(x0+1):=by lia
theorem k302 {x0 x1 x2:Nat} (h0:x0<((x1+x2)+1)):x0<=(x1+x2):=by lia
theorem k303 {x0 x1 x2 x3:Nat} (h0:x1<(x3-x0)) (h1:x1<x2):((x0+x1)+1)<=(x0+(min x2 (x3-x0))):=by lia
theorem k304 {x0 x1 x2:Nat} (h0:x0<x1) (h1:(max (0:Nat) x1)<x2) (h2:x2<(x1-x0)):False:=by lia
theorem k305 {x0 x1 x2:Nat} (h0:¬(x0 ≥ (x1-x2))):x0<(x1-x2):=by lia
theorem k306 {x0 x1 x2:Nat} (h0:x0<x2) (h1:¬(x1 ≥ (x2-x0))):(x0+x1)<x2:=by lia
theorem k307 {x0 x1 x2 x3 x4:Nat} (h0:(x0+x4)<=x3) (h1:x1<x4) (h2:¬(x2 ≥ (x4-x1))):(x0+(x1+x2))<x3:=by lia
theorem k308 {x0 x1 x2:Nat} (h0:x0 ≥ (x1-x2)) (h1:x0<(x1-x2)):False:=by lia
theorem k309 {x0 x1:Nat} (h0:x1<x0):(0:Nat)<(x0-x1):=by lia
theorem k310 {x0:Nat} (h0:x0<2):x0<=16777216:=by lia
theorem k311 {x0:Nat} (h0:x0<2):x0<=((16777216:Nat)+1):=by lia
theorem k312 {x0 x1 x2 x3:Nat} (h0:x0<=x2) (h1:x1<=x3):(x0+x1)<=(x2+x3):=by lia
theorem k313 {x0 x1 x2 x3:Nat} (h0:x2<=4) (h1:x0<=x3) (h2:x1<=x2) (h3:x3<=((64:Nat)*4)):(x0+x1)<=1000:=by lia
theorem k314 {x0 x1 x2:Nat} (h0:x1<=4) (h1:x2<x1) (h2:x0<=x2):x0<=1000:=by lia
theorem k315 {x0 x1 x2:Nat} (h0:x1<=4) (h1:x0<x1) (h2:x2=x0):(x0+1)<=1000:=by lia
theorem k316 {x0 x1:Nat} (h0:x1<=4) (h1:x0<x1):x0<5:=by lia
theorem k317 {x0:Nat} (h0:(1:Nat)<=x0) (h1:¬(x0=1)):(2:Nat)<=x0:=by lia
theorem k318 {x0:Nat} (h0:(2:Nat)<=x0) (h1:(0:Nat)=x0):False:=by lia
theorem k319 {x0 x1:Nat} (h0:x1≠x0) (h1:x1 ≥ x0):x0<x1:=by lia
theorem k320 {y0:Int} (h0:((0:Int)<=y0)/\(y0<(((1:Nat):Nat):Int))):y0=(0:Int):=by lia
theorem k321 {x0 x1 x2:Nat} (h0:(((x2+1)+1)+1)<3):x0=x1:=by lia
theorem k322 {x0 x1:Nat} (h0:x0<3) (h1:x1=x0):x0<=1000:=by lia
theorem k323 {x0 x1:Nat} (h0:x0<=x1):x0<=(x1+1):=by lia
theorem k324 {x0 x1:Nat} (h0:x0<=x1):(x0+1)<=(x1+1):=by lia
theorem k325 {x0 x1 x2 x3 x4 x5:Nat} (h0:x1=x2) (h1:x2<=((36:Nat)*1296)) (h2:(0:Nat)<x2) (h3:x3=x2) (h4:x4=x2) (h5:x0<=x5) (h6:x5<x2):x0<=1000000:=by lia
theorem k326 {x0 x1 x2 x3 x4:Nat} (h0:x2=x1) (h1:x1<=((36:Nat)*1296)) (h2:(0:Nat)<x1) (h3:x3=x1) (h4:x4=x1) (h5:x0<=(x1-1)):x0<x1:=by lia
theorem k327 {x0 x1:Nat} (h0:(x0+1)<(x1+1)):x0<x1:=by lia
theorem k328 {x0 x1 x2 x3 x4:Nat} (h0:x2=x3) (h1:x4=x3) (h2:x0=x2) (h3:x1=x4):x0=x1:=by lia
theorem k329 {x0 x1 x2 x3:Nat} (h0:x0=x3) (h1:(x0-x1)=(x2+1)) (h2:x1<x0) (h3:x1<x3):(x0-(x1+1))=x2:=by lia
theorem k330 {x0 x1 x2 x3:Nat} (h0:x1=x2) (h1:(x1-x0)=(x3+1)) (h2:x0<=x1):x0<x1:=by lia
theorem k331 {x0 x1 x2:Nat} (h0:x2=x0) (h1:(x2-x1)=0):x0<=x1:=by lia
theorem k332 {x0 x1 x2:Nat} (h0:x0=x2) (h1:(x0-x1)=0):x0<=x1:=by lia
theorem k333 {x0 x1:Nat} (h0:x1<=1296) (h1:x0<=((36:Nat)*1296)):(x0+x1)<=1000000:=by lia
theorem k334 {x0 x1 x2 x3 x4:Nat} (h0:x1<=x2) (h1:x2<=((6:Nat)*6)) (h2:x3=x1) (h3:x4=x1):(min x0 x1)<=36:=by lia
theorem k335 {x0 x1 x2:Nat} (h0:(1:Nat)<=x1) (h1:x1<=6) (h2:x2=x1) (h3:(2:Nat)<=x1) (h4:((2:Nat)*x0)<=x1):x0<=3:=by lia
theorem k336 {x0 x1 x2:Nat} (h0:(1:Nat)<=x1) (h1:x1<=6) (h2:x2=x1) (h3:(2:Nat)<=x1) (h4:((2:Nat)*x0)<=x1):(x0+1)<=4:=by lia
theorem k337 {x0 x1 x2:Nat} (h0:(1:Nat)<=x1) (h1:x1<=6) (h2:x2=x1) (h3:(2:Nat)<=x1) (h4:((2:Nat)*x0)<=x1):x0<=8:=by lia
theorem k338 {x0 x1:Nat} (h0:(0:Nat)<x1) (h1:x0<=(x1-1)):x0<x1:=by lia
theorem k339 {x0 x1:Nat} (h0:(1:Nat)<=x0) (h1:x0<=6) (h2:x1=x0) (h3:¬(x0=1)):(2:Nat)<=x0:=by lia
theorem k340 {x0 x1:Nat} (h0:x1=x0) (h1:((x0:Nat):Int)=(1:Int)):x0=1:=by lia
theorem k341 {x0 x1 x2:Nat} (h0:x1=x2) (h1:x2<=6) (h2:((2:Nat)*x0)<=x2):x0<=3:=by lia
theorem k342 {x0:Nat} (h0:(2:Nat)<=x0):¬(x0=1):=by lia
theorem k343 {x0 x1 x2 x3 x4 x5 x6:Nat} (h0:x1=x2) (h1:(1:Nat)<=x2) (h2:x2<=6) (h3:x0=x2) (h4:x3=x2) (h5:x4=x1) (h6:x5=x2) (h7:x6=x2):(0:Nat)<x0:=by lia
theorem k344 {x0 x1:Nat} (h0:¬(x1<x0)):x0<=x1:=by lia
theorem k345 {x0 x1 x2 x3:Nat} (h0:x2<=6) (h1:x0<=x3) (h2:x1<=x2) (h3:x3<=((6:Nat)*6)):(x0+x1)<=1000:=by lia
theorem k346 {x0 x1 x2:Nat} (h0:x1<=6) (h1:x2<x1) (h2:x0<=x2):x0<=1000:=by lia
theorem k347 {x0 x1 x2:Nat} (h0:x0<=((3:Nat)*((6:Nat)*1296))) (h1:x2<=1296) (h2:x1<=((6:Nat)*1296)):((x0+x1)+x2)<=1000000:=by lia
theorem k348 {x0 x1 x2 x3 x4:Nat} (h0:x1<=1296) (h1:x2<=x1) (h2:x3=x2) (h3:x0<x2) (h4:x4=x0):x0<=1000000:=by lia
theorem k349 {x0 x1 x2 x3 x4 x5 x6:Nat} (h0:x2<=3) (h1:x3=x2) (h2:(0:Nat)<x2) (h3:x4=x5) (h4:x5<=6) (h5:x0=x5) (h6:x6=x2) (h7:x1<=((6:Nat)*(x2-1))):(x0+x1)<=1000:=by lia
theorem k350 {x0 x1 x2 x3:Nat} (h0:x2=x3) (h1:x3<=6) (h2:x0=x3) (h3:x1<x3):((x0-x1)+(min x1 x0))<=1000:=by lia
theorem k351 {x0 x1 x2 x3:Nat} (h0:x1<=3) (h1:x2=x1) (h2:(0:Nat)<x1) (h3:x3=x1) (h4:x0<x1):((min x0 x1)+(x1-(x0+1)))=(x1-1):=by lia
theorem k352 {x0 x1 x2 x3 x4:Nat} (h0:x2=x1) (h1:x3<x1) (h2:x4=x1) (h3:x0<x3):x0<x1:=by lia
theorem k353 {x0 x1 x2:Nat} (h0:x0<=3) (h1:x1=x0) (h2:(0:Nat)<x0) (h3:x2=x0):(x0-1)<=3:=by lia
theorem k354 {x0 x1 x2 x3:Nat} (h0:x1<=3) (h1:x2=x1) (h2:(0:Nat)<x1) (h3:x3=x1) (h4:x0=(x1-1)):x0<=3:=by lia
theorem k355 {x0 x1 x2 x3 x4:Nat} (h0:(x2+1)<=(x1+1)) (h1:x2<=3) (h2:x3=x2) (h3:(0:Nat)<x2) (h4:x4=x2) (h5:x0=(x2-1)):(x0+1)<=x1:=by lia
theorem k356 {x0 x1 x2 x3:Nat} (h0:x1<=3) (h1:x2=x1) (h2:(0:Nat)<x1) (h3:x0<x1) (h4:x3=x1):((min x0 x1)+(x1-(x0+1)))=(x1-1):=by lia
theorem k357 {x0 x1 x2 x3:Nat} (h0:x1<=3) (h1:x2=x1) (h2:(0:Nat)<x1) (h3:x0<x1) (h4:x3=x1):((min x0 x1)+(x1-(x0+1)))<=1000:=by lia
theorem k358 {x0:Nat} (h0:x0<=3) (h1:(0:Nat)<x0) (h2:(0:Nat)=x0):False:=by lia
theorem k359 {x0 x1 x2:Nat} (h0:(x1+1)=(x2+1)) (h1:x0<(x1+1)):((min x0 (x1+1))+((x1+1)-(x0+1)))=x2:=by lia
theorem k360 {x0 x1 x2 x3:Nat} (h0:(0:Nat)<x2) (h1:x3=x2) (h2:x1=x2) (h3:x0<x2):x0<=(x1-1):=by lia
theorem k361 {x0 x1 x2 x3:Nat} (h0:(0:Nat)<x1) (h1:x2=x1) (h2:x0<=(x3-1)) (h3:x3=x1):x0<x1:=by lia
theorem k362 {y0 y1:Int} (h0:¬(y1<y0)):y0<=y1:=by lia
theorem k363 {x0:Nat} (h0:x0<=0):x0=0:=by lia
theorem k364 {x0 x1:Nat} (h0:x0<=8) (h1:x1=x0):x0<64:=by lia
theorem k365 {x0 x1:Nat} (h0:x0<=x1):((x0:Nat):Int)<=((x1:Nat):Int):=by lia
theorem k366 {x0 x1 x2:Nat} (h0:(x2+1)<=(x1+1)) (h1:x0=x2):x0<=x1:=by lia
theorem k367 {x0 x1:Nat} (h0:x0<(x1+1)):((min x0 (x1+1))+((x1+1)-(x0+1)))=x1:=by lia
theorem k368 {x0 x1:Nat} {y0:Int} (h0:x1<x0) (h1:((0:Int)<=y0)/\(y0<((x0:Nat):Int))):(y0).toNat<x0:=by lia
theorem k369 {x0 x1:Nat} (h0:x1=x0):x0<=x1:=by lia
theorem k370 {x0 x1 x2 x3:Nat} (h0:x0=x3) (h1:(x0-x1)=(x2+1)) (h2:x1<x0):(x0-(x1+1))=x2:=by lia
theorem k371 {y0:Int}:¬(y0<y0):=by lia
theorem k372 {x0 x1 x2 x3 x4 x5 x6:Nat} (h0:x2=x3) (h1:x3<=8) (h2:x4<x3) (h3:x5=x3) (h4:x0<=x6) (h5:x6<=((8:Nat)*8)) (h6:x1<=x3):(x0+x1)<=1000:=by lia
theorem k373 {x0 x1 x2 x3 x4 x5 x6:Nat} (h0:x1=x2) (h1:x2<=8) (h2:x3<x2) (h3:x4=x2) (h4:x5<x2) (h5:x0=x6) (h6:x6<=x5):x0<=1000:=by lia
theorem k374 {x0 x1 x2:Nat} (h0:x1=x2) (h1:x2<=8) (h2:x0=x2):((x0:Nat):Int)<((2:Int) ^ 62):=by lia
theorem k375 {x0 x1:Nat} (h0:x1<=x0):((x0+1)-x1)=((x0-x1)+1):=by lia
theorem k376 {x0 x1 x2 x3 x4:Nat} (h0:x2=x0) (h1:x1<=x0) (h2:x3=x2) (h3:x4=x2):((x0+1)-(x1+1))<((x0+1)-x1):=by lia
theorem k377 {x0 x1 x2 x3 x4:Nat} (h0:x2=x0) (h1:x1<=x0) (h2:x3=x2) (h3:x4=x2):((x0+1)-x1)=((x0-x1)+1):=by lia
theorem k378 {x0 x1 x2 x3 x4:Nat} {y0:Int} (h0:x0=x1) (h1:x2<x1) (h2:x3<x1) (h3:x4=x1) (h4:((0:Int)<=y0)/\(y0<((x1:Nat):Int))):y0=(((y0).toNat:Nat):Int):=by lia
theorem k379 {x0 x1 x2 x3 x4:Nat} {y0:Int} (h0:x1=x0) (h1:x2<x0) (h2:x3<x0) (h3:x4=x0) (h4:((0:Int)<=y0)/\(y0<((x0:Nat):Int))):(y0).toNat<x0:=by lia
theorem k380 {x0 x1:Nat} (h0:x0<x1):((0:Int)<=((x0:Nat):Int))/\(((x0:Nat):Int)<((x1:Nat):Int)):=by lia
theorem k381 {y0:Int} (h0:(0:Int)<y0) (h1:y0<=(8:Int)):y0<(1073741824:Int):=by lia
theorem k382 {x0 x1:Nat} (h0:(1:Nat)<=x0) (h1:x0<=8) (h2:x1=x0):((x0:Nat):Int)<(1073741824:Int):=by lia
theorem k383 {x0 x1:Nat} (h0:(1:Nat)<=x0) (h1:x0<=8) (h2:x1=x0):((x0:Nat):Int)≠(0:Int):=by lia
theorem k384 {x0:Nat} {y0:Int} (h0:((y0 / (3:Int)) % (7:Int))=((x0:Nat):Int)):((x0:Nat):Int)<((2:Int) ^ 62):=by lia
theorem k385 {y0:Int}:(((y0 / (3:Int)) % (7:Int))).toNat<7:=by lia
theorem k386 {y0:Int}:((y0 / (3:Int)) % (7:Int))=(((((y0 / (3:Int)) % (7:Int))).toNat:Nat):Int):=by lia
theorem k387 {x0 x1:Nat} (h0:(1:Nat)<=x0) (h1:x0<=8) (h2:x1=x0) (h3:(0:Nat)=x0):False:=by lia
theorem k388 {x0 x1:Nat} (h0:x0<(x1+1)) (h1:¬(x0<x1)):x0=x1:=by lia
theorem k389 {x0 x1 x2 x3 x4 x5 x6:Nat} (h0:x3=x0) (h1:(x0-x1)<(x2+1)) (h2:x4=x0) (h3:x1<x0) (h4:x5=x6):(x0-(x1+1))<x2:=by lia
theorem k390 {x0 x1 x2 x3 x4 x5 x6 x7:Nat} (h0:x2<=8) (h1:x3=x2) (h2:x4=x5) (h3:x6=x2) (h4:x5<x2) (h5:x0<=x2) (h6:x7=x0) (h7:x1<=x0):((x0-x1)+(min x1 x0))<=1000:=by lia
theorem k391 {x0 x1:Nat} {y0 y1:Int} (h0:x1=x0) (h1:y1<=(max (1:Int) ((x0:Nat):Int))) (h2:y0<y1):(y0).toNat<=x0:=by lia
theorem k392 {y0:Int} (h0:(0:Int)<y0):y0≠(0:Int):=by lia
theorem k393 {x0 x1:Nat}:(x0-(x1+1))=((x0-x1)-1):=by lia
theorem k394 {x0 x1:Nat} (h0:x1<x0):(x0-(x1+1))<(x0-x1):=by lia
theorem k395 {x0 x1:Nat} (h0:x1<x0):(x0-x1)=(((x0-x1)-1)+1):=by lia
theorem k396 {x0 x1 x2:Nat} (h0:x0=x2) (h1:¬(x1<x2)):x0<=x1:=by lia
theorem k397 {x0 x1:Nat}:((x0+x1)-x1)=x0:=by lia
theorem k398 {x0 x1 x2:Nat} (h0:(1:Nat)<=x1) (h1:x1<=8) (h2:x0<x1) (h3:x2=x0):x0<=1000:=by lia
theorem k399 {x0 x1 x2:Nat} (h0:x1=6) (h1:x0<x1) (h2:x2=x0):x0<=1000:=by lia
theorem k400 {x0 x1:Nat} (h0:x0<6) (h1:x1=x0):x0<=1000:=by lia
theorem k401 {x0 x1 x2:Nat} (h0:x1=4) (h1:x0<x1) (h2:x2=x0):x0<=1000:=by lia
theorem k402 {x0:Nat} (h0:x0=4) (h1:((x0:Nat):Int)=(6:Int)):False:=by lia
theorem k403 {x0 x1:Nat} (h0:x0<4) (h1:x1=x0):x0<=1000:=by lia
theorem k404 {x0 x1 x2 x3:Nat} (h0:(1:Nat)<=x1) (h1:x1<=8) (h2:x2=x1) (h3:x0<x1) (h4:x3=x0):x0<=1000:=by lia
theorem k405 {x0 x1 x2 x3 x4:Nat} (h0:(1:Nat)<=x1) (h1:x1<=8) (h2:x2=x1) (h3:x3=x1) (h4:x0<x1) (h5:x4=x0):x0<=1000:=by lia
theorem k406 {x0 x1 x2 x3:Nat} {y0:Int} (h0:x1<x2) (h1:y0=((x3:Nat):Int)) (h2:x3<x0):((0:Int)<=y0)/\(y0<((x0:Nat):Int)):=by lia
theorem k407 {x0 x1:Nat} (h0:x0<x1) (h1:x0=x1):False:=by lia
theorem k408 {x0 x1 x2:Nat} (h0:x2=x1) (h1:x0<x2):x0<x1:=by lia
theorem k409 {x0 x1:Nat} (h0:x1=x0) (h1:x0<3):x0<=1000:=by lia
theorem k410 {y0 y1:Int} (h0:y1=y0):y0<=y1:=by lia
theorem k411 {x0 x1:Nat} (h0:(0:Nat)<x0) (h1:x1=x0):(x0-1)<x0:=by lia
theorem k412 {x0:Nat}:(0:Int)<(((x0:Nat):Int)+(1:Int)):=by lia
theorem k413 {x0 x1 x2 x3:Nat} (h0:x1<=8) (h1:(x0+x2)=x1) (h2:(0:Nat)<x2) (h3:x3=x2):x0<=1000:=by lia
theorem k414 {x0 x1 x2 x3 x4:Nat} (h0:x1<=8) (h1:(x2+x3)=x1) (h2:(0:Nat)<x3) (h3:x4=x3) (h4:x0<x3):((x0:Nat):Int)<((2:Int) ^ 63):=by lia
theorem k415 {x0:Nat}:(-((2:Int) ^ 63))<=((x0:Nat):Int):=by lia
theorem k416 {x0 x1 x2 x3:Nat} {y0:Int} (h0:x1<=8) (h1:(x2+x0)=x1) (h2:(0:Nat)<x0) (h3:x3=x0) (h4:y0<((x0:Nat):Int)):(y0).toNat<x0:=by lia
theorem k417 {x0 x1:Nat} (h0:(0:Nat)<x0) (h1:x1=x0):((x0:Nat):Int)≠(0:Int):=by lia
theorem k418 {x0 x1:Nat} (h0:(0:Nat)<x0) (h1:x1=x0):(0:Int)<((x0:Nat):Int):=by lia
theorem k419 {x0 x1 x2:Nat} (h0:(x0+(x1+1))<x2):((x0+1)+x1)<x2:=by lia
theorem k420 {x0 x1 x2:Nat} (h0:(x0+(x2+1))<x1):x0<x1:=by lia
theorem k421 {x0 x1 x2 x3:Nat} (h0:x2=x3) (h1:x2=x0) (h2:x3=x1):x0=x1:=by lia
theorem k422 {x0 x1 x2:Nat} (h0:(x0+x2)<x1):x0<x1:=by lia
theorem k423 {x0 x1 x2 x3:Nat} (h0:x0=x2) (h1:x3=x0) (h2:x0<=x1):(x0-x1)=0:=by lia
theorem k424 {x0 x1 x2 x3:Nat} (h0:x0=x2) (h1:x3=x0) (h2:x1<x3):(x0-x1)=((x0-(x1+1))+1):=by lia
theorem k425 {x0 x1:Nat} (h0:x0=x1):(min x0 x1)=x0:=by lia
theorem k426 {x0 x1 x2 x3:Nat} (h0:(x0-x1)=(x2+1)) (h1:x1<x0) (h2:x1<x3):(x0-(x1+1))=x2:=by lia
theorem k427 {x0 x1 x2:Nat} (h0:(x1-x0)=(x2+1)) (h1:x0<=x1):x0<x1:=by lia
theorem k428 {x0 x1:Nat} (h0:(x0-x1)=0) (h1:x1<=x0):x0=x1:=by lia
theorem k429 {x0 x1 x2:Nat} (h0:x0=x2) (h1:(x2-x1)=0):x0<=x1:=by lia
theorem k430 {x0 x1 x2:Nat} (h0:x2<=x0) (h1:x1=x2):¬(x0<x1):=by lia
theorem k431 {x0 x1:Nat} (h0:x0<=x1) (h1:¬(x1=x0)):x0<x1:=by lia
theorem k432 {x0 x1 x2:Nat} (h0:x1=x2) (h1:x0=x2):¬(x0<x1):=by lia
theorem k433 {x0 x1 x2:Nat} (h0:x2<=x1) (h1:x0=x2) (h2:¬(x1=x2)):x0<x1:=by lia
theorem k434 {x0 x1 x2:Nat} (h0:x0=x2) (h1:x1=x2):¬(x0<x1):=by lia
theorem k435 {x0 x1 x2:Nat} (h0:(x0-(x1+1))=(x2+1)) (h1:(x1+1)<x0):(x0-((x1+1)+1))=x2:=by lia
theorem k436 {x0 x1 x2:Nat} (h0:(x1-(x0+1))=(x2+1)) (h1:(x0+1)<=x1):(x0+1)<x1:=by lia
theorem k437 {x0 x1:Nat} (h0:(x1-(x0+1))=0) (h1:(x0+1)<=x1):(x0+1)=x1:=by lia
theorem k438 {x0 x1 x2 x3:Nat} (h0:x2=x3) (h1:x0=x2) (h2:x1=x3):(min x0 x1)=x2:=by lia
theorem k439 {x0 x1 x2:Nat} (h0:x2<=x1) (h1:x2=x0):x0<=x1:=by lia
theorem k440 {x0 x1:Nat} (h0:x0<x1) (h1:¬((x0+1)<x1)):x0=(x1-1):=by lia
theorem k441 {x0 x1:Nat} (h0:x0<x1) (h1:¬((x0+1)<x1)):(x0+1)=x1:=by lia
theorem k442 {x0 x1:Nat} (h0:(0:Nat)<x0) (h1:x1<x0) (h2:¬((x1+1)<x0)):(x0-1)=x1:=by lia
theorem k443 {x0 x1:Nat} (h0:¬(x1<=x0)):x0<=x1:=by lia
theorem k444 {x0 x1 x2:Nat} (h0:x2<x1) (h1:¬((x2+x0)<x1)):(x0-(x1-x2))=((x2+x0)-x1):=by lia
theorem k445 {x0 x1 x2:Nat} (h0:x0<x2) (h1:x1<x2) (h2:¬((x0+x1)<x2)):((x0+x1)-x2)<x2:=by lia
theorem k446 {x0 x1 x2:Nat} (h0:¬((x0+x1)<x2)):(x0+x1) ≥ x2:=by lia
theorem k447 {x0 x1 x2:Nat} (h0:x2<x1) (h1:x0<x1) (h2:¬((x2+x0)<x1)):(x0-(x1-x2))<x2:=by lia
theorem k448 {x0 x1 x2:Nat} (h0:x1<x0) (h1:¬((x1+x2)<x0)):(x0-x1)<=x2:=by lia
theorem k449 {x0 x1 x2:Nat} (h0:x2<x1) (h1:(x2+x0)<x1):x0<(x1-x2):=by lia
theorem k450 {x0 x1:Nat}:((x0-x1)+(min x1 x0))=x0:=by lia
theorem k451 {x0:Nat}:x0<((x0+1)+1):=by lia
theorem k452 {x0 x1 x2:Nat} (h0:x0<(((x1+1)+x2)+1)):x0<((x1+(x2+1))+1):=by lia
theorem k453 {x0 x1:Nat} (h0:x0<(((0:Nat)+x1)+1)) (h1:x1<x0):False:=by lia
theorem k454 {x0:Nat}:((0:Nat)+x0)=x0:=by lia
theorem k455 {x0:Nat}:x0<(x0+1):=by lia
theorem k456 {x0:Nat} (h0:x0=1):(0:Nat)<x0:=by lia
theorem k457 {x0 x1 x2 x3:Nat} (h0:(x0+(x1-x2))<=x3) (h1:x3<=x0) (h2:(0:Nat)<(x1-x2)):False:=by lia
theorem k458 {x0 x1:Nat} (h0:((x1:Nat):Int)=((x0:Nat):Int)):x0=x1:=by lia
theorem k459 {x0 x1 x2 x3 x4:Nat} (h0:(x0+x3)=x4):((x0+x1)+(x2+x3))=((x2+x1)+x4):=by lia
theorem k460 {x0 x1 x2 x3 x4:Nat} (h0:x3<x4) (h1:(x0+1)<=x1):(x0+1)<=(x1+x2):=by lia
theorem k461 {x0 x1:Nat} (h0:x0<=x1) (h1:x1<=(x0-1)) (h2:(0:Nat)<x0):False:=by lia
theorem k462 {x0:Nat} {y0:Int} (h0:((0:Int)<=y0)/\(y0<((x0:Nat):Int))):(((y0).toNat:Nat):Int)=y0:=by lia
theorem k463 {x0:Nat} {y0:Int} (h0:((0:Int)<=y0)/\(y0<((x0:Nat):Int))):(y0).toNat<x0:=by lia
theorem k464 {x0 x1 x2:Nat} (h0:((x0:Nat):Int)=((x1:Nat):Int)) (h1:x2≠x1) (h2:x0=x2):False:=by lia
theorem k465 {x0:Nat}:¬(x0<0):=by lia
theorem k466 {x0 x1 x2 x3:Nat} (h0:(x1+(x2+1))=x3) (h1:x0<x1):x0≠x1:=by lia
theorem k467 {x0 x1 x2 x3:Nat} (h0:(x2+(x3+1))=x1) (h1:x2<x1) (h2:x0<x2):x0<x1:=by lia
theorem k468 {x0 x1 x2 x3:Nat} (h0:(x1+(x2+1))=x3) (h1:¬(x0<x1)) (h2:¬(x0=x1)):¬(x0<(x1+1)):=by lia
theorem k469 {x0 x1 x2 x3:Nat} (h0:(x1+(x2+1))=x3) (h1:x0=x1):x0<(x1+1):=by lia
theorem k470 {x0 x1 x2 x3:Nat} (h0:(x1+(x2+1))=x3) (h1:x0<x1):¬(x0=x1):=by lia
theorem k471 {x0 x1 x2:Nat} (h0:(x0+(x1+1))=x2):((x0+1)+x1)=x2:=by lia
theorem k472 {x0 x1 x2:Nat} (h0:(x0+(x2+1))=x1):x0<x1:=by lia
theorem k473 (h0:(1:Nat)<=0):False:=by lia
theorem k474 {x0:Nat}:(2:Nat)<=((x0+1)+1):=by lia
theorem k475 {x0:Nat}:(1:Nat)<=(x0+1):=by lia
theorem k476 {x0 x1 x2 x3 x4:Nat} (h0:x1<=x2) (h1:x1=x3) (h2:x3=x4) (h3:x0<x4) (h4:x2<((2:Nat) ^ 63)):((x0:Nat):Int)<(((2:Int) ^ 63)-(1:Int)):=by lia
theorem k477 {x0 x1 x2 x3:Nat} (h0:x0=x1) (h1:x2<x1) (h2:x3<=x2) (h3:(x0-x3)=0):False:=by lia
theorem k478 {x0 x1 x2:Nat} (h0:x2<x1) (h1:x0<=x2):x0<x1:=by lia
theorem k479 {x0 x1 x2 x3:Nat} (h0:x0=x2) (h1:x3<x2) (h2:x1<=x3):(x0-x1)=((x0-(x1+1))+1):=by lia
theorem k480 {x0 x1:Nat} (h0:(x0+2)=x1):x0<=x1:=by lia
theorem k481 {x0 x1:Nat} (h0:x1=(x0+2)):x0<=x1:=by lia
theorem k482 {x0:Nat}:x0<=(x0+2):=by lia
theorem k483 {x0:Nat}:(x0+2)≠x0:=by lia
theorem k484 {x0 x1 x2:Nat} (h0:x1<x2) (h1:x0=(x2+2)):x0≠x1:=by lia
theorem k485 {x0 x1:Nat} (h0:x0<x1) (h1:x0=(x1+2)):False:=by lia
theorem k486:(0:Int)<((2:Int) ^ 62):=by lia
theorem k487:(-((2:Int) ^ 62))<=(0:Int):=by lia
theorem k488 {x0 x1:Nat} (h0:x0<=x1) (h1:¬(x0<x1)):x0=x1:=by lia
theorem k489 {x0 x1 x2:Nat} (h0:x2=x0) (h1:x2<=x1):x0<=x1:=by lia
theorem k490 {x0 x1 x2 x3:Nat} (h0:x2=x0) (h1:x3=x1) (h2:¬(x2=x3)):x0≠x1:=by lia
theorem k491 {x0 x1 x2 x3:Nat} (h0:x2=x0) (h1:x3=x1) (h2:x2=x3):x0=x1:=by lia
theorem k492 {x0 x1 x2:Nat} (h0:x1=x2) (h1:x0<x1):x0<(min x1 x2):=by lia
theorem k493 {x0 x1 x2:Nat} (h0:x1=x2) (h1:x0<(min x1 x2)):x0<x1:=by lia
theorem k494 {x0 x1 x2 x3 x4:Nat} (h0:(x3+x4)<=x2) (h1:x3=x0) (h2:x4=x1):(x0+x1)<=x2:=by lia
theorem k495 {x0 x1:Nat} (h0:x0<=x1):¬(x0>x1):=by lia
theorem k496 {x0 x1 x2:Nat} (h0:x1<((2:Nat) ^ 63)) (h1:x2<=x1) (h2:x2=x0):((x0:Nat):Int)<((2:Int) ^ 63):=by lia
theorem k497 {x0:Nat} {y0:Int} (h0:¬(y0<(0:Int))):(max (0:Int) (min y0 ((x0:Nat):Int)))=(((min (y0).toNat x0):Nat):Int):=by lia
theorem k498 {x0:Nat} {y0:Int} (h0:y0<(0:Int)):(max (0:Int) (min (y0+((x0:Nat):Int)) ((x0:Nat):Int)))=((((y0+((x0:Nat):Int))).toNat:Nat):Int):=by lia
theorem k499 {x0 x1 x2:Nat} {y0:Int} (h0:x0<=x1) (h1:(-((x0:Nat):Int))<=y0) (h2:x0=x2) (h3:x1<((2:Nat) ^ 63)):(-((2:Int) ^ 63))<=y0:=by lia
theorem k500 {y0:Int} (h0:¬((0:Int)<=y0)):y0<(0:Int):=by lia
theorem k501 {x0 x1 x2:Nat} {y0:Int} (h0:x0<=x1) (h1:y0<((x0:Nat):Int)) (h2:x0=x2) (h3:x1<((2:Nat) ^ 63)):y0<((2:Int) ^ 63):=by lia
theorem k502 {x0 x1 x2 x3:Nat} {y0:Int} (h0:x0<=x1) (h1:x2<x0) (h2:y0<((x0:Nat):Int)) (h3:x0=x3) (h4:x1<((2:Nat) ^ 63)):y0<((2:Int) ^ 63):=by lia
theorem k503 {x0 x1 x2 x3:Nat} {y0:Int} (h0:x0<=x1) (h1:x2<x0) (h2:(-((x0:Nat):Int))<=y0) (h3:x0=x3) (h4:x1<((2:Nat) ^ 63)):(-((2:Int) ^ 63))<=y0:=by lia
theorem k504 {x0 x1:Nat} {y0:Int} (h0:(-((x1:Nat):Int))<=y0) (h1:x1=x0):(-((x0:Nat):Int))<=y0:=by lia
theorem k505 {x0:Nat} {y0:Int} (h0:¬((0:Int)<=y0)) (h1:(-((x0:Nat):Int))<=y0):y0<((x0:Nat):Int):=by lia
theorem k506 {x0 x1:Nat} {y0:Int} (h0:¬((0:Int)<=y0)) (h1:(-((x1:Nat):Int))<=y0) (h2:((y0+((x1:Nat):Int))).toNat=x0):x0<x1:=by lia
theorem k507 {x0:Nat} {y0:Int} (h0:(0:Int)<=y0):(-((x0:Nat):Int))<=y0:=by lia
theorem k508 {x0 x1:Nat} {y0:Int} (h0:(0:Int)<=y0) (h1:y0<((x1:Nat):Int)) (h2:(y0).toNat=x0):x0<x1:=by lia
theorem k509 {x0 x1 x2:Nat}:(min (x0-x1) (x2-x1))<=x2:=by lia
theorem k510 {x0:Nat}:¬(((x0:Nat):Int)<(0:Int)):=by lia
theorem k511 {x0 x1 x2:Nat} (h0:x0=x2) (h1:x2<=x1):(x0+(x1-x0))=x1:=by lia
theorem k512 {x0 x1 x2:Nat} (h0:((x0+((16:Nat)*(x1+1)))+200)<x2):(((x0+3)+((16:Nat)*x1))+200)<x2:=by lia
theorem k513 {x0 x1 x2:Nat} (h0:((x0+((3:Nat)*(x1+1)))+5)<x2):(((x0+1)+((3:Nat)*x1))+5)<x2:=by lia
theorem k514 {x0 x1 x2:Nat} (h0:x1=16777216) (h1:x2<=x1) (h2:x2=x0):((x0:Nat):Int)<((2:Int) ^ 63):=by lia
theorem k515 {x0 x1:Nat} (h0:x1=16777216) (h1:x0<=x1):¬(((x0:Nat):Int) ≥ ((2:Int) ^ 63)):=by lia
theorem k516 {y0:Int} (h0:(0:Int)<y0):(0:Int)<=y0:=by lia
theorem k517 {y0:Int} (h0:(0:Int)<y0) (h1:y0<(1073741824:Int)):(0:Int)<=y0:=by lia
theorem k518 {y0:Int} (h0:(0:Int)<y0) (h1:y0<(1073741824:Int)):y0≠(0:Int):=by lia
end Om
namespace L2
open PySem PySem.Spec PyProof.Rows
noncomputable abbrev Key:=Sum Int Str
noncomputable def Zj5:Key->Value->Bool
 | .inl k,v=>Value.isInt k v
 | .inr x,v=>Value.isStrOf x v
noncomputable def Zmc (w:World):Key->Int
 | .inl k=>hashInt k
 | .inr x=>hashStr w x
theorem Z8:∀ {k:Key} {v:Value},Zj5 k v=true->(∃ i t,k=Sum.inl i/\v=Value.int i t)\/(∃ x t,k=Sum.inr x/\v=Value.str x t)
 | .inl i,v,h=>by
  obtain ⟨t,e⟩:=Value.isInt_shape (k:=i) (v:=v) h
  exact .inl ⟨i,t,rfl,e⟩
 | .inr x,v,h=>by
  obtain ⟨t,e⟩:=Value.isStrOf_shape (x:=x) (v:=v) h
  exact .inr ⟨x,t,rfl,e⟩
theorem ZkS (a b:Int):decide ((Sum.inl a:Key)=Sum.inl b)=(a==b):=by
 by_cases e:a=b
 ·subst e; simp
 ·have h:¬ (Sum.inl a:Key)=Sum.inl b:=fun q=>e (Sum.inl.inj q)
  rw [decide_eq_false h]
  exact (beq_eq_false_iff_ne.mpr e).symm
theorem ZkP (a b:Str):decide ((Sum.inr a:Key)=Sum.inr b)=decide (a=b):=by
 by_cases e:a=b
 ·subst e; simp
 ·have h:¬ (Sum.inr a:Key)=Sum.inr b:=fun q=>e (Sum.inr.inj q)
  rw [decide_eq_false h,decide_eq_false e]
theorem ZkR (a:Int) (b:Str):decide ((Sum.inl a:Key)=Sum.inr b)=false:=decide_eq_false (fun q=>nomatch q)
theorem ZkQ (a:Str) (b:Int):decide ((Sum.inr a:Key)=Sum.inl b)=false:=decide_eq_false (fun q=>nomatch q)
noncomputable def Zd1 (prog:Program) (w:World):PySem.KeyKind prog w Key where
 is:=Zj5
 hash:=Zmc w
 inj:=fun v a b ha hb=>by
  rcases Z8 ha with ⟨i,t,rfl,rfl⟩ | ⟨x,t,rfl,rfl⟩
  ·rcases Z8 hb with ⟨j,u,rfl,e⟩ | ⟨y,u,rfl,e⟩
   ·injection e with e1 _; rw [e1]
   ·exact nomatch e
  ·rcases Z8 hb with ⟨j,u,rfl,e⟩ | ⟨y,u,rfl,e⟩
   ·exact nomatch e
   ·injection e with e1 _; rw [e1]
 byValue:=fun k v h=>by
  rcases Z8 h with ⟨i,t,rfl,rfl⟩ | ⟨x,t,rfl,rfl⟩ <;> rfl
 pyHash:=fun hv h=>by
  rcases Z8 hv with ⟨i,t,rfl,rfl⟩ | ⟨x,t,rfl,rfl⟩
  ·exact wpAny_pyHash_int h
  ·exact wpAny_pyHash_str h
 eqBool:=fun hu hv h=>by
  rcases Z8 hu with ⟨i,t,rfl,rfl⟩ | ⟨x,t,rfl,rfl⟩
  ·rcases Z8 hv with ⟨j,u,rfl,rfl⟩ | ⟨y,u,rfl,rfl⟩
   ·rw [ZkS] at h; exact wpAny_eqBool_int h
   ·rw [ZkR] at h; exact SeqAt.EqAt.int_str i t y u _ _ _ _ h
  ·rcases Z8 hv with ⟨j,u,rfl,rfl⟩ | ⟨y,u,rfl,rfl⟩
   ·rw [ZkQ] at h; exact SeqAt.EqAt.str_int x t j u _ _ _ _ h
   ·rw [ZkP] at h; exact wpAny_eqBool_str h
 «strs»:=fun k x t v h=>by
  rcases Z8 h with ⟨i,u,rfl,e⟩ | ⟨y,u,rfl,e⟩
  ·exact nomatch e
  ·injection e with e1 _
   subst e1
   cases v <;> rfl
end L2
namespace L2
open PySem PySem.Spec PyProof.Rows
inductive V where
 | non | bl (b:Bool) | int (i:Int) | str (x:Str) | byt (b:Array UInt8) | flt (b:UInt64) | ref (a:Addr) | ty (n:String)
 deriving DecidableEq
noncomputable def RelV:V->Value->Prop
 | .non,u=>u=Value.none
 | .bl b,u=>u=Value.bool b
 | .int i,u=>∃ t,u=Value.int i t
 | .str x,u=>∃ t,u=Value.str x t
 | .byt b,u=>∃ t,u=Value.bytes b t
 | .flt b,u=>∃ t,u=Value.float b t
 | .ref a,u=>u=Value.ref a
 | .ty n,u=>u=Value.type n
noncomputable abbrev Vals:List V->List Value->Prop:=Paired RelV
theorem Vals.length {xs:List V} {us:List Value} (r:Vals xs us):xs.length=us.length:=Paired.length r
theorem Vals.get:∀ {xs:List V} {us:List Value} {i:Nat} {x:V},Vals xs us->xs[i]? = some x->∃ u,us[i]? = some u/\RelV x u
 | _,_,_,_,.nil,e=>by simp at e
 | _,_,0,_,.cons r _,e=>by simp at e; subst e; exact ⟨_,rfl,r⟩
 | _,_,i+1,x,.cons _ t,e=>by
  obtain ⟨u,h1,h2⟩:=Vals.get (i:=i) (x:=x) t (by simpa using e)
  exact ⟨u,by simpa using h1,h2⟩
theorem Vals.set {x:V} {u:Value} (r:RelV x u):∀ {xs:List V} {us:List Value} (i:Nat),Vals xs us->Vals (xs.set i x) (us.set i u)
 | _,_,_,.nil=>.nil
 | _,_,0,.cons _ t=>.cons r t
 | _,_,i+1,.cons q t=>.cons q (Vals.set r i t)
theorem Vals.append:∀ {xs ys:List V} {us ws:List Value},Vals xs us->Vals ys ws->Vals (xs++ys) (us++ws)
 | _,_,_,_,.nil,s=>s
 | _,_,_,_,.cons r t,s=>.cons r (Vals.append t s)
theorem Vals.take:∀ {xs:List V} {us:List Value} (n:Nat),Vals xs us->Vals (xs.take n) (us.take n)
 | _,_,0,_=>.nil
 | _,_,_+1,.nil=>.nil
 | _,_,n+1,.cons r t=>.cons r (Vals.take n t)
theorem Vals.drop:∀ {xs:List V} {us:List Value} (n:Nat),Vals xs us->Vals (xs.drop n) (us.drop n)
 | _,_,0,r=>r
 | _,_,_+1,.nil=>.nil
 | _,_,n+1,.cons _ t=>Vals.drop n t
noncomputable def ZlM:Option V->Option Value->Prop
 | some v,some u=>RelV v u
 | none,none=>True
 | _,_=>False
noncomputable def KV {κ:Type}:List (κ × V)->List (κ × Value)->Prop:=Paired fun (p:κ × V) (q:κ × Value)=>p.1=q.1/\RelV p.2 q.2
noncomputable def kV:Key->V
 | .inl i=>.int i
 | .inr x=>.str x
inductive HO where
  | lst (xs:List V)
  | tup (xs:List V)
  | dK (kvs:List (Key × V)) | dT (kvs:List (List Key × V))
  | set (S:Int->Bool) (n:Nat)
  | ins (C dx:Addr) (fs:List (Str × V))
  | own (x:Addr)
  | xd (fs:List (Str × V))
  | met (f x:Addr)
  | rng (lo hi:Int)
  | frz (o:Obj) (u:HO)
  | tbl (ps:Array Value)
  | ext (φ:Heap->Prop)
noncomputable abbrev Hp:=Addr->Option HO
noncomputable def upd (H:Hp) (a:Addr) (o:HO):Hp:=fun b=>if b=a then some o else H b
theorem Zb {H:Hp} {a:Addr} {o:HO}:upd H a o a=some o:=by unfold upd; rw [if_pos rfl]
theorem Zf {H:Hp} {a b:Addr} {o:HO} (h:b≠a):upd H a o b=H b:=by unfold upd; rw [if_neg h]
theorem YV {H:Hp} {a b:Addr} {o u:HO} (h:H a=some o) (h':H b=some u) (d:o≠u):a≠b:=by
 intro e; subst e; rw [h] at h'; exact d (Option.some.inj h')
theorem Zh {H:Hp} {a b:Addr} {o:HO} (h:H a=some o) (h':H b=none):a≠b:=by
 intro e; subst e; rw [h] at h'; cases h'
noncomputable def IsTupN (h:Heap) (a:Addr) (items:Array Value):Prop:=∃ o,h.get? a=some o/\o.cls = .type "tuple" /\ ∃ n,(o.data,o.dict)=(.seq items n,none)
theorem IsTupN.is {h:Heap} {a:Addr} {items:Array Value} (x:IsTupN h a items):IsTup h a items:=let ⟨o,g,c,n,e⟩:=x; ⟨o,g,c,n,congrArg Prod.fst e⟩
theorem IsTupN.bare {h:Heap} {a:Addr} {items:Array Value} (x:IsTupN h a items):∃ o,h.get? a=some o/\o.dict=none:=let ⟨o,g,_,_,e⟩:=x; ⟨o,g,congrArg Prod.snd e⟩
theorem IsTupN.new (h:Heap) (items:Array Value):IsTupN (h.push { cls:=.type "tuple",data:=.seq items }) h.objs.size items:=⟨_,QAx _ rfl,rfl,_,rfl⟩
section
variable (P:Program) (w:World)
noncomputable def ObjOk (H:Hp) (h:Heap) (a:Addr):HO->Prop
 | .lst xs=>xs.length<=sizeLine/\∃ (its:List Value) (n:Nat),Vals xs its/\h.get? a=some { cls:=.type "list",data:=.seq its.toArray n }
 | .tup xs=>xs.length<=sizeLine/\∃ its:List Value,Vals xs its/\IsTupN h a its.toArray
 | .dK kvs=>kvs.length<=sizeLine/\(a==sysModules)=false/\∃ vs,KV kvs vs/\h.DictOf (Zd1 P w) a vs
 | .dT kvs=>kvs.length<=sizeLine/\(a==sysModules)=false/\∃ xs:List (List Key × Addr × Value),
   Paired (fun (p:List Key × V) (q:List Key × Addr × Value)=>p.1=q.1/\H q.2.1=some (.tup (p.1.map kV))/\RelV p.2 q.2.2) kvs xs /\
   ∃ o es ep,h.get? a=some o/\o.ExactDict/\o.data = .dict es ep/\es.toList=xs.map (entryOfKey (tupleKind (Zd1 P w)))/\(xs.map (·.1)).Nodup
 | .set S n=>h.SetOf (intKind P w) a S n
 | .ins C dx fs=>H dx=some (.own a)/\fs.length<=1000/\dx≠a/\h.get? a=some (PySem.W.instObj C dx) /\
   ∃ mA,h.Ns1 dx mA/\(∀ f,ZlM (fs.lookup f) (mA f))/\PySem.Within mA (fs.map (·.1))
 | .own _=>∃ o,h.get? a=some o
 | .xd fs=>∃ mA,h.Ns1 a mA/\∀ f,ZlM (fs.lookup f) (mA f)
 | .rng lo hi=>∃ t u v,h.get? a=some { cls:=.type "range",data:=.fields #[.int lo t,.int hi u,.int 1 v] }
 | .frz o u=>h.get? a=some o/\ObjOk H h a u
 | .tbl ps=>∃ qs:Array Value,h.get? a=some { cls:=.none,data:=.fields qs }/\TriplesOk qs.toList/\∀ pos cv,codeAmong pos qs.toList=some cv->∃ (c':Addr) (oc:Obj) (vs:Array Value) (q:Str) (t:Tok),cv = .ref c'/\H c'=some (.own a)/\h.get? c'=some oc/\oc.data = .fields vs/\vs[1]? = some (.str q t)/\ps = #[.str q 0]
 | .met f x=>h.get? a=some (PySem.W.methodObj (.ref f) (.ref x))
 | .ext φ=>φ h/\(∃ o,h.get? a=some o)/\∀ h1 h2:Heap,φ h1->(∀ o,h1.get? a=some o->h2.get? a=some o)->φ h2
noncomputable def HOk (H:Hp) (h:Heap):Prop:=∀ a o,H a=some o->ObjOk P w H h a o
end
section
variable {P:Program} {w:World} {H H':Hp} {h h':Heap} {a:Addr} {o:HO}
theorem ObjOk.lt (x:ObjOk P w H h a o):a<h.objs.size:=by
 cases o with
 | lst xs=>obtain ⟨_,_,_,_,e⟩:=x; exact QAi e
 | tup xs=>obtain ⟨_,_,_,p⟩:=x; exact IsTup.lt (IsTupN.is p)
 | dK kvs=>obtain ⟨_,_,_,_,o,_,_,e,_⟩:=x; exact QAi e
 | dT kvs=>obtain ⟨_,_,_,_,o,_,_,e,_⟩:=x; exact QAi e
 | set S n=>obtain ⟨o,_,_,_,e,_⟩:=x; exact QAi e
 | ins C dx fs=>obtain ⟨_,_,_,e,_⟩:=x; exact QAi e
 | own y=>obtain ⟨_,e⟩:=x; exact QAi e
 | xd fs=>obtain ⟨_,⟨_,_,_,e,_⟩,_⟩:=x; exact QAi e
 | rng lo hi=>obtain ⟨_,_,_,e⟩:=x; exact QAi e
 | frz ob u=>obtain ⟨e,_⟩:=x; exact QAi e
 | tbl ps=>obtain ⟨_,e,_⟩:=x; exact QAi e
 | met f y=>exact QAi (show h.get? a=some _ from x)
 | ext φ=>obtain ⟨_,⟨_,e⟩,_⟩:=x; exact QAi e
theorem Paired.mapP {α β:Type} {F G:α->β->Prop}:∀ {l₁:List α} {l₂:List β},Paired F l₁ l₂->(∀ a b,F a b->G a b)->Paired G l₁ l₂
 | _,_,.nil,_=>.nil
 | _,_,.cons r t,f=>.cons (f _ _ r) (Paired.mapP t f)
theorem ObjOk.stay (x:ObjOk P w H h a o) (k:∀ b u,(b=a\/H b=some (.own a))->h.get? b=some u->h'.get? b=some u)
  (ho:∀ b,H b=some (.own a)->H' b=some (.own a)) (ht:∀ b xs,H b=some (.tup xs)->H' b=some (.tup xs)):ObjOk P w H' h' a o:=by
 induction o with
 | lst xs=>obtain ⟨z,its,n,r,e⟩:=x; exact ⟨z,its,n,r,k _ _ (.inl rfl) e⟩
 | tup xs=>obtain ⟨z,its,r,ob,e,c⟩:=x; exact ⟨z,its,r,ob,k _ _ (.inl rfl) e,c⟩
 | dK kvs=>obtain ⟨z,y,vs,r,ob,es,ep,e,c⟩:=x; exact ⟨z,y,vs,r,ob,es,ep,k _ _ (.inl rfl) e,c⟩
 | dT kvs =>
  obtain ⟨z,y,xs,r,ob,es,ep,e,c⟩:=x
  exact ⟨z,y,xs,Paired.mapP r fun p q z=>⟨z.1,ht _ _ z.2.1,z.2.2⟩,ob,es,ep,k _ _ (.inl rfl) e,c⟩
 | set S n=>obtain ⟨ob,es,ep,t,e,c⟩:=x; exact ⟨ob,es,ep,t,k _ _ (.inl rfl) e,c⟩
 | ins C dx fs =>
  obtain ⟨d,z,ne,e,mA,⟨od,es,ep,e2,c⟩,r⟩:=x
  exact ⟨ho _ d,z,ne,k _ _ (.inl rfl) e,mA,⟨od,es,ep,k _ _ (.inr d) e2,c⟩,r⟩
 | own y=>obtain ⟨ob,e⟩:=x; exact ⟨ob,k _ _ (.inl rfl) e⟩
 | xd fs=>obtain ⟨mA,⟨od,es,ep,e,c⟩,r⟩:=x; exact ⟨mA,⟨od,es,ep,k _ _ (.inl rfl) e,c⟩,r⟩
 | rng lo hi=>obtain ⟨t,u,v,e⟩:=x; exact ⟨t,u,v,k _ _ (.inl rfl) e⟩
 | frz ob u ih=>obtain ⟨e,q⟩:=x; exact ⟨k _ _ (.inl rfl) e,ih q⟩
 | tbl ps =>
  obtain ⟨qs,e,tr,al⟩:=x
  refine ⟨qs,k a _ (.inl rfl) e,tr,fun pos cv hq=>?_⟩
  obtain ⟨c',oc,vs,q,t,e1,e2,e3,r⟩:=al pos cv hq
  exact ⟨c',oc,vs,q,t,e1,ho _ e2,k _ _ (.inr e2) e3,r⟩
 | met f y =>
  have e:h.get? a=some (PySem.W.methodObj (.ref f) (.ref y)):=x
  show h'.get? a=some (PySem.W.methodObj (.ref f) (.ref y))
  exact k a _ (.inl rfl) e
 | ext φ=>obtain ⟨p,⟨o,e⟩,st⟩:=x; exact ⟨st _ _ p fun o q=>k _ _ (.inl rfl) q,⟨o,k _ _ (.inl rfl) e⟩,st⟩
theorem HOk.lt (x:HOk P w H h) (e:H a=some o):a<h.objs.size:=(x a o e).lt
theorem HOk.fresh (x:HOk P w H h) (e:h.objs.size<=a):H a=none:=by
 cases q:H a with
 | none=>rfl
 | some u=>exact absurd (QAz (x.lt q) e) (QCb _)
theorem HOk.kept (x:HOk P w H h) (k:∀ b u,h.get? b=some u->h'.get? b=some u):HOk P w H h':=fun a o e =>
 (x a o e).stay (fun b u _ q=>k b u q) (fun _ q=>q) fun _ _ q=>q
theorem HOk.laid (x:HOk P w H h) (k:∀ b u,h.get? b=some u->h'.get? b=some u) (hp:h.objs.size<=a) (new:ObjOk P w (upd H a o) h' a o):HOk P w (upd H a o) h':=fun b u e=>by
 have hn:=x.fresh hp
 by_cases hb:b=a
 ·subst hb; rw [Zb] at e; cases e; exact new
 ·rw [Zf hb] at e
  exact (x b u e).stay (fun c v _ q=>k c v q) (fun c q=>by rw [Zf (Zh q hn)]; exact q) fun c xs q=>by rw [Zf (Zh q hn)]; exact q
end
noncomputable def Rd (H:Hp) (a:Addr) (u:HO):Prop:=H a=some u\/∃ o,H a=some (.frz o u)
theorem Rd.ok {P:Program} {w:World} {H:Hp} {h:Heap} {a:Addr} {u:HO} (r:Rd H a u) (x:HOk P w H h):ObjOk P w H h a u:=by
 rcases r with r | ⟨o,r⟩
 ·exact x a u r
 ·obtain ⟨_,q⟩:=x a _ r
  exact q
noncomputable def Mut:Option HO->Prop
 | some (.lst _)=>True
 | some (.dK _)=>True
 | some (.dT _)=>True
 | some (.set _ _)=>True
 | some (.ins _ _ _)=>True
 | some (.ext _)=>True
 | _=>False
section
variable {P:Program} {w:World} {H:Hp} {h h':Heap} {x e:Addr} {o':HO}
theorem HOk.write (ok:HOk P w H h) (mu:Mut (H x)) (he:e=x\/H e=some (.own x)) (k:∀ b u,b≠e->h.get? b=some u->h'.get? b=some u) (heo:∃ u,h'.get? e=some u)
  (new:ObjOk P w (upd H x o') h' x o'):HOk P w (upd H x o') h':=fun b u q=>by
 have nown:∀ c y,H c=some (.own y)->c≠x:=fun c y r z=>by subst z; rw [r] at mu; exact mu
 have ntup:∀ c xs,H c=some (.tup xs)->c≠x:=fun c xs r z=>by subst z; rw [r] at mu; exact mu
 by_cases hb:b=x
 ·subst hb; rw [Zb] at q; cases q; exact new
 ·rw [Zf hb] at q
  by_cases hbe:b=e
  ·have q':H b=some (.own x):=by
    rcases he with z | z
    ·exact absurd (hbe.trans z) hb
    ·rw [hbe]; exact z
   rw [q] at q'; cases q'
   obtain ⟨v,hv⟩:=heo
   exact ⟨v,by rw [hbe]; exact hv⟩
  ·refine (ok b u q).stay (fun c v hc r=>k c v ?_ r) (fun c r=>by rw [Zf (nown c b r)]; exact r) fun c xs r=>by rw [Zf (ntup c xs r)]; exact r
   rcases hc with rfl | hc
   ·exact hbe
   ·rintro rfl
    rcases he with z | z
    ·exact nown c b hc z
    ·rw [hc] at z; cases z; exact hb rfl
end
structure Un (fs ex:List Addr) (H H':Hp) (h h':Heap):Prop where
 keep:∀ b o,h.get? b=some o->H b=none->b∉fs->b∉ex->h'.get? b=some o
 slot:∀ b o,h.get? b=some o->H b=none->b∈fs->b∉ex->∃ sl,h'.get? b=some { o with slots:=sl }
 free:∀ b o,h.get? b=some o->H b=none->b∉ex->H' b=none
 there:∀ b o,h.get? b=some o->b∉ex->∃ o',h'.get? b=some o'
 tups:∀ b xs,H b=some (.tup xs)->H' b=some (.tup xs)
 frzs:∀ b o u,H b=some (.frz o u)->H' b=some (.frz o u)
 tbls:∀ b ps,H b=some (.tbl ps)->∃ more,H' b=some (.tbl (ps++more))
section
variable {fs fs' ex ex':List Addr} {H H1 H2:Hp} {h h1 h2 h':Heap} {a x e:Addr} {o:HO}
theorem Un.any (u:Un fs ex H H1 h h1) {b:Addr} {ob:Obj} (q:h.get? b=some ob) (n:H b=none) (hx:b∉ex):∃ sl,h1.get? b=some { ob with slots:=sl }:=by
 by_cases hb:b∈fs
 ·exact u.slot b ob q n hb hx
 ·exact ⟨ob.slots,u.keep b ob q n hb hx⟩
theorem Un.kept (k:∀ b u,h.get? b=some u->h'.get? b=some u):Un fs ex H H h h' :=
 ⟨fun b ob q _ _ _=>k b ob q,fun b ob q _ _ _=>⟨ob.slots,k b ob q⟩,fun _ _ _ n _=>n,fun b ob q _=>⟨ob,k b ob q⟩,fun _ _ q=>q,fun _ _ _ q=>q,fun _ ps q=>⟨#[],by rw [q]; simp⟩⟩
theorem Un.refl:Un fs ex H H h h:=Un.kept fun _ _ q=>q
theorem Un.laid (k:∀ b u,h.get? b=some u->h'.get? b=some u) (hp:h.objs.size<=a) (hn:H a=none):Un fs ex H (upd H a o) h h' where
 keep:=fun b u q _ _ _=>k b u q
 slot:=fun b u q _ _ _=>⟨u.slots,k b u q⟩
 free:=fun b u q n _=>by rw [Zf (QBa (QAz (QAi q) hp))]; exact n
 there:=fun b u q _=>⟨u,k b u q⟩
 tups:=fun b xs q=>by rw [Zf (Zh q hn)]; exact q
 frzs:=fun b u xs q=>by rw [Zf (Zh q hn)]; exact q
 tbls:=fun b ps q=>⟨#[],by rw [Zf (Zh q hn),q]; simp⟩
theorem Un.write (mu:Mut (H x)) (he:e=x\/H e=some (.own x)) (k:∀ b u,b≠e->h.get? b=some u->h'.get? b=some u) (heo:∃ u,h'.get? e=some u):Un fs ex H (upd H x o) h h':=by
 have hx:∀ b,H b=none->b≠x:=fun b n z=>by subst z; rw [n] at mu; exact mu
 have hb:∀ b,H b=none->b≠e:=fun b n z=>by
  subst z
  rcases he with r | r
  ·exact hx b n r
  ·rw [n] at r; cases r
 have hm:∀ b u,H b=some u->¬ Mut (some u)->b≠x:=fun b u q nm z=>by subst z; rw [q] at mu; exact nm mu
 refine ⟨fun b u q n _ _=>k b u (hb b n) q,fun b u q n _ _=>⟨u.slots,k b u (hb b n) q⟩,fun b u q n _=>by rw [Zf (hx b n)]; exact n,fun b u q _=>?_,
  fun b xs q=>by rw [Zf (hm b _ q fun z=>z)]; exact q,fun b u xs q=>by rw [Zf (hm b _ q fun z=>z)]; exact q,fun b ps q=>⟨#[],by rw [Zf (hm b _ q fun z=>z),q]; simp⟩⟩
 by_cases hbe:b=e
 ·subst hbe; exact heo
 ·exact ⟨u,k b u hbe q⟩
end
noncomputable def trk (h:Heap) (H:Hp):List Addr:=(List.range h.objs.size).filter fun a=>(H a).isSome
noncomputable def Zd6 (h:Heap) (H:Hp):Heap:=PySem.W.hideAll h (trk h H)
theorem Zhy (h:Heap) (H:Hp):(Zd6 h H).objs.size=h.objs.size:=PySem.W.hideAll_size _ _
theorem Ziy {h:Heap} {H:Hp} {b:Addr} {o:Obj} (e:h.get? b=some o) (n:H b=none):(Zd6 h H).get? b=some o :=
 PySem.W.hideAll_get _ e fun hm=>by
  have q:(H b).isSome=true:=(List.mem_filter.mp hm).2
  rw [n] at q; simp at q
theorem Zjr {h:Heap} {H:Hp} {b:Addr} {o:Obj} (e:(Zd6 h H).get? b=some o):h.get? b=some o/\H b=none:=by
 have e':h.get? b=some o:=PySem.W.of_hideAll (trk h H) e
 refine ⟨e',?_⟩
 cases q:H b with
 | none=>rfl
 | some x =>
  have hm:b∈trk h H:=List.mem_filter.mpr ⟨List.mem_range.mpr (QAi e'),by simp [q]⟩
  have z:(Zd6 h H).get? b=none:=PySem.W.hideAll_none (trk h H) hm
  rw [z] at e; cases e
end L2
namespace L2
open PySem PySem.Spec PyProof.Rows
structure Mod (K:PySem.W.Frag) (mg:Str->Option Value) (base:Heap):Prop where
 kin:K.In base
 glob:base.Ns mainGlobals mg
 blt:∃ mb,base.Ns builtinsNs mb/\∀ x:Str,x ≠ "__name__" -> mb x=bootBuiltins x
 nolimit:base.NoLimit
structure Cx where
 prog:Program
 w:World
 K:PySem.W.Frag
 mg:Str->Option Value
 base:Heap
 A:Around
 N:List Str
 s₀:Shared
 H₀:Hp
 env:Env
 outer:List Env
 stack:List Env
 ex:List Addr
 fn:Str->Bool
 calm:Bool
 pn:List (Addr × Obj)
 xe:Value->Shared->Prop
noncomputable def frs (l:List Env):List Addr:=l.filterMap (·.frame)
noncomputable abbrev Cx.fs (X:Cx):List Addr:=frs X.outer
noncomputable def Vis (sc:Scope) (x:Str):Prop:=sc.names.lookup x=some .local\/sc.names.lookup x=some .cell\/sc.names.lookup x=some .free
noncomputable def Loc (sc:Scope) (x:Str):Prop:=sc.names.lookup x=some .local\/sc.names.lookup x=some .cell
noncomputable def Zmk (env:Env) (h:Heap) (m:Str->Option Value) (x:Str) (u:Value):Prop :=
 (env.kindOf x=some .local/\m x=some u)\/((env.kindOf x=some .cell\/env.kindOf x=some .free)/\∃ c,env.cells.lookup x=some c/\h.IsCell c (some u))
structure Cx.Ok (X:Cx):Prop where
 mod:Mod X.K X.mg X.base
 kind:X.env.scope.kind = .function
 glob:X.env.globals=mainGlobals
 blt:X.env.builtins=builtinsNs
 above:X.s₀.heap.objs.size<=X.env.locals
 inj:∀ x y c,X.env.cells.lookup x=some c->X.env.cells.lookup y=some c->x=y
 has:∀ x,(X.env.kindOf x=some .cell\/X.env.kindOf x=some .free)->∃ c,X.env.cells.lookup x=some c
 cab:∀ x c,X.fn x=true->X.env.cells.lookup x=some c->X.s₀.heap.objs.size<=c
 hd:X.calm=true->X.A.handled=none
 frames:X.A.frames=some X.stack
 stk:X.stack=X.outer\/(X.stack=X.env::X.outer/\X.env.frame=some X.env.locals)
 exf:∀ b∈X.ex,b≠X.env.locals/\∀ x c,X.env.cells.lookup x=some c->c≠b
 bs:∀ b o,X.base.get? b=some o->X.s₀.heap.get? b=some o/\X.H₀ b=none
 bsz:X.base.objs.size<=X.s₀.heap.objs.size
 noex:∀ b o,X.base.get? b=some o->b∉X.ex
 exfs:∀ b∈X.ex,b∉X.fs
 funs:X.s₀.heap.FunFrames X.base X.outer
 frf:∀ b∈X.fs,X.H₀ b=none
structure Inv (X:Cx) (pins:List (Addr × Obj)) (σ:List (Option V)) (H:Hp) (s:Shared):Prop where
 ok:X.Ok
 os:s.os=X.s₀.os
 bare:AllBare s.gens
 base:Un X.fs X.ex X.H₀ H X.s₀.heap s.heap
 loc:∃ m,s.heap.Ns X.env.locals m/\∀ (i:Nat) (x:Str) (v:V),X.N[i]? = some x->σ[i]? = some (some v)->Vis X.env.scope x->∃ u,RelV v u/\Zmk X.env s.heap m x u
 cell:∀ x c,X.env.cells.lookup x=some c->∃ v,s.heap.IsCell c v
 free:H X.env.locals=none
 freeC:∀ x c,X.env.cells.lookup x=some c->H c=none
 pin:∀ p∈X.pn++pins,s.heap.get? p.1=some p.2/\H p.1=none/\p.1≠X.env.locals/\p.1∉X.fs/\∀ v,p.2.data ≠ .cell v
 hok:HOk X.prog X.w H s.heap
 len:σ.length=X.N.length
section
variable {X:Cx} {pins:List (Addr × Obj)} {σ:List (Option V)} {H H':Hp} {s:Shared} {h':Heap}
theorem Cx.Ok.nofr (ok:X.Ok) {b:Addr} {o:Obj} (e:X.base.get? b=some o):b∉X.fs:=fun hb=>by
 have:=(ok.funs.mem hb).1
 rw [e] at this; cases this
theorem Inv.bs (I:Inv X pins σ H s):∀ b o,X.base.get? b=some o->s.heap.get? b=some o/\H b=none:=fun b o e =>
 ⟨I.base.keep b o (I.ok.bs b o e).1 (I.ok.bs b o e).2 (I.ok.nofr e) (I.ok.noex b o e),I.base.free b o (I.ok.bs b o e).1 (I.ok.bs b o e).2 (I.ok.noex b o e)⟩
theorem Inv.bk (I:Inv X pins σ H s):∀ b o,X.base.get? b=some o->s.heap.get? b=some o:=fun b o e=>(I.bs b o e).1
theorem Inv.mod (I:Inv X pins σ H s):Mod X.K X.mg X.base:=I.ok.mod
theorem Inv.kIn (I:Inv X pins σ H s):X.K.In s.heap:=I.ok.mod.kin.keeps I.bk
theorem Inv.lt (I:Inv X pins σ H s):X.env.locals<s.heap.objs.size:=let ⟨_,hn,_⟩:=I.loc; hn.lt
theorem Inv.sz (I:Inv X pins σ H s):X.s₀.heap.objs.size<=s.heap.objs.size:=QAq I.ok.above (QBw I.lt)
theorem Inv.nofs (I:Inv X pins σ H s) {a:Addr} (h:s.heap.objs.size<=a):a∉X.fs:=fun hb=>by
 obtain ⟨_,o,ho,_⟩:=I.ok.funs.mem hb
 exact absurd (QAz (QAi ho) (QAq I.sz h)) (QCb _)
theorem Inv.cne (I:Inv X pins σ H s):∀ x c,X.env.cells.lookup x=some c->c≠X.env.locals:=fun x c e z=>by
 obtain ⟨v,o,ho,hd⟩:=I.cell x c e
 obtain ⟨m,⟨o',es,ep,ho',hd',_⟩,_⟩:=I.loc
 rw [z,ho'] at ho; cases ho; rw [hd'] at hd; cases hd
theorem Inv.funs (I:Inv X pins σ H s):s.heap.FunFrames X.base X.outer:=by
 have all:∀ (l:List Env),(∀ b∈frs l,b∈X.fs)->X.s₀.heap.FunFrames X.base l->s.heap.FunFrames X.base l:=by
  intro l
  induction l with
  | nil=>intro _ _; trivial
  | cons env r ih =>
   intro hs hl
   obtain ⟨hk,⟨L,o,hf,hn,ho,hd⟩,hr⟩:=hl
   have hL:L∈X.fs:=hs L (by unfold frs; rw [QDl,hf]; exact QAj)
   obtain ⟨sl,e⟩:=I.base.slot L o ho (I.ok.frf L hL) hL fun z=>I.ok.exfs L z hL
   exact ⟨hk,⟨L,_,hf,hn,e,hd⟩,ih (fun b hb=>hs b (by unfold frs; rw [QDl,hf]; exact QAo _ hb)) hr⟩
 exact all X.outer (fun _ hb=>hb) I.ok.funs
theorem Inv.stack (I:Inv X pins σ H s):s.heap.FunFrames X.base X.stack:=by
 rcases I.ok.stk with e | ⟨e,hf⟩
 ·rw [e]; exact I.funs
 ·rw [e]
  obtain ⟨m,hn,_⟩:=I.loc
  refine .cons (by rw [I.ok.kind]; decide) hf hn ?_ I.funs
  exact Heap.get?_none_of_le (QAq I.ok.bsz I.ok.above)
theorem Inv.stkSub (I:Inv X pins σ H s):∀ b∈frs X.stack,b∈X.env.locals::X.fs:=fun b hb=>by
 rcases I.ok.stk with e | ⟨e,hf⟩
 ·rw [e] at hb; exact QAo _ hb
 ·rw [e] at hb
  unfold frs at hb
  rw [QDl,hf] at hb
  exact hb
theorem Inv.stkFree (I:Inv X pins σ H s):∀ b∈frs X.stack,H b=none:=fun b hb=>by
 rcases List.mem_cons.mp (I.stkSub b hb) with e | hb
 ·rw [e]; exact I.free
 ·obtain ⟨_,o,ho,_⟩:=I.ok.funs.mem hb
  exact I.base.free b o ho (I.ok.frf b hb) fun z=>I.ok.exfs b z hb
theorem Inv.step {g':Array GenState} {t':Nat} {d':Drawn} {ch:List Addr} (I:Inv X pins σ H s)
  (hch:∀ b∈ch,(b∈X.ex\/X.s₀.heap.objs.size<=b)/\b≠X.env.locals/\(∀ x c,X.env.cells.lookup x=some c->c≠b)/\∀ p∈X.pn++pins,p.1≠b)
  (keep:∀ b o,b≠X.env.locals->b∉X.fs->b∉ch->s.heap.get? b=some o->H b=none->h'.get? b=some o)
  (slot:∀ b o,b≠X.env.locals->b∈X.fs->b∉ch->s.heap.get? b=some o->H b=none->∃ sl,h'.get? b=some { o with slots:=sl }) (free:∀ b o,b∉ch->s.heap.get? b=some o->H b=none->H' b=none)
  (there:∀ b o,b∉ch->s.heap.get? b=some o->∃ o',h'.get? b=some o')
  (tups:∀ b xs,H b=some (.tup xs)->H' b=some (.tup xs)) (frzs:∀ b o u,H b=some (.frz o u)->H' b=some (.frz o u)) (tbls:∀ b ps,H b=some (.tbl ps)->∃ more,H' b=some (.tbl (ps++more)))
  (ns:∀ m,s.heap.Ns X.env.locals m->h'.Ns X.env.locals m) (hok:HOk X.prog X.w H' h') (hg:AllBare g') :
  Inv X pins σ H' { s with heap:=h',gens:=g',drawn:=d',toks:=t' }:=by
 have neL:∀ b o,X.s₀.heap.get? b=some o->b≠X.env.locals:=fun b o e=>QBa (QAz (QAi e) I.ok.above)
 have neC:∀ b o,X.s₀.heap.get? b=some o->b∉X.ex->b∉ch:=fun b o e hx hb=>by
  rcases (hch b hb).1 with z | z
  ·exact hx z
  ·exact absurd (QAz (QAi e) z) (QCb _)
 have cellK:∀ x c,X.env.cells.lookup x=some c->∀ v,s.heap.IsCell c v->h'.IsCell c v:=fun x c e v ⟨o,ho,hd⟩=>by
  have nch:c∉ch:=fun z=>(hch c z).2.2.1 x c e rfl
  by_cases hc:c∈X.fs
  ·obtain ⟨sl,q⟩:=slot c o (I.cne x c e) hc nch ho (I.freeC x c e)
   exact ⟨_,q,hd⟩
  ·exact ⟨o,keep c o (I.cne x c e) hc nch ho (I.freeC x c e),hd⟩
 refine ⟨I.ok,I.os,hg,⟨fun b o e n hb hx=>?_,fun b o e n hb hx=>?_,fun b o e n hx=>?_,fun b o e hx=>?_,fun b xs e=>tups b xs (I.base.tups b xs e),fun b o xs e=>frzs b o xs (I.base.frzs b o xs e),fun b ps e=>?_⟩,?_,fun x c e=>?_,?_,fun x c e=>?_,fun p hp=>?_,hok,I.len⟩
 ·exact keep b o (neL b o e) hb (neC b o e hx) (I.base.keep b o e n hb hx) (I.base.free b o e n hx)
 ·obtain ⟨sl,e1⟩:=I.base.slot b o e n hb hx
  obtain ⟨sl',e2⟩:=slot b _ (neL b o e) hb (neC b o e hx) e1 (I.base.free b o e n hx)
  exact ⟨sl',e2⟩
 ·obtain ⟨o',e1⟩:=I.base.there b o e hx
  exact free b o' (neC b o e hx) e1 (I.base.free b o e n hx)
 ·obtain ⟨o',e1⟩:=I.base.there b o e hx
  exact there b o' (neC b o e hx) e1
 ·obtain ⟨m1,e1⟩:=I.base.tbls b ps e
  obtain ⟨m2,e2⟩:=tbls b _ e1
  exact ⟨m1++m2,by rw [e2,Array.append_assoc]⟩
 ·obtain ⟨m,hn,hl⟩:=I.loc
  refine ⟨m,ns m hn,fun i x v e1 e2 e3=>?_⟩
  obtain ⟨u,r,l⟩:=hl i x v e1 e2 e3
  refine ⟨u,r,?_⟩
  rcases l with l | ⟨k,c,e,z⟩
  ·exact .inl l
  ·exact .inr ⟨k,c,e,cellK x c e _ z⟩
 ·obtain ⟨v,z⟩:=I.cell x c e
  exact ⟨v,cellK x c e v z⟩
 ·obtain ⟨m,⟨o,_,_,ho,_⟩,_⟩:=I.loc
  exact free _ o (fun z=>(hch _ z).2.1 rfl) ho I.free
 ·obtain ⟨v,o,ho,hd⟩:=I.cell x c e
  exact free c o (fun z=>(hch c z).2.2.1 x c e rfl) ho (I.freeC x c e)
 ·obtain ⟨e,n,ne,nf,d⟩:=I.pin p hp
  have nch:p.1∉ch:=fun z=>(hch p.1 z).2.2.2 p hp rfl
  exact ⟨keep p.1 p.2 ne nf nch e n,free p.1 p.2 nch e n,ne,nf,d⟩
theorem Inv.un {t':Nat} (I:Inv X pins σ H s) (u:Un X.fs [] H H' s.heap h') (hok:HOk X.prog X.w H' h'):Inv X pins σ H' { s with heap:=h',toks:=t' }:=by
 obtain ⟨m,⟨o,es,ep,ho,r⟩,_⟩:=id I.loc
 obtain ⟨sl,hL⟩:=u.any ho I.free (by simp)
 exact I.step (g':=s.gens) (d':=s.drawn) (ch:=[]) (fun _ z=>nomatch z) (fun b o _ hb _ e n=>u.keep b o e n hb (by simp)) (fun b o _ hb _ e n=>u.slot b o e n hb (by simp)) (fun b o _ e n=>u.free b o e n (by simp)) (fun b o _ e=>u.there b o e (by simp)) u.tups u.frzs u.tbls (fun m' hm=>by
  obtain ⟨o',es',ep',ho',r'⟩:=hm
  rw [ho] at ho'; cases ho'
  exact ⟨_,es',ep',hL,r'⟩) hok I.bare
theorem Inv.call {g':Array GenState} {t':Nat} {d':Drawn} {ch:List Addr} (I:Inv X pins σ H s) (u:Un (frs X.stack) ch H H' s.heap h') (hok:HOk X.prog X.w H' h') (hg:AllBare g')
  (hch:∀ b∈ch,(b∈X.ex\/X.s₀.heap.objs.size<=b)/\b≠X.env.locals/\(∀ x c,X.env.cells.lookup x=some c->c≠b)/\∀ p∈X.pn++pins,p.1≠b) :
  Inv X pins σ H' { s with heap:=h',gens:=g',drawn:=d',toks:=t' }:=by
 obtain ⟨m,⟨o,es,ep,ho,r⟩,_⟩:=id I.loc
 obtain ⟨sl,hL⟩:=u.any ho I.free fun z=>(hch _ z).2.1 rfl
 exact I.step (ch:=ch) hch (fun b o hL hb hc e n=>u.keep b o e n (fun z=>(List.mem_cons.mp (I.stkSub b z)).elim hL hb) hc) (fun b o _ _ hc e n=>u.any e n hc) (fun b o hc e n=>u.free b o e n hc) (fun b o hc e=>u.there b o e hc) u.tups u.frzs u.tbls (fun m' hm=>by
  obtain ⟨o',es',ep',ho',r'⟩:=hm
  rw [ho] at ho'; cases ho'
  exact ⟨_,es',ep',hL,r'⟩) hok hg
theorem Inv.turned {t':Nat} {it:Addr} (I:Inv X pins σ H s) (k:∀ b o,b≠it->s.heap.get? b=some o->h'.get? b=some o) (hn:H it=none) (hL:it≠X.env.locals)
  (h1:it∈X.ex\/X.s₀.heap.objs.size<=it) (h2:∀ x c,X.env.cells.lookup x=some c->c≠it) (h3:∀ p∈X.pn++pins,p.1≠it):Inv X pins σ H { s with heap:=h',toks:=t' }:=by
 have nit:∀ b u,H b=some u->b≠it:=fun b u e z=>by rw [z,hn] at e; cases e
 refine I.step (g':=s.gens) (d':=s.drawn) (ch:=[it]) (fun b hb=>?_) (fun b o _ _ hc e _=>k b o (fun z=>hc (by simp [z])) e) (fun b o _ _ hc e _=>⟨o.slots,k b o (fun z=>hc (by simp [z])) e⟩) (fun _ _ _ _ n=>n)
  (fun b o hc e=>⟨o,k b o (fun z=>hc (by simp [z])) e⟩) (fun _ _ e=>e) (fun _ _ _ e=>e) (fun b ps e=>⟨#[],by rw [e]; simp⟩) (fun m hm=>?_) (fun b u e=>?_) I.bare
 ·have e:b=it:=by simpa using hb
  subst e
  exact ⟨h1,hL,h2,h3⟩
 ·obtain ⟨o,es,ep,ho,r⟩:=hm
  exact ⟨o,es,ep,k _ o (Ne.symm hL) ho,r⟩
 ·refine (I.hok b u e).stay (fun c v hc q=>k c v ?_ q) (fun _ q=>q) fun _ _ q=>q
  rcases hc with z | z
  ·rw [z]; exact nit b u e
  ·exact nit c _ z
theorem Inv.tok (I:Inv X pins σ H s) (t:Nat):Inv X pins σ H { s with toks:=t }:=I.un (h':=s.heap) (t':=t) Un.refl I.hok
theorem Inv.kept {t':Nat} (I:Inv X pins σ H s) (k:∀ b u,s.heap.get? b=some u->h'.get? b=some u):Inv X pins σ H { s with heap:=h',toks:=t' }:=I.un (Un.kept k) (I.hok.kept k)
theorem Inv.laid {a:Addr} {o:HO} {t':Nat} (I:Inv X pins σ H s) (k:∀ b u,s.heap.get? b=some u->h'.get? b=some u) (hp:s.heap.objs.size<=a) (new:ObjOk X.prog X.w (upd H a o) h' a o) :
  Inv X pins σ (upd H a o) { s with heap:=h',toks:=t' }:=I.un (Un.laid k hp (I.hok.fresh hp)) (I.hok.laid k hp new)
theorem Inv.write {x e:Addr} {o:HO} {t':Nat} (I:Inv X pins σ H s) (mu:Mut (H x)) (he:e=x\/H e=some (.own x)) (k:∀ b u,b≠e->s.heap.get? b=some u->h'.get? b=some u) (heo:∃ u,h'.get? e=some u)
  (new:ObjOk X.prog X.w (upd H x o) h' x o):Inv X pins σ (upd H x o) { s with heap:=h',toks:=t' }:=I.un (Un.write mu he k heo) (I.hok.write mu he k heo new)
theorem Inv.pins_of {pins':List (Addr × Obj)} (I:Inv X pins σ H s) (h:∀ p∈pins',s.heap.get? p.1=some p.2/\H p.1=none/\p.1≠X.env.locals/\p.1∉X.fs/\∀ v,p.2.data ≠ .cell v):Inv X pins' σ H s :=
 ⟨I.ok,I.os,I.bare,I.base,I.loc,I.cell,I.free,I.freeC,fun p hp=>(List.mem_append.mp hp).elim (fun z=>I.pin p (QBf _ z)) (h p),I.hok,I.len⟩
theorem ZeF {N:List Str} (hN:N.Nodup) {i j:Nat} {x:Str} (a:N[i]? = some x) (b:N[j]? = some x):i=j:=by
 obtain ⟨h1,e1⟩:=List.getElem?_eq_some_iff.mp a
 obtain ⟨h2,e2⟩:=List.getElem?_eq_some_iff.mp b
 exact (List.getElem_inj hN).mp (e1.trans e2.symm)
theorem ZcZ {M:Model} {A:Around} {E:Value->Shared->Prop} {i:Nat} {x:Str} {v:V} {u:Value} {Q:Unit->Shared->Prop} (I:Inv X pins σ H s) (hN:X.N.Nodup) (hi:X.N[i]? = some x) (hx:Loc X.env.scope x) (r:RelV v u)
  (h:∀ s',Inv X pins (σ.set i (some v)) H s'->(∃ a,Heap.SameBut a s.heap s'.heap/\(a=X.env.locals\/X.env.cells.lookup x=some a))->Q () s') (hf:X.fn x=true\/X.env.scope.names.lookup x=some .local:=by first | exact .inl rfl | exact .inr rfl | assumption):wpAny M A (storeName X.env x u) Q E s:=by
 obtain ⟨m,hn,hl⟩:=id I.loc
 have hcls:(X.env.scope.kind == .class||(X.env.scope.kind == .module&&X.env.locals != X.env.globals))=false:=by rw [I.ok.kind]; rfl
 have hiσ:i<σ.length:=by rw [I.len]; exact (List.getElem?_eq_some_iff.mp hi).1
 have cne:=I.cne
 have tracked:∀ {a:Addr} {h':Heap},(∃ o,s.heap.get? a=some o/\H a=none)->Heap.SameBut a s.heap h'->HOk X.prog X.w H h':=fun {a h'} ha hs b ob e=>by
  obtain ⟨_,_,hfree⟩:=ha
  refine (I.hok b ob e).stay (fun c w' hc q=>(hs.2 c ?_).trans q) (fun _ q=>q) fun _ _ q=>q
  rintro rfl
  rcases hc with rfl | hc
  ·rw [hfree] at e; cases e
  ·rw [hfree] at hc; cases hc
 rcases hx with hk | hk
 ·refine wpAny_storeName_local hk hn (fun h' hn' hs=>?_) hcls
  obtain ⟨oL,_,_,hoL,_⟩:=id hn
  refine h _ ⟨I.ok,I.os,I.bare,⟨fun b o e n hb hx=>?_,fun b o e n hb hx=>?_,I.base.free,fun b o e hx=>?_,I.base.tups,I.base.frzs,I.base.tbls⟩,⟨_,hn',fun j y v' e1 e2 e3=>?_⟩,fun y c e=>?_,I.free,I.freeC,fun p hp=>?_,tracked ⟨oL,hoL,I.free⟩ hs,by simpa using I.len⟩ ⟨_,hs,.inl rfl⟩
  ·exact (hs.2 b (QBa (QAz (QAi e) I.ok.above))).trans (I.base.keep b o e n hb hx)
  ·obtain ⟨sl,e1⟩:=I.base.slot b o e n hb hx
   exact ⟨sl,(hs.2 b (QBa (QAz (QAi e) I.ok.above))).trans e1⟩
  ·obtain ⟨o',e1⟩:=I.base.there b o e hx
   exact ⟨o',(hs.2 b (QBa (QAz (QAi e) I.ok.above))).trans e1⟩
  ·by_cases hj:j=i
   ·subst hj
    rw [hi] at e1; cases e1
    rw [List.getElem?_set_self hiσ] at e2
    cases e2
    exact ⟨u,r,.inl ⟨hk,by simp⟩⟩
   ·rw [List.getElem?_set_ne (Ne.symm hj)] at e2
    obtain ⟨u',r',q⟩:=hl j y v' e1 e2 e3
    refine ⟨u',r',?_⟩
    rcases q with ⟨k,e⟩ | ⟨k,c,e,z⟩
    ·refine .inl ⟨k,?_⟩
     have:y≠x:=fun e=>hj (ZeF hN e1 (e ▸ hi))
     simp [this,e]
    ·exact .inr ⟨k,c,e,z.sameBut hs (cne y c e)⟩
  ·obtain ⟨w',z⟩:=I.cell y c e
   exact ⟨w',z.sameBut hs (cne y c e)⟩
  ·obtain ⟨e,n,ne,nf,d⟩:=I.pin p hp
   exact ⟨(hs.2 p.1 ne).trans e,n,ne,nf,d⟩
 ·have hfn:X.fn x=true:=by
   rcases hf with z | z
   ·exact z
   ·rw [z] at hk; cases hk
  obtain ⟨c,hc⟩:=I.ok.has x (.inl hk)
  obtain ⟨w',z⟩:=I.cell x c hc
  refine wpAny_storeName_cell I.ok.kind hk hc z (fun h' hc' hs=>?_)
  obtain ⟨oc,hoc,hocd⟩:=id z
  refine h { s with heap:=h' } ⟨I.ok,I.os,I.bare,⟨fun b o e n hb hx=>?_,fun b o e n hb hx=>?_,I.base.free,fun b o e hx=>?_,I.base.tups,I.base.frzs,I.base.tbls⟩,⟨m,hn.sameBut hs (Ne.symm (cne x c hc)),fun j y v' e1 e2 e3=>?_⟩,fun y c' e=>?_,I.free,I.freeC,fun p hp=>?_,tracked ⟨oc,hoc,I.freeC x c hc⟩ hs,by simpa using I.len⟩ ⟨c,hs,.inr hc⟩
  ·exact (hs.2 b (QBa (QAz (QAi e) (I.ok.cab x c hfn hc)))).trans (I.base.keep b o e n hb hx)
  ·obtain ⟨sl,e1⟩:=I.base.slot b o e n hb hx
   exact ⟨sl,(hs.2 b (QBa (QAz (QAi e) (I.ok.cab x c hfn hc)))).trans e1⟩
  ·obtain ⟨o',e1⟩:=I.base.there b o e hx
   exact ⟨o',(hs.2 b (QBa (QAz (QAi e) (I.ok.cab x c hfn hc)))).trans e1⟩
  ·by_cases hj:j=i
   ·subst hj
    rw [hi] at e1; cases e1
    rw [List.getElem?_set_self hiσ] at e2
    cases e2
    exact ⟨u,r,.inr ⟨.inl hk,c,hc,hc'⟩⟩
   ·rw [List.getElem?_set_ne (Ne.symm hj)] at e2
    obtain ⟨u',r',q⟩:=hl j y v' e1 e2 e3
    refine ⟨u',r',?_⟩
    rcases q with q | ⟨k,c',e,z'⟩
    ·exact .inl q
    ·refine .inr ⟨k,c',e,z'.sameBut hs ?_⟩
     rintro rfl
     exact hj (ZeF hN e1 (I.ok.inj _ _ _ e hc ▸ hi))
  ·by_cases hcc:c'=c
   ·subst hcc; exact ⟨_,hc'⟩
   ·obtain ⟨w2,z2⟩:=I.cell y c' e
    exact ⟨w2,z2.sameBut hs hcc⟩
  ·obtain ⟨e,n,ne,nf,d⟩:=I.pin p hp
   refine ⟨(hs.2 p.1 ?_).trans e,n,ne,nf,d⟩
   intro q
   rw [q,hoc] at e
   have q':oc=p.2:=Option.some.inj e
   exact d w' (by rw [<- q']; exact hocd)
theorem Zek {M:Model} {A:Around} {E:Value->Shared->Prop} {i:Nat} {x:Str} {v:V} {u:Value} {Q:Unit->Shared->Prop} (I:Inv X pins σ H s) (hN:X.N.Nodup) (hi:X.N[i]? = some x) (hx:Loc X.env.scope x) (r:RelV v u)
  (h:∀ s',Inv X pins (σ.set i (some v)) H s'->Q () s') (hf:X.fn x=true\/X.env.scope.names.lookup x=some .local:=by first | exact .inl rfl | exact .inr rfl | assumption):wpAny M A (storeName X.env x u) Q E s :=
 ZcZ I hN hi hx r (fun s' I' _=>h s' I') hf
theorem Inv.call' {s':Shared} {ch:List Addr} (I:Inv X pins σ H s) (ho:s'.os=s.os) (u:Un (frs X.stack) ch H H' s.heap s'.heap) (hok:HOk X.prog X.w H' s'.heap) (hg:AllBare s'.gens)
  (hch:∀ b∈ch,(b∈X.ex\/X.s₀.heap.objs.size<=b)/\b≠X.env.locals/\(∀ x c,X.env.cells.lookup x=some c->c≠b)/\∀ p∈X.pn++pins,p.1≠b):Inv X pins σ H' s':=by
 obtain ⟨h',g',d',t',o'⟩:=s'
 have e:o'=s.os:=ho
 subst e
 exact I.call (g':=g') (t':=t') (d':=d') u hok hg hch
end
noncomputable abbrev XK:=Value->Option Addr->Hp->Prop
noncomputable abbrev St:=List (Option V)
noncomputable abbrev VK:=V->Hp->Prop
noncomputable abbrev TE:=St->Hp->VK->Prop
noncomputable abbrev TT:=St->Hp->(Bool->Hp->Prop)->Prop
noncomputable abbrev TA:=St->Hp->(List V->Hp->Prop)->Prop
structure Zef where
 nx:St->Hp->Prop
 rt:VK
 bk:St->Hp->Prop:=fun _ _=>False
 ct:St->Hp->Prop:=fun _ _=>False
noncomputable abbrev TS:=Zef->St->Hp->Prop
noncomputable def EP (X:Cx) (pins:List (Addr × Obj)) (σ:St) (Q:VK) (u:Value) (s':Shared):Prop:=∃ v H',Inv X pins σ H' s'/\RelV v u/\Q v H'
noncomputable def TP (X:Cx) (pins:List (Addr × Obj)) (σ:St) (Q:Bool->Hp->Prop) (b:Bool) (s':Shared):Prop:=∃ H',Inv X pins σ H' s'/\Q b H'
noncomputable def AP (X:Cx) (pins:List (Addr × Obj)) (σ:St) (Q:List V->Hp->Prop) (us:List Value) (s':Shared):Prop:=∃ vs H',Inv X pins σ H' s'/\Vals vs us/\Q vs H'
noncomputable def SP (X:Cx) (pins:List (Addr × Obj)) (D:Zef) (f:Flow) (s':Shared):Prop :=
 match f with
 | .next=>∃ σ' H',Inv X pins σ' H' s'/\D.nx σ' H'
 | .brk=>∃ σ' H',Inv X pins σ' H' s'/\D.bk σ' H'
 | .cont=>∃ σ' H',Inv X pins σ' H' s'/\D.ct σ' H'
 | .ret u=>∃ v σ' H',Inv X pins σ' H' s'/\RelV v u/\D.rt v H'
noncomputable def PE (X:Cx) (e:Expr) (t:TE):Prop :=
 ∀ (pins:List (Addr × Obj)) (s:Shared) (σ:St) (H:Hp) (Q:VK),Inv X pins σ H s->t σ H Q->wpAny (model X.prog X.w) X.A (eval e X.env) (EP X pins σ Q) X.xe s
noncomputable def PT (X:Cx) (e:Expr) (t:TT):Prop :=
 ∀ (pins:List (Addr × Obj)) (s:Shared) (σ:St) (H:Hp) (Q:Bool->Hp->Prop),Inv X pins σ H s->t σ H Q->wpAny (model X.prog X.w) X.A (isTrue e X.env (eval e X.env)) (TP X pins σ Q) X.xe s
noncomputable def PW (X:Cx) (e:Expr) (t:TT):Prop :=
 ∀ (whole:Sem Value) (pins:List (Addr × Obj)) (s:Shared) (σ:St) (H:Hp) (Q:Bool->Hp->Prop),Inv X pins σ H s->t σ H Q->wpAny (model X.prog X.w) X.A (isTrue e X.env whole) (TP X pins σ Q) X.xe s
theorem PW.pt {X:Cx} {e:Expr} {t:TT} (h:PW X e t):PT X e t:=h _
noncomputable def PA (X:Cx) (es:List Expr) (t:TA):Prop :=
 ∀ (pos:Pos) (pins:List (Addr × Obj)) (s:Shared) (σ:St) (H:Hp) (Q:List V->Hp->Prop),Inv X pins σ H s->t σ H Q->wpAny (model X.prog X.w) X.A (spliced (backTo pos (starEach es X.env))) (AP X pins σ Q) X.xe s
noncomputable def PS (X:Cx) (st:Stmt) (t:TS):Prop :=
 ∀ (pins:List (Addr × Obj)) (s:Shared) (σ:St) (H:Hp) (D:Zef),Inv X pins σ H s->t D σ H->wpAny (model X.prog X.w) X.A (exec st X.env) (SP X pins D) X.xe s
noncomputable def PSs (X:Cx) (st:List Stmt) (t:TS):Prop :=
 ∀ (pins:List (Addr × Obj)) (s:Shared) (σ:St) (H:Hp) (D:Zef),Inv X pins σ H s->t D σ H->wpAny (model X.prog X.w) X.A (execs st X.env) (SP X pins D) X.xe s
theorem thn {α:Type} {t:Sem α} {Q Q':α->Shared->Prop} {M:Model} {A:Around} {E:Value->Shared->Prop} {s:Shared} (h:wpAny M A t Q E s) (hQ:∀ a s,Q a s->Q' a s):wpAny M A t Q' E s:=wpAny_mono h hQ fun _ _ x=>x
end L2
namespace L2
open PySem PySem.Spec PyProof.Rows
section
variable {X:Cx}
inductive Zj9 (i:Nat) (σ:St) (H:Hp) (Q:VK):Prop where
 | mk (v:V) (_:σ[i]? = some (some v)) (_:Q v H):Zj9 i σ H Q
noncomputable def Zld (i:Nat):TE:=fun σ H Q=>Zj9 i σ H Q
noncomputable def tC (v:V):TE:=fun _ H Q=>Q v H
theorem Zky {i:Nat} {x:Str} {pos:Pos} (hN:X.N[i]? = some x) (hv:Vis X.env.scope x) (hd:(x==("__debug__" : Str))=false:=by decide) (hcd:(x==("__classdict__" : Str))=false:=by decide):PE X (.Name x pos) (Zld i):=by
 intro pins s σ H Q I h
 obtain ⟨v,e,h⟩:=h
 obtain ⟨m,hn,hl⟩:=I.loc
 obtain ⟨u,r,l⟩:=hl i x v hN e hv
 have fin:EP X pins σ Q u s:=⟨v,H,I,r,h⟩
 rcases l with ⟨hk,hm⟩ | ⟨hk,c,hc,hcell⟩
 ·exact wpAny_Name (wpAny_loadName_local I.ok.kind hk hn hm fin) hd
 ·rcases hk with hk | hk
  ·exact wpAny_Name (wpAny_loadName_cell I.ok.kind hk hc hcell fin) hd
  ·exact wpAny_Name (wpAny_loadName_free I.ok.kind hk hc hcell fin hcd) hd
theorem Zi {i j pos}:PE X (.Constant (.int i) j pos) (tC (.int i)):=fun _ _ _ H _ I h=>wpAny_Constant_int ⟨.int i,H,I.tok _,⟨_,rfl⟩,h⟩
theorem Zlx {b j pos}:PE X (.Constant (.bool b) j pos) (tC (.bl b)):=fun _ _ _ H _ I h=>Constant_bool ⟨.bl b,H,I,rfl,h⟩
theorem Zb8 {j pos}:PE X (.Constant .none j pos) (tC .non):=fun _ _ _ H _ I h=>Constant_none ⟨.non,H,I,rfl,h⟩
noncomputable def Gl (X:Cx) (x:Str):Prop:=X.env.kindOf x=some .globalImplicit
theorem ZjD {E:Value->Shared->Prop} {pins:List (Addr × Obj)} {s:Shared} {σ:St} {H:Hp} {x:Str} {u:Value} {pos:Pos} {Q:Value->Shared->Prop} (I:Inv X pins σ H s) (hg:Gl X x) (hm:X.mg x=some u) (h:Q u s)
  (hd:(x==("__debug__" : Str))=false:=by decide):wpAny (model X.prog X.w) X.A (eval (.Name x pos) X.env) Q E s :=
 Calls.Name_function_global I.ok.kind hg (Calls.loadGlobal_global (by rw [I.ok.glob]; exact I.mod.glob.keeps I.bk) hm h) hd
theorem Zcn {E:Value->Shared->Prop} {pins:List (Addr × Obj)} {s:Shared} {σ:St} {H:Hp} {x:Str} {u:Value} {pos:Pos} {Q:Value->Shared->Prop} (I:Inv X pins σ H s) (hg:Gl X x) (hm:X.mg x=none) (hv:bootBuiltins x=some u) (h:Q u s)
  (hn:x ≠ "__name__":=by decide) (hd:(x==("__debug__" : Str))=false:=by decide):wpAny (model X.prog X.w) X.A (eval (.Name x pos) X.env) Q E s:=by
 obtain ⟨mb,h1,h2⟩:=I.mod.blt
 exact Calls.Name_function_global I.ok.kind hg (Calls.loadGlobal_builtin (by rw [I.ok.glob]; exact I.mod.glob.keeps I.bk) hm (by rw [I.ok.blt]; exact h1.keeps I.bk) ((h2 x hn).trans hv) h) hd
variable {a b:Expr} {ta tb:TE} {pos:Pos}
noncomputable def PC (X:Cx) (op:CmpOp) (a b:Expr) (t:TE):Prop :=
 ∀ (pins:List (Addr × Obj)) (s:Shared) (σ:St) (H:Hp) (Q:VK),Inv X pins σ H s->t σ H Q ->
  wpAny (model X.prog X.w) X.A (eval a X.env) (fun v s₁=>wpAny (model X.prog X.w) X.A (eval b X.env) (fun u s₂=>wpAny (model X.prog X.w) X.A (compareOp op v u) (EP X pins σ Q) X.xe s₂) X.xe s₁) X.xe s
theorem Zig (b:Expr) {op:CmpOp} (h:op ≠ .In) (h2:op ≠ .NotIn):behindInMarks op b=false:=by
 have e1:(op==CmpOp.In)=false:=by cases op <;> first | rfl | exact absurd rfl h
 have e2:(op==CmpOp.NotIn)=false:=by cases op <;> first | rfl | exact absurd rfl h2
 cases b <;> simp [behindInMarks,e1,e2]
noncomputable def ZlZ (ta:TE):TE:=fun σ H Q=>ta σ H fun x H1=>Q (.bl (decide (x = .non))) H1
noncomputable def Zlg (ta:TE):TE:=fun σ H Q=>ta σ H fun x H1=>Q (.bl (!decide (x = .non))) H1
theorem RelV.none_iff {x:V} {v:Value} (r:RelV x v):(v==Value.none)=decide (x = .non):=by
 cases x with
 | non=>cases r; rfl
 | bl _=>cases r; rfl
 | int _=>obtain ⟨t,rfl⟩:=r; rfl
 | str _=>obtain ⟨t,rfl⟩:=r; rfl
 | byt _=>obtain ⟨t,rfl⟩:=r; rfl
 | flt _=>obtain ⟨t,rfl⟩:=r; rfl
 | ref _=>cases r; rfl
 | ty _=>cases r; rfl
theorem ZfX {j pos'} (ha:PE X a ta):PC X .Is a (.Constant .none j pos') (ZlZ ta):=by
 intro pins s σ H Q I h
 refine thn (ha pins s σ H _ I h) fun v s1 zz0=>?_
 obtain ⟨x,H1,I1,r1,q1⟩:=zz0
 exact Constant_none (is_none_gen ⟨.bl _,H1,I1,by rw [r1.none_iff]; rfl,q1⟩)
theorem ZgJ {j pos'} (ha:PE X a ta):PC X .IsNot a (.Constant .none j pos') (Zlg ta):=by
 intro pins s σ H Q I h
 refine thn (ha pins s σ H _ I h) fun v s1 zz0=>?_
 obtain ⟨x,H1,I1,r1,q1⟩:=zz0
 exact Constant_none (isnot_none_gen ⟨.bl _,H1,I1,by rw [r1.none_iff]; rfl,q1⟩)
inductive Zk9 (x:V) (Q:Bool->Hp->Prop) (H:Hp):Prop where
 | mk (c:Bool) (_:x = .bl c) (_:Q c H):Zk9 x Q H
noncomputable def tB (t:TE):TT:=fun σ H Q=>t σ H fun x H1=>Zk9 x Q H1
theorem Zb4 {op:CmpOp} {t:TE} (h:PC X op a b t) (h1:behindInMarks op b=false:=by first | exact Zig _ (by decide) (by decide) | rfl):PT X (.Compare a [op] [b] pos) (tB t):=by
 intro pins s σ H Q I hw
 refine wpAny_isTrue_Compare1 (thn (h pins s σ H _ I hw) fun v s1 h1=>thn h1 fun u s2 h2=>thn h2 fun c s3 zz0=>?_) h1
 obtain ⟨x,H1,I1,r1,q1⟩:=zz0
 obtain ⟨d,rfl,q⟩:=q1
 cases r1
 exact wpAny_truthy_bool ⟨H1,I1,q⟩
theorem Zkw {e:Expr} {t:TE} (h:PE X e t) (he:∀ whole,isTrue e X.env whole=(do let v <- whole; standAt e.pos; holding [v] (truthy v)):=by intro _; rfl):PT X e (tB t):=by
 intro pins s σ H Q I hw
 refine isTrue_plain (thn (h pins s σ H _ I hw) fun v s1 zz0=>?_) (he _)
 obtain ⟨x,H1,I1,r1,q1⟩:=zz0
 obtain ⟨d,rfl,q⟩:=q1
 cases r1
 exact wpAny_truthy_bool ⟨H1,I1,q⟩
variable {tA tB':TT} {rest:List Expr}
noncomputable def Zl3 (t u:TT):TT:=fun σ H Q=>t σ H fun c H1=>if c=true then u σ H1 Q else Q false H1
noncomputable def ZlW (t:TT):TT:=fun σ H Q=>t σ H fun c H1=>Q (!c) H1
theorem ZgH (ha:PT X a tA):PW X (.BoolOp .And [a] pos) tA:=by
 intro wh pins s σ H Q I h
 refine isTrue_and (thn (ha pins s σ H Q I h) fun c s1 e=>?_)
 cases c with
 | true=>exact isTrue_and_nil e
 | false=>exact e
theorem Zh1 (ha:PT X a tA) (hb:PW X (.BoolOp .And (b::rest) pos) tB'):PW X (.BoolOp .And (a::b::rest) pos) (Zl3 tA tB'):=by
 intro wh pins s σ H Q I h
 refine isTrue_and (thn (ha pins s σ H _ I h) fun c s1 zz0=>?_)
 obtain ⟨H1,I1,q1⟩:=zz0
 cases c with
 | true=>exact hb wh pins s1 σ H1 Q I1 q1
 | false=>exact ⟨H1,I1,q1⟩
theorem Zkx (ha:PT X a tA):PT X (.UnaryOp .Not a pos) (ZlW tA):=by
 intro pins s σ H Q I h
 exact isTrue_not (ha pins s σ H (fun c H1=>Q (!c) H1) I h)
noncomputable def tIf (t:TT) (ta tb:TE):TE:=fun σ H Q=>t σ H fun c H1=>if c=true then ta σ H1 Q else tb σ H1 Q
theorem ZeA {c:Expr} (hc:PT X c tA) (ha:PE X a ta) (hb:PE X b tb):PE X (.IfExp c a b pos) (tIf tA ta tb):=by
 intro pins s σ H Q I h
 refine wpAny_IfExp (thn (hc pins s σ H _ I h) fun d s1 zz0=>?_)
 obtain ⟨H1,I1,q1⟩:=zz0
 cases d with
 | true=>exact ha pins s1 σ H1 Q I1 q1
 | false=>exact hb pins s1 σ H1 Q I1 q1
end
end L2
namespace L2
open PySem PySem.Spec PyProof.Rows
noncomputable def SqL (K:PySem.W.Frag) (H:Hp) (a:Addr) (xs:List V):Prop :=
 Rd H a (.lst xs) \/
  ∃ (o:Obj) (its:Array Value) (n:Nat),K.lookup a=some o/\o.cls = .type "list" /\ o.dict=none/\o.data = .seq its n/\its.size<=sizeLine/\Vals xs its.toList
noncomputable def SqT (K:PySem.W.Frag) (H:Hp) (a:Addr) (xs:List V):Prop :=
 Rd H a (.tup xs) \/
  ∃ (o:Obj) (its:Array Value) (n:Nat),K.lookup a=some o/\o.cls = .type "tuple" /\ o.data = .seq its n/\its.size<=sizeLine/\Vals xs its.toList
noncomputable def Zmh:Value->Option V
 | .none=>some .non
 | .bool b=>some (.bl b)
 | .int i _=>some (.int i)
 | .str x _=>some (.str x)
 | .bytes b _=>some (.byt b)
 | .float b _=>some (.flt b)
 | .ref a=>some (.ref a)
 | .type n=>some (.ty n)
 | _=>none
theorem RelV.abs {x:V} {u:Value} (r:RelV x u):Zmh u=some x:=by
 cases x with
 | non=>cases r; rfl
 | bl _=>cases r; rfl
 | int _=>obtain ⟨t,rfl⟩:=r; rfl
 | str _=>obtain ⟨t,rfl⟩:=r; rfl
 | byt _=>obtain ⟨t,rfl⟩:=r; rfl
 | flt _=>obtain ⟨t,rfl⟩:=r; rfl
 | ref _=>cases r; rfl
 | ty _=>cases r; rfl
theorem RelV.inj {x y:V} {u:Value} (r:RelV x u) (q:RelV y u):x=y:=Option.some.inj (r.abs.symm.trans q.abs)
theorem Vals.inj:∀ {xs ys:List V} {us:List Value},Vals xs us->Vals ys us->xs=ys
 | _,_,_,.nil,.nil=>rfl
 | _,_,_,.cons r t,.cons r' t'=>by rw [r.inj r',Vals.inj t t']
section
variable {X:Cx} {pins:List (Addr × Obj)} {σ:St} {H:Hp} {s:Shared} {a:Addr} {xs ys:List V}
theorem SqL.of {K:PySem.W.Frag} (h:H a=some (.lst xs)):SqL K H a xs:=.inl (.inl h)
theorem SqT.of {K:PySem.W.Frag} (h:H a=some (.tup xs)):SqT K H a xs:=.inl (.inl h)
theorem Inv.list (I:Inv X pins σ H s) (h:SqL X.K H a xs):∃ its:List Value,Vals xs its/\PlainL s.heap a its.toArray/\xs.length<=sizeLine:=by
 rcases h with h | ⟨o,its,n,hk,hc,hd,hs,hz,r⟩
 ·obtain ⟨z,its,n,r,e⟩:=h.ok I.hok
  exact ⟨its,r,⟨_,n,e,rfl,rfl,rfl⟩,z⟩
 ·refine ⟨its.toList,r,⟨o,n,I.kIn a o hk,hc,hd,by simpa using hs⟩,?_⟩
  have e:=r.length
  simp only [QAv] at e
  exact Om.b4 ‹_› ‹_› rfl
theorem Inv.tuple (I:Inv X pins σ H s) (h:SqT X.K H a xs):∃ its:List Value,Vals xs its/\IsTup s.heap a its.toArray/\xs.length<=sizeLine:=by
 rcases h with h | ⟨o,its,n,hk,hc,hs,hz,r⟩
 ·obtain ⟨z,its,r,p⟩:=h.ok I.hok
  exact ⟨its,r,p.is,z⟩
 ·refine ⟨its.toList,r,⟨o,I.kIn a o hk,hc,n,by simpa using hs⟩,?_⟩
  have e:=r.length
  simp only [QAv] at e
  exact Om.b4 ‹_› ‹_› rfl
theorem Inv.list_inj (I:Inv X pins σ H s) (h:SqL X.K H a xs) (h':SqL X.K H a ys):xs=ys:=by
 obtain ⟨its,r,⟨o,n,e,_,_,d⟩,_⟩:=I.list h
 obtain ⟨its',r',⟨o',n',e',_,_,d'⟩,_⟩:=I.list h'
 rw [e] at e'; cases e'
 rw [d] at d'
 injection d' with d1 _
 have:its=its':=by simpa using congrArg Array.toList d1
 subst this
 exact r.inj r'
theorem Inv.tuple_inj (I:Inv X pins σ H s) (h:SqT X.K H a xs) (h':SqT X.K H a ys):xs=ys:=by
 obtain ⟨its,r,⟨o,e,_,n,d⟩,_⟩:=I.tuple h
 obtain ⟨its',r',⟨o',e',_,n',d'⟩,_⟩:=I.tuple h'
 rw [e] at e'; cases e'
 rw [d] at d'
 injection d' with d1 _
 have:its=its':=by simpa using congrArg Array.toList d1
 subst this
 exact r.inj r'
end
noncomputable abbrev Cx.wish (X:Cx) (E:Value->Shared->Prop):Cx:={ X with xe:=E }
noncomputable abbrev Cx.nox (X:Cx):Cx:=X.wish fun _ _=>False
theorem Cx.Ok.wish {X:Cx} (ok:X.Ok) (E:Value->Shared->Prop):(X.wish E).Ok :=
 ⟨ok.mod,ok.kind,ok.glob,ok.blt,ok.above,ok.inj,ok.has,ok.cab,ok.hd,ok.frames,ok.stk,ok.exf,ok.bs,ok.bsz,ok.noex,ok.exfs,ok.funs,ok.frf⟩
theorem Cx.Ok.unwish {X:Cx} {E:Value->Shared->Prop} (ok:(X.wish E).Ok):X.Ok :=
 ⟨ok.mod,ok.kind,ok.glob,ok.blt,ok.above,ok.inj,ok.has,ok.cab,ok.hd,ok.frames,ok.stk,ok.exf,ok.bs,ok.bsz,ok.noex,ok.exfs,ok.funs,ok.frf⟩
section
variable {X:Cx} {pins:List (Addr × Obj)} {σ:St} {H:Hp} {s:Shared} {E:Value->Shared->Prop}
theorem Inv.wish (I:Inv X pins σ H s) (E:Value->Shared->Prop):Inv (X.wish E) pins σ H s:=⟨I.ok.wish E,I.os,I.bare,I.base,I.loc,I.cell,I.free,I.freeC,I.pin,I.hok,I.len⟩
theorem Inv.unwish (I:Inv (X.wish E) pins σ H s):Inv X pins σ H s:=⟨I.ok.unwish,I.os,I.bare,I.base,I.loc,I.cell,I.free,I.freeC,I.pin,I.hok,I.len⟩
theorem SP.unwish {D:Zef} {f:Flow} {s':Shared} (h:SP (X.wish E) pins D f s'):SP X pins D f s':=by
 cases f with
 | next=>obtain ⟨σ',H',I,q⟩:=h; exact ⟨σ',H',I.unwish,q⟩
 | brk=>obtain ⟨σ',H',I,q⟩:=h; exact ⟨σ',H',I.unwish,q⟩
 | cont=>obtain ⟨σ',H',I,q⟩:=h; exact ⟨σ',H',I.unwish,q⟩
 | ret u=>obtain ⟨v,σ',H',I,r,q⟩:=h; exact ⟨v,σ',H',I.unwish,r,q⟩
theorem PSs.nox {st:List Stmt} {t:TS} (h:PSs X.nox st t):PSs X st t:=fun pins s σ H D I hw =>
 wpAny_mono (h pins s σ H D (I.wish _) hw) (fun _ _ q=>q.unwish) fun _ _ z=>False.elim z
end
section
variable {X:Cx} {st:Stmt} {rest:List Stmt} {t u:TS} {e:Expr} {te:TE} {pos:Pos}
noncomputable def Zlh:TS:=fun D σ H=>D.nx σ H
noncomputable def ZlU (t u:TS):TS:=fun D σ H=>t { D with nx:=u D } σ H
theorem Yf:PSs X [] Zlh:=fun _ _ σ H _ I h=>wpAny_execs_nil ⟨σ,H,I,h⟩
theorem Zd (h1:PS X st t) (h2:PSs X rest u):PSs X (st::rest) (ZlU t u):=by
 intro pins s σ H D I h
 refine wpAny_execs_cons (thn (h1 pins s σ H { D with nx:=u D } I h) fun f s1 q=>?_)
 cases f with
 | next =>
  obtain ⟨σ',H',I',q⟩:=q
  exact h2 pins s1 σ' H' D I' q
 | ret v=>exact q
 | brk=>exact q
 | cont=>exact q
theorem Zg (h1:PS X st t):PSs X [st] t:=by
 intro pins s σ H D I h
 refine wpAny_execs_cons (thn (h1 pins s σ H D I h) fun f s1 q=>?_)
 cases f with
 | next=>exact wpAny_execs_nil q
 | ret v=>exact q
 | brk=>exact q
 | cont=>exact q
theorem Inv.quiet {pins:List (Addr × Obj)} {σ:St} {H:Hp} {s:Shared} (I:Inv X pins σ H s):interactive X.env=false:=by simp [interactive,I.ok.kind]
noncomputable def Zli (te:TE):TS:=fun D σ H=>te σ H fun _ H1=>D.nx σ H1
theorem YA (he:PE X e te) (hs:swapsWith e none pos.line X.env=pure false:=by rfl):PS X (.Expr e pos) (Zli te):=by
 intro pins s σ H D I h
 exact wpAny_Expr_any (thn (he pins s σ H _ I h) fun v s1 zz0=> by obtain ⟨x,H1,I1,r1,q1⟩ := zz0; exact ⟨σ,H1,I1,q1⟩) I.quiet hs
noncomputable def ZlV (te:TE):TS:=fun D σ H=>te σ H D.rt
theorem Zt (he:PE X e te):PS X (.Return (some e) pos) (ZlV te):=by
 intro pins s σ H D I h
 exact wpAny_Return_some (thn (he pins s σ H _ I h) fun v s1 zz0=> by obtain ⟨x,H1,I1,r1,q1⟩ := zz0; exact ⟨x,σ,H1,I1,r1,q1⟩)
noncomputable def Zl0 (c:TT) (t u:TS):TS:=fun D σ H=>c σ H fun b H1=>if b=true then t D σ H1 else u D σ H1
theorem Jg {c:Expr} {a b:List Stmt} {tc:TT} (hc:PT X c tc) (ha:PSs X a t) (hb:PSs X b u):PS X (.If c a b pos) (Zl0 tc t u):=by
 intro pins s σ H D I h
 refine wpAny_If (thn (hc pins s σ H _ I h) fun d s1 zz0=>?_)
 obtain ⟨H1,I1,q1⟩:=zz0
 cases d with
 | true=>exact ha pins s1 σ H1 D I1 q1
 | false=>exact hb pins s1 σ H1 D I1 q1
end
noncomputable abbrev TG:=V->St->Hp->(St->Hp->Prop)->Prop
noncomputable abbrev TGs:=List V->St->Hp->(St->Hp->Prop)->Prop
noncomputable def PG (X:Cx) (target:Expr) (t:TG):Prop :=
 ∀ (pins:List (Addr × Obj)) (s:Shared) (σ:St) (H:Hp) (v:V) (u:Value) (Q:St->Hp->Prop),Inv X pins σ H s->RelV v u->t v σ H Q ->
  wpAny (model X.prog X.w) X.A (assign target X.env u) (fun _ s'=>∃ σ' H',Inv X pins σ' H' s'/\Q σ' H') X.xe s
noncomputable def PGs (X:Cx) (ts:List Expr) (t:TGs):Prop :=
 ∀ (pins:List (Addr × Obj)) (s:Shared) (σ:St) (H:Hp) (vs:List V) (us:List Value) (Q:St->Hp->Prop),Inv X pins σ H s->Vals vs us->t vs σ H Q ->
  wpAny (model X.prog X.w) X.A (assignInOrder ((assignEach ts X.env).map (·.2)) us) (fun _ s'=>∃ σ' H',Inv X pins σ' H' s'/\Q σ' H') X.xe s
noncomputable abbrev Zk7:=V->V->V->Hp->(Hp->Prop)->Prop
noncomputable def ZlQ (X:Cx) (t:Zk7):Prop :=
 ∀ (pins:List (Addr × Obj)) (s:Shared) (σ:St) (H:Hp) (o i v:V) (ov iv u:Value) (Q:Hp->Prop),Inv X pins σ H s->RelV o ov->RelV i iv->RelV v u->t o i v H Q ->
  wpAny (model X.prog X.w) X.A (setItem ov iv u) (fun _ s'=>∃ H',Inv X pins σ H' s'/\Q H') X.xe s
section
variable {X:Cx} {pos:Pos}
noncomputable def Jy (i:Nat):TG:=fun v σ H Q=>Q (σ.set i (some v)) H
theorem ZG {i:Nat} {x:Str} (hN:X.N.Nodup) (hi:X.N[i]? = some x) (hx:Loc X.env.scope x) (hf:X.fn x=true\/X.env.scope.names.lookup x=some .local:=by first | exact .inl rfl | exact .inr rfl | assumption):PG X (.Name x pos) (Jy i):=by
 intro pins s σ H v u Q I r h
 exact wpAny_assign_Name (Zek I hN hi hx r (fun s' I'=>⟨_,H,I',h⟩) hf)
noncomputable def Zme:TGs:=fun vs σ H Q=>vs=[]/\Q σ H
noncomputable def ZlG (t:TG) (u:TGs):TGs:=fun vs σ H Q=>∃ v r,vs=v::r/\t v σ H fun σ' H'=>u r σ' H' Q
theorem JH:PGs X [] Zme:=by
 intro pins s σ H vs us Q I r h
 obtain ⟨e,h⟩:=h
 subst e
 cases r
 exact assignInOrder_nil ⟨σ,H,I,h⟩
theorem ZV {e:Expr} {es:List Expr} {t:TG} {u:TGs} (h1:PG X e t) (h2:PGs X es u)
  (hs:(assignEach (e::es) X.env).map (·.2)=assign e X.env::(assignEach es X.env).map (·.2):=by rfl):PGs X (e::es) (ZlG t u):=by
 intro pins s σ H vs us Q I r h
 obtain ⟨v,vr,e1,h⟩:=h
 subst e1
 cases r with
 | cons r rr =>
  rw [hs]
  refine assignInOrder_cons (thn (h1 pins s σ H _ _ _ I r h) fun _ s1 zz0=>?_)
  obtain ⟨σ1,H1,I1,q1⟩:=zz0
  exact h2 pins s1 σ1 H1 _ _ Q I1 rr q1
noncomputable def ZlF (K:PySem.W.Frag) (n:Nat) (t:TGs):TG:=fun v σ H Q=>∃ a xs,v = .ref a/\SqT K H a xs/\xs.length=n/\t xs σ H Q
theorem ZfS {es:List Expr} {k:Nat} {t:TGs} {n:Nat} (hc:X.calm=true) (h:PGs X es t)
  (hn:(assignEach es X.env).length=n:=by rfl) (hst:(assignEach es X.env).findIdx? (·.1)=none:=by rfl):PG X (.Tuple es k pos) (ZlF X.K n t):=by
 intro pins s σ H v u Q I r hw
 obtain ⟨a,xs,e1,hq,hl,hw⟩:=hw
 subst e1
 cases r
 obtain ⟨its,rv,ht,hz⟩:=I.tuple hq
 refine assign_Tuple_tuple (I.ok.hd hc) ht (by simp [hn,<- hl,rv.length]) hst fun h' hx=>?_
 have I1:Inv X pins σ H { s with heap:=h' }:=I.kept (t':=s.toks) fun b o e=>hx b o (QBa (QAi e)) e
 exact h pins _ σ H xs _ Q I1 (by simpa using rv) hw
noncomputable def Zmd (to ti:TE) (t:Zk7):TG:=fun v σ H Q=>to σ H fun o H1=>ti σ H1 fun i H2=>t o i v H2 fun H3=>Q σ H3
theorem ZfT {o i:Expr} {to ti:TE} {t:Zk7} (ho:PE X o to) (hi:PE X i ti) (hs:ZlQ X t)
  (ha:∀ v,assign (.Subscript o i pos) X.env v=(do
   let ov <- holding [v] (eval o X.env)
   let iv <- holding [v,ov] (eval i X.env)
   standAt pos
   holding [v,ov,iv] (setItem ov iv v)
   release [v,ov,iv] []):=by intro _; rfl):PG X (.Subscript o i pos) (Zmd to ti t):=by
 intro pins s σ H v u Q I r h
 rw [ha]
 refine wpAny_bind (wpAny_holding (thn (ho pins s σ H _ I h) fun ov s1 zz0=>?_))
 obtain ⟨x,H1,I1,r1,q1⟩:=zz0
 refine wpAny_bind (wpAny_holding (thn (hi pins s1 σ H1 _ I1 q1) fun iv s2 zz0=>?_))
 obtain ⟨y,H2,I2,r2,q2⟩:=zz0
 refine wpAny_bind (wpAny_standAt (wpAny_bind (wpAny_holding (thn (hs pins s2 σ H2 x y v ov iv u _ I2 r1 r2 r q2) fun _ s3 zz0=>?_))))
 obtain ⟨H3,I3,q3⟩:=zz0
 exact wpAny_release ⟨σ,H3,I3,q3⟩
noncomputable def Zkm (te:TE) (g:TG):TS:=fun D σ H=>te σ H fun x H1=>g x σ H1 D.nx
theorem ZdX {tg e:Expr} {te:TE} {g:TG} (he:PE X e te) (hg:PG X tg g) (hs:swapsWithSole [tg] e pos.line X.env=pure false:=by rfl) (hw:swappedStores [tg] e X.env=pure none:=by rfl)
  (h1:(assignEach [tg] X.env).map (·.2)=[assign tg X.env]:=by rfl):PS X (.Assign [tg] e pos) (Zkm te g):=by
 intro pins s σ H D I h
 refine wpAny_Assign_stores (thn (he pins s σ H _ I h) fun v s1 zz0=>?_) hs hw
 obtain ⟨x,H1,I1,r1,q1⟩:=zz0
 rw [h1]
 exact thn (hg pins s1 σ H1 x v _ I1 r1 q1) fun _ s2 q=>q
theorem Zj {i:Nat} {x:Str} {e:Expr} {te:TE} {pos':Pos} (hN:X.N.Nodup) (hi:X.N[i]? = some x) (hx:Loc X.env.scope x) (he:PE X e te) (hs:swapsWith e (some (.Name x pos')) pos.line X.env=pure false:=by rfl) (hf:X.fn x=true\/X.env.scope.names.lookup x=some .local:=by first | exact .inl rfl | exact .inr rfl | assumption) :
  PS X (.Assign [.Name x pos'] e pos) (Zkm te (Jy i)):=by
 intro pins s σ H D I h
 refine wpAny_Assign_Name (thn (he pins s σ H _ I h) fun v s1 zz0=>?_) hs
 obtain ⟨y,H1,I1,r1,q1⟩:=zz0
 exact Zek I1 hN hi hx r1 (fun s2 I2=>⟨_,H1,I2,q1⟩) hf
end
section
variable {X:Cx} {pos:Pos}
noncomputable def Zkl (c:TT) (tb:TS):TS:=fun D σ H=>∃ W:Nat->St->Hp->Prop,(∃ m,W m σ H)/\∀ m σ H,W m σ H ->
 c σ H fun b H1=>if b=true then ∃ N:St->Hp->Prop,(∀ σ' H',N σ' H'->∃ m',m'<m/\W m' σ' H')/\tb { D with nx:=N,ct:=N,bk:=D.nx } σ H1 else D.nx σ H1
theorem Zb5 {c:Expr} {body:List Stmt} {tc:TT} {tb:TS} (hp:PassesOwn (model X.prog X.w) X.A X.env X.xe) (hc:PT X c tc) (hb:PSs X body tb):PS X (.While c body [] pos) (Zkl tc tb):=by
 intro pins s σ H D I h
 obtain ⟨W,⟨m0,w0⟩,turn⟩:=h
 refine wpAny_While (codeAny_whileLoop (fun n s'=>∃ σ' H',Inv X pins σ' H' s'/\W n σ' H') ?_ m0 ⟨σ,H,I,w0⟩)
 rintro n s1 ⟨σ1,H1,I1,w1⟩
 refine wpAny_passesOwn hp (thn (hc pins s1 σ1 H1 _ I1 (turn n σ1 H1 w1)) fun b s2 zz0=>?_)
 obtain ⟨H2,I2,q2⟩:=zz0
 cases b with
 | true =>
  obtain ⟨N,hN,q2⟩:=q2
  rw [if_pos rfl]
  refine wpAny_passesOwn hp (thn (hb pins s2 σ1 H2 _ I2 q2) fun f s3 q3=>?_)
  cases f with
  | next =>
   obtain ⟨σ3,H3,I3,n3⟩:=q3
   obtain ⟨m',hm,w3⟩:=hN σ3 H3 n3
   exact ⟨m',hm,σ3,H3,I3,w3⟩
  | cont =>
   obtain ⟨σ3,H3,I3,n3⟩:=q3
   obtain ⟨m',hm,w3⟩:=hN σ3 H3 n3
   exact ⟨m',hm,σ3,H3,I3,w3⟩
  | brk=>exact q3
  | ret v=>exact q3
 | false =>
  rw [if_neg QAl]
  exact wpAny_execs_nil ⟨σ1,H2,I2,q2⟩
end
structure It where
 go:Nat->Hp->Prop
 yld:Nat->Hp->V->Hp->Prop
 stop:Nat->Hp->Prop
noncomputable def Zap (X:Cx) (pins:List (Addr × Obj)) (H:Hp) (b:Addr):Prop :=
 H b=none/\b≠X.env.locals/\b∉X.fs/\(b∈X.ex\/X.s₀.heap.objs.size<=b)/\(∀ x c,X.env.cells.lookup x=some c->c≠b)/\∀ p∈X.pn++pins,p.1≠b
theorem Inv.fpOk {X:Cx} {pins:List (Addr × Obj)} {σ:St} {H H':Hp} {s:Shared} {b:Addr} (I:Inv X pins σ H s) (hb:s.heap.objs.size<=b) (hn:H' b=none):Zap X pins H' b:=by
 refine ⟨hn,Nat.ne_of_gt (QAz I.lt hb),I.nofs hb,.inr (QAq I.sz hb),fun x c e z=>?_,fun p hp z=>?_⟩
 ·obtain ⟨v,q⟩:=I.cell x c e
  exact absurd (QAz q.lt (by rw [z]; exact hb)) (QCb _)
 ·exact absurd (QAz (QAi (I.pin p hp).1) (by rw [z]; exact hb)) (QCb _)
structure Turn (P:Program) (w:World) (K:PySem.W.Frag) (tg:Expr) (J:It) (fp:List Addr) (it:Addr) (tn:Nat->Heap->Prop):Prop where
 mem:it∈fp
 obj:∀ i h,tn i h->∀ b∈fp,∃ o,h.get? b=some o/\∀ v,o.data ≠ .cell v
 keep:∀ i h h',tn i h->(∀ b∈fp,∀ o,h.get? b=some o->h'.get? b=some o)->tn i h'
 item:∀ (X:Cx),X.prog=P->X.w=w->X.K=K->X.calm=true->∀ (i:Nat) (pins:List (Addr × Obj)) (s:Shared) (σ:St) (H:Hp) (E:Value->Shared->Prop),Inv X pins σ H s->(∀ b∈fp,Zap X pins H b)->tn i s.heap->J.go i H ->
  wpAny (model P w) X.A (pyNext (.ref it)) (fun r s1=>∃ u,r=some u /\
   wpAny (model P w) X.A (letOwnedTupleGo tg (.ref it) u) (fun _ s2=>∃ x H',Inv X pins σ H' s2/\RelV x u/\J.yld i H x H'/\tn (i+1) s2.heap/\∀ b∈fp,H' b=none) E s1) E s
 done:∀ (X:Cx),X.prog=P->X.w=w->X.K=K->X.calm=true->∀ (i:Nat) (pins:List (Addr × Obj)) (s:Shared) (σ:St) (H:Hp) (E:Value->Shared->Prop),Inv X pins σ H s->(∀ b∈fp,Zap X pins H b)->tn i s.heap->J.stop i H ->
  wpAny (model P w) X.A (pyNext (.ref it)) (fun r s1=>r=none/\Inv X pins σ H s1) E s
 self:∀ (A:Around) (i:Nat) (s:Shared) (Q:Value->Shared->Prop) (E:Value->Shared->Prop),tn i s.heap->Q (.ref it) s->wpAny (model P w) A (pyIter (.ref it)) Q E s
noncomputable abbrev TI:=St->Hp->(It->Hp->Prop)->Prop
noncomputable def PIE (X:Cx) (pins:List (Addr × Obj)) (σ:St) (tg:Expr) (R:It->Hp->Prop) (itv:Value) (s2:Shared):Prop :=
 ∃ (it:Addr) (fp:List Addr) (tn:Nat->Heap->Prop) (J:It) (H':Hp),itv = .ref it/\Inv X pins σ H' s2/\Turn X.prog X.w X.K tg J fp it tn/\tn 0 s2.heap/\(∀ b∈fp,Zap X pins H' b)/\R J H'
noncomputable def PI (X:Cx) (tg iter:Expr) (wi:TI):Prop :=
 ∀ (pins:List (Addr × Obj)) (s:Shared) (σ:St) (H:Hp) (R:It->Hp->Prop),Inv X pins σ H s->wi σ H R ->
  wpAny (model X.prog X.w) X.A (eval iter X.env) (fun v s1=>wpAny (model X.prog X.w) X.A (pyIter v) (PIE X pins σ tg R) X.xe s1) X.xe s
theorem ZiA {M:Model} {A:Around} {E:Value->Shared->Prop} {s:Shared} {tg:Expr} {it:Addr} {u:Value} {o:Obj} {n:String} {vs:Array Value} {Q:Unit->Shared->Prop} (ho:s.heap.get? it=some o) (hc:o.cls = .type n) (hd:o.data = .fields vs)
    (hn:["enumerate", "zip", "dict_itemiterator", "dict_reverseitemiterator", "odict_iterator", "itertools.zip_longest", "itertools.pairwise"].contains n=false) (hQ:Q () s):wpAny M A (letOwnedTupleGo tg (.ref it) u) Q E s := by
  unfold letOwnedTupleGo
  cases tg <;> first
    | exact wpAny_pure hQ
    | (cases u <;> first
        | exact wpAny_pure hQ
        | (refine wpAny_bind (wpAny_load ho ?_)
           rw [hc, hd]
           show wpAny M A (if (["enumerate", "zip", "dict_itemiterator", "dict_reverseitemiterator", "odict_iterator", "itertools.zip_longest", "itertools.pairwise"].contains n&&vs[0]? == some (rawInt _))=true then _ else _) Q E s
           rw [if_neg (by intro h; rw [hn, QCc] at h; cases h)]
           exact wpAny_pure hQ))
noncomputable def Itl (K:PySem.W.Frag) (a:Addr):It :=
 ⟨fun i H=>∃ xs x,SqL K H a xs/\xs[i]? = some x,fun i H x H'=>H'=H/\∀ xs,SqL K H a xs->xs[i]? = some x,fun i H=>∃ xs,SqL K H a xs/\xs.length<=i⟩
noncomputable def Itt (K:PySem.W.Frag) (a:Addr):It :=
 ⟨fun i H=>∃ xs x,SqT K H a xs/\xs[i]? = some x,fun i H x H'=>H'=H/\∀ xs,SqT K H a xs->xs[i]? = some x,fun i H=>∃ xs,SqT K H a xs/\xs.length<=i⟩
noncomputable def Itr (lo:Int) (n:Nat):It:=⟨fun i _=>i<n,fun i H x H'=>H'=H/\x = .int (lo+i),fun i _=>n<=i⟩
theorem Zhf {P:Program} {w:World} {K:PySem.W.Frag} {tg:Expr} (a it:Addr):Turn P w K tg (Itl K a) [it] it (fun i h=>h.IsListIter it a i) where
 mem:=by simp
 obj:=fun i h st b hb=>by
  have e:b=it:=by simpa using hb
  subst e
  obtain ⟨o,e,c,d⟩:=st
  exact ⟨o,e,fun v z=>by rw [d] at z; cases z⟩
 keep:=fun i h h' st k=>st.at fun o e=>k it (by simp) o e
 item:=by
  intro X hP hw hK hc i pins s σ H E I hf st hg
  subst hP hw hK
  obtain ⟨xs,x,hq,hx⟩:=hg
  obtain ⟨its,rv,p,hz⟩:=I.list hq
  obtain ⟨u,hu,ru⟩:=rv.get hx
  obtain ⟨f0,f1,f2,f3,f4,f5⟩:=hf it (by simp)
  refine wpAny_pyNext_list_item st p.isList (x:=u) (by simpa using hu) fun h' st' sb=>?_
  have I1:Inv X pins σ H { s with heap:=h' }:=I.turned (t':=s.toks) (fun b o hb e=>(sb.2 b hb).trans e) f0 f1 f3 f4 f5
  obtain ⟨o,e,c,d⟩:=id st'
  exact ⟨u,rfl,ZiA (s:={ s with heap:=h' }) e c d (by decide) ⟨x,H,I1,ru,⟨rfl,fun ys hy=>by rw [I.list_inj hy hq]; exact hx⟩,st',fun b hb=>(hf b hb).1⟩⟩
 done:=by
  intro X hP hw hK hc i pins s σ H E I hf st hg
  subst hP hw hK
  obtain ⟨xs,hq,hx⟩:=hg
  obtain ⟨its,rv,p,hz⟩:=I.list hq
  obtain ⟨f0,f1,f2,f3,f4,f5⟩:=hf it (by simp)
  have hl:=rv.length
  exact wpAny_pyNext_list_end (I.ok.hd hc) st p.isList (by simp; exact Om.k439 hx hl) fun h' eb=>⟨rfl,I.turned (t':=s.toks) (fun b o hb e=>eb b o hb e) f0 f1 f3 f4 f5⟩
 self:=fun _ _ _ _ _ st h=>wpAny_pyIter_listiter st h
theorem ZfH {P:Program} {w:World} {K:PySem.W.Frag} {tg:Expr} (a it:Addr):Turn P w K tg (Itt K a) [it] it (fun i h=>h.IsTupleIter it a i) where
 mem:=by simp
 obj:=fun i h st b hb=>by
  have e:b=it:=by simpa using hb
  subst e
  obtain ⟨o,e,c,d⟩:=st
  exact ⟨o,e,fun v z=>by rw [d] at z; cases z⟩
 keep:=fun i h h' st k=>st.at fun o e=>k it (by simp) o e
 item:=by
  intro X hP hw hK hc i pins s σ H E I hf st hg
  subst hP hw hK
  obtain ⟨xs,x,hq,hx⟩:=hg
  obtain ⟨its,rv,p,hz⟩:=I.tuple hq
  obtain ⟨u,hu,ru⟩:=rv.get hx
  obtain ⟨f0,f1,f2,f3,f4,f5⟩:=hf it (by simp)
  refine wpAny_pyNext_tuple_item st (show s.heap.IsTuple a its.toArray from p) (x:=u) (by simpa using hu) fun h' st' sb=>?_
  have I1:Inv X pins σ H { s with heap:=h' }:=I.turned (t':=s.toks) (fun b o hb e=>(sb.2 b hb).trans e) f0 f1 f3 f4 f5
  obtain ⟨o,e,c,d⟩:=id st'
  exact ⟨u,rfl,ZiA (s:={ s with heap:=h' }) e c d (by decide) ⟨x,H,I1,ru,⟨rfl,fun ys hy=>by rw [I.tuple_inj hy hq]; exact hx⟩,st',fun b hb=>(hf b hb).1⟩⟩
 done:=by
  intro X hP hw hK hc i pins s σ H E I hf st hg
  subst hP hw hK
  obtain ⟨xs,hq,hx⟩:=hg
  obtain ⟨its,rv,p,hz⟩:=I.tuple hq
  obtain ⟨f0,f1,f2,f3,f4,f5⟩:=hf it (by simp)
  have hl:=rv.length
  exact wpAny_pyNext_tuple_end (I.ok.hd hc) st (show s.heap.IsTuple a its.toArray from p) (by simp; exact Om.k439 hx hl) fun h' eb=>⟨rfl,I.turned (t':=s.toks) (fun b o hb e=>eb b o hb e) f0 f1 f3 f4 f5⟩
 self:=fun _ _ _ _ _ st h=>wpAny_pyIter_tupleiter st h
theorem ZfI {P:Program} {w:World} {K:PySem.W.Frag} {tg:Expr} (it:Addr) (lo:Int) (n:Nat):Turn P w K tg (Itr lo n) [it] it (fun i h=>IsRangeIter h it (lo+(i:Nat)*1) ((n:Int) - (i:Nat)) 1) where
 mem:=by simp
 obj:=fun i h st b hb=>by
  have e:b=it:=by simpa using hb
  subst e
  exact ⟨_,st,fun v z=>by
   have z':Data.fields _=Data.cell v:=z
   cases z'⟩
 keep:=fun i h h' st k=>k it (by simp) _ st
 item:=by
  intro X hP hw hK hc i pins s σ H E I hf st hg
  subst hP hw hK
  obtain ⟨f0,f1,f2,f3,f4,f5⟩:=hf it (by simp)
  have W:=Walks.range (prog:=X.prog) (w:=X.w) (I.ok.hd hc) it lo 1 n
  refine W.item i s _ _ hg st fun v h' tk hv st' kk=>?_
  obtain ⟨t,rfl⟩:=hv
  have I1:Inv X pins σ H { s with heap:=h',toks:=tk }:=I.turned (fun b o hb e=>kk b o (by simpa using hb) e) f0 f1 f3 f4 f5
  refine ⟨_,rfl,ZiA (s:={ s with heap:=h',toks:=tk }) (n:="range_iterator") st' rfl rfl (by decide) ⟨.int (lo+i),H,I1,⟨t,?_⟩,⟨rfl,rfl⟩,st',fun b hb=>(hf b hb).1⟩⟩
  rw [Int.mul_one]
 done:=by
  intro X hP hw hK hc i pins s σ H E I hf st hg
  subst hP hw hK
  obtain ⟨f0,f1,f2,f3,f4,f5⟩:=hf it (by simp)
  exact wpAny_pyNext_range_end (I.ok.hd hc) st (by have:n<=i:=hg; omega) fun h' eb=>⟨rfl,I.turned (t':=s.toks) (fun b o hb e=>eb b o hb e) f0 f1 f3 f4 f5⟩
 self:=fun _ _ _ _ _ st h=>wpAny_pyIter_rangeiter st h
end L2
namespace L2
open PySem PySem.Spec PyProof.Rows
section
variable {X:Cx} {tg:Expr}
noncomputable def Zj6 (K:PySem.W.Frag) (tl:TE):TI:=fun σ H R=>tl σ H fun x H1=>∃ a,x = .ref a/\(∃ xs,SqL K H1 a xs)/\R (Itl K a) H1
noncomputable def ZlC (K:PySem.W.Frag) (tl:TE):TI:=fun σ H R=>tl σ H fun x H1=>∃ a,x = .ref a/\(∃ xs,SqT K H1 a xs)/\R (Itt K a) H1
theorem Zaw {l:Expr} {tl:TE} (hl:PE X l tl):PI X tg l (Zj6 X.K tl):=by
 intro pins s σ H R I h
 refine thn (hl pins s σ H _ I h) fun v s1 zz0=>?_
 obtain ⟨x,H1,I1,r1,q1⟩:=zz0
 obtain ⟨a,e,⟨xs,hq⟩,q⟩:=q1
 subst e
 cases r1
 obtain ⟨its,rv,p,hz⟩:=I1.list hq
 refine wpAny_pyIter_list p.isList ?_
 refine ⟨s1.heap.objs.size,[s1.heap.objs.size],_,_,H1,rfl,I1.kept (t':=s1.toks) fun b o e=>QAk _ e,Zhf a _,⟨_,QAx _ rfl,rfl,rfl⟩,fun b hb=>?_,q⟩
 have e:b=s1.heap.objs.size:=by simpa using hb
 subst e
 exact I1.fpOk (QAc _) (I1.hok.fresh (QAc _))
theorem Zh3 {l:Expr} {tl:TE} (hl:PE X l tl):PI X tg l (ZlC X.K tl):=by
 intro pins s σ H R I h
 refine thn (hl pins s σ H _ I h) fun v s1 zz0=>?_
 obtain ⟨x,H1,I1,r1,q1⟩:=zz0
 obtain ⟨a,e,⟨xs,hq⟩,q⟩:=q1
 subst e
 cases r1
 obtain ⟨its,rv,p,hz⟩:=I1.tuple hq
 refine wpAny_pyIter_tuple (show s1.heap.IsTuple a its.toArray from p) ?_
 refine ⟨s1.heap.objs.size,[s1.heap.objs.size],_,_,H1,rfl,I1.kept (t':=s1.toks) fun b o e=>QAk _ e,ZfH a _,⟨_,QAx _ rfl,rfl,rfl⟩,fun b hb=>?_,q⟩
 have e:b=s1.heap.objs.size:=by simpa using hb
 subst e
 exact I1.fpOk (QAc _) (I1.hok.fresh (QAc _))
theorem Zh0 {pins:List (Addr × Obj)} {σ:St} {H:Hp} {s:Shared} {R:It->Hp->Prop} {E:Value->Shared->Prop} {lo hi:Int} {t u v:Tok} {tk:Nat} (I:Inv X pins σ H s) (h1 : -(2 ^ 62)<=lo) (h2:lo<2 ^ 62) (h3 : -(2 ^ 62)<=hi) (h4:hi<2 ^ 62)
  (q:R (Itr lo (hi - lo).toNat) H):wpAny (model X.prog X.w) X.A (pyIter (.ref s.heap.objs.size)) (PIE X pins σ tg R) E { s with heap:=s.heap.push { cls:=.type "range",data:=.fields #[.int lo t,.int hi u,.int 1 v] },toks:=tk }:=by
 refine wpAny_pyIter_range (IsRange.new ..) (small_one h1 h2 h3 h4) ?_
 have I1:Inv X pins σ H { s with heap:=s.heap.push { cls:=.type "range",data:=.fields #[.int lo t,.int hi u,.int 1 v] },toks:=tk }:=I.kept fun b o e=>QAk _ e
 refine ⟨(s.heap.push { cls:=.type "range",data:=.fields #[.int lo t,.int hi u,.int 1 v] }).objs.size,[(s.heap.push { cls:=.type "range",data:=.fields #[.int lo t,.int hi u,.int 1 v] }).objs.size],_,_,H,rfl,
  I1.kept (t':=tk) fun b o e=>QAk _ e,ZfI _ lo (hi - lo).toNat,?_,fun b hb=>?_,q⟩
 ·have e1:lo+((0:Nat):Int)*1=lo:=by simp
  have e2:(((hi - lo).toNat:Nat):Int) - ((0:Nat):Int)=Builtin.Range.rangeSize lo hi 1:=by rw [rangeSize_one]; split <;> omega
  show IsRangeIter _ _ (lo+((0:Nat):Int)*1) ((((hi - lo).toNat:Nat):Int) - ((0:Nat):Int)) 1
  rw [e1,e2]
  exact QAx _ rfl
 ·have e:b=(s.heap.push { cls:=.type "range",data:=.fields #[.int lo t,.int hi u,.int 1 v] }).objs.size:=by simpa using hb
  subst e
  exact I1.fpOk (QAc _) (I1.hok.fresh (QAc _))
noncomputable def ZlD (ta:TA):TI:=fun σ H R=>ta σ H fun vs H1=>∃ j:Int,vs=[.int j] /\ -(2 ^ 62)<=j/\j<2 ^ 62/\R (Itr 0 j.toNat) H1
theorem Zp {a:Expr} {ta:TA} {p pos:Pos} (hg:Gl X "range") (hm:X.mg "range" = none) (ha:PA X [a] ta) (hs:starEach [a] X.env=[(false,eval a X.env)]:=by rfl):PI X tg (.Call (.Name "range" p) [a] [] pos) (ZlD ta):=by
 intro pins s σ H R I h
 refine Call_ (Zcn I hg hm boot_range (PyProof.Rows.callWith_type1 (thn (ha pos pins s σ H _ I h) fun us s1 zz0=>?_) hs rfl))
 obtain ⟨vs,H1,I1,r1,q1⟩:=zz0
 obtain ⟨j,e,q1,q2,q⟩:=q1
 subst e
 cases r1 with
 | cons r rr =>
  cases rr
  obtain ⟨t,rfl⟩:=r
  exact call_range_1 (Zh0 I1 (by exact Om.k487 ) (by exact Om.k486 ) q1 q2 (by simpa using q))
noncomputable def Zl2 (wi:TI) (g:TG) (tb:TS):TS:=fun D σ H=>wi σ H fun J H1=>∃ W:Nat->Nat->St->Hp->Prop,(∃ m,W 0 m σ H1)/\∀ i m σ H,W i m σ H ->
 (J.stop i H/\D.nx σ H)\/(J.go i H/\∃ N:St->Hp->Prop,(∀ σ' H',N σ' H'->∃ m',m'<m/\W (i+1) m' σ' H')/\∀ x H',J.yld i H x H'->g x σ H' fun σ2 H2=>tb { D with nx:=N,ct:=N,bk:=D.nx } σ2 H2)
noncomputable def Zbe (fp:List Addr) (h:Heap):List (Addr × Obj):=fp.filterMap fun b=>(h.get? b).map fun o=>(b,o)
theorem Y2 {fp:List Addr} {h:Heap} {b:Addr} {o:Obj} (hb:b∈fp) (e:h.get? b=some o):(b,o)∈Zbe fp h:=List.mem_filterMap.mpr ⟨b,hb,by rw [e]; rfl⟩
theorem Zhv {fp:List Addr} {h:Heap} {p:Addr × Obj} (hp:p∈Zbe fp h):p.1∈fp/\h.get? p.1=some p.2:=by
 obtain ⟨b,hb,e⟩:=List.mem_filterMap.mp hp
 cases q:h.get? b with
 | none=>rw [q] at e; cases e
 | some o =>
  rw [q] at e
  have e':(b,o)=p:=Option.some.inj e
  subst e'
  exact ⟨hb,q⟩
theorem Inv.pinned {pins:List (Addr × Obj)} {σ:St} {H:Hp} {s:Shared} {fp:List Addr} (I:Inv X pins σ H s) (hf:∀ b∈fp,Zap X pins H b) (ho:∀ b∈fp,∃ o,s.heap.get? b=some o/\∀ v,o.data ≠ .cell v):Inv X (pins++Zbe fp s.heap) σ H s :=
 I.pins_of fun p hp=>(List.mem_append.mp hp).elim (fun z=>I.pin p (QBg _ z)) fun z=>by
  obtain ⟨hb,e⟩:=Zhv z
  obtain ⟨f0,f1,f2,_⟩:=hf p.1 hb
  obtain ⟨o,e',d⟩:=ho p.1 hb
  rw [e] at e'; cases e'
  exact ⟨e,f0,f1,f2,d⟩
theorem Inv.unpinned {pins pl:List (Addr × Obj)} {σ:St} {H:Hp} {s:Shared} (I:Inv X (pins++pl) σ H s):Inv X pins σ H s:=I.pins_of fun p hp=>I.pin p (QBg _ (QBf _ hp))
theorem Yu {iter:Expr} {body:List Stmt} {wi:TI} {g:TG} {tb:TS} {pos:Pos} (hp:PassesOwn (model X.prog X.w) X.A X.env X.xe) (hc:X.calm=true) (hi:PI X tg iter wi) (hg:PG X tg g) (hb:PSs X body tb)
  (hs:∀ x,foldedSetIterable iter X.env x=pure x:=by intro _; rfl):PS X (.For tg iter body [] pos) (Zl2 wi g tb):=by
 intro pins s σ H D I h
 refine wpAny_For (thn (hi pins s σ H _ I h) fun v s1 h1=>thn h1 fun itv s2 h2=>?_) hs
 obtain ⟨it,fp,tn,J,H2,e,I2,T,st2,f2,W,⟨m0,w0⟩,turn⟩:=h2
 subst e
 have stat:∀ {H':Hp},(∀ b∈fp,H' b=none)->∀ b∈fp,Zap X pins H' b:=fun hn b hb=>⟨hn b hb,(f2 b hb).2⟩
 refine codeAny_forLoop_any (fun n s'=>∃ i σ' H',Inv X pins σ' H' s'/\tn i s'.heap/\(∀ b∈fp,H' b=none)/\W i n σ' H') ?_ m0 ⟨0,σ,H2,I2,st2,fun b hb=>(f2 b hb).1,w0⟩
 rintro n s3 ⟨i,σ3,H3,I3,st3,fr3,w3⟩
 rcases turn i n σ3 H3 w3 with ⟨stop,qn⟩ | ⟨go,N,hN,step⟩
 ·refine wpAny_passesOwn hp (thn (T.done X rfl rfl rfl hc i pins s3 σ3 H3 X.xe I3 (stat fr3) st3 stop) fun r s4 zz0=>?_)
  obtain ⟨hr,I4⟩:=zz0
  subst hr
  exact wpAny_execs_nil ⟨σ3,H3,I4,qn⟩
 ·refine wpAny_passesOwn hp (thn (T.item X rfl rfl rfl hc i pins s3 σ3 H3 X.xe I3 (stat fr3) st3 go) fun r s4 zz0=>?_)
  obtain ⟨u,hr,h4⟩:=zz0
  subst hr
  refine wpAny_passesOwn hp (thn h4 fun _ s5 zz0=>?_)
  obtain ⟨x,H5,I5,r5,y5,st5,fr5⟩:=zz0
  have I5':=I5.pinned (stat fr5) (T.obj _ _ st5)
  refine wpAny_passesOwn hp (thn (hg _ s5 σ3 H5 x u _ I5' r5 (step x H5 y5)) fun _ s6 zz0=>?_)
  obtain ⟨σ6,H6,I6,q6⟩:=zz0
  refine wpAny_passesOwn hp (thn (hb _ s6 σ6 H6 _ I6 q6) fun f s7 q7=>?_)
  have again:∀ {σ7:St} {H7:Hp},Inv X (pins++Zbe fp s5.heap) σ7 H7 s7->N σ7 H7->∃ m,m<n/\∃ i σ' H',Inv X pins σ' H' s7/\tn i s7.heap/\(∀ b∈fp,H' b=none)/\W i m σ' H':=fun {σ7 H7} I7 n7=>by
   obtain ⟨m',hm,w7⟩:=hN σ7 H7 n7
   refine ⟨m',hm,i+1,σ7,H7,I7.unpinned,T.keep _ _ _ st5 fun b hb o e=>(I7.pin (b,o) (QBg _ (QBg _ (Y2 hb e)))).1,fun b hb=>?_,w7⟩
   obtain ⟨o,e,d⟩:=T.obj _ _ st5 b hb
   exact (I7.pin (b,o) (QBg _ (QBg _ (Y2 hb e)))).2.1
  cases f with
  | next=>obtain ⟨σ7,H7,I7,n7⟩:=q7; exact again I7 n7
  | cont=>obtain ⟨σ7,H7,I7,n7⟩:=q7; exact again I7 n7
  | brk=>obtain ⟨σ7,H7,I7,q7⟩:=q7; exact ⟨σ7,H7,I7.unpinned,q7⟩
  | ret v=>obtain ⟨x7,σ7,H7,I7,r7,q7⟩:=q7; exact ⟨x7,σ7,H7,I7.unpinned,r7,q7⟩
end
theorem Zam {K:PySem.W.Frag} {a:Addr} {xs:List V} {g:TG} {tb:TS} {D:Zef} {σ:St} {H:Hp} (Pv:Nat->St->Hp->Prop) (h0:Pv 0 σ H) (hl:∀ i σ H,i<=xs.length->Pv i σ H->SqL K H a xs)
  (hs:∀ i x σ H,xs[i]? = some x->Pv i σ H->g x σ H fun σ2 H2=>tb { D with nx:=Pv (i+1),ct:=Pv (i+1),bk:=D.nx } σ2 H2) (hd:∀ σ H,Pv xs.length σ H->D.nx σ H) :
  ∃ W:Nat->Nat->St->Hp->Prop,(∃ m,W 0 m σ H)/\∀ i m σ H,W i m σ H ->
   ((Itl K a).stop i H/\D.nx σ H)\/((Itl K a).go i H/\∃ N:St->Hp->Prop,(∀ σ' H',N σ' H'->∃ m',m'<m/\W (i+1) m' σ' H')/\∀ x H',(Itl K a).yld i H x H'->g x σ H' fun σ2 H2=>tb { D with nx:=N,ct:=N,bk:=D.nx } σ2 H2):=by
 refine ⟨fun i m σ H=>m=xs.length - i/\i<=xs.length/\Pv i σ H,⟨xs.length,by simp,QAh _,h0⟩,?_⟩
 rintro i m σ H ⟨rfl,hi,p⟩
 have q:=hl i σ H hi p
 by_cases hlt:i<xs.length
 ·refine .inr ⟨⟨xs,xs[i],q,by simp [hlt]⟩,Pv (i+1),fun σ' H' p'=>⟨xs.length - (i+1),by exact Om.k394 hlt,rfl,hlt,p'⟩,fun x H' y=>?_⟩
  obtain ⟨e,y⟩:=y
  subst e
  exact hs i x σ _ (y xs q) p
 ·have e:i=xs.length:=by exact Om.k488 hi hlt
  subst e
  exact .inl ⟨⟨xs,q,QAc _⟩,hd σ H p⟩
theorem ZjI {K:PySem.W.Frag} {a:Addr} {xs:List V} {g:TG} {tb:TS} {D:Zef} {σ:St} {H:Hp} (Pv:Nat->St->Hp->Prop) (h0:Pv 0 σ H) (hl:∀ i σ H,i<=xs.length->Pv i σ H->SqT K H a xs)
  (hs:∀ i x σ H,xs[i]? = some x->Pv i σ H->g x σ H fun σ2 H2=>tb { D with nx:=Pv (i+1),ct:=Pv (i+1),bk:=D.nx } σ2 H2) (hd:∀ σ H,Pv xs.length σ H->D.nx σ H) :
  ∃ W:Nat->Nat->St->Hp->Prop,(∃ m,W 0 m σ H)/\∀ i m σ H,W i m σ H ->
   ((Itt K a).stop i H/\D.nx σ H)\/((Itt K a).go i H/\∃ N:St->Hp->Prop,(∀ σ' H',N σ' H'->∃ m',m'<m/\W (i+1) m' σ' H')/\∀ x H',(Itt K a).yld i H x H'->g x σ H' fun σ2 H2=>tb { D with nx:=N,ct:=N,bk:=D.nx } σ2 H2):=by
 refine ⟨fun i m σ H=>m=xs.length - i/\i<=xs.length/\Pv i σ H,⟨xs.length,by simp,QAh _,h0⟩,?_⟩
 rintro i m σ H ⟨rfl,hi,p⟩
 have q:=hl i σ H hi p
 by_cases hlt:i<xs.length
 ·refine .inr ⟨⟨xs,xs[i],q,by simp [hlt]⟩,Pv (i+1),fun σ' H' p'=>⟨xs.length - (i+1),by exact Om.k394 hlt,rfl,hlt,p'⟩,fun x H' y=>?_⟩
  obtain ⟨e,y⟩:=y
  subst e
  exact hs i x σ _ (y xs q) p
 ·have e:i=xs.length:=by exact Om.k488 hi hlt
  subst e
  exact .inl ⟨⟨xs,q,QAc _⟩,hd σ H p⟩
theorem Yk {lo:Int} {n:Nat} {g:TG} {tb:TS} {D:Zef} {σ:St} {H:Hp} (Pv:Nat->St->Hp->Prop) (h0:Pv 0 σ H)
  (hs:∀ i σ H,i<n->Pv i σ H->g (.int (lo+i)) σ H fun σ2 H2=>tb { D with nx:=Pv (i+1),ct:=Pv (i+1),bk:=D.nx } σ2 H2) (hd:∀ σ H,Pv n σ H->D.nx σ H) :
  ∃ W:Nat->Nat->St->Hp->Prop,(∃ m,W 0 m σ H)/\∀ i m σ H,W i m σ H ->
   ((Itr lo n).stop i H/\D.nx σ H)\/((Itr lo n).go i H/\∃ N:St->Hp->Prop,(∀ σ' H',N σ' H'->∃ m',m'<m/\W (i+1) m' σ' H')/\∀ x H',(Itr lo n).yld i H x H'->g x σ H' fun σ2 H2=>tb { D with nx:=N,ct:=N,bk:=D.nx } σ2 H2):=by
 refine ⟨fun i m σ H=>m=n - i/\i<=n/\Pv i σ H,⟨n,by simp,QAh _,h0⟩,?_⟩
 rintro i m σ H ⟨rfl,hi,p⟩
 by_cases hlt:i<n
 ·refine .inr ⟨hlt,Pv (i+1),fun σ' H' p'=>⟨n - (i+1),by exact Om.k394 hlt,rfl,hlt,p'⟩,fun x H' y=>?_⟩
  obtain ⟨e,y⟩:=y
  subst e y
  exact hs i σ _ hlt p
 ·have e:i=n:=by exact Om.k488 hi hlt
  subst e
  exact .inl ⟨QAc _,hd σ H p⟩
end L2
namespace L2
open PySem PySem.Spec PyProof.Rows
noncomputable abbrev R2:=V->V->Hp->VK->Prop
noncomputable def OpR (X:Cx) (f:Value->Value->Sem Value) (r:R2):Prop :=
 ∀ (pins:List (Addr × Obj)) (s:Shared) (σ:St) (H:Hp) (x y:V) (v u:Value) (Q:VK),Inv X pins σ H s->RelV x v->RelV y u->r x y H Q ->
  wpAny (model X.prog X.w) X.A (f v u) (EP X pins σ Q) X.xe s
noncomputable def Jh (X:Cx) (f:Value) (r:List V->Hp->VK->Prop):Prop :=
 ∀ (pins:List (Addr × Obj)) (s:Shared) (σ:St) (H:Hp) (xs:List V) (us:List Value) (Q:VK),Inv X pins σ H s->Vals xs us->r xs H Q ->
  wpAny (model X.prog X.w) X.A (call f us) (EP X pins σ Q) X.xe s
noncomputable def Zmj (X:Cx) (r:V->Hp->(Bool->Hp->Prop)->Prop):Prop :=
 ∀ (pins:List (Addr × Obj)) (s:Shared) (σ:St) (H:Hp) (x:V) (v:Value) (Q:Bool->Hp->Prop),Inv X pins σ H s->RelV x v->r x H Q ->
  wpAny (model X.prog X.w) X.A (truthy v) (TP X pins σ Q) X.xe s
noncomputable def tOp (r:R2) (ta tb:TE):TE:=fun σ H Q=>ta σ H fun x H1=>tb σ H1 fun y H2=>r x y H2 Q
inductive RII (C:Int->Int->Prop) (g:Int->Int->V) (x:V) (y:V) (H:Hp) (Q:VK):Prop where
 | mk (i:Int) (j:Int) (_:x = .int i) (_:y = .int j) (_:C i j) (_:Q (g i j) H):RII C g x y H Q
noncomputable def rI (C:Int->Int->Prop) (g:Int->Int->V):R2:=fun x y H Q=>RII C g x y H Q
inductive ZlP (g:Int->Int->V) (x:V) (y:V) (H:Hp) (Q:VK):Prop where
 | mk (i:Int) (j:Int) (_:x = .int i) (_:y = .int j) (_:Q (g i j) H):ZlP g x y H Q
noncomputable def rI0 (g:Int->Int->V):R2:=fun x y H Q=>ZlP g x y H Q
section
variable {X:Cx} {a b c:Expr} {ta tb tc:TE} {pos:Pos}
theorem Zk5 (ha:PE X a ta) (hb:PE X b tb) {pins:List (Addr × Obj)} {s:Shared} {σ:St} {H:Hp} {R:V->V->Hp->Prop} (I:Inv X pins σ H s)
  (h:ta σ H fun x H1=>tb σ H1 fun y H2=>R x y H2) {Q:Value->Shared->Prop} {f:Value->Value->Sem Value}
  (hf:∀ v u s2 x y H2,Inv X pins σ H2 s2->RelV x v->RelV y u->R x y H2->wpAny (model X.prog X.w) X.A (f v u) Q X.xe s2) :
  wpAny (model X.prog X.w) X.A (eval a X.env) (fun v s₁=>wpAny (model X.prog X.w) X.A (eval b X.env) (fun u s₂=>wpAny (model X.prog X.w) X.A (f v u) Q X.xe s₂) X.xe s₁) X.xe s:=by
 refine thn (ha pins s σ H _ I h) fun v s1 zz0=>?_
 obtain ⟨x,H1,I1,r1,q1⟩:=zz0
 refine thn (hb pins s1 σ H1 _ I1 q1) fun u s2 zz0=>?_
 obtain ⟨y,H2,I2,r2,q2⟩:=zz0
 exact hf v u s2 x y H2 I2 r1 r2 q2
theorem Zk {op:Operator} {r:R2} (ho:OpR X (binaryOp op) r) (ha:PE X a ta) (hb:PE X b tb):PE X (.BinOp a op b pos) (tOp r ta tb):=by
 intro pins s σ H Q I h
 exact wpAny_BinOp (Zk5 ha hb I h fun v u s2 x y H2 I2 rx ry q=>ho pins s2 σ H2 x y v u Q I2 rx ry q)
theorem opI {f:Value->Value->Sem Value} {C:Int->Int->Prop} {g:Int->Int->Int}
  (rule:∀ (i j:Int) (t u:Tok) (s:Shared) (Q:Value->Shared->Prop) (E:Value->Shared->Prop),C i j->Q (.int (g i j) s.toks) { s with toks:=s.toks+1 }->wpAny (model X.prog X.w) X.A (f (.int i t) (.int j u)) Q E s) :
  OpR X f (rI C fun i j=>.int (g i j)):=by
 intro pins s σ H x y v u Q I rx ry h
 obtain ⟨i,j,rfl,rfl,hc,q⟩:=h
 obtain ⟨t,rfl⟩:=rx
 obtain ⟨t',rfl⟩:=ry
 exact rule i j t t' s _ _ hc ⟨.int (g i j),H,I.tok _,⟨_,rfl⟩,q⟩
theorem ZkF {f:Value->Value->Sem Value} {g:Int->Int->Int}
  (rule:∀ (i j:Int) (t u:Tok) (s:Shared) (Q:Value->Shared->Prop) (E:Value->Shared->Prop),Q (.int (g i j) s.toks) { s with toks:=s.toks+1 }->wpAny (model X.prog X.w) X.A (f (.int i t) (.int j u)) Q E s) :
  OpR X f (rI0 fun i j=>.int (g i j)):=by
 intro pins s σ H x y v u Q I rx ry h
 obtain ⟨i,j,rfl,rfl,q⟩:=h
 obtain ⟨t,rfl⟩:=rx
 obtain ⟨t',rfl⟩:=ry
 exact rule i j t t' s _ _ ⟨.int (g i j),H,I.tok _,⟨_,rfl⟩,q⟩
theorem Zmb {f:Value->Value->Sem Value} {g:Int->Int->Bool}
  (rule:∀ (i j:Int) (t u:Tok) (s:Shared) (Q:Value->Shared->Prop) (E:Value->Shared->Prop),Q (.bool (g i j)) s->wpAny (model X.prog X.w) X.A (f (.int i t) (.int j u)) Q E s) :
  OpR X f (rI0 fun i j=>.bl (g i j)):=by
 intro pins s σ H x y v u Q I rx ry h
 obtain ⟨i,j,rfl,rfl,q⟩:=h
 obtain ⟨t,rfl⟩:=rx
 obtain ⟨t',rfl⟩:=ry
 exact rule i j t t' s _ _ ⟨.bl (g i j),H,I,rfl,q⟩
noncomputable def Zmm (i j:Int):Prop:=0<j/\j<1073741824
noncomputable def Zml (i j:Int):Prop:=0<=j/\j<=1000000/\i.natAbs<2 ^ 64
noncomputable def CMul (i j:Int):Prop:=(-(2 ^ 64)<i/\i<2 ^ 64)\/(-(2 ^ 64)<j/\j<2 ^ 64)
theorem CMul.ok {i j:Int} (h:CMul i j):IntMulOk i j:=by
 rcases h with ⟨h1,h2⟩ | ⟨h1,h2⟩
 ·exact .of_left (intBits_le_64 h1 h2)
 ·exact .of_right (intBits_le_64 h1 h2)
theorem Yv:OpR X (binaryOp .Add) (rI0 fun i j=>.int (i+j)):=ZkF fun _ _ _ _ _ _ _ q=>add_int q
theorem Zh7:OpR X (binaryOp .Sub) (rI0 fun i j=>.int (i - j)):=ZkF fun _ _ _ _ _ _ _ q=>sub_int q
theorem J4:OpR X (binaryOp .Mult) (rI CMul fun i j=>.int (i*j)):=opI fun _ _ _ _ _ _ _ hc q=>mul_int q hc.ok
theorem YF:OpR X (binaryOp .FloorDiv) (rI Zmm fun i j=>.int (i / j)):=opI fun i j _ _ _ _ _ hc q=>by
 have h1:(0:Int)<j:=hc.1
 have h2:j<1073741824:=hc.2
 exact floordiv_int (by exact Om.k518 h1 h2) (by rw [Int.fdiv_eq_ediv_of_nonneg i (by exact Om.k517 h1 h2)]; exact q) (.inl (PyProof.noPylong_small (by omega)))
theorem Yh:OpR X (binaryOp .Mod) (rI (fun _ j=>0<j) fun i j=>.int (i % j)):=opI fun i j _ _ _ _ _ hc q=>by
 have h1:(0:Int)<j:=hc
 exact mod_int' (by exact Om.k392 hc) (by rw [Int.fmod_eq_emod_of_nonneg i (by exact Om.k516 hc)]; exact q)
theorem Zcb:OpR X (binaryOp .Pow) (rI Zml fun i j=>.int (i ^ j.toNat)):=opI fun _ _ _ _ _ _ _ hc q=>pow_int_small hc.1 hc.2.1 hc.2.2 q
theorem ZkB:OpR X (binaryOp .BitXor) (rI0 fun i j=>.int (Builtin.bitXor i j)):=ZkF fun _ _ _ _ _ _ _ q=>xor_int q
end
noncomputable def Zln:V->V->Bool
 | .non,.non=>true | .non,.int _=>true | .int _,.non=>true | .non,.bl _=>true | .bl _,.non=>true | .non,.str _=>true | .str _,.non=>true
 | .int _,.int _=>true | .bl _,.bl _=>true | .str _,.str _=>true | .byt _,.byt _=>true
 | .int _,.str _=>true | .str _,.int _=>true | .bl _,.str _=>true | .str _,.bl _=>true
 | _,_=>false
noncomputable def rEq:R2:=fun x y H Q=>Zln x y=true/\Q (.bl (decide (x=y))) H
noncomputable def rNe:R2:=fun x y H Q=>Zln x y=true/\Q (.bl (!decide (x=y))) H
theorem ZgY {i j:Int}:decide (V.int i=V.int j)=(i==j):=by
 rw [QBi]
 simp
theorem ZiN {i j:Bool}:decide (V.bl i=V.bl j)=(i==j):=by
 rw [QBi]
 simp
theorem ZgX {i j:Str}:decide (V.str i=V.str j)=(i==j):=by
 rw [QBi]
 simp
theorem ZgZ {i j:Array UInt8}:decide (V.byt i=V.byt j)=(i.toList==j.toList):=by
 rw [QBi]
 cases i
 cases j
 simp
section
variable {X:Cx} {a b c:Expr} {ta tb tc:TE} {pos:Pos}
theorem ZL {pins:List (Addr × Obj)} {σ:St} {H:Hp} {s:Shared} {Q:VK} {k k':Bool} (I:Inv X pins σ H s) (q:Q (.bl k) H) (e:k=k'):EP X pins σ Q (.bool k') s:=by
 subst e
 exact ⟨.bl k,H,I,rfl,q⟩
theorem ZaG:OpR X (compareOp .Eq) rEq:=by
 intro pins s σ H x y v u Q I rx ry h
 obtain ⟨hs,q⟩:=h
 cases x with
 | non =>
  cases rx
  cases y with
  | non=>cases ry; exact PySem.EqNone.eq_none_none (ZL I q (by simp))
  | bl j=>cases ry; exact PySem.EqNone.eq_none_bool (ZL I q (by simp))
  | int j=>obtain ⟨t',rfl⟩:=ry; exact PySem.EqNone.eq_none_int (ZL I q (by simp))
  | str j=>obtain ⟨t',rfl⟩:=ry; exact PySem.EqNone.eq_none_str (ZL I q (by simp))
  | _=>exact absurd (show false=true from hs) QAl
 | bl i =>
  cases rx
  cases y with
  | non=>cases ry; exact PySem.EqNone.eq_bool_none (ZL I q (by simp))
  | bl j=>cases ry; exact eq_bool (ZL I q ZiN)
  | str j=>obtain ⟨t',rfl⟩:=ry; exact PySem.EqMixed.eq_bool_str (ZL I q (by simp))
  | _=>exact absurd (show false=true from hs) QAl
 | int i =>
  obtain ⟨t,rfl⟩:=rx
  cases y with
  | non=>cases ry; exact PySem.EqNone.eq_int_none (ZL I q (by simp))
  | int j=>obtain ⟨t',rfl⟩:=ry; exact eq_int (ZL I q ZgY)
  | str j=>obtain ⟨t',rfl⟩:=ry; exact PySem.EqMixed.eq_int_str (ZL I q (by simp))
  | _=>exact absurd (show false=true from hs) QAl
 | str i =>
  obtain ⟨t,rfl⟩:=rx
  cases y with
  | non=>cases ry; exact PySem.EqNone.eq_str_none (ZL I q (by simp))
  | bl j=>cases ry; exact PySem.EqMixed.eq_str_bool (ZL I q (by simp))
  | int j=>obtain ⟨t',rfl⟩:=ry; exact PySem.EqMixed.eq_str_int (ZL I q (by simp))
  | str j=>obtain ⟨t',rfl⟩:=ry; exact eq_str (ZL I q ZgX)
  | _=>exact absurd (show false=true from hs) QAl
 | byt i =>
  obtain ⟨t,rfl⟩:=rx
  cases y with
  | byt j=>obtain ⟨t',rfl⟩:=ry; exact PySem.W.eq_bytes (ZL I q ZgZ)
  | _=>exact absurd (show false=true from hs) QAl
 | _=>cases y <;> exact absurd (show false=true from hs) QAl
theorem Zh8:OpR X (compareOp .NotEq) rNe:=by
 intro pins s σ H x y v u Q I rx ry h
 obtain ⟨hs,q⟩:=h
 cases x with
 | non =>
  cases rx
  cases y with
  | non=>cases ry; exact PySem.EqNone.ne_none_none (ZL I q (by simp))
  | bl j=>cases ry; exact PySem.EqNone.ne_none_bool (ZL I q (by simp))
  | int j=>obtain ⟨t',rfl⟩:=ry; exact PySem.EqNone.ne_none_int (ZL I q (by simp))
  | str j=>obtain ⟨t',rfl⟩:=ry; exact PySem.EqNone.ne_none_str (ZL I q (by simp))
  | _=>exact absurd (show false=true from hs) QAl
 | bl i =>
  cases rx
  cases y with
  | non=>cases ry; exact PySem.EqNone.ne_bool_none (ZL I q (by simp))
  | bl j=>cases ry; exact ne_bool (ZL I q (congrArg not ZiN))
  | str j=>obtain ⟨t',rfl⟩:=ry; exact PySem.EqMixed.ne_bool_str (ZL I q (by simp))
  | _=>exact absurd (show false=true from hs) QAl
 | int i =>
  obtain ⟨t,rfl⟩:=rx
  cases y with
  | non=>cases ry; exact PySem.EqNone.ne_int_none (ZL I q (by simp))
  | int j=>obtain ⟨t',rfl⟩:=ry; exact ne_int (ZL I q (congrArg not ZgY))
  | str j=>obtain ⟨t',rfl⟩:=ry; exact PySem.EqMixed.ne_int_str (ZL I q (by simp))
  | _=>exact absurd (show false=true from hs) QAl
 | str i =>
  obtain ⟨t,rfl⟩:=rx
  cases y with
  | non=>cases ry; exact PySem.EqNone.ne_str_none (ZL I q (by simp))
  | bl j=>cases ry; exact PySem.EqMixed.ne_str_bool (ZL I q (by simp))
  | int j=>obtain ⟨t',rfl⟩:=ry; exact PySem.EqMixed.ne_str_int (ZL I q (by simp))
  | str j=>obtain ⟨t',rfl⟩:=ry; exact ne_str (ZL I q (congrArg not ZgX))
  | _=>exact absurd (show false=true from hs) QAl
 | byt i =>
  obtain ⟨t,rfl⟩:=rx
  cases y with
  | byt j=>obtain ⟨t',rfl⟩:=ry; exact PySem.W.ne_bytes (ZL I q (congrArg not ZgZ))
  | _=>exact absurd (show false=true from hs) QAl
 | _=>cases y <;> exact absurd (show false=true from hs) QAl
theorem Zj3:OpR X (compareOp .Lt) (rI0 fun i j=>.bl (decide (i<j))):=Zmb fun _ _ _ _ _ _ _ q=>lt_int q
theorem Yp (b:Expr) {op:CmpOp} (h:op ≠ .In:=by decide) (h2:op ≠ .NotIn:=by decide):behindInMarks op b=false:=by
 have e1:(op==CmpOp.In)=false:=by cases op <;> first | rfl | exact absurd rfl h
 have e2:(op==CmpOp.NotIn)=false:=by cases op <;> first | rfl | exact absurd rfl h2
 cases b <;> simp [behindInMarks,e1,e2]
theorem ZgI {op:CmpOp} {r:R2} (ho:OpR X (compareOp op) r) (ha:PE X a ta) (hb:PE X b tb) (hm:behindInMarks op b=false):PE X (.Compare a [op] [b] pos) (tOp r ta tb):=by
 intro pins s σ H Q I h
 exact wpAny_Compare1 (Zk5 ha hb I h fun v u s2 x y H2 I2 rx ry q=>ho pins s2 σ H2 x y v u Q I2 rx ry q) hm
noncomputable def Zle (t:TE):TT:=fun σ H Q=>t σ H fun x H'=>Zk9 x Q H'
theorem ZR {op:CmpOp} {r:R2} (ho:OpR X (compareOp op) r) (ha:PE X a ta) (hb:PE X b tb) (hm:behindInMarks op b=false):PT X (.Compare a [op] [b] pos) (Zle (tOp r ta tb)):=by
 intro pins s σ H Q I h
 refine wpAny_isTrue_Compare1 (thn (ha pins s σ H _ I h) fun v s1 ⟨x,H1,I1,r1,q1⟩=>thn (hb pins s1 σ H1 _ I1 q1) fun u s2 ⟨y,H2,I2,r2,q2⟩ =>
  thn (ho pins s2 σ H2 x y v u _ I2 r1 r2 q2) fun c s3 ⟨z,H3,I3,r3,k,e,q3⟩=>?_) hm
 subst e
 cases r3
 exact wpAny_truthy_bool ⟨H3,I3,q3⟩
noncomputable def ZlK (K:PySem.W.Frag) (x:V) (H:Hp) (k:Bool):Prop :=
 match x with
 | .non=>k=false
 | .bl b=>k=b
 | .int i=>k=(i != 0)
 | .str y=>y.length<=sizeLine/\k=((y.length:Int) != 0)
 | .byt y=>y.size<=sizeLine/\k=((y.size:Int) != 0)
 | .ref p=>(∃ xs,SqL K H p xs/\k = !xs.isEmpty)\/(∃ xs,SqT K H p xs/\k = !xs.isEmpty)\/∃ kvs,H p=some (.dK kvs)/\k = !kvs.isEmpty
 | _=>False
theorem Zga {κ:Type} {kvs:List (κ × V)} {vs:List (κ × Value)} (r:KV kvs vs):(!vs.isEmpty) = !kvs.isEmpty:=by
 cases r <;> rfl
theorem Zcp {xs:List V} {its:List Value} (r:Vals xs its):(!its.toArray.isEmpty) = !xs.isEmpty:=by
 cases r <;> simp
theorem Zbm:(sizeLine:Nat)<2 ^ 63:=by rw [sizeLine_eq]; decide
theorem Zkk:Zmj X (fun x H Q=>∃ k,ZlK X.K x H k/\Q k H):=by
 intro pins s σ H x v Q I rx h
 obtain ⟨k,e,q⟩:=h
 have hl:=Zbm
 have hs:sizeLine=16777216:=sizeLine_eq
 cases x with
 | non =>
  cases rx
  have e':k=false:=e
  subst e'
  exact truthy_none ⟨H,I,q⟩
 | bl b =>
  cases rx
  have e':k=b:=e
  subst e'
  exact wpAny_truthy_bool ⟨H,I,q⟩
 | int i =>
  obtain ⟨t,rfl⟩:=rx
  have e':k=(i != 0):=e
  subst e'
  exact PySem.P.truthy_int ⟨H,I,q⟩
 | str y =>
  obtain ⟨t,rfl⟩:=rx
  obtain ⟨hy,e'⟩:y.length<=sizeLine/\k=((y.length:Int) != 0):=e
  subst e'
  exact PySem.P.truthy_str (by exact Om.k515 hs hy) ⟨H,I.tok _,q⟩
 | byt y =>
  obtain ⟨t,rfl⟩:=rx
  obtain ⟨hy,e'⟩:y.size<=sizeLine/\k=((y.size:Int) != 0):=e
  subst e'
  exact PySem.W.truthy_bytes (by exact Om.b1 ‹_› rfl) ⟨H,I.tok _,q⟩
 | ref p =>
  cases rx
  have e':(∃ xs,SqL X.K H p xs/\k = !xs.isEmpty)\/(∃ xs,SqT X.K H p xs/\k = !xs.isEmpty)\/∃ kvs,H p=some (.dK kvs)/\k = !kvs.isEmpty:=e
  rcases e' with ⟨xs,hx,e'⟩ | ⟨xs,hx,e'⟩ | ⟨kvs,hx,e'⟩
  ·subst e'
   obtain ⟨its,r,pl,hz⟩:=I.list hx
   have hlen:=r.length
   exact wpAny_truthy_list pl.isList (by simp only [QAg]; exact Om.k514 hs hz hlen) ⟨H,I.tok _,by rw [Zcp r]; exact q⟩
  ·subst e'
   obtain ⟨its,r,pl,hz⟩:=I.tuple hx
   have hlen:=r.length
   exact truthy_tuple pl (by simp only [QAg]; exact Om.k514 hs hz hlen) ⟨H,I.tok _,by rw [Zcp r]; exact q⟩
  ·subst e'
   obtain ⟨hz,hS,vs,r,m⟩:kvs.length<=sizeLine/\(p==sysModules)=false/\∃ vs,KV kvs vs/\s.heap.DictOf (Zd1 X.prog X.w) p vs:=I.hok p _ hx
   have hlen:kvs.length=vs.length:=Paired.length r
   exact wpAny_truthy_dict hS m (by exact Om.k514 hs hz hlen) ⟨H,I.tok _,by rw [Zga r]; exact q⟩
 | _=>exact (show False from e).elim
theorem Zh2 (ha:PE X a ta) (he:∀ whole,isTrue a X.env whole=(do let v <- whole; standAt a.pos; holding [v] (truthy v))) :
  PT X a (fun σ H Q=>ta σ H fun x H'=>∃ k,ZlK X.K x H' k/\Q k H'):=by
 intro pins s σ H Q I h
 exact isTrue_plain (thn (ha pins s σ H _ I h) fun v s1 zz0=> by obtain ⟨x,H1,I1,r1,q1⟩ := zz0; exact Zkk pins s1 σ H1 x v Q I1 r1 q1) (he _)
theorem J5 {x:V} {us:List Value} (r:Vals [x] us):∃ u,us=[u]/\RelV x u:=by
 cases r with
 | cons r1 r2=>cases r2; exact ⟨_,rfl,r1⟩
theorem Zlc {x y:V} {us:List Value} (r:Vals [x,y] us):∃ u w',us=[u,w']/\RelV x u/\RelV y w':=by
 cases r with
 | cons r1 r2 =>
  cases r2 with
  | cons r3 r4=>cases r4; exact ⟨_,_,rfl,r1,r3⟩
theorem Zbs (hc:X.calm=true):Jh X (.builtin "max") (fun xs H Q=>∃ i j,xs=[.int i,.int j]/\Q (.int (if j>i then j else i)) H):=by
 intro pins s σ H xs us Q I r h
 obtain ⟨i,j,rfl,q⟩:=h
 obtain ⟨u,w',rfl,⟨t,rfl⟩,⟨t',rfl⟩⟩:=Zlc r
 refine max_two_ints (I.ok.hd hc) fun h' tk k=>⟨_,H,I.kept k,?_,q⟩
 by_cases hj:j>i
 ·rw [if_pos hj,if_pos hj]; exact ⟨_,rfl⟩
 ·rw [if_neg hj,if_neg hj]; exact ⟨_,rfl⟩
theorem ZhF:Jh X (.type "int") (fun xs H Q=>(∃ i,xs=[.int i]/\Q (.int i) H)\/∃ k,xs=[.bl k]/\Q (.int (if k then 1 else 0)) H):=by
 intro pins s σ H xs us Q I r h
 rcases h with ⟨i,rfl,q⟩ | ⟨k,rfl,q⟩
 ·obtain ⟨u,rfl,t,rfl⟩:=J5 r
  exact call_int_int ⟨.int i,H,I,⟨_,rfl⟩,q⟩
 ·obtain ⟨u,rfl,r1⟩:=J5 r
  cases r1
  exact call_int_bool ⟨.int (if k then 1 else 0),H,I.tok _,⟨_,rfl⟩,q⟩
end
end L2
namespace L2
open PySem PySem.Spec PyProof.Rows
section
variable {prog:Program} {w:World} {A:Around} {E:Value->Shared->Prop} {s:Shared} {K:PySem.W.Frag} {x dx C f:Addr} {mA:Str->Option Value} {name:Str} {v:Value}
end
section
variable {P:Program} {w:World} {H H':Hp} {h h':Heap} {a C dx:Addr} {fs fs':List (Str × V)}
end
section
variable {X:Cx} {pins:List (Addr × Obj)} {σ:St} {H:Hp} {s:Shared} {a C dx:Addr} {fs:List (Str × V)} {f:Str} {v:V} {A:Around} {E:Value->Shared->Prop}
end
section
variable {X:Cx} {o e value:Expr} {f:Str} {pos pos' tpos:Pos} {ta tv:TE}
end
section
variable {X:Cx} {pins:List (Addr × Obj)} {σ:St} {H:Hp} {s:Shared} {A:Around} {E:Value->Shared->Prop} {Q:Value->Shared->Prop} {c:Value} {b:Bool}
end
end L2
namespace L2
open PySem PySem.Spec PyProof.Rows
structure Room (k:Nat) (A:Around):Prop where
 hd:A.handled=none
 dp:A.depth+3*k+5<recursionLimit
 un:A.units+16*k+200<cLine
theorem Room.mono {j k:Nat} {A:Around} (r:Room k A) (h:j<=k):Room j A:=⟨r.hd,by have:=r.dp; omega,by have:=r.un; omega⟩
theorem Room.deeper {k:Nat} {A:Around} (r:Room (k+1) A) (env:Env):Room k (A.deeper env) :=
 ⟨r.hd,by have:=r.dp; show A.depth+1+3*k+5<_; exact Om.k513 this,by have:=r.un; show A.units+3+16*k+200<_; exact Om.k512 this⟩
theorem Room.depth {k:Nat} {A:Around} (r:Room k A):A.depth<recursionLimit:=by have:=r.dp; omega
noncomputable def ZlX:TA:=fun _ H Q=>Q [] H
noncomputable def Zlj (ta:TE) (tr:TA):TA:=fun σ H Q=>ta σ H fun x H1=>tr σ H1 fun xs H2=>Q (x::xs) H2
section
variable {X:Cx} {e:Expr} {es:List Expr} {te:TE} {t:TA} {pos:Pos}
theorem Zc:PA X [] ZlX:=fun _ _ _ _ H Q I h=>Calls.spliced_nil ⟨[],H,I,.nil,h⟩
theorem Za (ha:PE X e te) (hr:PA X es t) (hs:starEach (e::es) X.env=(false,eval e X.env)::starEach es X.env:=by rfl):PA X (e::es) (Zlj te t):=by
 intro pos pins s σ H Q I h
 rw [hs]
 show wpAny _ _ (spliced ((false,eval e X.env)::backTo pos (starEach es X.env))) _ _ s
 refine Calls.spliced_cons (thn (ha pins s σ H _ I h) fun u s1 zz0=>?_)
 obtain ⟨x,H1,I1,r1,q1⟩:=zz0
 exact thn (hr pos pins s1 σ H1 _ I1 q1) fun us s2 ⟨xs,H2,I2,r2,q2⟩=>⟨x::xs,H2,I2,.cons r1 r2,q2⟩
noncomputable def ZlT (t:TA):TE:=fun σ H Q=>t σ H fun xs H1=>xs.length<=sizeLine/\∀ p,H1 p=none->Q (.ref p) (upd H1 p (.tup xs))
noncomputable def ZlY (t:TA):TE:=fun σ H Q=>t σ H fun xs H1=>xs.length<=sizeLine/\∀ p,H1 p=none->Q (.ref p) (upd H1 p (.lst xs))
theorem J3 {x1} (h:PA X es t):PE X (.Tuple es x1 pos) (ZlT t):=by
 intro pins s σ H Q I hq
 refine wpAny_Tuple_spliced (thn (h pos pins s σ H _ I hq) fun us s1 ⟨xs,H1,I1,r,z,q⟩=>⟨by rw [<- r.length]; exact z,?_⟩)
 have hf:H1 s1.heap.objs.size=none:=I1.hok.fresh (QAc _)
 refine ⟨.ref s1.heap.objs.size,upd H1 s1.heap.objs.size (.tup xs),I1.laid (t':=s1.toks) (fun b u e=>QAk _ e) (QAc _) ?_,rfl,q _ hf⟩
 exact ⟨z,us,r,⟨_,QAx _ rfl,rfl,_,rfl⟩⟩
theorem Yc (h:PA X es t):PE X (.List es pos) (ZlY t):=by
 intro pins s σ H Q I hq
 refine wpAny_List_spliced (thn (h pos pins s σ H _ I hq) fun us s1 ⟨xs,H1,I1,r,z,q⟩=>⟨by rw [<- r.length]; exact z,?_⟩)
 have hf:H1 s1.heap.objs.size=none:=I1.hok.fresh (QAc _)
 refine ⟨.ref s1.heap.objs.size,upd H1 s1.heap.objs.size (.lst xs),I1.laid (t':=s1.toks) (fun b u e=>QAk _ e) (QAc _) ?_,rfl,q _ hf⟩
 exact ⟨z,us,0,r,QAx _ rfl⟩
end
noncomputable abbrev Sp:=List V->Hp->VK->XK->Prop
noncomputable abbrev CXT:=List Env->Hp->Shared->XK->Value->Shared->Prop
structure ZjX (P:Program) (w:World) (K:PySem.W.Frag) (mg:Str->Option Value) (base:Heap) (A:Around) (outer:List Env) (s:Shared) (H:Hp):Prop where
 frames:A.frames=some outer
 mod:Mod K mg base
 bs:∀ b o,base.get? b=some o->s.heap.get? b=some o/\H b=none
 bsz:base.objs.size<=s.heap.objs.size
 funs:s.heap.FunFrames base outer
 frf:∀ b∈frs outer,H b=none
 hok:HOk P w H s.heap
 bare:AllBare s.gens
noncomputable def CE (outer:List Env) (P:Program) (w:World) (H:Hp) (s:Shared) (Q:VK) (u:Value) (s':Shared):Prop :=
 ∃ v H',s'.os=s.os/\AllBare s'.gens/\Un (frs outer) [] H H' s.heap s'.heap/\HOk P w H' s'.heap/\RelV v u/\Q v H'
noncomputable def CR (CX:CXT) (outer:List Env) (P:Program) (w:World) (H:Hp) (s:Shared) (Q:VK) (E:XK) (r:Result) (s':Shared):Prop :=
 match r with
 | .ok (.ret u)=>CE outer P w H s Q u s'
 | .ok _=>False
 | .error e=>CX outer H s E e s'
structure FnOk (P:Program) (w:World) (K:PySem.W.Frag) (mg:Str->Option Value) (base:Heap) (CX:CXT) (k:Nat) (f:Addr) (fd:FuncData) (ps:List Str) (sp:Sp):Prop where
 len:∀ vs H Q E,sp vs H Q E->vs.length=ps.length
 run:∀ (A:Around) (outer:List Env) (s:Shared) (H:Hp) (args:Args) (us:List Value) (vs:List V) (Q:VK) (E:XK),Room k A->ZjX P w K mg base A outer s H->BindsTo s fd args (ps.zip us)->Vals vs us->sp vs H Q E ->
  codeAny (model P w) A (.call (.ref f) args) (CR CX outer P w H s Q E) s
theorem FnOk.mono {P:Program} {w:World} {K:PySem.W.Frag} {mg:Str->Option Value} {base:Heap} {CX:CXT} {j k:Nat} {f:Addr} {fd:FuncData} {ps:List Str} {sp:Sp} (F:FnOk P w K mg base CX j f fd ps sp) (h:j<=k) :
  FnOk P w K mg base CX k f fd ps sp:=⟨F.len,fun A outer s H args us vs Q E hr=>F.run A outer s H args us vs Q E (hr.mono h)⟩
section
variable {X:Cx} {pins:List (Addr × Obj)} {σ:St} {H:Hp} {s s':Shared}
theorem Inv.env0 (I:Inv X pins σ H s):ZjX X.prog X.w X.K X.mg X.base X.A X.stack s H :=
 ⟨I.ok.frames,I.ok.mod,I.bs,QAq I.ok.bsz I.sz,I.stack,I.stkFree,I.hok,I.bare⟩
theorem Inv.after {Q:VK} {u:Value} (I:Inv X pins σ H s) (h:CE X.stack X.prog X.w H s Q u s'):EP X pins σ Q u s':=by
 obtain ⟨v,H',os,bare,un,hok,r,q⟩:=h
 obtain ⟨hh,g,d,t,os'⟩:=s'
 obtain rfl:os'=s.os:=os
 exact ⟨v,H',I.call (h':=hh) (g':=g) (d':=d) (t':=t) (ch:=[]) un hok bare (fun b z=>absurd z (by simp)),r,q⟩
end
noncomputable def Zlk (sp:Sp) (dvs:List V) (E:XK) (t:TA):TE:=fun σ H Q=>t σ H fun vs H1=>sp (vs++dvs) H1 Q E
noncomputable def Binds (K:PySem.W.Frag) (fd:FuncData) (ps:List Str) (ds:List Value):Prop :=
 ∀ (s:Shared) (us:List Value),K.In s.heap->(us++ds).length=ps.length->BindsTo s fd ⟨us,[]⟩ (ps.zip (us++ds))
theorem Binds.all {K:PySem.W.Frag} {fd:FuncData} {ps:List Str} (h:∀ us:List Value,us.length=ps.length->bindArgs fd ⟨us,[]⟩=pure (ps.zip us)):Binds K fd ps []:=fun s us _ hl=>by
 rw [QBh] at hl ⊢
 exact .of_eq (h us hl)
noncomputable def Zgo (CX:CXT) (X:Cx) (E:XK):Prop:=∀ (pins:List (Addr × Obj)) (σ:St) (H:Hp) (s:Shared) (e:Value) (s':Shared),Inv X pins σ H s->CX X.stack H s E e s'->X.xe e s'
section
variable {X:Cx} {CX:CXT} {k:Nat} {f C:Addr} {fd:FuncData} {ps:List Str} {sp:Sp} {dvs:List V} {ds:List Value} {E:XK} {x m:Str} {p pos apos:Pos} {e o:Expr} {es:List Expr} {ta:TE} {t:TA}
theorem Zkp {pins:List (Addr × Obj)} {σ:St} {H:Hp} {s:Shared} {Q:VK} {us:List Value} {vs:List V} (F:FnOk X.prog X.w X.K X.mg X.base CX k f fd ps sp) (hr:Room k X.A) (hb:Binds X.K fd ps ds) (hd:Vals dvs ds) (hx:Zgo CX X E)
  (I:Inv X pins σ H s) (r:Vals vs us) (h:sp (vs++dvs) H Q E):wpAny (model X.prog X.w) X.A (call (.ref f) us) (EP X pins σ Q) X.xe s:=by
 have r2:Vals (vs++dvs) (us++ds):=r.append hd
 have hl:(us++ds).length=ps.length:=by rw [<- r2.length]; exact F.len _ _ _ _ h
 refine wpAny_call (codeAny_mono (F.run X.A X.stack s H ⟨us,[]⟩ (us++ds) (vs++dvs) Q E hr I.env0 (hb s us I.kIn hl) r2 h) fun r s' hq=>?_)
 cases r with
 | error e=>exact hx pins σ H s e s' I hq
 | ok fl =>
  cases fl with
  | ret u=>exact I.after hq
  | next=>exact False.elim hq
  | brk=>exact False.elim hq
  | cont=>exact False.elim hq
theorem Zm (F:FnOk X.prog X.w X.K X.mg X.base CX k f fd ps sp) (hr:Room k X.A) (hg:Gl X x) (hm:X.mg x=some (.ref f)) (hk:PySem.W.keepIn X.K (.ref f)=true) (hb:Binds X.K fd ps ds) (hd:Vals dvs ds) (hx:Zgo CX X E)
  (ha:PA X (e::es) t) (hdb:(x==("__debug__" : Str))=false:=by decide) (he:starEach (e::es) X.env=(false,eval e X.env)::starEach es X.env:=by rfl) (hpl:(backTo pos (starEach es X.env)).any (·.1)=false:=by rfl) :
  PE X (.Call (.Name x p) (e::es) [] pos) (Zlk sp dvs E t):=by
 intro pins s σ H Q I h
 refine wpAny_Call_Name_kw (ZjD I hg hm ?_ hdb)
 refine PySem.W.callWith_K (h₀:=X.base) I.ok.mod.kin hk (thn (ha pos pins s σ H _ I h) fun us s1 ⟨vs,H1,I1,r,q⟩=>⟨I1.kIn,?_⟩) he hpl
 exact Zkp F hr hb hd hx I1 r q
end
section
variable {X:Cx} {CX:CXT} {k:Nat} {f C:Addr} {fd:FuncData} {ps ks:List Str} {sp:Sp} {E:XK} {x m:Str} {p pos apos kpos:Pos} {e o:Expr} {es:List Expr} {kws:List Keyword} {te ta:TE} {t tk:TA} {nm:Option Str}
variable {g:List Value->List Value->List Value} {gV:List V->List V->List V}
end
structure Zs (N P:List Str) (sc:Scope):Prop where
 kind:sc.kind = .function
 co:sc.isCoroutine=false
 gen:sc.isGenerator=false
 nd:N.Nodup
 pre:N.take P.length=P
 par:∀ x∈P,sc.names.lookup x=some .local\/sc.names.lookup x=some .cell
 nofree:∀ y∈sc.names,y.2 ≠ .free
theorem Zdn {kindOf:Str->Option NameKind} {x:Str}:∀ {binds:List (Str × Value)} {m:Str->Option Value},(∀ v,(x,v)∉binds)->bindL kindOf binds m x=m x
 | [],_,_=>rfl
 | (n,v)::r,m,h=>by
  unfold bindL
  rw [Zdn fun w hw=>h w (QAo _ hw)]
  split
  ·have:x≠n:=by rintro rfl; exact h v QAj
   simp [this]
  ·rfl
theorem Zdp {kindOf:Str->Option NameKind} {x:Str}:∀ {binds:List (Str × Value)} {m:Str->Option Value},(∀ v,(x,v)∉binds)->bindC kindOf binds m x=m x
 | [],_,_=>rfl
 | (n,v)::r,m,h=>by
  unfold bindC
  rw [Zdp fun w hw=>h w (QAo _ hw)]
  split
  ·rfl
  ·have:x≠n:=by rintro rfl; exact h v QAj
   simp [this]
theorem Zdo {kindOf:Str->Option NameKind} {x:Str} {v:Value}:∀ {P:List Str} {vs:List Value} {i:Nat} {m:Str->Option Value},P.Nodup->P[i]? = some x->vs[i]? = some v->kindOf x=some .local ->
  bindL kindOf (P.zip vs) m x=some v
 | [],_,_,_,_,h,_,_=>by simp at h
 | _::_,[],_,_,_,_,h,_=>by simp at h
 | p::P,w::vs,0,m,nd,h1,h2,hk=>by
  simp at h1 h2; subst h1; subst h2
  show bindL kindOf ((p,w)::P.zip vs) m p=_
  unfold bindL
  rw [Zdn fun v hv=>(List.nodup_cons.mp nd).1 (List.of_mem_zip hv).1,if_pos hk]
  simp
 | p::P,w::vs,i+1,m,nd,h1,h2,hk=>by
  show bindL kindOf ((p,w)::P.zip vs) m x=_
  unfold bindL
  exact Zdo (i:=i) (List.nodup_cons.mp nd).2 (by simpa using h1) (by simpa using h2) hk
theorem Zdq {kindOf:Str->Option NameKind} {x:Str} {v:Value}:∀ {P:List Str} {vs:List Value} {i:Nat} {m:Str->Option Value},P.Nodup->P[i]? = some x->vs[i]? = some v->kindOf x≠some .local ->
  bindC kindOf (P.zip vs) m x=some v
 | [],_,_,_,_,h,_,_=>by simp at h
 | _::_,[],_,_,_,_,h,_=>by simp at h
 | p::P,w::vs,0,m,nd,h1,h2,hk=>by
  simp at h1 h2; subst h1; subst h2
  show bindC kindOf ((p,w)::P.zip vs) m p=_
  unfold bindC
  rw [Zdp fun v hv=>(List.nodup_cons.mp nd).1 (List.of_mem_zip hv).1,if_neg hk]
  simp
 | p::P,w::vs,i+1,m,nd,h1,h2,hk=>by
  show bindC kindOf ((p,w)::P.zip vs) m x=_
  unfold bindC
  exact Zdq (i:=i) (List.nodup_cons.mp nd).2 (by simpa using h1) (by simpa using h2) hk
noncomputable def start (N:List Str) (vs:List V):St:=vs.map some++List.replicate (N.length - vs.length) none
noncomputable def ZhA (CX:CXT) (P:Program) (w:World) (K:PySem.W.Frag) (mg:Str->Option Value) (base:Heap) (N:List Str) (qual:Str) (scope:Scope) (f:Addr) (cd:Value) (A:Around) (outer:List Env) (s:Shared) (H:Hp) (E:XK):Cx where
 prog:=P
 w:=w
 K:=K
 mg:=mg
 base:=base
 A:=A.deeper (envOfC qual scope s.heap.objs.size f cd)
 N:=N
 s₀:=s
 H₀:=H
 env:=envOfC qual scope s.heap.objs.size f cd
 outer:=outer
 stack:=envOfC qual scope s.heap.objs.size f cd::outer
 ex:=[]
 calm:=true
 fn:=fun _=>true
 pn:=[]
 xe:=fun e s'=>wpAny (model P w) (A.deeper (envOfC qual scope s.heap.objs.size f cd)) (leaving (envOfC qual scope s.heap.objs.size f cd) e) (fun _ s''=>CX outer H s E e s'') (fun e' s''=>CX outer H s E e' s'') s'
theorem Ze3 {sc:Scope} {n:Nat} {x:Str} (h:sc.names.lookup x=some .cell):∃ c,(cellsFrom n sc.names []).lookup x=some c:=by
 have q:=PySem.W.cellsFrom_some sc.names n [] (.inl h)
 exact Option.isSome_iff_exists.mp q
theorem Zhw {CX:CXT} {P:Program} {w:World} {K:PySem.W.Frag} {mg:Str->Option Value} {base:Heap} {N ps:List Str} {qual:Str} {scope:Scope} {f:Addr} {cd:Value} {A:Around} {outer:List Env} {s s1:Shared} {H:Hp} {E:XK} {us:List Value} {vs:List V}
  (S:Zs N ps scope) (hd:A.handled=none) (e0:ZjX P w K mg base A outer s H) (hl:vs.length=ps.length) (r:Vals vs us)
  (x:InCallC s s.heap.objs.size (bindL (envOfC qual scope s.heap.objs.size f cd).kindOf (ps.zip us) fun _=>none) (cellsFrom (s.heap.objs.size+1) scope.names []) (bindC (envOfC qual scope s.heap.objs.size f cd).kindOf (ps.zip us) fun _=>none) s1) :
  Inv (ZhA CX P w K mg base N qual scope f cd A outer s H E) [] (start N vs) H s1:=by
 have hpl:ps.length<=N.length:=by have:=congrArg List.length S.pre; rw [QAt] at this; omega
 obtain ⟨h1,tk,rfl,hk⟩:=x.done
 have noA:∀ b:Addr,b∉(ZhA CX P w K mg base N qual scope f cd A outer s H E).ex:=fun b z=>absurd (show b∈([]:List Addr) from z) (by simp)
 refine ⟨⟨e0.mod,S.kind,rfl,rfl,QAc _,fun y z c h1 h2=>?_,fun y hy=>?_,fun y c _ h=>?_,fun _=>hd,Around.frames_deeper e0.frames,.inr ⟨rfl,rfl⟩,fun b z=>absurd z (noA b),e0.bs,e0.bsz,fun b _ _=>noA b,fun b z=>absurd z (noA b),e0.funs,e0.frf⟩,
  rfl,e0.bare,Un.kept hk,⟨_,x.toInCall.ns,fun i y v h1 h2 h3=>?_⟩,fun y c h=>⟨_,x.cell y c h⟩,e0.hok.fresh (QAc _),fun y c h=>?_,fun p hp=>absurd (show p∈([]:List (Addr × Obj)) from hp) (by simp),e0.hok.kept hk,?_⟩
 ·exact name_of_addr x.apart (PySem.mem_of_lookup h1) (PySem.mem_of_lookup h2)
 ·have hy:scope.names.lookup y=some .cell\/scope.names.lookup y=some .free:=hy
  rcases hy with hy | hy
  ·exact Ze3 hy
  ·exact absurd rfl (S.nofree _ (PySem.mem_of_lookup hy))
 ·exact QBw (x.above y c (PySem.mem_of_lookup h))
 ·have hi:i<vs.length:=by
   unfold start at h2
   by_cases hi:i<vs.length
   ·exact hi
   ·rw [QCt (by simpa using hi)] at h2
    rw [List.getElem?_replicate] at h2
    split at h2 <;> cases h2
  have ha:vs[i]? = some v:=by
   unfold start at h2
   rw [QCo (by simpa using hi),QAe] at h2
   cases e:vs[i]? with
   | none=>rw [e] at h2; cases h2
   | some a=>rw [e] at h2; cases h2; rfl
  obtain ⟨u,hu,rv⟩:=r.get ha
  have hp:ps[i]? = some y:=by
   rw [<- S.pre,List.getElem?_take_of_lt (by exact Om.a2 ‹_› ‹_›)]; exact h1
  have ndP:ps.Nodup:=by rw [<- S.pre]; exact S.nd.sublist (List.take_sublist _ _)
  refine ⟨u,rv,?_⟩
  rcases S.par y (QAu hp) with k | k
  ·exact .inl ⟨k,Zdo ndP hp hu k⟩
  ·obtain ⟨c,e⟩:=Ze3 (n:=s.heap.objs.size+1) k
   refine .inr ⟨.inl k,c,e,?_⟩
   have q:=x.cell y c e
   rw [Zdq ndP hp hu (by show scope.names.lookup y≠_; rw [k]; decide)] at q
   exact q
 ·exact e0.hok.fresh (QBw (x.above y c (PySem.mem_of_lookup h)))
 ·unfold start
  show _=N.length
  rw [QAn,QAa,List.length_replicate]
  exact Om.k511 hl hpl
theorem ZlH {CX:CXT} {P:Program} {w:World} {K:PySem.W.Frag} {mg:Str->Option Value} {base:Heap} {k:Nat} {f:Addr} {name qual:Str} {params:Arguments} {body:List Stmt} {scope:Scope} {dV kV doc pm cdv ct oc:Value} {an od:Option Addr}
  {osl:Array (Option Value)} {N ps:List Str} {sp:Sp} (lk:K.lookup f=some ⟨oc,od,.func (PySem.W.fnOf name qual params body scope dV kV doc pm an cdv ct),osl⟩) (hcd:PySem.W.codeIn K cdv qual=true) (S:Zs N ps scope)
  (len:∀ vs H Q E,sp vs H Q E->vs.length=ps.length)
  (hbody:∀ (A:Around) (outer:List Env) (s:Shared) (H:Hp) (vs:List V) (Q:VK) (E:XK),Room k (A.deeper (envOfC qual scope s.heap.objs.size f cdv))->sp vs H Q E ->
   ∃ t,PSs (ZhA CX P w K mg base N qual scope f cdv A outer s H E) body t/\t { nx:=fun _ H'=>Q .non H',rt:=Q } (start N vs) H) :
  FnOk P w K mg base CX (k+1) f (PySem.W.fnOf name qual params body scope dV kV doc pm an cdv ct) ps sp:=by
 refine ⟨len,fun A outer s H args us vs Q E hr e0 hb r hsp=>?_⟩
 have hl:=len _ _ _ _ hsp
 have KX:K.In s.heap:=e0.mod.kin.keeps fun b o e=>(e0.bs b o e).1
 have lim:s.heap.NoLimit:=e0.mod.nolimit.keeps fun b o e=>(e0.bs b o e).1
 have hkind:∀ y∈ps.zip us,scope.names.lookup y.1=some .local\/(scope.names.lookup y.1=some .cell/\((cellsFrom (s.heap.objs.size+1) scope.names []).lookup y.1).isSome=true):=fun ⟨n,v⟩ hy=>by
  rcases S.par n (List.of_mem_zip hy).1 with q | q
  ·exact .inl q
  ·exact .inr ⟨q,PySem.W.cellsFrom_some _ _ _ (.inl q)⟩
 refine codeAny_call_function hr.depth (KX _ _ lk) rfl S.co S.gen rfl (PySem.W.codeRec_of KX hcd) (hb _ _ _ _ ?_)
 refine wpAny_newFunctionEnv_cells S.kind hkind fun env he s1 x=>?_
 subst he
 refine ⟨lim.keeps x.toInCall.keep,codeAny_func ?_⟩
 obtain ⟨t,ht,hq⟩:=hbody A outer s H vs Q E (hr.deeper _) hsp
 have I:Inv (ZhA CX P w K mg base N qual scope f cdv A outer s H E) [] (start N vs) H s1:=Zhw S hr.hd e0 hl r x
 refine wpAny_mono (ht [] s1 (start N vs) H _ I hq) (fun fl s' hs=>?_) fun e s' hs=>hs
 have fin:∀ {σ':St} {H':Hp} {v:V} {u:Value},Inv (ZhA CX P w K mg base N qual scope f cdv A outer s H E) [] σ' H' s'->RelV v u->Q v H'->CE outer P w H s Q u s' :=
  fun {σ' H' v u} J rv q=>⟨v,H',J.os,J.bare,J.base,J.hok,rv,q⟩
 cases fl with
 | ret u =>
  obtain ⟨v,σ',H',J,rv,q⟩:=hs
  exact fin J rv q
 | next =>
  obtain ⟨σ',H',J,q⟩:=hs
  exact fin (v:=V.non) (u:=Value.none) J rfl q
 | brk =>
  obtain ⟨_,_,_,q⟩:=hs
  exact False.elim q
 | cont =>
  obtain ⟨_,_,_,q⟩:=hs
  exact False.elim q
end L2
namespace L2
open PySem PySem.Spec PyProof.Rows
section
variable {X:Cx} {x:Str} {p pos:Pos} {e:Expr} {es:List Expr} {t:TA} {id T:String} {r:List V->Hp->VK->Prop}
noncomputable def tCB (r:List V->Hp->VK->Prop) (t:TA):TE:=fun σ H Q=>t σ H fun vs H1=>r vs H1 Q
theorem Zu (hc:Jh X (.builtin id) r) (hg:Gl X x) (hm:X.mg x=none) (hv:bootBuiltins x=some (.builtin id)) (ha:PA X (e::es) t) (hn:x ≠ "__name__":=by decide) (hdb:(x==("__debug__" : Str))=false:=by decide)
  (he:starEach (e::es) X.env=(false,eval e X.env)::starEach es X.env:=by rfl) (hpl:(backTo pos (starEach es X.env)).any (·.1)=false:=by rfl):PE X (.Call (.Name x p) (e::es) [] pos) (tCB r t):=by
 intro pins s σ H Q I h
 refine wpAny_Call_Name_kw (Zcn I hg hm hv ?_ hn hdb)
 exact PyProof.Rows.callWith_builtin1 (thn (ha pos pins s σ H _ I h) fun us s1 zz0=> by obtain ⟨vs,H1,I1,r1,q1⟩ := zz0; exact hc pins s1 σ H1 vs us Q I1 r1 q1) he hpl
theorem Zx (hc:Jh X (.type T) r) (hg:Gl X x) (hm:X.mg x=none) (hv:bootBuiltins x=some (.type T)) (ha:PA X (e::es) t) (hn:x ≠ "__name__":=by decide) (hdb:(x==("__debug__" : Str))=false:=by decide)
  (he:starEach (e::es) X.env=(false,eval e X.env)::starEach es X.env:=by rfl) (hpl:(backTo pos (starEach es X.env)).any (·.1)=false:=by rfl):PE X (.Call (.Name x p) (e::es) [] pos) (tCB r t):=by
 intro pins s σ H Q I h
 refine wpAny_Call_Name_kw (Zcn I hg hm hv ?_ hn hdb)
 exact PyProof.Rows.callWith_type1 (thn (ha pos pins s σ H _ I h) fun us s1 zz0=> by obtain ⟨vs,H1,I1,r1,q1⟩ := zz0; exact hc pins s1 σ H1 vs us Q I1 r1 q1) he hpl
end
end L2
namespace HT
open PySem PyProof.Rows
noncomputable def lexLt:List Int->List Int->Bool
 | [],[]=>false
 | [],_::_=>true
 | _::_,[]=>false
 | x::xs,y::ys=>if x=y then lexLt xs ys else decide (x<y)
section
open PySem.SeqAt
open PySem.AutoSeq1 (wpAny_loadPart')
open PySem.MeetsSeq PySem.MeetsSeq2 PySem.MeetsSeq3
end
section
variable {prog:Program} {w:World} {A:Around} {E:Value->Shared->Prop} {s:Shared}
theorem cat_tup {t b:Addr} {vs ws:List Value} {Q:Value->Shared->Prop} (ht:IsTup s.heap t vs.toArray) (hb:IsTup s.heap b ws.toArray) (hv:vs≠[])
  (h1:ws=[]->Q (.ref t) s) (h2:ws≠[]->Q (.ref s.heap.objs.size) { s with heap:=s.heap.push { cls:=.type "tuple",data:=.seq (vs++ws).toArray } })
  (hsz:vs.length+ws.length<=sizeLine):wpAny (model prog w) A (binaryOp .Add (.ref t) (.ref b)) Q E s:=by
 obtain ⟨⟨cls,dd,data,sl⟩,ho,hc,n,hd⟩:=id ht
 obtain ⟨⟨cls2,dd2,data2,sl2⟩,ho2,hc2,n2,hd2⟩:=id hb
 simp only at hc hd hc2 hd2
 subst hc hd hc2 hd2
 have e:vs.toArray++ws.toArray=(vs++ws).toArray:=by simp
 by_cases hw:ws=[]
 ·exact concat_meets ⟨_,ho,rfl⟩ ⟨_,ho2,rfl⟩ noFill_tuple_add seq_tuple_add PySem.F.slot_tuple_add PySem.F.entry_tuple_add (PySem.F.args_tuple_add_2 _ _)
   (tuple_addW1 t b vs.toArray ws.toArray n n2 dd dd2 sl sl2 (by simpa using hv) (by simp [hw])) ⟨ho,ho2,h1 hw⟩
 ·refine concat_meets ⟨_,ho,rfl⟩ ⟨_,ho2,rfl⟩ noFill_tuple_add seq_tuple_add PySem.F.slot_tuple_add PySem.F.entry_tuple_add (PySem.F.args_tuple_add_2 _ _)
   (tuple_addW2 t b vs.toArray ws.toArray n n2 dd dd2 sl sl2 (by simpa using hv) (by simpa using hw) (by rw [QAg,QAg]; exact hsz)) ⟨ho,ho2,?_⟩
  rw [e]
  exact h2 hw
noncomputable def sIx (n d:Nat):Option Int->Nat
 | none=>d
 | some v=>if v<0 then (v+(n:Int)).toNat else min v.toNat n
theorem sIx_none (n d:Nat):sIx n d none=d:=rfl
theorem sIx_nat (n d k:Nat):sIx n d (some (k:Int))=min k n:=by
 show (if (k:Int)<0 then ((k:Int)+(n:Int)).toNat else min (k:Int).toNat n)=min k n
 rw [if_neg (by exact Om.k510 ),QAf]
end
end HT
namespace L2
open PySem PySem.Spec PyProof.Rows
noncomputable abbrev TO:=St->Hp->(Option Int->Hp->Prop)->Prop
noncomputable def PO (X:Cx) (e:Option Expr) (t:TO):Prop :=
 ∀ (pins:List (Addr × Obj)) (s:Shared) (σ:St) (H:Hp) (Q:Option Int->Hp->Prop),Inv X pins σ H s->t σ H Q ->
  wpAny (model X.prog X.w) X.A (evalPart e X.env) (fun u s'=>∃ o H',Inv X pins σ H' s'/\IsPart u o/\Q o H') X.xe s
noncomputable def Zi4:TO:=fun _ H Q=>Q none H
noncomputable def Zlf (t:TE):TO:=fun σ H Q=>t σ H fun x H1=>∃ i,x = .int i/\Q (some i) H1
theorem Y5 {ns:List Int}:∀ {us:List Value},Vals (ns.map V.int) us->IntsAre us ns:=by
 induction ns with
 | nil=>intro us r; rw [List.map_nil] at r; cases r; exact .nil
 | cons n ns ih =>
  intro us r
  rw [QAr] at r
  cases r with
  | cons r1 r2 =>
   obtain ⟨t,e⟩:=r1
   subst e
   exact .cons n t (ih r2)
section
variable {X:Cx} {e:Expr} {te:TE} {lo hi:Option Expr} {tl th:TO} {pos p2:Pos}
theorem Zav:PO X none Zi4:=by
 intro pins s σ H Q I h
 rw [evalPart_none]
 exact wpAny_pure ⟨none,H,I,.none,h⟩
theorem Zau (h:PE X e te):PO X (some e) (Zlf te):=by
 intro pins s σ H Q I hw
 rw [evalPart_some]
 refine thn (h pins s σ H _ I hw) fun u s1 zz0=>?_
 obtain ⟨x,H1,I1,r1,q1⟩:=zz0
 obtain ⟨i,rfl,q⟩:=q1
 obtain ⟨t,rfl⟩:=r1
 exact ⟨some i,H1,I1,.int i t,q⟩
noncomputable def SlR (X:Cx) (r:V->Option Int->Option Int->Hp->VK->Prop):Prop :=
 ∀ (pins:List (Addr × Obj)) (s:Shared) (σ:St) (H:Hp) (x:V) (v vl vu:Value) (lo hi:Option Int) (sl:Addr) (Q:VK),Inv X pins σ H s->RelV x v->s.heap.IsSliceOf sl vl vu .none->IsPart vl lo->IsPart vu hi->r x lo hi H Q ->
  ∃ T id,typeLookup (.type T) "__getitem__" = pure (some (.builtin id))/\s.TypeIs v T/\wpAny (model X.prog X.w) X.A (getItem v (.ref sl)) (EP X pins σ Q) X.xe s
noncomputable def tSl (r:V->Option Int->Option Int->Hp->VK->Prop) (te:TE) (tl th:TO):TE:=fun σ H Q=>te σ H fun x H1=>tl σ H1 fun l H2=>th σ H2 fun u H3=>r x l u H3 Q
theorem JO {r:V->Option Int->Option Int->Hp->VK->Prop} (hr:SlR X r) (he:PE X e te) (hl:PO X lo tl) (hu:PO X hi th):PE X (.Subscript e (.Slice lo hi none p2) pos) (tSl r te tl th):=by
 intro pins s σ H Q I h
 refine Subscript_ (thn (he pins s σ H _ I h) fun v s1 zz0=>?_)
 obtain ⟨x,H1,I1,r1,q1⟩:=zz0
 refine wpAny_Slice (thn (hl pins s1 σ H1 _ I1 q1) fun vl s2 ⟨l,H2,I2,pl,q2⟩=>thn (hu pins s2 σ H2 _ I2 q2) fun vu s3 zz0=>?_)
 obtain ⟨u,H3,I3,pu,q3⟩:=zz0
 rw [evalPart_none]
 refine wpAny_pure ?_
 have I4:Inv X pins σ H3 { s3 with heap:=s3.heap.push { cls:=.type "slice",data:=.fields #[vl,vu,.none] } }:=I3.kept (t':=s3.toks) fun b ob q=>QAk _ q
 obtain ⟨T,id,hT,ht,hg⟩:=hr pins { s3 with heap:=s3.heap.push { cls:=.type "slice",data:=.fields #[vl,vu,.none] } } σ H3 x v vl vu l u s3.heap.objs.size Q I4 r1 (Heap.IsSliceOf.new ..) pl pu q3
 show wpAny (model X.prog X.w) X.A (subscriptTail e (.Slice lo hi none p2) v (.ref s3.heap.objs.size)) (EP X pins σ Q) X.xe { s3 with heap:=s3.heap.push { cls:=.type "slice",data:=.fields #[vl,vu,.none] } }
 exact tail_any (ops:=[.ref s3.heap.objs.size,v]) ht hT hg (by with_unfolding_all rfl)
noncomputable def Ze0 (xs:List V) (lo hi:Option Int):List V:=(xs.drop (HT.sIx xs.length 0 lo)).take (HT.sIx xs.length xs.length hi - HT.sIx xs.length 0 lo)
theorem ZeZ (xs:List V) (lo hi:Option Int):(Ze0 xs lo hi).length<=xs.length:=by
 unfold Ze0
 rw [QAt,QBn]
 exact Om.k509 
noncomputable def Zlw (K:PySem.W.Frag):R2:=fun x y H Q=>∃ a b xs ys,x = .ref a/\y = .ref b/\SqT K H a xs/\SqT K H b ys/\xs≠[]/\xs.length+ys.length<=sizeLine /\
 (ys=[]->Q (.ref a) H)/\(ys≠[]->∀ p,H p=none->Q (.ref p) (upd H p (.tup (xs++ys))))
theorem Vals.nil_iff {xs:List V} {us:List Value} (r:Vals xs us):us=[]↔xs=[]:=by
 cases r with
 | nil=>simp
 | cons _ _=>simp
theorem Zjl:OpR X (binaryOp .Add) (Zlw X.K):=by
 intro pins s σ H x y v u Q I rx ry h
 obtain ⟨a,b,xs,ys,rfl,rfl,ha,hb,hx,hz,q1,q2⟩:=h
 cases rx
 cases ry
 obtain ⟨its,r1,p1,_⟩:=I.tuple ha
 obtain ⟨its2,r2,p2,_⟩:=I.tuple hb
 refine HT.cat_tup p1 p2 (fun z=>hx (r1.nil_iff.mp z)) (fun z=>⟨.ref a,H,I,rfl,q1 (r2.nil_iff.mp z)⟩) (fun z=>?_) (by rw [<- r1.length,<- r2.length]; exact hz)
 refine ⟨.ref s.heap.objs.size,_,I.laid (t':=s.toks) (o:=.tup (xs++ys)) (fun b ob q=>QAk _ q) (QAc _) ?_,rfl,q2 (fun w=>z (r2.nil_iff.mpr w)) _ (I.hok.fresh (QAc _))⟩
 exact ⟨by rw [QAn]; exact hz,_,r1.append r2,IsTupN.new _ _⟩
end
end L2
namespace L2
open PySem PySem.Spec PyProof.Rows
noncomputable def ixN (n:Nat) (i:Int):Option Nat:=if 0<=i then (if i<n then some i.toNat else none) else if -(n:Int)<=i then some (i+n).toNat else none
noncomputable def atI {α:Type} (xs:List α) (i:Int):Option α:=(ixN xs.length i).bind fun j=>xs[j]?
theorem ZgR {n:Nat} {i:Int} {j:Nat} (h:ixN n i=some j):seqIndex? i n=some j/\j<n /\ -(n:Int)<=i/\i<n:=by
 unfold ixN at h
 by_cases h0:0<=i
 ·rw [if_pos h0] at h
  by_cases h1:i<n
  ·rw [if_pos h1] at h
   have e:i.toNat=j:=Option.some.inj h
   exact ⟨by rw [seqIndex_of h0 h1,e],by exact Om.k508 h0 h1 e,by exact Om.k507 h0,h1⟩
  ·rw [if_neg h1] at h; cases h
 ·rw [if_neg h0] at h
  by_cases h1 : -(n:Int)<=i
  ·rw [if_pos h1] at h
   have e:(i+n).toNat=j:=Option.some.inj h
   exact ⟨by rw [seqIndex_neg (by exact Om.k500 h0) h1,e],by exact Om.k506 h0 h1 e,h1,by exact Om.k505 h0 h1⟩
  ·rw [if_neg h1] at h; cases h
theorem Zg4 {α:Type} {xs:List α} {i:Int} {v:α} (h:atI xs i=some v):∃ j,seqIndex? i xs.length=some j/\xs[j]? = some v/\j<xs.length /\ -(xs.length:Int)<=i/\i<xs.length:=by
 unfold atI at h
 cases e:ixN xs.length i with
 | none=>rw [e] at h; cases h
 | some j =>
  rw [e] at h
  obtain ⟨h1,h2,h3,h4⟩:=ZgR e
  exact ⟨j,h1,h,h2,h3,h4⟩
theorem ZjS {α:Type} {xs:List α} {j:Nat} {v:α} (h:xs[j]? = some v):atI xs (j:Int)=some v:=by
 have hj:j<xs.length:=(List.getElem?_eq_some_iff.mp h).1
 have e:ixN xs.length (j:Int)=some j:=by
  unfold ixN
  rw [if_pos (by exact Om.c6),if_pos (by exact Om.c5 ‹_›)]; simp
 unfold atI; rw [e]; exact h
noncomputable def ZjV (b:Expr):Prop:=∀ o i,subscripted b false o i=operate [o,i] (getItem o i)
noncomputable def IxR (X:Cx) (r:R2):Prop :=
 ∀ (value slice:Expr) (pins:List (Addr × Obj)) (s:Shared) (σ:St) (H:Hp) (x y:V) (v u:Value) (Q:VK),Inv X pins σ H s->RelV x v->RelV y u->r x y H Q ->
  subscripted slice false v u=operate [v,u] (getItem v u)->wpAny (model X.prog X.w) X.A (subscriptTail value slice v u) (EP X pins σ Q) X.xe s
noncomputable def MtR (X:Cx) (id:String) (r:V->List V->Hp->VK->Prop):Prop :=
 ∀ (pins:List (Addr × Obj)) (s:Shared) (σ:St) (H:Hp) (x:V) (xs:List V) (v:Value) (us:List Value) (Q:VK),Inv X pins σ H s->RelV x v->Vals xs us->r x xs H Q ->
  wpAny (model X.prog X.w) X.A (call (.builtin id) (v::us)) (EP X pins σ Q) X.xe s
section
variable {X:Cx} {a b:Expr} {ta tb:TE} {pos:Pos}
theorem ZQ {r:R2} (hr:IxR X r) (ha:PE X a ta) (hb:PE X b tb) (hs:ZjV b):PE X (.Subscript a b pos) (tOp r ta tb):=by
 intro pins s σ H Q I h
 exact Subscript_ (Zk5 ha hb I h fun v u s2 x y H2 I2 rx ry q=>hr a b pins s2 σ H2 x y v u Q I2 rx ry q (hs _ _))
inductive Zke (K:PySem.W.Frag) (x:V) (y:V) (H:Hp) (Q:VK):Prop where
 | mk (p:Addr) (xs:List V) (i:Int) (v:V) (_:x = .ref p) (_:y = .int i) (_:SqL K H p xs) (_:atI xs i=some v) (_:Q v H):Zke K x y H Q
noncomputable def Zlv (K:PySem.W.Frag):R2:=fun x y H Q=>Zke K x y H Q
inductive Zkd (K:PySem.W.Frag) (x:V) (y:V) (H:Hp) (Q:VK):Prop where
 | mk (p:Addr) (xs:List V) (i:Int) (v:V) (_:x = .ref p) (_:y = .int i) (_:SqT K H p xs) (_:atI xs i=some v) (_:Q v H):Zkd K x y H Q
noncomputable def Zlu (K:PySem.W.Frag):R2:=fun x y H Q=>Zkd K x y H Q
theorem YG:IxR X (Zlv X.K):=by
 intro value slice pins s σ H x y v u Q I rx ry h hs
 obtain ⟨p,xs,i,z,rfl,rfl,hq,he,q⟩:=h
 cases rx
 obtain ⟨t,rfl⟩:=ry
 obtain ⟨its,r,pl,hz⟩:=I.list hq
 obtain ⟨j,h1,h2,h3,h4,h5⟩:=Zg4 he
 obtain ⟨w,ew,rw'⟩:=r.get h2
 have hl:=r.length
 have hn:=Zbm
 have fin:EP X pins σ Q w s:=⟨z,H,I,rw',q⟩
 by_cases h0:0<=i
 ·have hj:i.toNat=j:=by
   rw [seqIndex_of h0 h5] at h1
   exact Option.some.inj h1
  exact item_listR pl.isList h0 (by exact Om.k501 hz h5 hl hn) (by rw [hj]; simpa using ew) fin hs
 ·have hj:(i+(its.toArray.size:Int)).toNat=j:=by
   rw [seqIndex_neg (by exact Om.k500 h0) h4] at h1
   rw [QAg,<- hl]
   exact Option.some.inj h1
  exact subscriptTail_builtinR (x:=w) pl.isList.typeIs slot_list_getitem.lookup
   (wpAny_getItem_list_neg (Q:=fun r s'=>r=w/\EP X pins σ Q r s') pl.isList (by exact Om.k500 h0) (by rw [QAg] <;> exact Om.k504 h4 hl) (by exact Om.k499 hz h4 hl hn) (by rw [hj]; simpa using ew) ⟨rfl,fin⟩) hs
theorem Zak:IxR X (Zlu X.K):=by
 intro value slice pins s σ H x y v u Q I rx ry h hs
 obtain ⟨p,xs,i,z,rfl,rfl,hq,he,q⟩:=h
 cases rx
 obtain ⟨t,rfl⟩:=ry
 obtain ⟨its,r,pl,hz⟩:=I.tuple hq
 obtain ⟨j,h1,h2,h3,h4,h5⟩:=Zg4 he
 obtain ⟨w,ew,rw'⟩:=r.get h2
 have hl:=r.length
 have hn:=Zbm
 have fin:EP X pins σ Q w s:=⟨z,H,I,rw',q⟩
 exact subscriptTail_builtinR (x:=w) pl.typeIs slot_tuple_getitem.lookup
  (getItem_tuple (j:=j) (Q:=fun r s'=>r=w/\EP X pins σ Q r s') pl (by exact Om.k503 hz h3 h4 hl hn) (by exact Om.k502 hz h3 h5 hl hn) (by rw [QAg,<- hl]; exact h1) (by simpa using ew) ⟨rfl,fin⟩) hs
theorem Zf6 (its:List Value) (n j:Nat) (u:Value):Obj.mapSeq (·.setIfInBounds j u) { cls:=.type "list",data:=.seq its.toArray n }={ cls:=.type "list",data:=.seq (its.set j u).toArray n }:=by
 simp [Obj.mapSeq]
theorem Inv.lst {pins:List (Addr × Obj)} {σ:St} {H:Hp} {s:Shared} {p:Addr} {xs:List V} (I:Inv X pins σ H s) (h:H p=some (.lst xs)) :
  ∃ (its:List Value) (n:Nat),Vals xs its/\s.heap.get? p=some { cls:=.type "list",data:=.seq its.toArray n }/\xs.length<=sizeLine:=by
 obtain ⟨z,its,n,r,e⟩:=I.hok p _ h
 exact ⟨its,n,r,e,z⟩
theorem Inv.lstUpd {pins:List (Addr × Obj)} {σ:St} {H:Hp} {s:Shared} {p:Addr} {xs ys:List V} {its its':List Value} {n n':Nat} {f:Obj->Obj} (I:Inv X pins σ H s) (h:H p=some (.lst xs))
  (ho:s.heap.get? p=some { cls:=.type "list",data:=.seq its.toArray n }) (hf:f { cls:=.type "list",data:=.seq its.toArray n }={ cls:=.type "list",data:=.seq its'.toArray n' }) (r:Vals ys its') (hz:ys.length<=sizeLine) (t:Nat) :
  Inv X pins σ (upd H p (.lst ys)) { s with heap:=s.heap.update p f,toks:=t }:=by
 have e:(s.heap.update p f).get? p=some { cls:=.type "list",data:=.seq its'.toArray n' }:=by
  rw [Heap.get?_update_self f ho (by rw [hf] <;> rfl),hf]
 refine I.write (x:=p) (e:=p) (by rw [h]; trivial) (.inl rfl) (fun b u hb q=>(QDv _ _ (Ne.symm hb)).trans q) ⟨_,e⟩ ?_
 exact ⟨hz,its',n',r,e⟩
noncomputable def Zls:V->V->V->Hp->(Hp->Prop)->Prop:=fun o i v H Q=>∃ p xs k j,o = .ref p/\i = .int k/\H p=some (.lst xs)/\ixN xs.length k=some j/\Q (upd H p (.lst (xs.set j v)))
theorem ZbW:ZlQ X Zls:=by
 intro pins s σ H o i v ov iv u Q I ro ri rv h
 obtain ⟨p,xs,k,j,rfl,rfl,hp,hj,q⟩:=h
 cases ro
 obtain ⟨t,rfl⟩:=ri
 obtain ⟨its,n,r,ho,hz⟩:=I.lst hp
 obtain ⟨h1,h2,h3,h4⟩:=ZgR hj
 have hl:=r.length
 have hn:=Zbm
 have I':Inv X pins σ (upd H p (.lst (xs.set j v))) { s with heap:=s.heap.update p (Obj.mapSeq (·.setIfInBounds j u)) } :=
  I.lstUpd hp ho (Zf6 its n j u) (r.set rv j) (by rw [QCu]; exact hz) s.toks
 by_cases h0:0<=k
 ·have hk:k.toNat=j:=by
   rw [seqIndex_of h0 h4] at h1
   exact Option.some.inj h1
  exact PySem.W.ki_setAt ho h0 (by exact Om.k501 hz h4 hl hn) (by rw [QAg,<- hl]; exact h4) (by rw [hk]; exact ⟨_,I',q⟩)
 ·have hk:(k+(its.toArray.size:Int)).toNat=j:=by
   rw [seqIndex_neg (by exact Om.k500 h0) h3] at h1
   rw [QAg,<- hl]
   exact Option.some.inj h1
  exact PySem.W.ki_setBack ho (by exact Om.k500 h0) (by rw [QAg,<- hl]; exact h3) (by exact Om.k499 hz h3 hl hn) (by rw [hk]; exact ⟨_,I',q⟩)
theorem ZdP (lo hi:Option Int) (n:Nat):(sliceBounds lo hi none n).1=((HT.sIx n 0 lo:Nat):Int)/\(sliceBounds lo hi none n).2.1=((HT.sIx n n hi:Nat):Int)/\(sliceBounds lo hi none n).2.2=1:=by
 refine ⟨?_,?_,rfl⟩
 ·cases lo with
  | none=>simp [sliceBounds,HT.sIx]
  | some i =>
   simp only [sliceBounds,HT.sIx,Option.getD_none,show (1:Int)>0 by decide,if_true]
   by_cases h:i<0
   ·simp only [h,if_true] <;> exact Om.k498 h
   ·simp only [h,if_false] <;> exact Om.k497 h
 ·cases hi with
  | none=>simp [sliceBounds,HT.sIx]
  | some i =>
   simp only [sliceBounds,HT.sIx,Option.getD_none,show (1:Int)>0 by decide,if_true]
   by_cases h:i<0
   ·simp only [h,if_true] <;> exact Om.k498 h
   ·simp only [h,if_false] <;> exact Om.k497 h
theorem ZcH (its:List Value) (lo hi:Option Int):slicePick its.toArray lo hi none=((its.drop (HT.sIx its.length 0 lo)).take (HT.sIx its.length its.length hi - HT.sIx its.length 0 lo)).toArray:=by
 obtain ⟨h1,h2,h3⟩:=ZdP lo hi its.toArray.size
 unfold slicePick
 rw [h1,h2,h3]
 simp only [sliceRange_one,pick_run,QAg] <;> rfl
noncomputable def Zlr (K:PySem.W.Frag):V->Option Int->Option Int->Hp->VK->Prop:=fun x lo hi H Q=>∃ a xs,x = .ref a/\SqL K H a xs/\∀ p,H p=none->Q (.ref p) (upd H p (.lst (Ze0 xs lo hi)))
theorem ZaP:SlR X (Zlr X.K):=by
 intro pins s σ H x v vl vu lo hi sl Q I rx hs pl pu h
 obtain ⟨a,xs,rfl,hx,q⟩:=h
 cases rx
 obtain ⟨its,r,ht,hz⟩:=I.list hx
 have hlen:=r.length
 refine ⟨"list",_,slot_list_getitem.lookup,ht.isList.typeIs,?_⟩
 refine wpAny_getItem_list_slice ht.isList hs pl pu .none (by simp) ?_ (by rw [QAg] <;> exact Om.y2 ‹_› ‹_› rfl)
 rw [ZcH,<- hlen]
 refine ⟨.ref s.heap.objs.size,_,I.laid (t':=s.toks) (o:=.lst (Ze0 xs lo hi)) (fun b ob q=>QAk _ q) (QAc _) ?_,rfl,q _ (I.hok.fresh (QAc _))⟩
 exact ⟨QAq (ZeZ xs lo hi) hz,_,0,(r.drop (HT.sIx xs.length 0 lo)).take (HT.sIx xs.length xs.length hi - HT.sIx xs.length 0 lo),QAx _ rfl⟩
noncomputable def Yb:V->Bool
 | .non=>true
 | .bl _=>true
 | .int _=>true
 | .str _=>true
 | _=>false
noncomputable def eqV:V->V->Bool
 | .non,.non=>true
 | .bl a,.bl b=>a==b
 | .bl a,.int b=>(if a then 1 else 0)==b
 | .int a,.bl b=>a==(if b then 1 else 0)
 | .int a,.int b=>a==b
 | .str a,.str b=>a==b
 | _,_=>false
theorem Zgf {A:Around} {s:Shared} {y x:V} {u v:Value} (ry:RelV y u) (rx:RelV x v) (fy:Yb y=true) (fx:Yb x=true):SeqAt.EqAt A s u v (eqV y x):=by
 cases y with
 | non =>
  cases ry
  cases x with
  | non=>cases rx; exact SeqAt.EqAt.same _
  | bl b=>cases rx; exact SeqAt.EqAt.none_bool b
  | int b=>obtain ⟨t,rfl⟩:=rx; exact SeqAt.EqAt.none_int b t
  | str b=>obtain ⟨t,rfl⟩:=rx; exact SeqAt.EqAt.none_str b t
  | _=>exact absurd (show false=true from fx) QAl
 | bl a =>
  cases ry
  cases x with
  | non=>cases rx; exact SeqAt.EqAt.bool_none a
  | bl b=>cases rx; exact SeqAt.EqAt.bool_bool a b
  | int b=>obtain ⟨t,rfl⟩:=rx; exact SeqAt.EqAt.bool_int a b t
  | str b=>obtain ⟨t,rfl⟩:=rx; exact SeqAt.EqAt.bool_str a b t
  | _=>exact absurd (show false=true from fx) QAl
 | int a =>
  obtain ⟨t',rfl⟩:=ry
  cases x with
  | non=>cases rx; exact SeqAt.EqAt.int_none a t'
  | bl b=>cases rx; exact SeqAt.EqAt.int_bool a t' b
  | int b=>obtain ⟨t,rfl⟩:=rx; exact SeqAt.EqAt.int_int a t' b t
  | str b=>obtain ⟨t,rfl⟩:=rx; exact SeqAt.EqAt.int_str a t' b t
  | _=>exact absurd (show false=true from fx) QAl
 | str a =>
  obtain ⟨t',rfl⟩:=ry
  cases x with
  | non=>cases rx; exact SeqAt.EqAt.str_none a t'
  | bl b=>cases rx; exact SeqAt.EqAt.str_bool a t' b
  | int b=>obtain ⟨t,rfl⟩:=rx; exact SeqAt.EqAt.str_int a t' b t
  | str b=>obtain ⟨t,rfl⟩:=rx; exact SeqAt.EqAt.str_str a t' b t
  | _=>exact absurd (show false=true from fx) QAl
 | _=>exact absurd (show false=true from fy) QAl
noncomputable def eqU (x:V) (u:Value):Bool:=match u with
 | .none=>eqV .non x
 | .bool b=>eqV (.bl b) x
 | .int i _=>eqV (.int i) x
 | .str z _=>eqV (.str z) x
 | _=>false
theorem ZiL {x y:V} {u:Value} (r:RelV y u) (f:Yb y=true):eqU x u=eqV y x:=by
 cases y with
 | non=>cases r; rfl
 | bl b=>cases r; rfl
 | int i=>obtain ⟨t,rfl⟩:=r; rfl
 | str z=>obtain ⟨t,rfl⟩:=r; rfl
 | _=>exact absurd (show false=true from f) QAl
theorem Zed {x:V}:∀ {xs:List V} {us:List Value},Vals xs us->xs.all Yb=true->us.any (eqU x)=xs.any fun y=>eqV y x
 | _,_,.nil,_=>rfl
 | y::xs,u::us,.cons r t,f=>by
  rw [List.all_cons,QAw] at f
  rw [List.any_cons,List.any_cons,ZiL r f.1,Zed t f.2]
theorem Zcg {A:Around} {s:Shared} {x:V} {v:Value} (rx:RelV x v) (fx:Yb x=true):∀ {xs:List V} {us:List Value},Vals xs us->xs.all Yb=true->∀ u∈us,SeqAt.EqAt A s u v (eqU x u)
 | _,_,.nil,_=>fun u hu=>by cases hu
 | y::xs,u::us,.cons r t,f=>fun u' hu=>by
  rw [List.all_cons,QAw] at f
  rcases List.mem_cons.mp hu with rfl | hu
  ·rw [ZiL r f.1]; exact Zgf r rx f.1 fx
  ·exact Zcg rx fx t f.2 u' hu
noncomputable def inV (x:V) (xs:List V):Bool:=xs.any fun y=>eqV y x
inductive ZlO (K:PySem.W.Frag) (neg:Bool) (x:V) (y:V) (H:Hp) (Q:VK):Prop where
 | mk (p:Addr) (xs:List V) (_:y = .ref p) (_:(SqL K H p xs\/SqT K H p xs)) (_:Yb x=true) (_:xs.all Yb=true) (_:Q (.bl (if neg then !inV x xs else inV x xs)) H):ZlO K neg x y H Q
noncomputable def rIn (K:PySem.W.Frag) (neg:Bool):R2:=fun x y H Q=>ZlO K neg x y H Q
theorem ZdZ:OpR X (compareOp .NotIn) (rIn X.K true):=by
 intro pins s σ H x y v u Q I rx ry h
 obtain ⟨p,xs,rfl,hq,fx,fs,q⟩:=h
 cases ry
 rcases hq with hq | hq
 ·obtain ⟨its,r,pl,hz⟩:=I.list hq
  refine SeqAt.notIn_listAt (eqU x) pl.isList (fun w hw=>Zcg rx fx r fs w (by simpa using hw)) ⟨.bl _,H,I,rfl,?_⟩
  rw [show its.toArray.any (eqU x)=its.any (eqU x) by simp,Zed r fs]
  exact q
 ·obtain ⟨its,r,pl,hz⟩:=I.tuple hq
  refine SeqAt.notIn_tupleAt (eqU x) pl (fun w hw=>Zcg rx fx r fs w (by simpa using hw)) ⟨.bl _,H,I,rfl,?_⟩
  rw [show its.toArray.any (eqU x)=its.any (eqU x) by simp,Zed r fs]
  exact q
theorem Zeb:Jh X (.builtin "len") (fun xs H Q=>∃ p ys,xs=[.ref p]/\(SqL X.K H p ys\/SqT X.K H p ys)/\Q (.int ys.length) H):=by
 intro pins s σ H xs us Q I r h
 obtain ⟨p,ys,rfl,hq,q⟩:=h
 obtain ⟨u,rfl,rx⟩:=J5 r
 cases rx
 have hn:=Zbm
 rcases hq with hq | hq
 ·obtain ⟨its,r',pl,hz⟩:=I.list hq
  have hlen:=r'.length
  exact Calls.call_len_list pl.isList (by simp only [QAg] <;> exact Om.k496 hn hz hlen) ⟨.int ys.length,H,I.tok _,⟨s.toks+1,by rw [QAg,hlen]⟩,q⟩
 ·obtain ⟨its,r',pl,hz⟩:=I.tuple hq
  have hlen:=r'.length
  exact len_tuple pl (by simp only [QAg] <;> exact Om.k496 hn hz hlen) ⟨.int ys.length,H,I.tok _,⟨s.toks+1,by rw [QAg,hlen]⟩,q⟩
theorem Zea:Jh X (.type "list") (fun xs H Q=>∃ p ys,xs=[.ref p]/\(SqL X.K H p ys\/SqT X.K H p ys)/\∀ l,H l=none->Q (.ref l) (upd H l (.lst ys))):=by
 intro pins s σ H xs us Q I r h
 obtain ⟨p,ys,rfl,hq,q⟩:=h
 obtain ⟨u,rfl,rx⟩:=J5 r
 cases rx
 have fin:∀ (its:List Value),Vals ys its->ys.length<=sizeLine->∀ (h':Heap) (c':Nat),(∀ b o',s.heap.get? b=some o'->h'.get? b=some o') ->
   h'.get? s.heap.objs.size=some { cls:=.type "list",dict:=none,data:=.seq its.toArray c',slots:=#[] }->EP X pins σ Q (.ref s.heap.objs.size) { s with heap:=h' }:=fun its r' hz h' c' kp e =>
  ⟨.ref s.heap.objs.size,_,I.laid (t':=s.toks) kp (QAc _) (show ObjOk X.prog X.w _ h' _ (.lst ys) from ⟨hz,its,c',r',e⟩),rfl,q _ (I.hok.fresh (QAc _))⟩
 rcases hq with hq | hq
 ·obtain ⟨its,r',pl,hz⟩:=I.list hq
  have hlen:=r'.length
  obtain ⟨o,ho,hc,n,hd⟩:=pl.isList
  exact call_list_seq p (.inl rfl) ho hc hd (fun h' c' kp e=>fin its r' hz h' c' kp e) (by simp only [QAg] <;> exact Om.y2 ‹_› ‹_› rfl)
 ·obtain ⟨its,r',pl,hz⟩:=I.tuple hq
  have hlen:=r'.length
  obtain ⟨o,ho,hc,n,hd⟩:=pl
  exact call_list_seq p (.inr rfl) ho hc hd (fun h' c' kp e=>fin its r' hz h' c' kp e) (by simp only [QAg] <;> exact Om.y2 ‹_› ‹_› rfl)
theorem ZcQ:Jh X (.type "tuple") (fun xs H Q=>∃ p ys,xs=[.ref p]/\((SqL X.K H p ys/\∀ l,H l=none->Q (.ref l) (upd H l (.tup ys)))\/(SqT X.K H p ys/\Q (.ref p) H))):=by
 intro pins s σ H xs us Q I r h
 obtain ⟨p,ys,rfl,h⟩:=h
 obtain ⟨u,rfl,rx⟩:=J5 r
 cases rx
 rcases h with ⟨hq,q⟩ | ⟨hq,q⟩
 ·obtain ⟨its,r',pl,hz⟩:=I.list hq
  have hlen:=r'.length
  refine call_tuple_list pl.isList (fun h' kp=>?_) (by simp only [QAg] <;> exact Om.y2 ‹_› ‹_› rfl)
  have I1:Inv X pins σ H { s with heap:=h' }:=I.kept (t':=s.toks) kp
  have I2:Inv X pins σ (upd H h'.objs.size (.tup ys)) { s with heap:=h'.push { cls:=.type "tuple",data:=.seq its.toArray } } :=
   I1.laid (t':=s.toks) (fun b o e=>QAk _ e) (QAc _) (show ObjOk X.prog X.w _ _ _ (.tup ys) from ⟨hz,its,r',IsTupN.new _ _⟩)
  exact ⟨.ref h'.objs.size,_,I2,rfl,q _ (I1.hok.fresh (QAc _))⟩
 ·obtain ⟨its,r',pl,hz⟩:=I.tuple hq
  exact call_tuple_same pl ⟨.ref p,H,I,rfl,q⟩
noncomputable def tyV (K:PySem.W.Frag) (T:String) (x:V) (H:Hp):Prop:=match x with
 | .str _=>T = "str"
 | .int _=>T = "int"
 | .ref p=>(T = "list" /\ ∃ xs,SqL K H p xs)\/(T = "tuple" /\ ∃ o,K.lookup p=some o/\o.cls = .type "tuple" /\ o.dict=none) \/
   (T = "dict" /\ ((∃ kvs,H p=some (.dK kvs))\/∃ kvs,H p=some (.dT kvs)))\/(T = "set" /\ ∃ S n,H p=some (.set S n))
 | _=>False
theorem Zki {pins:List (Addr × Obj)} {σ:St} {H:Hp} {s:Shared} {T:String} {x:V} {v:Value} (I:Inv X pins σ H s) (r:RelV x v) (ty:tyV X.K T x H) :
  s.TypeIs v T/\∀ a,v = .ref a->∃ ob,s.heap.get? a=some ob/\ob.dict=none:=by
 cases x with
 | str z =>
  obtain ⟨t,rfl⟩:=r
  cases (show T = "str" from ty)
  exact ⟨typeIs_str s z t,fun _ e=>nomatch e⟩
 | int i =>
  obtain ⟨t,rfl⟩:=r
  cases (show T = "int" from ty)
  exact ⟨typeIs_int s i t,fun _ e=>nomatch e⟩
 | ref p =>
  cases r
  rcases ty with ⟨rfl,xs,hq⟩ | ⟨rfl,o,hk,hc,hd⟩ | ⟨rfl,hk⟩ | ⟨rfl,S,n,hk⟩
  ·obtain ⟨its,_,pl,_⟩:=I.list hq
   refine ⟨pl.isList.typeIs,fun a e=>?_⟩
   cases e
   obtain ⟨o,n,e,c,hd,_⟩:=pl
   exact ⟨o,e,hd⟩
  ·refine ⟨⟨o,I.kIn p o hk,hc⟩,fun a e=>?_⟩
   cases e
   exact ⟨o,I.kIn _ o hk,hd⟩
  ·have z:∃ o,s.heap.get? p=some o/\o.ExactDict:=by
    rcases hk with ⟨kvs,hk⟩ | ⟨kvs,hk⟩
    ·obtain ⟨_,_,_,_,o,_,_,e,ex,_⟩:=I.hok p _ hk
     exact ⟨o,e,ex⟩
    ·obtain ⟨_,_,_,_,o,_,_,e,ex,_⟩:=I.hok p _ hk
     exact ⟨o,e,ex⟩
   obtain ⟨o,e,ex⟩:=z
   refine ⟨⟨o,e,ex.1⟩,fun a e2=>?_⟩
   cases e2
   exact ⟨o,e,ex.2.1⟩
  ·obtain ⟨o,_,_,_,e,ex,_⟩:=I.hok p _ hk
   refine ⟨⟨o,e,ex.1⟩,fun a e2=>?_⟩
   cases e2
   exact ⟨o,e,ex.2.1⟩
 | _=>exact False.elim ty
noncomputable def tBM (K:PySem.W.Frag) (T:String) (r:V->List V->Hp->VK->Prop) (to:TE) (t:TA):TE:=fun σ H Q=>to σ H fun x H1=>tyV K T x H1/\t σ H1 fun xs H2=>r x xs H2 Q
variable {o e:Expr} {es:List Expr} {to:TE} {t:TA} {name:Str} {apos cpos:Pos} {T id:String} {r:V->List V->Hp->VK->Prop}
theorem Jj (pa:PlainAttrs T) (slot:Slot T name id) (hty:typeOf (.builtin id)=pure (.type "method_descriptor")) (hm:MtR X id r) (ho:PE X o to) (ha:PA X (e::es) t)
  (hbase:attributeBase o name X.env (eval o X.env)=eval o X.env:=by rfl)
  (hfew:((backTo cpos (starEach (e::es) X.env)).all (fun x=>!x.1)&&(backToKw cpos (keywordEach [] X.env)).all (fun x=>x.1.isSome)
   && decide ((e::es).length+([]:List Keyword).length+(if ([]:List Keyword).isEmpty then 0 else 1)<30))=true:=by rfl)
  (hline:(apos.endLine==cpos.line)=true:=by rfl) (hs:starEach (e::es) X.env=(false,eval e X.env)::starEach es X.env:=by rfl) (hplain:(backTo cpos (starEach es X.env)).any (·.1)=false:=by rfl) :
  PE X (.Call (.Attribute o name apos) (e::es) [] cpos) (tBM X.K T r to t):=by
 intro pins s σ H Q I h
 refine wpAny_Call_method_late hbase hfew hline rfl (thn (ho pins s σ H _ I h) fun v s1 zz0=>?_)
 obtain ⟨x,H1,I1,r1,ty,q1⟩:=zz0
 obtain ⟨h1,h2⟩:=Zki I1 r1 ty
 refine ⟨T,id,pa,slot,hty,h1,h2,?_⟩
 have hA:=ha cpos pins s1 σ H1 _ I1 q1
 rw [hs] at hA ⊢
 refine Calls.callWith_builtin (by show (false||(backTo cpos (starEach es X.env)).any (·.1))=false; rw [hplain] <;> rfl) (Calls.evalArgs_plain ?_)
 exact thn hA fun us s2 ⟨vs,H2,I2,r2,q2⟩=>hm pins s2 σ H2 x vs v us Q I2 r1 r2 q2
end
end L2
namespace L2
open PySem PySem.Spec PyProof.Rows
noncomputable def MtM (X:Cx) (id:String) (r:V->List V->Hp->VK->Prop):Prop :=
 ∀ (pins:List (Addr × Obj)) (s:Shared) (σ:St) (H:Hp) (x:V) (xs:List V) (v:Value) (us:List Value) (Q:VK),Inv X pins σ H s->RelV x v->Vals xs us->r x xs H Q ->
  wpAny (model X.prog X.w) X.A (call (.builtin id) (v::us)) (EP X pins σ Q) X.xe s
theorem Vals.one:∀ {x:V} {us:List Value},Vals [x] us->∃ u,us=[u]/\RelV x u
 | _,_,.cons r .nil=>⟨_,rfl,r⟩
theorem Vals.eraseIdx:∀ {xs:List V} {us:List Value} (i:Nat),Vals xs us->Vals (xs.eraseIdx i) (us.eraseIdx i)
 | _,_,_,.nil=>.nil
 | _,_,0,.cons _ t=>t
 | _,_,i+1,.cons r t=>.cons r (Vals.eraseIdx i t)
theorem Vals.rep {xs:List V} {us:List Value} (h:Vals xs us):∀ k:Nat,Vals (List.replicate k xs).flatten (List.replicate k us).flatten
 | 0=>.nil
 | k+1=>by
  rw [QCz,QCz,List.flatten_cons,List.flatten_cons]
  exact Vals.append h (Vals.rep h k)
theorem Zdd {α:Type}:∀ (l:List α) (i:Nat),(l.eraseIdx i).length<=l.length
 | [],_=>QAc _
 | _::_,0=>QCh _
 | _::r,i+1=>Nat.succ_le_succ (Zdd r i)
theorem Zdh (its:List Value):∀ (k:Nat) (acc:List Value),
  List.foldl (fun x1 x2=>x1++x2) acc.toArray (List.replicate k its.toArray)=(acc++(List.replicate k its).flatten).toArray
 | 0,acc=>by simp
 | k+1,acc=>by
  have e:acc.toArray++its.toArray=(acc++its).toArray:=by simp
  have e2:(acc++its)++(List.replicate k its).flatten=acc++(List.replicate (k+1) its).flatten:=by
   rw [QCz,List.flatten_cons,QBo]
  rw [<- e2,<- Zdh its k (acc++its),<- e,QCz,List.foldl_cons]
section
variable {X:Cx} {pins:List (Addr × Obj)} {σ:St} {H:Hp} {s:Shared} {l b:Addr} {xs ys zs:List V}
theorem Inv.lset {its its':List Value} {n:Nat} {f:Array Value->Array Value} {t':Nat} (I:Inv X pins σ H s) (hH:H l=some (.lst xs))
  (e:s.heap.get? l=some { cls:=.type "list",data:=.seq its.toArray n }) (hf:f its.toArray=its'.toArray) (hv:Vals ys its') (hz:ys.length<=sizeLine) :
  Inv X pins σ (upd H l (.lst ys)) { s with heap:=s.heap.update l (Obj.mapSeq f),toks:=t' }:=by
 have q:=PySem.IsL.update e f
 rw [hf] at q
 refine I.write (x:=l) (e:=l) (by rw [hH]; exact trivial) (.inl rfl) (fun b' u hb hu=>(QDv s.heap (Obj.mapSeq f) (Ne.symm hb)).trans hu) ⟨_,q⟩ ?_
 exact ⟨hz,its',_,hv,q⟩
theorem Inv.lnew {its:List Value} {t':Nat} (I:Inv X pins σ H s) (hv:Vals ys its) (hz:ys.length<=sizeLine) :
  Inv X pins σ (upd H s.heap.objs.size (.lst ys)) { s with heap:=s.heap.push { cls:=.type "list",data:=.seq its.toArray },toks:=t' } :=
 I.laid (fun _ _ q=>QAk _ q) (QAc _) ⟨hz,its,0,hv,QAx _ rfl⟩
theorem Inv.fresh (I:Inv X pins σ H s):H s.heap.objs.size=none:=I.hok.fresh (QAc _)
theorem Inv.lstM (I:Inv X pins σ H s) (hH:H l=some (.lst xs)):xs.length<=sizeLine/\∃ (its:List Value) (n:Nat),Vals xs its/\xs.length=its.length/\s.heap.get? l=some { cls:=.type "list",data:=.seq its.toArray n }:=by
 obtain ⟨z,its,n,r,e⟩:=I.hok l _ hH
 exact ⟨z,its,n,r,r.length,e⟩
theorem ZeE {n:Nat} (h:n<=sizeLine):Builtin.List.listTooLong n=false:=by
 unfold Builtin.List.listTooLong
 exact decide_eq_false (by exact Om.k495 h)
end
section
variable {X:Cx}
inductive Zfh (x:V) (vs:List V) (H:Hp) (Q:VK):Prop where
 | mk (l:Addr) (xs:List V) (y:V) (_:x = .ref l) (_:vs=[y]) (_:H l=some (.lst xs)) (_:xs.length<sizeLine) (_:Q .non (upd H l (.lst (xs++[y])))):Zfh x vs H Q
noncomputable def Zjd:V->List V->Hp->VK->Prop:=fun x vs H Q=>Zfh x vs H Q
theorem Yt:MtM X "list.append" Zjd:=by
 intro pins s σ H x vs v us Q I rx rv h
 obtain ⟨l,xs,y,rfl,rfl,hH,hz,q⟩:=h
 cases rx
 obtain ⟨u,rfl,ru⟩:=rv.one
 obtain ⟨z,its,n,r,hl,e⟩:=I.lstM hH
 refine call_meets F.slot_list_append ⟨_,e,rfl⟩ F.entry_list_append (F.args_list_append_2 _ _) (PySem.list_append l its.toArray n u (by rw [QAg]; exact Om.y2 ‹_› ‹_› rfl)) ⟨e,?_⟩
 refine ⟨.non,_,I.lset (its':=its++[u]) hH e (by simp) (r.append (.cons ru .nil)) ?_,rfl,q⟩
 rw [QAn,QDm]
 exact Om.f1 ‹_›
inductive Zfg (x:V) (vs:List V) (H:Hp) (Q:VK):Prop where
 | mk (l:Addr) (b:Addr) (xs:List V) (zs:List V) (_:x = .ref l) (_:vs=[.ref b]) (_:H l=some (.lst xs)) (_:H b=some (.lst zs)) (_:xs.length+zs.length<=sizeLine) (_:Q .non (upd H l (.lst (xs++zs)))):Zfg x vs H Q
noncomputable def Zjc:V->List V->Hp->VK->Prop:=fun x vs H Q=>Zfg x vs H Q
theorem JR:MtM X "list.extend" Zjc:=by
 intro pins s σ H x vs v us Q I rx rv h
 obtain ⟨l,b,xs,zs,rfl,rfl,hH,hB,hz,q⟩:=h
 cases rx
 obtain ⟨u,rfl,ru⟩:=rv.one
 cases ru
 obtain ⟨z,its,n,r,hl,e⟩:=I.lstM hH
 obtain ⟨z2,its2,n2,r2,hl2,e2⟩:=I.lstM hB
 have hsz:its.toArray.size+its2.toArray.size<=sizeLine:=by rw [QAg,QAg]; exact Om.k494 hz hl hl2
 have hlong:¬ (!its.toArray.isEmpty&&Builtin.List.listTooLong (its.toArray.size+its2.toArray.size))=true:=by
  rw [ZeE hsz,Bool.and_false]
  exact QAl
 refine call_meets F.slot_list_extend ⟨_,e,rfl⟩ F.entry_list_extend (F.args_list_extend_2 _ _)
  (AutoSeq1.list_extend_list_list_0 l its.toArray n b its2.toArray n2 hlong (by rw [QAg]; exact Om.y2 ‹_› ‹_› rfl) (by exact Om.b1 ‹_› rfl)) ⟨e,e2,?_⟩
 refine ⟨.non,_,I.lset (its':=its++its2) hH e (by simp) (r.append r2) ?_,rfl,q⟩
 rw [QAn]
 assumption
noncomputable def Zkt:V->List V->Hp->VK->Prop:=fun x vs H Q=>∃ l xs i k y,x = .ref l/\vs=[.int i]/\H l=some (.lst xs) /\ -(2 ^ 63)<=i/\i<2 ^ 63/\seqIndex? i xs.length=some k/\xs[k]? = some y/\Q y (upd H l (.lst (xs.eraseIdx k)))
theorem Zik:MtM X "list.pop" Zkt:=by
 intro pins s σ H x vs v us Q I rx rv h
 obtain ⟨l,xs,i,k,y,rfl,rfl,hH,h1,h2,hk,hy,q⟩:=h
 cases rx
 obtain ⟨u,rfl,ru⟩:=rv.one
 obtain ⟨t,rfl⟩:=ru
 obtain ⟨z,its,n,r,hl,e⟩:=I.lstM hH
 obtain ⟨w,hw,rw'⟩:=r.get hy
 refine call_meets F.slot_list_pop ⟨_,e,rfl⟩ F.entry_list_pop (F.args_list_pop_2 _ _)
  (MeetsSeq.list_pop_at l its.toArray n i t k w (fitsIndex_both h1 h2) (by rw [QAg,<- hl]; exact hk) (by rw [<- QDa]; exact hw) (by rw [QAg]; exact Om.y2 ‹_› ‹_› rfl)) ⟨e,?_⟩
 refine ⟨y,_,I.lset (its':=its.eraseIdx k) hH e ?_ (r.eraseIdx k) ?_,rw',q⟩
 ·show its.toArray.eraseIdxIfInBounds k=(its.eraseIdx k).toArray
  rw [List.eraseIdxIfInBounds_toArray]
 ·have:=Zdd xs k
  exact Om.b3 ‹_› ‹_› rfl
inductive Zkf (x:V) (y:V) (H:Hp) (Q:VK):Prop where
 | mk (l:Addr) (b:Addr) (xs:List V) (zs:List V) (_:x = .ref l) (_:y = .ref b) (_:H l=some (.lst xs)) (_:H b=some (.lst zs)) (_:xs.length+zs.length<=sizeLine) (_:∀ p,H p=none->Q (.ref p) (upd H p (.lst (xs++zs)))):Zkf x y H Q
noncomputable def Zma:R2:=fun x y H Q=>Zkf x y H Q
theorem Zcc:OpR X (binaryOp .Add) Zma:=by
 intro pins s σ H x y v u Q I rx ry h
 obtain ⟨l,b,xs,zs,rfl,rfl,hH,hB,hz,q⟩:=h
 cases rx
 cases ry
 obtain ⟨z,its,n,r,hl,e⟩:=I.lstM hH
 obtain ⟨z2,its2,n2,r2,hl2,e2⟩:=I.lstM hB
 refine PySem.P.add_list e e2 ?_ (by rw [QAg,QAg]; exact Om.k494 hz hl hl2)
 have ea:its.toArray++its2.toArray=(its++its2).toArray:=by simp
 rw [ea]
 exact ⟨.ref _,_,I.lnew (t':=s.toks) (r.append r2) (by rw [QAn]; assumption),rfl,q _ I.fresh⟩
noncomputable def Zl6:R2:=fun x y H Q=>∃ l k xs,x = .ref l/\y = .int k/\H l=some (.lst xs) /\ -(2 ^ 63)<=k/\k<2 ^ 63/\xs.length*k.toNat<=sizeLine /\
 ∀ p,H p=none->Q (.ref p) (upd H p (.lst (List.replicate k.toNat xs).flatten))
theorem ZjC {α:Type} (xs:List α) (k:Nat):(List.replicate k xs).flatten.length=k*xs.length:=by
 induction k with
 | zero=>simp
 | succ k ih=>rw [QCz,List.flatten_cons,QAn,ih,QCp,Nat.add_comm]
theorem ZkC:OpR X (binaryOp .Mult) Zl6:=by
 intro pins s σ H x y v u Q I rx ry h
 obtain ⟨l,k,xs,rfl,rfl,hH,h1,h2,hz,q⟩:=h
 cases rx
 obtain ⟨t,rfl⟩:=ry
 obtain ⟨z,its,n,r,hl,e⟩:=I.lstM hH
 have hlen:its.toArray.size*k.toNat<=sizeLine:=by rw [QAg,<- hl]; exact hz
 have hcap:¬ its.toArray.size*k.toNat>(2 ^ 63 - 1) / 8:=by
  have:(sizeLine:Nat)<=(2 ^ 63 - 1) / 8:=by decide
  omega
 have hfit:¬ (!Builtin.List.listFitsIndex k)=true:=by
  rw [fitsIndex_both h1 h2]
  exact QAl
 have hlong:¬ Builtin.List.listTooLong (its.toArray.size*k.toNat)=true:=by
  rw [ZeE hlen]
  exact QAl
 have hnew:List.foldl (fun x1 x2=>x1++x2) #[] (List.replicate (if its.toArray.isEmpty=true then 0 else k.toNat) its.toArray)=(List.replicate k.toNat its).flatten.toArray:=by
  have f0:∀ m:Nat,List.foldl (fun x1 x2=>x1++x2) #[] (List.replicate m its.toArray)=(List.replicate m its).flatten.toArray:=fun m=>by
   have:=Zdh its m []
   rw [List.nil_append] at this
   exact this
  rw [f0]
  cases its with
  | nil=>simp
  | cons a r'=>rw [if_neg (by simp)]
 refine wpAny_binaryOp_repeat_ref (T:="list") (U:="int") (by decide) ⟨_,e,rfl⟩ (fun s'=>typeIs_int s' k t) noFill_list_mul F.fills_int_mul F.slot_int_rmul repeat_list F.slot_int_index.lookup
  (call_meets F.slot_int_rmul (typeIs_int s k t) F.entry_int_rmul (F.args_int_rmul_2 _ _) (int___rmul___int_list k t l its.toArray n)
   ⟨e,rfl,⟨_,e,rfl⟩,call_meets F.slot_list_mul ⟨_,e,rfl⟩ F.entry_list_mul (F.args_list_mul_2 _ _) (AutoListH.list___mul___list_int_3 l its.toArray n k t hfit hcap hlong) ⟨e,?_⟩⟩)
 rw [hnew]
 exact ⟨.ref _,_,I.lnew (t':=s.toks) (r.rep k.toNat) (by rw [ZjC,Nat.mul_comm]; exact hz),rfl,q _ I.fresh⟩
end
section
variable {prog:Program} {w:World} {A:Around} {E:Value->Shared->Prop} {s:Shared}
end
section
variable {X:Cx}
end
end L2
namespace Att
open PySem PySem.W PySem.Calls PyProof.Rows
theorem ZbF {P:Params} {h:Heap}:∀ (ns:List Int) (vs:List Value),WellAll P h vs (ns.map WData.int)->IntsAre vs ns:=by
 intro ns
 induction ns with
 | nil =>
  intro vs w
  rw [List.map_nil] at w
  cases w
  exact .nil
 | cons n ns ih =>
  intro vs w
  rw [QAr] at w
  cases w with
  | cons a b =>
   cases a
   exact .cons _ _ (ih _ b)
theorem Zhi {l:OpenLaw} {n:Nat} (hn:l.most=some n) {P:Params} {h:Heap} {args:List WData} {vals:List Value}
  (hpre:l.row.toRowW.claim.pre args=true) (hwl:WellAll P h vals args) :
  ∃ a vs ns,vals=[Value.ref a]/\args=[WData.list (ns.map WData.int)]/\h.get? a=some { cls:=.type "list",data:=.seq vs.toArray }/\IntsAre vs ns/\ns.length<=n:=by
 have hsh:WShape.hasAll [] args [.list .int]=true:=(pre_splitW hpre).1
 have hc:l.pre.holds [] { args:=args }=true:=(pre_splitW hpre).2
 obtain ⟨d,r,rfl,h1,h2⟩:=hasAllW_cons hsh
 obtain rfl:=hasAllW_nil h2
 obtain ⟨xs,rfl,h3⟩:=hasW_list h1
 obtain ⟨ns,rfl⟩:=items_int h3
 have hlen:ns.length<=n:=by
  unfold OpenLaw.pre at hc
  have h4:(WTm.not (.lt (.lit (.int (n:Int))) (.len (.arg 0)))).holds [] { args:=[.list (ns.map .int)] }=true:=by
   have h4:=(holds_andW hc).1
   rw [hn] at h4
   exact h4
  have h5:=condW_of h4 (w_not (w_lt w_lit (w_len_list (w_arg rfl))))
  rw [QAa] at h5
  refine Nat.le_of_not_lt fun q=>?_
  have q':(n:Int)<((ns.length:Nat):Int):=by exact Om.c5 ‹_›
  first
   | (rw [decide_eq_true q'] at h5; exact absurd h5 (by decide))
   | (simp at h5; omega)
 cases hwl with
 | cons w1 w2 =>
  cases w2
  cases w1 with
  | list ho hall=>exact ⟨_,_,ns,rfl,rfl,ho,ZbF ns _ hall,hlen⟩
theorem Zhm (l:OpenLaw) (args:List WData):l.row.toRowW.claim.post args (.bool true) args=true :=
 postW_of (r:=l.row.toRowW) (X:=(true==true))
  (show WShape.has [] (.bool true) .bool=true by first | rfl | decide | simp [WShape.has,WShape.arms,WShape.armsAll])
  (show (WTm.eq .res (.lit (.bool true))).value [] { args:=args,res:=some (.bool true),after:=args }=some (.bool (true==true)) from w_eq_bool (w_res rfl) w_lit) rfl
theorem attach_call {l:OpenLaw} {n:Nat} {q:Program} {loose:List Str} {XP:(Str->Option Value)->Heap->Prop} {YP:World->Heap->Prop} {d:DefRec}
  (hn:l.most=some n) (hdf:d.params.defaults=[])
  (call:∀ (w:World) (s₀ s₁:Shared) (mg mb:Str->Option Value) (fa:Addr) (o:Obj) (pm cd doc:Value) (a:Addr) (vs:List Value) (ns:List Int),
   Ground q loose [] XP w s₀ mg mb s₁.heap->YP w s₁.heap ->
   s₁.heap.get? fa=some o->o.data = .func (docDef d.name d.params d.body d.scope pm cd doc)->s₁.heap.CodeRec cd d.name->mg d.name=some (.ref fa) ->
   s₁.heap.get? a=some { cls:=.type "list",data:=.seq vs.toArray }->IntsAre vs ns->ns.length<=n->s₁.gens = #[] ->
   codeAny (model l.prog w) callerA (.call (.ref fa) ⟨[.ref a],[]⟩) (fun r s'=>r = .ok (.ret (.bool true))/\OldK s₁.heap s'.heap/\s'.os=s₁.os/\AllBare s'.gens) s₁) :
  WalkO q loose XP YP l.row.toRowW d [] (fun f vs=>PySem.call f vs):=by
 intro w s₀ s₁ mg mb G Y fa o pm cd doc dV kV ho hd hcd hD hmg hg args vals as hpre hlay hrd hwl hlo
 obtain rfl:dV = .none:=Dflts.none hD hdf
 obtain rfl:kV = .none:=Dflts.noKw hD
 obtain ⟨a,vs,ns,rfl,rfl,hobj,hints,hlen⟩:=Zhi hn hpre hwl
 refine enter_call (codeAny_mono (call w s₀ s₁ mg mb fa o pm cd doc a vs ns G Y ho (fd_plain hd) hcd hmg hobj hints hlen hg) fun r s' hq=>?_)
 obtain ⟨rfl,h2,h3,h4⟩:=hq
 exact ⟨.inl ⟨.bool true,.bool true,[],rfl,fun _=>rfl,.bool true,Zhm l _,fun _=>⟨List.Pairwise.nil,fun _ hm=>(nomatch hm)⟩⟩,h2,h3,h4⟩
section
variable {prog:Program} {w:World} {A:Around} {E:Value->Shared->Prop} {s:Shared} {K:Frag}
end
end Att
namespace L2
open PySem PySem.Spec PyProof.Rows
theorem Za9:∀ {vs:List Value} {ns:List Int},IntsAre vs ns->Vals (ns.map V.int) vs
 | _,_,.nil=>.nil
 | _,_,.cons n t h=>.cons ⟨t,rfl⟩ (Za9 h)
noncomputable def Zk8 (H:Hp):Prop:=∀ b,H b=none\/∃ o xs,H b=some (.frz o (.lst xs))
theorem Ziu {P:Program} {w:World} {K:PySem.W.Frag} {mg mb:Str->Option Value} {CX:CXT} {k:Nat} {fa a:Addr} {fd:FuncData} {x:Str} {sp:Sp} {s₁:Shared} {vs:List Value} {ns:List Int}
  (KX:K.In s₁.heap) (hns:s₁.heap.Ns mainGlobals mg) (hb:s₁.heap.Ns builtinsNs mb) (hbb:∀ x:Str,x ≠ "__name__" -> mb x=bootBuiltins x) (hlim:s₁.heap.NoLimit) (hg:s₁.gens = #[])
  (ha:s₁.heap.get? a=some { cls:=.type "list",data:=.seq vs.toArray }) (hi:IntsAre vs ns) (hl:ns.length<=sizeLine) (hr:Room k callerA)
  (F:∀ base:Heap,K.In base->base.Ns mainGlobals mg->FnOk P w K mg base CX k fa fd [x] sp) (hbind:∀ (s:Shared) (u:Value),BindsTo s fd ⟨[u],[]⟩ [(x,u)])
  (hsp:∀ H:Hp,Zk8 H->SqL K H a (ns.map V.int)->sp [.ref a] H (fun v _=>v = .bl true) fun _ _ _=>False)
  (hCX:∀ H e s',CX [] H s₁ (fun _ _ _=>False) e s'->False) :
  codeAny (model P w) callerA (.call (.ref fa) ⟨[.ref a],[]⟩) (fun r s'=>r = .ok (.ret (.bool true))/\OldK s₁.heap s'.heap/\s'.os=s₁.os/\AllBare s'.gens) s₁:=by
 have rv:=Za9 hi
 have lenV:=hi.length
 have core:∀ H:Hp,Zk8 H->SqL K H a (ns.map V.int)->HOk P w H s₁.heap->(∀ b,H b≠none->b=a)->(H a≠none->K.lookup a=none) ->
   codeAny (model P w) callerA (.call (.ref fa) ⟨[.ref a],[]⟩) (fun r s'=>r = .ok (.ret (.bool true))/\OldK s₁.heap s'.heap/\s'.os=s₁.os/\AllBare s'.gens) s₁:=by
  intro H hO hS hok hA hK
  have base_of:∀ {b:Addr} {o:Obj},s₁.heap.get? b=some o->H b=none->(Zd6 s₁.heap H).get? b=some o:=fun e n=>Ziy e n
  have noA:∀ {b:Addr} {o:Obj} {es:Array DictEntry} {ep:Nat},s₁.heap.get? b=some o->o.data = .dict es ep->H b=none:=fun {b o es ep} e d=>by
   cases q:H b with
   | none=>rfl
   | some u =>
    have e':b=a:=hA b (by rw [q]; simp)
    subst e'
    rw [ha] at e; cases e
    have d':Data.seq vs.toArray _=Data.dict es ep:=d
    cases d'
  have nsK:∀ {b:Addr} {m:Str->Option Value},s₁.heap.Ns b m->(Zd6 s₁.heap H).Ns b m:=fun {b m} ⟨o,es,ep,e,d,r⟩=>⟨o,es,ep,base_of e (noA e d),d,r⟩
  have hKb:K.In (Zd6 s₁.heap H):=fun b o e=>base_of (KX b o e) (by
   cases q:H b with
   | none=>rfl
   | some u =>
    have e':b=a:=hA b (by rw [q]; simp)
    subst e'
    rw [hK (by rw [q]; simp)] at e; cases e)
  have hM:Mod K mg (Zd6 s₁.heap H):=⟨hKb,nsK hns,⟨mb,nsK hb,hbb⟩,let ⟨mc,h1,h2⟩:=hlim; ⟨mc,nsK h1,h2⟩⟩
  have e0:ZjX P w K mg (Zd6 s₁.heap H) callerA [] s₁ H:=⟨rfl,hM,fun b o e=>Zjr e,Nat.le_of_eq (Zhy _ _),trivial,fun b hb=>absurd (show b∈([]:List Addr) from hb) (by simp),hok,.of_eq hg⟩
  refine codeAny_mono ((F _ hKb (nsK hns)).run callerA [] s₁ H ⟨[.ref a],[]⟩ [.ref a] [.ref a] _ _ hr e0 (hbind s₁ (.ref a)) (.cons rfl .nil) (hsp H hO hS)) fun r s' h=>?_
  cases r with
  | error e=>exact (hCX H e s' h).elim
  | ok fl =>
   cases fl with
   | next=>exact False.elim h
   | brk=>exact False.elim h
   | cont=>exact False.elim h
   | ret u =>
    obtain ⟨v,H',os,bare,un,hok',r',q⟩:=h
    have q':v = .bl true:=q
    subst q'
    obtain rfl:u=Value.bool true:=r'
    refine ⟨rfl,OldK.of_keep fun b o e=>?_,os,bare⟩
    cases q:H b with
    | none=>exact un.keep b o e q (by intro z; exact absurd (show b∈([]:List Addr) from z) (by simp)) (by simp)
    | some u =>
     rcases hO b with z | ⟨ob,xs,z⟩
     ·rw [q] at z; cases z
     ·have z2:=un.frzs b ob _ z
      obtain ⟨e1,_⟩:=hok b _ z
      obtain ⟨e2,_⟩:=hok' b _ z2
      rw [e] at e1; cases e1
      exact e2
 cases hk:K.lookup a with
 | some o =>
  have e:=KX a o hk
  rw [ha] at e
  cases e
  refine core (fun _=>none) (fun _=>.inl rfl) (.inr ⟨_,vs.toArray,_,hk,rfl,rfl,rfl,by rw [QAg,lenV]; exact hl,by simpa using rv⟩) (fun b u z=>by have z':(none:Option HO)=some u:=z; cases z') (fun b z=>absurd rfl z) fun z=>absurd rfl z
 | none =>
  refine core (fun b=>if b=a then some (.frz { cls:=.type "list",data:=.seq vs.toArray } (.lst (ns.map V.int))) else none) (fun b=>?_) (.inl (.inr ⟨{ cls:=.type "list",data:=.seq vs.toArray },if_pos rfl⟩)) (fun b u z=>?_) (fun b z=>?_) fun _=>hk
  ·by_cases hb:b=a
   ·exact .inr ⟨_,_,if_pos hb⟩
   ·exact .inl (if_neg hb)
  ·by_cases hb:b=a
   ·have z':=(if_pos hb).symm.trans z
    cases z'
    subst hb
    exact ⟨ha,by rw [QAa]; exact hl,vs,_,rv,ha⟩
   ·have z':=(if_neg hb).symm.trans z
    cases z'
  ·by_cases hb:b=a
   ·exact hb
   ·exact absurd (if_neg hb) z
end L2
namespace L2
open PySem PySem.Spec PyProof.Rows
theorem walk_of {l:PySem.W.OpenLaw} {n k:Nat} {q:Program} {loose:List Str} {XP:(Str->Option Value)->Heap->Prop} {YP:World->Heap->Prop} {d:DefRec} {K:Params->PySem.W.Frag} {CX:World->CXT} {sp:World->Sp} {x:Str}
  (hn:l.most=some n) (hn2:n<=sizeLine) (hdf:d.params.defaults=[]) (hr:Room k callerA)
  (hY:∀ (w:World) (h:Heap),YP w h->(K w.params).In h)
  (F:∀ (w:World) (mg:Str->Option Value) (fa:Addr) (h:Heap),(K w.params).In h->h.Ns mainGlobals mg->mg d.name=some (.ref fa) ->
   ∃ fd:FuncData,(∀ (s:Shared) (u:Value),BindsTo s fd ⟨[u],[]⟩ [(x,u)]) /\
    ∀ base:Heap,(K w.params).In base->base.Ns mainGlobals mg->FnOk l.prog w (K w.params) mg base (CX w) k fa fd [x] (sp w))
  (hsp:∀ (w:World) (H:Hp) (a:Addr) (ns:List Int),ns.length<=n->Zk8 H->SqL (K w.params) H a (ns.map V.int)->sp w [.ref a] H (fun v _=>v = .bl true) fun _ _ _=>False)
  (hCX:∀ (w:World) (H:Hp) (s:Shared) (e:Value) (s':Shared),CX w [] H s (fun _ _ _=>False) e s'->False) :
  PySem.W.WalkO q loose XP YP l.row.toRowW d [] (fun f vs=>PySem.call f vs):=by
 refine Att.attach_call hn hdf fun w s₀ s₁ mg mb fa o pm cd doc a vs ns G Y ho hd hcd hmg hobj hints hlen hg=>?_
 have KX:=hY w _ Y
 obtain ⟨fd,hb,hF⟩:=F w mg fa _ KX G.T.g hmg
 exact Ziu KX G.T.g G.T.b G.T.builtins G.T.nolimit hg hobj hints (QAq hlen hn2) hr hF hb (fun H hO hS=>hsp w H a ns hlen hO hS) fun H e s'=>hCX w H s₁ e s'
end L2
namespace L2
open PySem PySem.Spec PyProof.Rows
noncomputable def Zn (s:Stmt):Arguments:=match s with
 | .FunctionDef _ a _ _ _ _ _ _ _ _=>a
 | _=>{ posonlyargs:=[],args:=[],vararg:=none,kwonlyargs:=[],kw_defaults:=[],kwarg:=none,defaults:=[] }
noncomputable def Zl (s:Stmt):List Stmt:=match s with
 | .FunctionDef _ _ b _ _ _ _ _ _ _=>b
 | _=>[]
noncomputable def Ze (s:Stmt):Scope:=match s with
 | .FunctionDef _ _ _ _ _ _ sc _ _ _=>sc
 | _=>{ kind:=.function,names:=[],isGenerator:=false,isCoroutine:=false }
noncomputable abbrev CX0:CXT:=fun _ _ _ _ _ _=>False
noncomputable abbrev E0:XK:=fun _ _ _=>False
theorem ZO {X:Cx}:Zgo CX0 X E0:=fun _ _ _ _ _ _ _ h=>h.elim
structure Fun (K:PySem.W.Frag) (x qual:Str) (st:Stmt) (f:Addr) (fd:FuncData):Prop where
 ex:∃ (oc:Value) (od:Option Addr) (kV doc pm:Value) (an:Option Addr) (cdv ct:Value) (osl:Array (Option Value)),
  fd=PySem.W.fnOf x qual (Zn st) (Zl st) (Ze st) .none kV doc pm an cdv ct/\K.lookup f=some ⟨oc,od,.func fd,osl⟩/\PySem.W.codeIn K cdv qual=true
 kp:PySem.W.keepIn K (.ref f)=true
section
variable {P:Program} {w:World} {K:PySem.W.Frag} {mg:Str->Option Value} {base:Heap}
theorem Fun.ok {x qual:Str} {st:Stmt} {f:Addr} {fd:FuncData} {N ps:List Str} {k:Nat} {sp:Sp} (F:Fun K x qual st f fd) (S:Zs N ps (Ze st)) (len:∀ vs H Q E,sp vs H Q E->vs.length=ps.length)
  (hbody:∀ (cdv:Value) (A:Around) (outer:List Env) (s:Shared) (H:Hp) (vs:List V) (Q:VK) (E:XK),Room k (A.deeper (envOfC qual (Ze st) s.heap.objs.size f cdv))->sp vs H Q E ->
   ∃ t,PSs (ZhA CX0 P w K mg base N qual (Ze st) f cdv A outer s H E).nox (Zl st) t/\t { nx:=fun _ H'=>Q .non H',rt:=Q } (start N vs) H):FnOk P w K mg base CX0 (k+1) f fd ps sp:=by
 obtain ⟨oc,od,kV,doc,pm,an,cdv,ct,osl,rfl,lk,hcd⟩:=F.ex
 refine ZlH lk hcd S len fun A outer s H vs Q E hr hsp=>?_
 obtain ⟨t,h,q⟩:=hbody cdv A outer s H vs Q E hr hsp
 exact ⟨t,h.nox,q⟩
theorem Fun.binds {x qual:Str} {st:Stmt} {f:Addr} {fd:FuncData} {ps:List Str} (F:Fun K x qual st f fd)
  (h:∀ (kV doc pm:Value) (an:Option Addr) (cdv ct:Value) (us:List Value),us.length=ps.length->bindArgs (PySem.W.fnOf x qual (Zn st) (Zl st) (Ze st) .none kV doc pm an cdv ct) ⟨us,[]⟩=pure (ps.zip us)):Binds K fd ps []:=by
 obtain ⟨oc,od,kV,doc,pm,an,cdv,ct,osl,rfl,lk,hcd⟩:=F.ex
 exact .all (h kV doc pm an cdv ct)
theorem ZK {x qual:Str} {st:Stmt} {f:Addr} {oc:Value} {od an:Option Addr} {osl:Array (Option Value)} {kV doc pm cdv ct:Value} (l:K.lookup f=some ⟨oc,od,.func (PySem.W.fnOf x qual (Zn st) (Zl st) (Ze st) .none kV doc pm an cdv ct),osl⟩)
  (c:PySem.W.codeIn K cdv qual=true) (k:PySem.W.keepIn K (.ref f)=true):Fun K x qual st f (PySem.W.fnOf x qual (Zn st) (Zl st) (Ze st) .none kV doc pm an cdv ct):=⟨⟨oc,od,kV,doc,pm,an,cdv,ct,osl,rfl,l,c⟩,k⟩
end
theorem Zw {n:Nat} (h:n<=1000):n<sizeLine:=Nat.lt_of_le_of_lt h (by decide)
section
variable {X:Cx}
theorem pv (i:Nat) {x:Str} {pos:Pos} (hN:X.N[i]? = some x:=by rfl) (hv:Vis X.env.scope x:=by first | exact Or.inl rfl | exact Or.inr (Or.inl rfl) | exact Or.inr (Or.inr rfl)) (hd:(x==("__debug__" : Str))=false:=by decide)
  (hcd:(x==("__classdict__" : Str))=false:=by decide):PE X (.Name x pos) (Zld i):=Zky hN hv hd hcd
end
theorem ZaE {A B:Prop} (h:B):if false=true then A else B:=by
 rw [if_neg QAl]
 exact h
theorem Zbn {A B:Prop} (h:A):if true=true then A else B:=by
 rw [if_pos rfl]
 exact h
theorem Zal {c A B:Prop} [Decidable c] (h1:c->A) (h2:¬ c->B):if c then A else B:=by
 by_cases h:c
 ·rw [if_pos h]
  exact h1 h
 ·rw [if_neg h]
  exact h2 h
noncomputable def Same (H H':Hp):Prop:=∀ b o,H b=some o->H' b=some o
theorem Same.refl (H:Hp):Same H H:=fun _ _ h=>h
theorem Same.trans {H H1 H2:Hp} (a:Same H H1) (b:Same H1 H2):Same H H2:=fun c o h=>b c o (a c o h)
theorem Same.free {H H':Hp} (e:Same H H') {l:Addr} (h:H' l=Option.none):H l=Option.none:=by
 cases q:H l with
 | none=>rfl
 | some o =>
  rw [e l o q] at h
  cases h
theorem Same.seq {K:PySem.W.Frag} {H H':Hp} {a:Addr} {xs:List V} (e:Same H H') (h:SqL K H a xs):SqL K H' a xs:=by
 rcases h with (h | ⟨o,h⟩) | h
 ·exact .inl (.inl (e _ _ h))
 ·exact .inl (.inr ⟨o,e _ _ h⟩)
 ·exact .inr h
end L2
namespace L2
open PySem PySem.Spec PyProof.Rows
theorem Za2 {α β:Type} {f:α->β->Sem (ForInStep β)} {g:α->β->β}:∀ (l:List α) (b:β),(∀ x∈l,∀ c,f x c=pure (.yield (g x c)))->forIn l b f=pure (l.foldl (fun c x=>g x c) b)
 | [],b,_=>rfl
 | x::l,b,h=>by
  rw [List.forIn_cons,h x QAj,pure_bind]
  exact Za2 l _ fun y hy=>h y (QAo _ hy)
noncomputable def YT (cells:List (Str × Addr)) (x:Str × NameKind) (cs:List (Str × Addr)):List (Str × Addr) :=
 if (x.2==NameKind.free)=true then (x.1,(cells.lookup x.1).getD 0)::cs else cs
noncomputable def ZF (cells:List (Str × Addr)) (names:List (Str × NameKind)) (cs:List (Str × Addr)):List (Str × Addr):=names.foldl (fun cs x=>YT cells x cs) cs
theorem JK {scope:Scope} {env:Env} (h:∀ y∈scope.names,y.2 = .free->∃ c,env.cells.lookup y.1=some c):closureFor scope env=pure (ZF env.cells scope.names []):=by
 simp only [closureFor]
 rw [Za2 (g:=fun x cs=>YT env.cells x cs) scope.names [] (fun x hx c=>by
  obtain ⟨n,kind⟩:=x
  cases hk:(kind==NameKind.free) with
  | false=>simp only [hk,YT,QDb,if_false]
  | true =>
   obtain ⟨a,ha⟩:=h (n,kind) hx (by simpa using hk)
   have hc:cellOf env n=pure a:=by
    unfold cellOf
    have ha':env.cells.lookup n=some a:=ha
    rw [ha']
   have ha':env.cells.lookup n=some a:=ha
   simp only [hk,YT,if_true,hc,pure_bind,ha',Option.getD_some])]
 rfl
theorem ZaN {cells:List (Str × Addr)}:∀ (names:List (Str × NameKind)) (cs:List (Str × Addr)),(∀ y∈names,y.2 = .free->∃ c,cells.lookup y.1=some c) ->
  (∀ x c,cs.lookup x=some c->cells.lookup x=some c)->∀ x c,(ZF cells names cs).lookup x=some c->cells.lookup x=some c
 | [],cs,_,h=>h
 | (n,k)::r,cs,hf,h=>by
  refine ZaN r (YT cells (n,k) cs) (fun y hy=>hf y (QAo _ hy)) fun x c e=>?_
  unfold YT at e
  split at e
  ·rename_i hk
   obtain ⟨a,ha⟩:=hf (n,k) QAj (by simpa using hk)
   have ha':cells.lookup n=some a:=ha
   rw [QBj] at e
   cases hx:(x==n) with
   | true =>
    simp only [hx,ha',Option.getD_some] at e
    have:x=n:=by simpa using hx
    rw [this,ha',e]
   | false =>
    simp only [hx] at e
    exact h x c e
  ·exact h x c e
theorem JA {cells:List (Str × Addr)}:∀ (names:List (Str × NameKind)) (cs:List (Str × Addr)) (x:Str),((∃ c,cs.lookup x=some c)\/(x,NameKind.free)∈names)->∃ c,(ZF cells names cs).lookup x=some c
 | [],cs,x,h=>by
  rcases h with h | h
  ·exact h
  ·cases h
 | (n,k)::r,cs,x,h=>by
  refine JA r (YT cells (n,k) cs) x ?_
  rcases h with ⟨c,h⟩ | h
  ·left
   unfold YT
   split
   ·rw [QBj]
    cases hx:(x==n) with
    | true=>exact ⟨_,rfl⟩
    | false=>exact ⟨c,h⟩
   ·exact ⟨c,h⟩
  ·rcases List.mem_cons.mp h with e | h
   ·left
    cases e
    unfold YT
    rw [if_pos (show ((n,NameKind.free).2==NameKind.free)=true from rfl),QBj]
    simp
   ·exact .inr h
noncomputable def PTs (X:Cx) (ifs:List Expr) (t:TT):Prop :=
 ∀ (pins:List (Addr × Obj)) (s:Shared) (σ:St) (H:Hp) (Q:Bool->Hp->Prop),Inv X pins σ H s->t σ H Q ->
  wpAny (model X.prog X.w) X.A (forIn ifs true fun c r=>if r=true then do let ok <- isTrue c X.env (eval c X.env); pure (ForInStep.yield ok) else pure (ForInStep.yield r)) (TP X pins σ Q) X.xe s
noncomputable def ZlS:TT:=fun _ H Q=>Q true H
theorem ZA {X:Cx}:PTs X [] ZlS:=fun pins s σ H Q I h=>wpAny_tests_nil ⟨H,I,h⟩
theorem ZaS {X:Cx} {c:Expr} {t:TT} (h:PT X c t):PTs X [c] t:=fun pins s σ H Q I q=>wpAny_tests_one (h pins s σ H Q I q)
noncomputable def Yl (X:Cx) (Nc:List Str) (scope:Scope) (cl:List (Str × Addr)) (C:Addr) (s₁:Shared) (H₁:Hp) (fp:List Addr):Cx where
 prog:=X.prog
 w:=X.w
 K:=X.K
 mg:=X.mg
 base:=X.base
 A:=X.A
 N:=Nc
 s₀:=s₁
 H₀:=H₁
 env:=compEnvC scope cl C X.env
 outer:=X.stack
 stack:=X.stack
 ex:=fp
 fn:=fun _=>false
 calm:=X.calm
 pn:=[]
 xe:=fun _ _=>False
noncomputable def capt (fm:List (Option Nat)) (σ:St):St:=fm.map fun o=>match o with
 | none=>none
 | some j=>(σ[j]?).join
structure Zlb (X:Cx) (Nc:List Str) (scope:Scope) (fm:List (Option Nat)):Prop where
 kind:scope.kind = .function
 nocell:∀ y∈scope.names,y.2 ≠ .cell
 names:∀ y∈scope.names,y.2 = .local->scope.names.lookup y.1=some .local
 free:∀ y∈scope.names,y.2 = .free->X.env.kindOf y.1=some .cell\/X.env.kindOf y.1=some .free
 len:fm.length=Nc.length
 at_:∀ (p:Option Nat × Str),p∈fm.zip Nc->∀ j,p.1=some j->X.N[j]? = some p.2/\(p.2,NameKind.free)∈scope.names/\scope.names.lookup p.2=some .free
noncomputable def captOk (N:List Str) (sc:Scope) (Nc:List Str) (scope:Scope) (fm:List (Option Nat)):Bool :=
 decide (scope.kind = .function)&&scope.names.all (fun y=>decide (y.2 ≠ .cell)&&(decide (y.2 ≠ .local)||decide (scope.names.lookup y.1=some .local)) &&
  (decide (y.2 ≠ .free)||(decide (sc.names.lookup y.1=some .cell)||decide (sc.names.lookup y.1=some .free))))&&decide (fm.length=Nc.length) &&
  (fm.zip Nc).all (fun p=>match p.1 with
   | none=>true
   | some j=>decide (N[j]? = some p.2)&&decide ((p.2,NameKind.free)∈scope.names)&&decide (scope.names.lookup p.2=some .free))
theorem captOk.capt {X:Cx} {Nc:List Str} {scope:Scope} {fm:List (Option Nat)} (h:captOk X.N X.env.scope Nc scope fm=true):Zlb X Nc scope fm:=by
 unfold captOk at h
 rw [QAw,QAw,QAw] at h
 obtain ⟨⟨⟨h1,h2⟩,h3⟩,h4⟩:=h
 rw [QBe] at h2 h4
 have g:∀ y∈scope.names,(y.2 ≠ .cell/\(y.2 ≠ .local\/scope.names.lookup y.1=some .local))/\(y.2 ≠ .free\/(X.env.scope.names.lookup y.1=some .cell\/X.env.scope.names.lookup y.1=some .free)):=fun y hy=>by
  have:=h2 y hy
  simpa only [QAw,QDn,decide_eq_true_eq] using this
 refine ⟨of_decide_eq_true h1,fun y hy=>(g y hy).1.1,fun y hy e=>?_,fun y hy e=>?_,of_decide_eq_true h3,fun p hp j e=>?_⟩
 ·rcases (g y hy).1.2 with z | z
  ·exact absurd e z
  ·exact z
 ·rcases (g y hy).2 with z | z
  ·exact absurd e z
  ·exact z
 ·have:=h4 p hp
  obtain ⟨a,b⟩:=p
  cases e
  simp only [QAw,decide_eq_true_eq] at this
  exact ⟨this.1.1,this.1.2,this.2⟩
theorem YC {env:Env}:∀ {names:List (Str × NameKind)} {x:Str}, names.lookup x=some .free ->
    ((names.map fun (n, k) => if (k==NameKind.free&&env.scope.kind == .function&&env.kindOf n==some .cell) then (n, NameKind.cell) else (n, k)).lookup x=some .cell \/
     (names.map fun (n, k) => if (k==NameKind.free&&env.scope.kind == .function&&env.kindOf n==some .cell) then (n, NameKind.cell) else (n, k)).lookup x=some .free)
  | [], _, h => by simp at h
  | (n, k)::r, x, h => by
    have ih := @YC env r x
    rw [QAr]
    cases hx:x==n with
    | true =>
      simp only [QBj, hx] at h
      cases h
      dsimp only
      split
      · left
        simp only [QBj, hx]
      · right
        simp only [QBj, hx]
    | false =>
      simp only [QBj, hx] at h
      dsimp only
      split
      · simp only [QBj, hx]
        exact ih h
      · simp only [QBj, hx]
        exact ih h
theorem J9 {env:Env}:∀ {names:List (Str × NameKind)} {x:Str}, (∀ y∈names, y.2 ≠ .cell) ->
    ((names.map fun (n, k) => if (k==NameKind.free&&env.scope.kind == .function&&env.kindOf n==some .cell) then (n, NameKind.cell) else (n, k)).lookup x=some .cell \/
     (names.map fun (n, k) => if (k==NameKind.free&&env.scope.kind == .function&&env.kindOf n==some .cell) then (n, NameKind.cell) else (n, k)).lookup x=some .free)->(x, NameKind.free)∈names
  | [], _, _, h => by simp at h
  | (n, k)::r, x, hc, h => by
    have ih := @J9 env r x (fun y hy => hc y (QAo _ hy))
    rw [QAr] at h
    cases hx:x==n with
    | true =>
      have hxn:x=n := by simpa using hx
      dsimp only at h
      split at h
      · rename_i hk
        rw [QAw, QAw] at hk
        have:k = .free := by simpa using hk.1.1
        rw [hxn, this]
        exact QAj
      · simp only [QBj, hx] at h
        rcases h with h | h
        · cases h
          exact absurd rfl (hc (n, .cell) QAj)
        · cases h
          rw [hxn]
          exact QAj
    | false =>
      dsimp only at h
      split at h
      · simp only [QBj, hx] at h
        exact QAo _ (ih h)
      · simp only [QBj, hx] at h
        exact QAo _ (ih h)
noncomputable def ZhM (fm:List (Option Nat)) (wi:TI) (g:TG) (tt:TT) (te:TE):TE := fun σ H Q => wi σ H fun J H1 => ∀ l, H1 l=none ->
  ∃ W:Nat->Nat->List V->St->Hp->Prop, (∃ m, W 0 m [] (capt fm σ) (upd H1 l (.lst []))) /\
    ∀ i m ys σ' H', W i m ys σ' H'->H' l=some (.lst ys) /\
      ((J.stop i H'/\Q (.ref l) H') \/
       (J.go i H'/\∃ N:List V->St->Hp->Prop, (∀ zs σ2 H2, N zs σ2 H2->∃ m', m'<m/\W (i+1) m' zs σ2 H2)/\∀ x H2, J.yld i H' x H2->g x σ' H2 fun σ3 H3 => tt σ3 H3 fun b H4 =>
          if b=true then te σ3 H4 fun y H5 => H5 l=some (.lst ys)/\ys.length<sizeLine/\N (ys++[y]) σ3 (upd H5 l (.lst (ys++[y])))
          else N ys σ3 H4))
section
variable {prog:Program} {w:World} {A:Around} {R:Result->Shared->Prop} {s:Shared}
noncomputable abbrev NoX:Value->Shared->Prop:=fun _ _=>False
theorem Zcx {elt target iter:Expr} {ifs:List Expr} {scope:Scope} {pos:Pos} {it acc:Value} {env:Env} (I:Nat->Shared->Prop)
  (turn:∀ n s,I n s->wpAny (model prog w) A (pyNext it) (fun r s₁=>match r with
   | none=>R (.ok .next) s₁
   | some v=>wpAny (model prog w) A (letOwnedTupleGo target it v) (fun _ s₁'=>wpAny (model prog w) A (assign target env v) (fun _ s₂ =>
     wpAny (model prog w) A (forIn ifs true fun c r=>if r=true then do let ok <- isTrue c env (eval c env); pure (ForInStep.yield ok) else pure (ForInStep.yield r)) (fun ok s₃ =>
      if ok=true then wpAny (model prog w) A (eval elt env) (fun x s₄ =>
       wpAny (model prog w) A (call (.builtin "list.append") [acc,x]) (fun _ s₅=>∃ m,m<n/\I m s₅) NoX s₄) NoX s₃
      else ∃ m,m<n/\I m s₃) NoX s₂) NoX s₁') NoX s₁) NoX s)
  (n:Nat) (h:I n s) :
  codeAny (model prog w) A (.compLoop (.ListComp elt [⟨target,iter,ifs,0⟩] scope pos) 0 it acc env) R s:=by
 refine codeAny_loop rfl I (fun n s hI=>?_) n h
 show wpAny _ A ((compTurn (.ListComp elt [⟨target,iter,ifs,0⟩] scope pos) 0 it acc env).onRaise (fun x=>do noteFrame x env; theTreesLotGoes x)) _ _ s
 refine wpAny_noted ?_
 rw [compTurn_list]
 refine wpAny_bind (wpAny_standAt (wpAny_bind (wpAny_mono (turn n s hI) (fun r s₁ h₁=>?_) fun _ _ f=>f.elim)))
 cases r with
 | none=>exact wpAny_pure h₁
 | some v =>
  refine wpAny_bind (wpAny_mono h₁ (fun _ s₁' h₁'=>?_) fun _ _ f=>f.elim)
  refine wpAny_bind (wpAny_mono h₁' (fun _ s₂ h₂=>wpAny_bind (wpAny_mono h₂ (fun ok s₃ h₃=>?_) fun _ _ f=>f.elim)) fun _ _ f=>f.elim)
  cases ok with
  | false=>exact wpAny_pure ⟨rfl,h₃⟩
  | true =>
   exact wpAny_bind (wpAny_bind (wpAny_mono h₃ (fun x s₄ h₄=>wpAny_bind (wpAny_mono h₄ (fun _ s₅ h₅=>wpAny_pure (wpAny_pure ⟨rfl,h₅⟩)) fun _ _ f=>f.elim)) fun _ _ f=>f.elim))
end
section
variable {X:Cx} {pins:List (Addr × Obj)} {σ:St} {H₁:Hp} {s₁:Shared}
theorem ZiQ {Nc:List Str} {scope:Scope} {fm:List (Option Nat)} {fp:List Addr} {h₁:Heap} {tk:Nat} {m:Str->Option Value} (c:Zlb X Nc scope fm) (I:Inv X pins σ H₁ s₁) (hf:∀ b∈fp,Zap X pins H₁ b) (hfp:∀ b∈fp,b<s₁.heap.objs.size)
  (old:∀ b o,s₁.heap.get? b=some o->h₁.get? b=some o) (hD:h₁.get? s₁.heap.objs.size=some { cls:=.type "list",data:=.seq ([]:List Value).toArray }) (hns:h₁.Ns (s₁.heap.objs.size+1) m) :
  Inv (Yl X Nc scope (ZF X.env.cells scope.names []) (s₁.heap.objs.size+1) s₁ H₁ fp) [] (capt fm σ) (upd H₁ s₁.heap.objs.size (.lst [])) { s₁ with heap:=h₁,toks:=tk }:=by
 have hfree:∀ y∈scope.names,y.2 = .free->∃ a,X.env.cells.lookup y.1=some a:=fun y hy e=>I.ok.has y.1 (c.free y hy e)
 have sub:∀ x a,(ZF X.env.cells scope.names []).lookup x=some a->X.env.cells.lookup x=some a:=ZaN _ _ hfree (fun x a e=>by simp at e)
 have lt:∀ x a,X.env.cells.lookup x=some a->a<s₁.heap.objs.size:=fun x a e=>(I.cell x a e).elim fun v q=>q.lt
 have hDn:H₁ s₁.heap.objs.size=none:=I.hok.fresh (QAc _)
 have hCn:H₁ (s₁.heap.objs.size+1)=none:=I.hok.fresh (QCh _)
 refine ⟨⟨I.ok.mod,c.kind,I.ok.glob,I.ok.blt,QCh _,fun x y a e1 e2=>I.ok.inj x y a (sub x a e1) (sub y a e2),fun x hx=>?_,fun x a z=>absurd z (by intro q; cases q),I.ok.hd,I.ok.frames,.inl rfl,fun b hb=>?_,I.bs,QAq I.ok.bsz I.sz,fun b o e hb=>?_,fun b hb hfs=>?_,I.stack,I.stkFree⟩,
  rfl,I.bare,Un.laid old (QAc _) hDn,⟨m,hns,fun i x v e1 e2 e3=>?_⟩,fun x a e=>?_,?_,fun x a e=>?_,fun p hp=>absurd (show p∈([]:List (Addr × Obj)) from hp) (by simp),?_,?_⟩
 ·exact JA _ _ x (.inr (J9 (env:=X.env) c.nocell hx))
 ·exact ⟨QBa (QDk (hfp b hb)),fun x a e=>(hf b hb).2.2.2.2.1 x a (sub x a e)⟩
 ·rcases (hf b hb).2.2.2.1 with z | z
  ·exact I.ok.noex b o e z
  ·exact absurd (QAz (QAi e) (QAq I.ok.bsz z)) (QCb _)
 ·rcases List.mem_cons.mp (I.stkSub b hfs) with z | z
  ·exact (hf b hb).2.1 z
  ·exact (hf b hb).2.2.1 z
 ·-- the names taken over
  have hz:∃ j,fm[i]? = some (some j)/\σ[j]? = some (some v):=by
   unfold capt at e2
   rw [QAe] at e2
   cases q:fm[i]? with
   | none=>rw [q] at e2; cases e2
   | some o =>
    rw [q] at e2
    cases o with
    | none=>cases e2
    | some j =>
     refine ⟨j,rfl,?_⟩
     have e2':(σ[j]?).join=some v:=Option.some.inj e2
     cases q2:σ[j]? with
     | none=>rw [q2] at e2'; cases e2'
     | some u=>rw [q2] at e2'; cases u with
      | none=>cases e2'
      | some u=>cases e2'; rfl
  obtain ⟨j,hfm,hσ⟩:=hz
  have hp:((some j:Option Nat),x)∈fm.zip Nc:=by
   have:(fm.zip Nc)[i]? = some (some j,x):=by rw [List.getElem?_zip_eq_some]; exact ⟨hfm,e1⟩
   exact QAu this
  obtain ⟨hN,hmem,hlk⟩:=c.at_ _ hp j rfl
  have hk:=c.free _ hmem rfl
  obtain ⟨m0,hn0,hl0⟩:=I.loc
  have hvis:Vis X.env.scope x:=hk.elim (fun z=>.inr (.inl z)) (fun z=>.inr (.inr z))
  obtain ⟨u,ru,lk⟩:=hl0 j x v hN hσ hvis
  refine ⟨u,ru,.inr ⟨YC (env:=X.env) hlk,?_⟩⟩
  rcases lk with ⟨z,_⟩ | ⟨_,a,ea,o,ho,hd⟩
  ·rcases hk with q | q
   ·rw [show X.env.kindOf x=_ from q] at z; cases z
   ·rw [show X.env.kindOf x=_ from q] at z; cases z
  ·obtain ⟨a',ea'⟩:=JA (cells:=X.env.cells) scope.names [] x (.inr hmem)
   have:=sub x a' ea'
   rw [ea] at this
   cases this
   exact ⟨a,ea',o,old a o ho,hd⟩
 ·obtain ⟨v,o,ho,hd⟩:=I.cell x a (sub x a e)
  exact ⟨v,o,old a o ho,hd⟩
 ·show upd H₁ s₁.heap.objs.size (.lst []) (s₁.heap.objs.size+1)=none
  rw [Zf (Nat.succ_ne_self _)]
  exact hCn
 ·show upd H₁ s₁.heap.objs.size (.lst []) a=none
  rw [Zf (QBa (lt x a (sub x a e)))]
  exact I.freeC x a (sub x a e)
 ·exact I.hok.laid old (QAc _) ⟨QAh _,[],0,.nil,hD⟩
 ·show (capt fm σ).length=Nc.length
  unfold capt
  rw [QAa]
  exact c.len
theorem Zdl {Nc:List Str} {scope:Scope} {cl:List (Str × Addr)} {C:Addr} {fp:List Addr} {σ':St} {H':Hp} {s':Shared} (I:Inv X pins σ H₁ s₁) (hf:∀ b∈fp,Zap X pins H₁ b) (J:Inv (Yl X Nc scope cl C s₁ H₁ fp) [] σ' H' s') :
  Inv X pins σ H' s':=I.call' (ch:=fp) J.os J.base J.hok J.bare fun b hb=>⟨(hf b hb).2.2.2.1,(hf b hb).2.1,(hf b hb).2.2.2.2.1,(hf b hb).2.2.2.2.2⟩
theorem Zg0 {Nc:List Str} {scope:Scope} {cl:List (Str × Addr)} {fp:List Addr} {σ':St} {H':Hp} {s':Shared} {σ2:St} {s2:Shared} {h'':Heap} (I:Inv X pins σ H₁ s₁) (J:Inv (Yl X Nc scope cl (s₁.heap.objs.size+1) s₁ H₁ fp) [] σ' H' s')
  (I2:Inv X pins σ2 H' s2) (sb:Heap.SameBut (s₁.heap.objs.size+1) s2.heap h''):Inv X pins σ2 H' { s2 with heap:=h'' }:=by
 have hle:s₁.heap.objs.size<=s₁.heap.objs.size+1:=QCh _
 refine I2.turned (t':=s2.toks) (it:=s₁.heap.objs.size+1) (fun b o hb e=>(sb.2 b hb).trans e) J.free (Nat.ne_of_gt (QAz I.lt hle)) (.inr (QAq I.sz hle)) (fun x c e z=>?_) (fun p hp z=>?_)
 ·obtain ⟨v,q⟩:=I.cell x c e
  exact absurd (QAz q.lt (by rw [z]; exact hle)) (QCb _)
 ·exact absurd (QAz (QAi (I.pin p hp).1) (by rw [z]; exact hle)) (QCb _)
theorem Zcw {elt tg iter:Expr} {ifs:List Expr} {scope:Scope} {pos:Pos} {Nc:List Str} {fm:List (Option Nat)} {g:TG} {tt:TT} {te:TE} {it:Addr} {fp:List Addr} {tn:Nat->Heap->Prop} {J:It} {Q:VK} {E:Value->Shared->Prop} {RR:Value->Addr->Result->Shared->Prop}
    (hc:X.calm=true) (c:Zlb X Nc scope fm) (I:Inv X pins σ H₁ s₁) (T:Turn X.prog X.w X.K tg J fp it tn) (st:tn 0 s₁.heap) (hf:∀ b∈fp, Zap X pins H₁ b)
    (hg:∀ cl C s₁ H₁ fp, PG (Yl X Nc scope cl C s₁ H₁ fp) tg g) (ht:∀ cl C s₁ H₁ fp, PTs (Yl X Nc scope cl C s₁ H₁ fp) ifs tt) (he:∀ cl C s₁ H₁ fp, PE (Yl X Nc scope cl C s₁ H₁ fp) elt te)
    (h:∀ l, H₁ l=none->∃ W:Nat->Nat->List V->St->Hp->Prop, (∃ m, W 0 m [] (capt fm σ) (upd H₁ l (.lst []))) /\
      ∀ i m ys σ' H', W i m ys σ' H'->H' l=some (.lst ys) /\
        ((J.stop i H'/\Q (.ref l) H') \/
         (J.go i H'/\∃ N:List V->St->Hp->Prop, (∀ zs σ2 H2, N zs σ2 H2->∃ m', m'<m/\W (i+1) m' zs σ2 H2)/\∀ x H2, J.yld i H' x H2->g x σ' H2 fun σ3 H3 => tt σ3 H3 fun b H4 =>
            if b=true then te σ3 H4 fun y H5 => H5 l=some (.lst ys)/\ys.length<sizeLine/\N (ys++[y]) σ3 (upd H5 l (.lst (ys++[y])))
            else N ys σ3 H4)))
    (fin:∀ σ' H' s', Inv (Yl X Nc scope (ZF X.env.cells scope.names []) (s₁.heap.objs.size+1) s₁ H₁ fp) [] σ' H' s'->Q (.ref s₁.heap.objs.size) H'->RR (.ref s₁.heap.objs.size) (s₁.heap.objs.size+1) (.ok .next) s') :
    wpAny (model X.prog X.w) X.A (newList []) (fun acc s₃ => wpAny (model X.prog X.w) X.A (newFunctionEnv scope X.env.globals (ZF X.env.cells scope.names []) [] X.env.qual none .none (some X.env)) (fun cenv s₄ =>
      codeAny (model X.prog X.w) X.A (.compStart (.ListComp elt [⟨tg, iter, ifs, 0⟩] scope pos) 0 (.ref it) acc { cenv with scope := relabel scope X.env }) (RR acc cenv.locals) s₄) E s₃) E s₁ := by
  have hfp:∀ b∈fp, b<s₁.heap.objs.size := fun b hb => by
    obtain ⟨o, ho, _⟩ := T.obj 0 _ st b hb
    exact QAi ho
  refine wpAny_newObj_type (wpAny_newFunctionEnv c.nocell (by intro y hy; simp at hy) (fun h₁ hns₁ hsb₁ => ?_) c.kind)
  dsimp only at hns₁ hsb₁ ⊢
  generalize hH2:s₁.heap.push { cls := .type "list", dict := none, data := .seq ([]:List Value).toArray }=H2 at hns₁ hsb₁ ⊢
  have hC:H2.objs.size=s₁.heap.objs.size+1 := by rw [<- hH2, QCi]
  rw [hC] at hns₁ hsb₁
  show codeAny _ _ (.compStart _ 0 _ _ (compEnvC scope (ZF X.env.cells scope.names []) H2.objs.size X.env)) (RR _ H2.objs.size) _
  rw [hC]
  have old:∀ b o, s₁.heap.get? b=some o->h₁.get? b=some o := fun b o e => hsb₁.extBut b o (QBa (QDk (QAi e))) (QAk _ (hH2 ▸ QAk _ e))
  have hD:h₁.get? s₁.heap.objs.size=some { cls := .type "list", data := .seq ([]:List Value).toArray } := hsb₁.extBut _ _ (QBa (Nat.lt_succ_self _)) (QAk _ (hH2 ▸ QAx _ rfl))
  have st1:tn 0 h₁ := T.keep _ _ _ st fun b _ o e => old b o e
  have hDn:H₁ s₁.heap.objs.size=none := I.hok.fresh (QAc _)
  obtain ⟨W, ⟨m0, w0⟩, turn⟩ := h _ hDn
  have loop:∀ tk:Nat, codeAny (model X.prog X.w) X.A (.compLoop (.ListComp elt [⟨tg, iter, ifs, 0⟩] scope pos) 0 (.ref it) (.ref s₁.heap.objs.size) (compEnvC scope (ZF X.env.cells scope.names []) (s₁.heap.objs.size+1) X.env))
      (RR (.ref s₁.heap.objs.size) (s₁.heap.objs.size+1)) { s₁ with heap := h₁, toks := tk } := by
    intro tk
    have I0 := ZiQ (tk := tk) c I hf hfp old hD hns₁
    have stat:∀ {H':Hp}, (∀ b∈fp, H' b=none)->∀ b∈fp, Zap (Yl X Nc scope (ZF X.env.cells scope.names []) (s₁.heap.objs.size+1) s₁ H₁ fp) [] H' b := fun hn b hb =>
      ⟨hn b hb, (I0.ok.exf b hb).1, I0.ok.exfs b hb, .inl hb, (I0.ok.exf b hb).2, fun p hp => absurd (show p∈([]:List (Addr × Obj)) from hp) (by simp)⟩
    refine Zcx (fun n s' => ∃ i ys σ' H', Inv (Yl X Nc scope (ZF X.env.cells scope.names []) (s₁.heap.objs.size+1) s₁ H₁ fp) [] σ' H' s'/\tn i s'.heap/\(∀ b∈fp, H' b=none)/\W i n ys σ' H') ?_ m0
      ⟨0, [], _, _, I0, st1, fun b hb => by rw [Zf (QBa (hfp b hb))]; exact (hf b hb).1, w0⟩
    rintro n s3 ⟨i, ys, σ3, H3, I3, st3, fr3, w3⟩
    obtain ⟨hl, alt⟩ := turn i n ys σ3 H3 w3
    rcases alt with ⟨stop, qn⟩ | ⟨go, N, hN, step⟩
    · refine thn (T.done (Yl X Nc scope (ZF X.env.cells scope.names []) (s₁.heap.objs.size+1) s₁ H₁ fp) rfl rfl rfl hc i [] s3 σ3 H3 NoX I3 (stat fr3) st3 stop) fun r s4 zz0 => ?_
      obtain ⟨hr, I4⟩ := zz0
      subst hr
      exact fin σ3 H3 s4 I4 qn
    · refine thn (T.item (Yl X Nc scope (ZF X.env.cells scope.names []) (s₁.heap.objs.size+1) s₁ H₁ fp) rfl rfl rfl hc i [] s3 σ3 H3 NoX I3 (stat fr3) st3 go) fun r s4 zz0 => ?_
      obtain ⟨u, hr, h4⟩ := zz0
      subst hr
      refine thn h4 fun _ s5 zz0 => ?_
      obtain ⟨x, H5, I5, r5, y5, st5, fr5⟩ := zz0
      have I5' := I5.pinned (stat fr5) (T.obj _ _ st5)
      have again:∀ {σ7:St} {H7:Hp} {s7:Shared} {zs:List V} {m':Nat}, Inv (Yl X Nc scope (ZF X.env.cells scope.names []) (s₁.heap.objs.size+1) s₁ H₁ fp) ([]++Zbe fp s5.heap) σ7 H7 s7->m'<n->W (i+1) m' zs σ7 H7 ->
          ∃ m, m<n/\∃ i ys σ' H', Inv (Yl X Nc scope (ZF X.env.cells scope.names []) (s₁.heap.objs.size+1) s₁ H₁ fp) [] σ' H' s7/\tn i s7.heap/\(∀ b∈fp, H' b=none)/\W i m ys σ' H' := fun {σ7 H7 s7 zs m'} I7 hm w7 => by
        refine ⟨m', hm, i+1, zs, σ7, H7, I7.unpinned, T.keep _ _ _ st5 fun b hb o e => (I7.pin (b, o) (QBg _ (QBg _ (Y2 hb e)))).1, fun b hb => ?_, w7⟩
        obtain ⟨o, e, d⟩ := T.obj _ _ st5 b hb
        exact (I7.pin (b, o) (QBg _ (QBg _ (Y2 hb e)))).2.1
      refine thn (hg _ _ _ _ _ _ s5 σ3 H5 x u _ I5' r5 (step x H5 y5)) fun _ s6 zz0 => ?_
      obtain ⟨σ6, H6, I6, q6⟩ := zz0
      refine thn (ht _ _ _ _ _ _ s6 σ6 H6 _ I6 q6) fun ok s7 zz0 => ?_
      obtain ⟨H7, I7, q7⟩ := zz0
      cases ok with
      | false =>
        rw [if_neg QAl] at q7 ⊢
        obtain ⟨m', hm, w7⟩ := hN _ _ _ q7
        exact again I7 hm w7
      | true =>
        rw [if_pos rfl] at q7 ⊢
        refine thn (he _ _ _ _ _ _ s7 σ6 H7 _ I7 q7) fun y s8 zz0 => ?_
        obtain ⟨v8, H8, I8, r8, hl8, hz8, n8⟩ := zz0
        obtain ⟨m', hm, w8⟩ := hN _ _ _ n8
        refine thn (Yt _ s8 σ6 H8 (.ref s₁.heap.objs.size) [v8] (.ref s₁.heap.objs.size) [y] (fun v H' => H'=upd H8 s₁.heap.objs.size (.lst (ys++[v8]))) I8 rfl (.cons r8 .nil) ⟨_, ys, v8, rfl, rfl, hl8, hz8, rfl⟩) fun _ s9 zz0 => ?_
        obtain ⟨_, H9, I9, _, e9⟩ := zz0
        subst e9
        exact again I9 hm w8
  exact codeAny_compStart_list (loop _) (T.self _ 0 _ _ _ st1 (loop _))
end
section
variable {X:Cx} {elt tg iter:Expr} {ifs:List Expr} {scope:Scope} {pos spos:Pos} {wi:TI} {g:TG} {tt:TT} {te:TE}
theorem Yr (Nc:List Str) (fm:List (Option Nat)) (hc:X.calm=true) (hk:captOk X.N X.env.scope Nc scope fm=true) (hi:PI X tg iter wi)
  (hg:∀ cl C s₁ H₁ fp,PG (Yl X Nc scope cl C s₁ H₁ fp) tg g) (ht:∀ cl C s₁ H₁ fp,PTs (Yl X Nc scope cl C s₁ H₁ fp) ifs tt) (he:∀ cl C s₁ H₁ fp,PE (Yl X Nc scope cl C s₁ H₁ fp) elt te)
  (hs:∀ x,foldedSetIterable iter X.env x=pure x:=by intro _; rfl):PE X (.ListComp elt [⟨tg,iter,ifs,0⟩] scope pos) (ZhM fm wi g tt te):=by
 intro pins s σ H Q I h
 have c:=captOk.capt hk
 rw [eval_ListComp]
 refine wpAny_comprehension_free (use:=none) rfl hs (JK fun y hy e=>I.ok.has y.1 (c.free y hy e)) c.kind c.names (thn (hi pins s σ H _ I h) fun v s1 h1=>thn h1 fun itv s2 h2=>?_)
 obtain ⟨it,fp,tn,J,H2,e,I2,T,st2,f2,h⟩:=h2
 subst e
 refine Zcw (RR:=fun acc C=>compPost (model X.prog X.w) X.A X.xe none (EP X pins σ Q) acc C) hc c I2 T st2 f2 hg ht he h fun σ' H' s' J' q=>?_
 obtain ⟨m,hn,_⟩:=J'.loc
 exact ⟨m,hn,fun h'' sb=>⟨.ref s2.heap.objs.size,H',Zg0 I2 J' (Zdl I2 f2 J') sb,rfl,q⟩⟩
theorem Zez {i:Nat} {x:Str} {px:Pos} (Nc:List Str) (fm:List (Option Nat)) (hN:X.N.Nodup) (hi':X.N[i]? = some x) (hx:Loc X.env.scope x) (hc:X.calm=true) (hk:captOk X.N X.env.scope Nc scope fm=true) (hi:PI X tg iter wi)
  (hg:∀ cl C s₁ H₁ fp,PG (Yl X Nc scope cl C s₁ H₁ fp) tg g) (ht:∀ cl C s₁ H₁ fp,PTs (Yl X Nc scope cl C s₁ H₁ fp) ifs tt) (he:∀ cl C s₁ H₁ fp,PE (Yl X Nc scope cl C s₁ H₁ fp) elt te)
  (hsw:swapsWith (.ListComp elt [⟨tg,iter,ifs,0⟩] scope pos) (some (.Name x px)) spos.line X.env=pure true:=by rfl)
  (hs:∀ x,foldedSetIterable iter X.env x=pure x:=by intro _; rfl) (hf:X.fn x=true\/X.env.scope.names.lookup x=some .local:=by first | exact .inl rfl | exact .inr rfl | assumption) :
  PS X (.Assign [.Name x px] (.ListComp elt [⟨tg,iter,ifs,0⟩] scope pos) spos) (Zkm (ZhM fm wi g tt te) (Jy i)):=by
 intro pins s σ H D I h
 have c:=captOk.capt hk
 rw [exec_Assign_Name_used _ _ _ _ hsw]
 refine wpAny_bind (wpAny_standAt (wpAny_bind ?_))
 show wpAny _ X.A (do let _ <- comprehension (.ListComp elt [⟨tg,iter,ifs,0⟩] scope pos) scope X.env _ (newList []) false (eval iter X.env) (some (assign (.Name x px) X.env))) _ _ s
 refine wpAny_bind (wpAny_mono (wpAny_comprehension_free (use:=some (assign (.Name x px) X.env)) (Q:=fun _ s'=>SP X pins D .next s') rfl hs (JK fun y hy e=>I.ok.has y.1 (c.free y hy e)) c.kind c.names
  (thn (hi pins s σ H _ I h) fun v s1 h1=>thn h1 fun itv s2 h2=>?_)) (fun _ s' hq=>wpAny_pure (wpAny_pure hq)) fun _ _ e=>e)
 obtain ⟨it,fp,tn,J,H2,e,I2,T,st2,f2,h⟩:=h2
 subst e
 refine Zcw (Q:=fun v H'=>Jy i v σ H' D.nx) (RR:=fun acc C=>compPost (model X.prog X.w) X.A X.xe (some (assign (.Name x px) X.env)) (fun _ s'=>SP X pins D .next s') acc C) hc c I2 T st2 f2 hg ht he h fun σ' H' s' J' q=>?_
 obtain ⟨m,hn,_⟩:=J'.loc
 have IB:=Zdl I2 f2 J'
 show wpAny _ X.A (assign (.Name x px) X.env _) _ _ _
 refine wpAny_assign_Name (ZcZ (v:=.ref s2.heap.objs.size) IB hN hi' hx rfl (fun s'' I'' zz0=>?_) hf)
 obtain ⟨a,sa,ha⟩:=zz0
 have hle:s2.heap.objs.size<=s2.heap.objs.size+1:=QCh _
 have hne:s2.heap.objs.size+1≠a:=by
  rcases ha with rfl | ha
  ·exact Nat.ne_of_gt (QAz I2.lt hle)
  ·obtain ⟨v,q⟩:=I2.cell x a ha
   exact Nat.ne_of_gt (QAz q.lt hle)
 exact ⟨m,hn.sameBut sa hne,fun h'' sb=>⟨_,H',Zg0 I2 J' I'' sb,q⟩⟩
end
end L2
namespace L2
open PySem PySem.Spec PyProof.Rows
section
variable {X:Cx}
theorem Z9 (K:PySem.W.Frag) (h:X.K=K:=by rfl):IxR X (Zlu K):=by subst h; exact Zak
theorem Zco (K:PySem.W.Frag) (h:X.K=K:=by rfl):IxR X (Zlv K):=by subst h; exact YG
theorem JQ (K:PySem.W.Frag) (h:X.K=K:=by rfl):OpR X (compareOp .NotIn) (rIn K true):=by subst h; exact ZdZ
noncomputable def Zl8 (K:PySem.W.Frag):List V->Hp->VK->Prop:=fun xs H Q=>∃ p ys,xs=[.ref p]/\(SqL K H p ys\/SqT K H p ys)/\Q (.int ys.length) H
theorem ZJ (K:PySem.W.Frag) (h:X.K=K:=by rfl):Jh X (.builtin "len") (Zl8 K):=by subst h; exact Zeb
theorem ZbJ {tg l:Expr} {tl:TE} (K:PySem.W.Frag) (hl:PE X l tl) (h:X.K=K:=by rfl):PI X tg l (ZlC K tl):=by subst h; exact Zh3 hl
theorem Z2 {tg l:Expr} {tl:TE} (K:PySem.W.Frag) (hl:PE X l tl) (h:X.K=K:=by rfl):PI X tg l (Zj6 K tl):=by subst h; exact Zaw hl
noncomputable def Jq (xs ys:List V):Bool:=decide (xs.length=ys.length)&&(xs.zip ys).all fun p=>eqV p.1 p.2
theorem ZiK {x:V} (h:Yb x=true):eqV x x=true:=by
 cases x <;> simp_all [eqV,Yb]
theorem ZaJ {xs ys:List V} (hl:xs.length=ys.length):(List.range xs.length).all (fun j=>match xs[j]?,ys[j]? with | some a,some b=>eqV a b | _,_=>false)=Jq xs ys:=by
 unfold Jq
 rw [decide_eq_true hl,QCj,QBi,QBe,QBe]
 constructor
 ·intro h p hp
  obtain ⟨i,hi,rfl⟩:=List.mem_iff_getElem.mp hp
  rw [List.length_zip] at hi
  have:=h i (List.mem_range.mpr (by exact Om.k493 hl hi))
  have h1:i<xs.length:=by exact Om.k493 hl hi
  have h2:i<ys.length:=by exact Om.a2 ‹_› ‹_›
  simpa [h1,h2] using this
 ·intro h i hi
  have h1:=List.mem_range.mp hi
  have h2:i<ys.length:=by exact Om.a2 ‹_› ‹_›
  have hi':i<(xs.zip ys).length:=by rw [List.length_zip]; exact Om.k492 hl h1
  have:=h ((xs.zip ys)[i]) (QAs hi')
  simpa [h1,h2] using this
theorem ZeK {A:Around} {s:Shared} {xs ys:List V} {its its2:List Value} (r1:Vals xs its) (r2:Vals ys its2) (f1:xs.all Yb=true) (f2:ys.all Yb=true):∀ j (h1:j<its.toArray.size) (h2:j<its2.toArray.size),
  SeqAt.EqAt A s its.toArray[j] its2.toArray[j] (match xs[j]?,ys[j]? with | some a,some b=>eqV a b | _,_=>false):=fun j h1 h2=>by
 have l1:=r1.length
 have l2:=r2.length
 rw [QAg] at h1 h2
 have hx:xs[j]? = some (xs[j]'(by exact Om.a1 ‹_› ‹_›)):=by simp
 have hy:ys[j]? = some (ys[j]'(by exact Om.a1 ‹_› ‹_›)):=by simp
 obtain ⟨u,hu,ru⟩:=r1.get hx
 obtain ⟨v,hv,rv⟩:=r2.get hy
 have e1:its.toArray[j]=u:=by
  have:its[j]? = some its[j]:=by simp [h1]
  rw [this] at hu
  simpa using Option.some.inj hu
 have e2:its2.toArray[j]=v:=by
  have:its2[j]? = some its2[j]:=by simp [h2]
  rw [this] at hv
  simpa using Option.some.inj hv
 rw [e1,e2,hx,hy]
 exact Zgf ru rv (List.all_eq_true.mp f1 _ (QAs _)) (List.all_eq_true.mp f2 _ (QAs _))
inductive ZlN (K:PySem.W.Frag) (neg:Bool) (x:V) (y:V) (H:Hp) (Q:VK):Prop where
 | mk (a:Addr) (b:Addr) (xs:List V) (ys:List V) (_:x = .ref a) (_:y = .ref b) (_:SqL K H a xs) (_:SqL K H b ys) (_:((xs.all Yb=true/\ys.all Yb=true)\/xs.length≠ys.length)) (_:Q (.bl (if neg then !Jq xs ys else Jq xs ys)) H):ZlN K neg x y H Q
noncomputable def rLL (K:PySem.W.Frag) (neg:Bool):R2:=fun x y H Q=>ZlN K neg x y H Q
theorem ZkE (hu:X.A.units<cLine) (K:PySem.W.Frag) (hK:X.K=K:=by rfl):OpR X (compareOp .Eq) (rLL K false):=by
 subst hK
 intro pins s σ H x y v u Q I rx ry h
 obtain ⟨a,b,xs,ys,rfl,rfl,h1,h2,hf,q⟩:=h
 cases rx
 cases ry
 obtain ⟨its,r1,p1,z1⟩:=I.list h1
 obtain ⟨its2,r2,p2,z2⟩:=I.list h2
 have l1:=r1.length
 have l2:=r2.length
 by_cases hl:xs.length=ys.length
 ·have hf':=hf.resolve_right (fun z=>z hl)
  refine SeqAt.eq_listAt p1.isList p2.isList (by rw [QAg,QAg]; exact Om.k491 l1 l2 hl) hu (ZeK r1 r2 hf'.1 hf'.2) ⟨.bl _,H,I,rfl,?_⟩
  rw [QAg,<- l1,ZaJ hl]
  exact q
 ·have e:Jq xs ys=false:=by unfold Jq; rw [decide_eq_false hl,QCc]
  refine SeqAt.eq_list_lengthsAt p1.isList p2.isList (by simp only [QAg,bne_iff_ne]; exact Om.k490 l1 l2 hl) hu ⟨.bl _,H,I,rfl,?_⟩
  rw [<- e]
  exact q
theorem ZkD (hu:X.A.units<cLine) (K:PySem.W.Frag) (hK:X.K=K:=by rfl):OpR X (compareOp .NotEq) (rLL K true):=by
 subst hK
 intro pins s σ H x y v u Q I rx ry h
 obtain ⟨a,b,xs,ys,rfl,rfl,h1,h2,hf,q⟩:=h
 cases rx
 cases ry
 obtain ⟨its,r1,p1,z1⟩:=I.list h1
 obtain ⟨its2,r2,p2,z2⟩:=I.list h2
 have l1:=r1.length
 have l2:=r2.length
 by_cases hl:xs.length=ys.length
 ·have hf':=hf.resolve_right (fun z=>z hl)
  refine SeqAt.RcNeAt.lists p1.isList p2.isList (by rw [QAg,QAg]; exact Om.k491 l1 l2 hl) hu (ZeK r1 r2 hf'.1 hf'.2) _ _ _ _ ⟨.bl _,H,I,rfl,?_⟩
  rw [QAg,<- l1,ZaJ hl]
  exact q
 ·have e:Jq xs ys=false:=by unfold Jq; rw [decide_eq_false hl,QCc]
  refine SeqAt.RcNeAt.lists_lengths p1.isList p2.isList (by simp only [QAg,bne_iff_ne]; exact Om.k490 l1 l2 hl) hu _ _ _ _ ⟨.bl _,H,I,rfl,?_⟩
  have q':Q (.bl (!Jq xs ys)) H:=q
  rw [e] at q'
  exact q'
end
structure Wlk (J:It) (xs:List V) (P:Hp->Prop):Prop where
 go:∀ i H,P H->i<xs.length->J.go i H
 yld:∀ i H x H',P H->J.yld i H x H'->i<xs.length->H'=H/\xs[i]? = some x
 stop:∀ i H,P H->xs.length<=i->J.stop i H
theorem ZbH {K:PySem.W.Frag} {a:Addr} {xs:List V}:Wlk (Itt K a) xs (fun H=>SqT K H a xs) :=
 ⟨fun i H h hi=>⟨xs,xs[i],h,by simp [hi]⟩,fun i H x H' h y _=>⟨y.1,y.2 xs h⟩,fun i H h hi=>⟨xs,h,hi⟩⟩
theorem Z1 {K:PySem.W.Frag} {a:Addr} {xs:List V}:Wlk (Itl K a) xs (fun H=>SqL K H a xs) :=
 ⟨fun i H h hi=>⟨xs,xs[i],h,by simp [hi]⟩,fun i H x H' h y _=>⟨y.1,y.2 xs h⟩,fun i H h hi=>⟨xs,h,hi⟩⟩
noncomputable def rng (n:Nat):List V:=(List.range n).map fun i:Nat=>V.int (i:Int)
theorem Zr (n:Nat):(rng n).length=n:=by unfold rng; rw [QAa,QAp]
theorem ZhY {n i:Nat} (h:i<n):(rng n)[i]? = some (.int (i:Int)):=by
 unfold rng
 rw [QAe,QBk h]
 rfl
theorem Z3 {n i:Nat} {x:V} (h:(rng n)[i]? = some x):i<n/\x = .int (i:Int):=by
 have hi:i<n:=by
  have:=(List.getElem?_eq_some_iff.mp h).1
  rwa [Zr] at this
 rw [ZhY hi] at h
 exact ⟨hi,(Option.some.inj h).symm⟩
theorem ZI {n:Nat}:Wlk (Itr 0 n) (rng n) (fun _=>True) :=
 ⟨fun i H _ hi=>by rw [Zr] at hi; exact hi,fun i H x H' _ y hi=>by
  rw [Zr] at hi
  obtain ⟨e,rfl⟩:=y
  refine ⟨e,?_⟩
  rw [ZhY hi,QBx],fun i H _ hi=>by rw [Zr] at hi; exact hi⟩
noncomputable def Za6 (g:TG) (tt:TT) (te:TE) (x:V) (σ:St) (H:Hp) (R:Option V->St->Hp->Prop):Prop :=
 g x σ H fun σ3 H3=>tt σ3 H3 fun b H4=>if b=true then te σ3 H4 fun y H5=>R (some y) σ3 H5 else R none σ3 H4
theorem ZZ {J:It} {xs:List V} {P:Hp->Prop} {g:TG} {tt:TT} {te:TE} {l:Addr} {QL:Hp->Prop} {σ0:St} {H0:Hp} (Wk:Wlk J xs P) (Pv:Nat->List V->St->Hp->Prop) (h0:Pv 0 [] σ0 H0)
    (hP:∀ i ys σ H, Pv i ys σ H->P H/\H l=some (.lst ys))
    (hs:∀ i x ys σ H, xs[i]? = some x->Pv i ys σ H->Za6 g tt te x σ H fun o σ3 H5 => match o with
      | some y => H5 l=some (.lst ys)/\ys.length<sizeLine/\Pv (i+1) (ys++[y]) σ3 (upd H5 l (.lst (ys++[y])))
      | none => Pv (i+1) ys σ3 H5)
    (hd:∀ ys σ H, Pv xs.length ys σ H->QL H) :
    ∃ W:Nat->Nat->List V->St->Hp->Prop, (∃ m, W 0 m [] σ0 H0) /\
    ∀ i m ys σ' H', W i m ys σ' H'->H' l=some (.lst ys) /\
      ((J.stop i H'/\QL H') \/
       (J.go i H'/\∃ N:List V->St->Hp->Prop, (∀ zs σ2 H2, N zs σ2 H2->∃ m', m'<m/\W (i+1) m' zs σ2 H2)/\∀ x H2, J.yld i H' x H2->g x σ' H2 fun σ3 H3 => tt σ3 H3 fun b H4 =>
          if b=true then te σ3 H4 fun y H5 => H5 l=some (.lst ys)/\ys.length<sizeLine/\N (ys++[y]) σ3 (upd H5 l (.lst (ys++[y])))
          else N ys σ3 H4)) := by
  refine ⟨fun i m ys σ H => m=xs.length - i/\i<=xs.length/\Pv i ys σ H, ⟨xs.length, by simp, QAh _, h0⟩, ?_⟩
  rintro i m ys σ H ⟨rfl, hi, p⟩
  obtain ⟨hp, hl⟩ := hP i ys σ H p
  refine ⟨hl, ?_⟩
  by_cases hlt:i<xs.length
  · refine .inr ⟨Wk.go i H hp hlt, fun zs σ2 H2 => Pv (i+1) zs σ2 H2, fun zs σ2 H2 n => ⟨xs.length - (i+1), by exact Om.k394 hlt, rfl, hlt, n⟩, fun x H2 y => ?_⟩
    obtain ⟨e, hx⟩ := Wk.yld i H x H2 hp y hlt
    subst e
    exact hs i x ys σ _ hx p
  · have e:i=xs.length := by exact Om.k488 hi hlt
    subst e
    exact .inl ⟨Wk.stop _ H hp (QAc _), hd ys σ H p⟩
theorem Same.upd_new {H H':Hp} {l:Addr} {o:HO} (e:Same H H') (h:H l=none):Same H (upd H' l o):=fun b u q=>by
 rw [Zf (Zh q h)]
 exact e b u q
theorem Same.new {H:Hp} {l:Addr} {o:HO} (h:H l=none):Same H (upd H l o):=(Same.refl H).upd_new h
theorem J8 {β:Type} {F:Nat->Option β} {i:Nat}:(List.range (i+1)).filterMap F=(List.range i).filterMap F++(F i).toList:=by
 rw [QDc,List.filterMap_append]
 cases e:F i <;> simp [e]
theorem ZcN {β:Type} {F:Nat->Option β} {i:Nat}:((List.range i).filterMap F).length<=i:=by
 have h:=List.length_filterMap_le F (List.range i)
 rw [QAp] at h
 exact h
theorem Jz {α β:Type} (h:α->β) (l:List α):(l.filterMap fun i=>some (h i))=l.map h:=by
 induction l with
 | nil=>rfl
 | cons a l ih=>rw [QDl,QAr,ih]
theorem ZD {J:It} {xs:List V} {P:Hp->Prop} {g:TG} {tt:TT} {te:TE} {l:Addr} {QL:Hp->Prop} {σ0:St} {H1:Hp} (F:Nat->Option V) (S:St->Prop) (Wk:Wlk J xs P) (hz:xs.length<=sizeLine) (hl:H1 l=none)
    (hPm:∀ H, Same H1 H->P H) (hS:S σ0)
    (hs:∀ i x σ H (R:Option V->St->Hp->Prop), xs[i]? = some x->S σ->Same H1 H->(∀ σ' H', S σ'->Same H H'->R (F i) σ' H')->Za6 g tt te x σ H R)
    (hd:∀ H, Same H1 H->H l=some (.lst ((List.range xs.length).filterMap F))->QL H) :
    ∃ W:Nat->Nat->List V->St->Hp->Prop, (∃ m, W 0 m [] σ0 (upd H1 l (.lst []))) /\
    ∀ i m ys σ' H', W i m ys σ' H'->H' l=some (.lst ys) /\
      ((J.stop i H'/\QL H') \/
       (J.go i H'/\∃ N:List V->St->Hp->Prop, (∀ zs σ2 H2, N zs σ2 H2->∃ m', m'<m/\W (i+1) m' zs σ2 H2)/\∀ x H2, J.yld i H' x H2->g x σ' H2 fun σ3 H3 => tt σ3 H3 fun b H4 =>
          if b=true then te σ3 H4 fun y H5 => H5 l=some (.lst ys)/\ys.length<sizeLine/\N (ys++[y]) σ3 (upd H5 l (.lst (ys++[y])))
          else N ys σ3 H4)) := by
  refine ZZ Wk (fun i ys σ H => Same H1 H/\H l=some (.lst ys)/\S σ/\ys=(List.range i).filterMap F) ⟨Same.new hl, Zb, hS, rfl⟩ (fun i ys σ H p => ⟨hPm H p.1, p.2.1⟩) ?_ ?_
  · rintro i x ys σ H hx ⟨sm, hl', hσ, rfl⟩
    refine hs i x σ H _ hx hσ sm fun σ' H' hσ' sm' => ?_
    have hi:i<xs.length := (List.getElem?_eq_some_iff.mp hx).1
    cases e:F i with
    | none =>
      refine ⟨sm.trans sm', sm' _ _ hl', hσ', ?_⟩
      rw [J8, e]
      simp
    | some y =>
      refine ⟨sm' _ _ hl', ?_, (sm.trans sm').upd_new hl, Zb, hσ', ?_⟩
      · have h1 := ZcN (F := F) (i := i)
        omega
      · rw [J8, e]
        rfl
  · rintro ys σ H ⟨sm, hl', hσ, rfl⟩
    exact hd H sm hl'
theorem Paired.getL {α β:Type} {F:α->β->Prop}:∀ {l₁:List α} {l₂:List β} {i:Nat} {a:α},Paired F l₁ l₂->l₁[i]? = some a->∃ b,l₂[i]? = some b/\F a b
 | _,_,_,_,.nil,e=>by simp at e
 | _,_,0,_,.cons r _,e=>by simp at e; subst e; exact ⟨_,rfl,r⟩
 | _,_,i+1,a,.cons _ t,e=>by
  obtain ⟨u,h1,h2⟩:=Paired.getL (i:=i) (a:=a) t (by simpa using e)
  exact ⟨u,by simpa using h1,h2⟩
theorem Paired.getR {α β:Type} {F:α->β->Prop}:∀ {l₁:List α} {l₂:List β} {i:Nat} {b:β},Paired F l₁ l₂->l₂[i]? = some b->∃ a,l₁[i]? = some a/\F a b
 | _,_,_,_,.nil,e=>by simp at e
 | _,_,0,_,.cons r _,e=>by simp at e; subst e; exact ⟨_,rfl,r⟩
 | _,_,i+1,b,.cons _ t,e=>by
  obtain ⟨u,h1,h2⟩:=Paired.getR (i:=i) (b:=b) t (by simpa using e)
  exact ⟨u,by simpa using h1,h2⟩
theorem YU {xs:List V} {i:Nat} {v:V} (h:xs[i]? = some v):atI xs (i:Int)=some v:=ZjS h
theorem Zq {n:Nat} (h:n<=1000):n<=sizeLine:=QBw (Zw h)
theorem ZM (ns:List Int):(ns.map V.int).all Yb=true:=by
 rw [List.all_map]
 exact List.all_eq_true.mpr fun _ _=>rfl
theorem ZiJ (xs:List V):Jq xs []=xs.isEmpty:=by
 cases xs <;> simp [Jq]
theorem Paired.append {α β:Type} {F:α->β->Prop}:∀ {l₁ m₁:List α} {l₂ m₂:List β},Paired F l₁ l₂->Paired F m₁ m₂->Paired F (l₁++m₁) (l₂++m₂)
 | _,_,_,_,.nil,s=>s
 | _,_,_,_,.cons r t,s=>.cons r (Paired.append t s)
theorem Zec:bootBuiltins "list" = some (Value.type "list"):=by decide +kernel
theorem ZX:bootBuiltins "tuple" = some (Value.type "tuple"):=by decide +kernel
theorem Zk4:bootBuiltins "int" = some (Value.type "int"):=by decide +kernel
theorem Yx {X:Cx} {Nc:List Str} {scope:Scope} {cl:List (Str × Addr)} {C:Addr} {s₁:Shared} {H₁:Hp} {fp:List Addr} (i:Nat) {x:Str} {pos:Pos} (hN:Nc.Nodup:=by decide +kernel) (hi:Nc[i]? = some x:=by rfl)
  (hx:(relabel scope X.env).names.lookup x=some .local:=by rfl):PG (Yl X Nc scope cl C s₁ H₁ fp) (.Name x pos) (Jy i):=ZG hN hi (.inl hx) (.inr hx)
end L2
namespace L2
open PySem PySem.Spec PyProof.Rows
section
variable {P:Program} {w:World} {outer:List Env} {H H':Hp} {s s' s'':Shared} {e:Addr} {cls a0:Value} {B:Heap}
end
section
variable {P:Program} {w:World} {K:PySem.W.Frag} {mg:Str->Option Value} {base:Heap} {N:List Str} {qual:Str} {scope:Scope} {f:Addr} {cd:Value} {A:Around} {outer:List Env} {s₀:Shared} {H₀:Hp} {E:XK}
end
section
variable {X:Cx} {pins ps':List (Addr × Obj)} {σ:St} {H:Hp} {s:Shared} {xe:Value->Shared->Prop}
end
section
variable {X:Cx} {CX:CXT} {k:Nat} {f:Addr} {fd:FuncData} {ps:List Str} {sp:Sp} {dvs:List V} {ds:List Value} {E:XK} {x:Str} {p pos:Pos} {e:Expr} {es:List Expr} {t:TA}
end
section
variable {X:Cx} {pins:List (Addr × Obj)} {σ:St} {H:Hp} {s:Shared} {e:Addr}
end
section
variable {X:Cx}
end
end L2
namespace L2
open PySem
noncomputable def GridT (H:Hp) (a:Addr) (B:List (List V)):Prop:=∃ ps:List Addr,H a=some (.tup (ps.map V.ref))/\Paired (fun p row=>H p=some (.tup row)) ps B
theorem GridT.same {H H':Hp} {a:Addr} {B:List (List V)} (g:GridT H a B) (e:Same H H'):GridT H' a B :=
 let ⟨ps,h,r⟩:=g
 ⟨ps,e _ _ h,Paired.mapP r fun _ _ q=>e _ _ q⟩
theorem Zgg (xs:List V) {c:Nat} (h:c<=xs.length):Ze0 xs none (some (c:Int))=xs.take c:=by
 unfold Ze0
 rw [HT.sIx_none,HT.sIx_nat,List.drop_zero,Nat.sub_zero]
 congr 1
 exact Om.m2 ‹_›
theorem Zcu (xs:List V) {c:Nat} (h:c<=xs.length):Ze0 xs (some (c:Int)) none=xs.drop c:=by
 unfold Ze0
 rw [HT.sIx_none,HT.sIx_nat]
 have e:min c xs.length=c:=by exact Om.m2 ‹_›
 rw [e,QBc]
 rw [QBn]
 exact QAc _
inductive ZiZ (K:PySem.W.Frag) (x:V) (y:V) (H:Hp) (Q:VK):Prop where
 | mk (a:Addr) (b:Addr) (xs:List V) (ys:List V) (_:x = .ref a) (_:y = .ref b) (_:H a=some (.tup xs)) (_:H b=some (.tup ys)) (_:xs.length+ys.length<=sizeLine) (_:∀ p H',Same H H'->H' p=some (.tup (xs++ys))->Q (.ref p) H'):ZiZ K x y H Q
noncomputable def Zlq (K:PySem.W.Frag):R2:=fun x y H Q=>ZiZ K x y H Q
theorem Zjk {X:Cx} (K:PySem.W.Frag):OpR X (binaryOp .Add) (Zlq K):=by
 intro pins s σ H x y v u Q I rx ry h
 obtain ⟨a,b,xs,ys,rfl,rfl,ha,hb,hz,q⟩:=h
 cases rx
 cases ry
 by_cases hx:xs=[]
 ·subst hx
  obtain ⟨its,r1,p1,_⟩:=I.tuple (SqT.of ha)
  obtain ⟨its2,r2,p2,_⟩:=I.tuple (SqT.of hb)
  have e0:its=[]:=r1.nil_iff.mpr rfl
  subst e0
  obtain ⟨⟨cls,dd,data,sl⟩,ho,hc,n,hd⟩:=id p1
  obtain ⟨⟨cls2,dd2,data2,sl2⟩,ho2,hc2,n2,hd2⟩:=id p2
  simp only at hc hd hc2 hd2
  subst hc hd hc2 hd2
  exact concat_meets ⟨_,ho,rfl⟩ ⟨_,ho2,rfl⟩ noFill_tuple_add seq_tuple_add PySem.F.slot_tuple_add PySem.F.entry_tuple_add (PySem.F.args_tuple_add_2 _ _) (PyProof.Rows.tuple_addW0 a b _ _ n n2 dd dd2 sl sl2 rfl) ⟨ho,ho2,.ref b,H,I,rfl,q b H (Same.refl H) hb⟩
 ·refine Zjl pins s σ H (.ref a) (.ref b) _ _ Q I rfl rfl ⟨a,b,xs,ys,rfl,rfl,SqT.of ha,SqT.of hb,hx,hz,fun e=>?_,fun _ p hp=>q p _ (Same.new hp) Zb⟩
  subst e
  rw [QBh] at q
  exact q a H (Same.refl H) ha
end L2
namespace L2
open PySem PySem.Spec PyProof.Rows PySem.W
section
variable {prog:Program} {w:World} {A:Around} {E:Value->Shared->Prop} {K:PySem.W.Frag} {h:Heap} {g:Array GenState} {d:Drawn} {t:Nat} {os:OsState} {a C:Addr} {o:Obj}
end
end L2
namespace L2
open PySem PySem.Spec PyProof.Rows
section
variable {X:Cx} {pins:List (Addr × Obj)} {σ:St} {H:Hp} {s:Shared}
end
section
variable {X:Cx}
end
section
variable {X:Cx} {k:Nat} {f:Addr} {fd:FuncData} {ps:List Str} {sp:Sp} {x:Str} {p pos:Pos} {e:Expr} {es:List Expr} {t:TA}
end
end L2
namespace L2
open PySem PySem.Spec PyProof.Rows
inductive EqD (K:PySem.W.Frag) (H:Hp):Nat->V->V->Bool->Prop where
 | flat {d:Nat} {x y:V} (fx:Yb x=true) (fy:Yb y=true):EqD K H d x y (eqV x y)
 | tups {d:Nat} {a c:Addr} {xs ys:List V} {e:Nat->Bool} (h1:SqT K H a xs) (h2:SqT K H c ys) (he:∀ j x y,xs[j]? = some x->ys[j]? = some y->EqD K H d x y (e j)):EqD K H (d+1) (.ref a) (.ref c) (decide (xs.length=ys.length)&&(List.range xs.length).all fun j=>decide (j<ys.length)&&e j)
 | lsts {d:Nat} {a c:Addr} {xs ys:List V} {e:Nat->Bool} (h1:SqL K H a xs) (h2:SqL K H c ys) (he:xs.length=ys.length->∀ j x y,xs[j]? = some x->ys[j]? = some y->EqD K H d x y (e j)):EqD K H (d+1) (.ref a) (.ref c) (decide (xs.length=ys.length)&&(List.range xs.length).all fun j=>decide (j<ys.length)&&e j)
 | tupF {d:Nat} {a:Addr} {xs:List V} {y:V} (h1:SqT K H a xs) (fy:Yb y=true):EqD K H d (.ref a) y false
 | Ftup {d:Nat} {a:Addr} {xs:List V} {y:V} (h1:SqT K H a xs) (fy:Yb y=true):EqD K H d y (.ref a) false
 | lstF {d:Nat} {a:Addr} {xs:List V} {y:V} (h1:SqL K H a xs) (fy:Yb y=true):EqD K H d (.ref a) y false
 | Flst {d:Nat} {a:Addr} {xs:List V} {y:V} (h1:SqL K H a xs) (fy:Yb y=true):EqD K H d y (.ref a) false
 | tupL {d:Nat} {a c:Addr} {xs ys:List V} (h1:SqT K H a xs) (h2:SqL K H c ys):EqD K H d (.ref a) (.ref c) false
 | lstT {d:Nat} {a c:Addr} {xs ys:List V} (h1:SqL K H a xs) (h2:SqT K H c ys):EqD K H d (.ref a) (.ref c) false
theorem Zks {A:Around} {s:Shared} {y x:V} {u v:Value} (ry:RelV y u) (rx:RelV x v) (fy:Yb y=true) (fx:Yb x=true):SeqAt.RcAt A s u v (eqV y x)/\SeqAt.RcNeAt A s u v (!eqV y x):=by
 cases y with
 | non =>
  cases ry
  cases x with
  | non=>cases rx; exact ⟨SeqAt.RcAt.none_none,SeqAt.RcNeAt.none_none⟩
  | bl b=>cases rx; exact ⟨SeqAt.RcAt.none_bool b,SeqAt.RcNeAt.none_bool b⟩
  | int b=>obtain ⟨t,rfl⟩:=rx; exact ⟨SeqAt.RcAt.none_int b t,SeqAt.RcNeAt.none_int b t⟩
  | str b=>obtain ⟨t,rfl⟩:=rx; exact ⟨SeqAt.RcAt.none_str b t,SeqAt.RcNeAt.none_str b t⟩
  | _=>exact absurd (show false=true from fx) QAl
 | bl a =>
  cases ry
  cases x with
  | non=>cases rx; exact ⟨SeqAt.RcAt.bool_none a,SeqAt.RcNeAt.bool_none a⟩
  | bl b=>cases rx; exact ⟨SeqAt.RcAt.bool_bool a b,SeqAt.RcNeAt.bool_bool a b⟩
  | int b=>obtain ⟨t,rfl⟩:=rx; exact ⟨SeqAt.RcAt.bool_int a b t,SeqAt.RcNeAt.bool_int a b t⟩
  | str b=>obtain ⟨t,rfl⟩:=rx; exact ⟨SeqAt.RcAt.bool_str a b t,SeqAt.RcNeAt.bool_str a b t⟩
  | _=>exact absurd (show false=true from fx) QAl
 | int a =>
  obtain ⟨t',rfl⟩:=ry
  cases x with
  | non=>cases rx; exact ⟨SeqAt.RcAt.int_none a t',SeqAt.RcNeAt.int_none a t'⟩
  | bl b=>cases rx; exact ⟨SeqAt.RcAt.int_bool a t' b,SeqAt.RcNeAt.int_bool a t' b⟩
  | int b=>obtain ⟨t,rfl⟩:=rx; exact ⟨SeqAt.RcAt.int_int a t' b t,SeqAt.RcNeAt.int_int a t' b t⟩
  | str b=>obtain ⟨t,rfl⟩:=rx; exact ⟨SeqAt.RcAt.int_str a t' b t,SeqAt.RcNeAt.int_str a t' b t⟩
  | _=>exact absurd (show false=true from fx) QAl
 | str a =>
  obtain ⟨t',rfl⟩:=ry
  cases x with
  | non=>cases rx; exact ⟨SeqAt.RcAt.str_none a t',SeqAt.RcNeAt.str_none a t'⟩
  | bl b=>cases rx; exact ⟨SeqAt.RcAt.str_bool a t' b,SeqAt.RcNeAt.str_bool a t' b⟩
  | int b=>obtain ⟨t,rfl⟩:=rx; exact ⟨SeqAt.RcAt.str_int a t' b t,SeqAt.RcNeAt.str_int a t' b t⟩
  | str b=>obtain ⟨t,rfl⟩:=rx; exact ⟨SeqAt.RcAt.str_str a t' b t,SeqAt.RcNeAt.str_str a t' b t⟩
  | _=>exact absurd (show false=true from fx) QAl
 | _=>exact absurd (show false=true from fy) QAl
section
variable {A:Around} {s:Shared} {l:Addr} {its:Array Value}
theorem Zgr (hl:s.heap.IsTuple l its) {y:V} {v:Value} (r:RelV y v) (fy:Yb y=true) (hu:A.units<cLine) :
  (SeqAt.EqAt A s (.ref l) v false/\SeqAt.RcAt A s (.ref l) v false/\SeqAt.RcNeAt A s (.ref l) v true)/\(SeqAt.EqAt A s v (.ref l) false/\SeqAt.RcAt A s v (.ref l) false/\SeqAt.RcNeAt A s v (.ref l) true):=by
 cases y with
 | non=>cases r; exact ⟨⟨.tuple_none hl hu,.tuple_none hl hu,.tuple_none hl hu⟩,.none_tuple hl hu,.none_tuple hl hu,.none_tuple hl hu⟩
 | bl b=>cases r; exact ⟨⟨.tuple_bool b hl hu,.tuple_bool b hl hu,.tuple_bool b hl hu⟩,.bool_tuple b hl hu,.bool_tuple b hl hu,.bool_tuple b hl hu⟩
 | int b=>obtain ⟨t,rfl⟩:=r; exact ⟨⟨.tuple_int b t hl hu,.tuple_int b t hl hu,.tuple_int b t hl hu⟩,.int_tuple b t hl hu,.int_tuple b t hl hu,.int_tuple b t hl hu⟩
 | str b=>obtain ⟨t,rfl⟩:=r; exact ⟨⟨.tuple_str b t hl hu,.tuple_str b t hl hu,.tuple_str b t hl hu⟩,.str_tuple b t hl hu,.str_tuple b t hl hu,.str_tuple b t hl hu⟩
 | _=>exact absurd (show false=true from fy) QAl
theorem ZgN (hl:s.heap.IsList l its) {y:V} {v:Value} (r:RelV y v) (fy:Yb y=true) (hu:A.units<cLine) :
  (SeqAt.EqAt A s (.ref l) v false/\SeqAt.RcAt A s (.ref l) v false/\SeqAt.RcNeAt A s (.ref l) v true)/\(SeqAt.EqAt A s v (.ref l) false/\SeqAt.RcAt A s v (.ref l) false/\SeqAt.RcNeAt A s v (.ref l) true):=by
 cases y with
 | non=>cases r; exact ⟨⟨.list_none hl hu,.list_none hl hu,.list_none hl hu⟩,.none_list hl hu,.none_list hl hu,.none_list hl hu⟩
 | bl b=>cases r; exact ⟨⟨.list_bool b hl hu,.list_bool b hl hu,.list_bool b hl hu⟩,.bool_list b hl hu,.bool_list b hl hu,.bool_list b hl hu⟩
 | int b=>obtain ⟨t,rfl⟩:=r; exact ⟨⟨.list_int b t hl hu,.list_int b t hl hu,.list_int b t hl hu⟩,.int_list b t hl hu,.int_list b t hl hu,.int_list b t hl hu⟩
 | str b=>obtain ⟨t,rfl⟩:=r; exact ⟨⟨.list_str b t hl hu,.list_str b t hl hu,.list_str b t hl hu⟩,.str_list b t hl hu,.str_list b t hl hu,.str_list b t hl hu⟩
 | _=>exact absurd (show false=true from fy) QAl
end
theorem Zjv {n m:Nat} {e:Nat->Bool}:((List.range (min n m)).all e&&(n==m))=(decide (n=m)&&(List.range n).all fun j=>decide (j<m)&&e j):=by
 by_cases h:n=m
 ·subst h
  rw [Nat.min_self,beq_self_eq_true,Bool.and_true,decide_eq_true rfl,QCj,QBi,QBe,QBe]
  constructor
  ·intro h j hj
   rw [decide_eq_true (List.mem_range.mp hj),QCj]
   exact h j hj
  ·intro h j hj
   have:=h j hj
   rw [QAw] at this
   exact this.2
 ·rw [decide_eq_false h,QCc,show (n==m)=false by simpa using h,Bool.and_false]
theorem Zee {n:Nat} {e:Nat->Bool}:((List.range n).all fun j=>decide (j<n)&&e j)=(List.range n).all e:=by
 rw [QBi,QBe,QBe]
 constructor
 ·intro h j hj
  have:=h j hj
  rw [QAw] at this
  exact this.2
 ·intro h j hj
  rw [decide_eq_true (List.mem_range.mp hj),QCj]
  exact h j hj
section
variable {X:Cx} {pins:List (Addr × Obj)} {σ:St} {H:Hp} {s:Shared}
theorem EqD.refl' (I:Inv X pins σ H s) {d:Nat} {x y:V} {b:Bool} (h:EqD X.K H d x y b):x=y->b=true:=by
 induction h with
 | flat fx fy=>rintro rfl; exact ZiK fx
 | tups h1 h2 he ih =>
  intro e
  cases e
  have:=I.tuple_inj h1 h2
  subst this
  rw [decide_eq_true rfl,QCj,Zee,QBe]
  intro j hj
  have hj':=List.mem_range.mp hj
  exact ih j _ _ (QAb hj') (QAb hj') rfl
 | lsts h1 h2 he ih =>
  intro e
  cases e
  have:=I.list_inj h1 h2
  subst this
  rw [decide_eq_true rfl,QCj,Zee,QBe]
  intro j hj
  have hj':=List.mem_range.mp hj
  exact ih rfl j _ _ (QAb hj') (QAb hj') rfl
 | tupF h1 fy=>rintro rfl; cases fy
 | Ftup h1 fy=>rintro rfl; cases fy
 | lstF h1 fy=>rintro rfl; cases fy
 | Flst h1 fy=>rintro rfl; cases fy
 | tupL h1 h2 =>
  intro e
  cases e
  obtain ⟨_,_,p,_⟩:=I.tuple h1
  obtain ⟨_,_,q,_⟩:=I.list h2
  obtain ⟨o,ho,hc,_⟩:=p
  obtain ⟨o',_,ho',hc',_⟩:=q
  rw [ho] at ho'
  cases ho'
  rw [hc] at hc'
  exact absurd hc' (by decide)
 | lstT h1 h2 =>
  intro e
  cases e
  obtain ⟨_,_,p,_⟩:=I.tuple h2
  obtain ⟨_,_,q,_⟩:=I.list h1
  obtain ⟨o,ho,hc,_⟩:=p
  obtain ⟨o',_,ho',hc',_⟩:=q
  rw [ho] at ho'
  cases ho'
  rw [hc] at hc'
  exact absurd hc' (by decide)
theorem Vals.at {xs:List V} {its:List Value} (r:Vals xs its) {j:Nat} (h:j<its.toArray.size):∃ x,xs[j]? = some x/\RelV x its.toArray[j]:=by
 rw [QAg] at h
 have hx:j<xs.length:=by rw [r.length]; exact h
 have e1:xs[j]? = some xs[j]:=QAb hx
 obtain ⟨u,hu,ru⟩:=r.get e1
 refine ⟨_,e1,?_⟩
 rw [QAb h] at hu
 cases hu
 simpa using ru
theorem EqD.all (I:Inv X pins σ H s) {d:Nat} {x y:V} {b:Bool} (h:EqD X.K H d x y b):∀ {A:Around} {u v:Value},RelV x u->RelV y v->A.units+d<cLine ->
  SeqAt.EqAt A s u v b/\SeqAt.RcAt A s u v b/\SeqAt.RcNeAt A s u v (!b):=by
 induction h with
 | flat fx fy=>exact fun {A u v} rx ry hu=>⟨Zgf rx ry fx fy,Zks rx ry fx fy⟩
 | @tups d a c xs ys e h1 h2 he ih =>
  intro A u v rx ry hu
  cases rx
  cases ry
  obtain ⟨its,r1,p1,_⟩:=I.tuple h1
  obtain ⟨its2,r2,p2,_⟩:=I.tuple h2
  have el:∀ j (q1:j<its.toArray.size) (q2:j<its2.toArray.size),SeqAt.EqAt A.in1 s its.toArray[j] its2.toArray[j] (e j):=fun j q1 q2=>by
   obtain ⟨x,e1,rx⟩:=r1.at q1
   obtain ⟨y,e2,ry⟩:=r2.at q2
   exact (ih j x y e1 e2 rx ry (by show A.units+1+d<cLine; exact Om.k419 hu)).1
  have sz:its.toArray.size=xs.length/\its2.toArray.size=ys.length:=by
   rw [QAg,QAg,r1.length,r2.length]
   exact ⟨rfl,rfl⟩
  have g1:=SeqAt.RcAt.tuples (A:=A) p1 p2 (by exact Om.k420 hu) el
  have g2:=SeqAt.RcNeAt.tuples (A:=A) p1 p2 (by exact Om.k420 hu) el
  rw [sz.1,sz.2,Zjv] at g1 g2
  refine ⟨?_,g1,g2⟩
  by_cases hac:a=c
  ·subst hac
   rw [EqD.refl' I (.tups h1 h2 he) rfl]
   exact SeqAt.EqAt.same _
  ·exact SeqAt.EqAt.of_refs hac g1
 | @lsts d a c xs ys e h1 h2 he ih =>
  intro A u v rx ry hu
  cases rx
  cases ry
  obtain ⟨its,r1,p1,_⟩:=I.list h1
  obtain ⟨its2,r2,p2,_⟩:=I.list h2
  have sz:its.toArray.size=xs.length/\its2.toArray.size=ys.length:=by
   rw [QAg,QAg,r1.length,r2.length]
   exact ⟨rfl,rfl⟩
  have g:SeqAt.RcAt A s (.ref a) (.ref c) (decide (xs.length=ys.length)&&(List.range xs.length).all fun j=>decide (j<ys.length)&&e j)/\SeqAt.RcNeAt A s (.ref a) (.ref c) (!(decide (xs.length=ys.length)&&(List.range xs.length).all fun j=>decide (j<ys.length)&&e j)):=by
   by_cases hl:xs.length=ys.length
   ·have el:∀ j (q1:j<its.toArray.size) (q2:j<its2.toArray.size),SeqAt.EqAt A.in1 s its.toArray[j] its2.toArray[j] (e j):=fun j q1 q2=>by
     obtain ⟨x,e1,rx⟩:=r1.at q1
     obtain ⟨y,e2,ry⟩:=r2.at q2
     exact (ih hl j x y e1 e2 rx ry (by show A.units+1+d<cLine; exact Om.k419 hu)).1
    have g1:=SeqAt.RcAt.lists (A:=A) p1.isList p2.isList (by rw [sz.1,sz.2,hl]) (by exact Om.k420 hu) el
    have g2:=SeqAt.RcNeAt.lists (A:=A) p1.isList p2.isList (by rw [sz.1,sz.2,hl]) (by exact Om.k420 hu) el
    rw [sz.1] at g1 g2
    rw [decide_eq_true hl,QCj,<- hl,Zee]
    exact ⟨g1,g2⟩
   ·rw [decide_eq_false hl,QCc]
    have hz:(its.toArray.size != its2.toArray.size)=true:=by rw [sz.1,sz.2]; simpa using hl
    exact ⟨.lists_lengths p1.isList p2.isList hz (by exact Om.k420 hu),.lists_lengths p1.isList p2.isList hz (by exact Om.k420 hu)⟩
  refine ⟨?_,g⟩
  by_cases hac:a=c
  ·subst hac
   rw [EqD.refl' I (.lsts h1 h2 he) rfl]
   exact SeqAt.EqAt.same _
  ·exact SeqAt.EqAt.of_refs hac g.1
 | tupF h1 fy =>
  intro A u v rx ry hu
  cases rx
  obtain ⟨its,r1,p1,_⟩:=I.tuple h1
  exact (Zgr p1 ry fy (by exact Om.k422 hu)).1
 | Ftup h1 fy =>
  intro A u v rx ry hu
  cases ry
  obtain ⟨its,r1,p1,_⟩:=I.tuple h1
  exact (Zgr p1 rx fy (by exact Om.k422 hu)).2
 | lstF h1 fy =>
  intro A u v rx ry hu
  cases rx
  obtain ⟨its,r1,p1,_⟩:=I.list h1
  exact (ZgN p1.isList ry fy (by exact Om.k422 hu)).1
 | Flst h1 fy =>
  intro A u v rx ry hu
  cases ry
  obtain ⟨its,r1,p1,_⟩:=I.list h1
  exact (ZgN p1.isList rx fy (by exact Om.k422 hu)).2
 | tupL h1 h2 =>
  intro A u v rx ry hu
  cases rx
  cases ry
  obtain ⟨its,r1,p1,_⟩:=I.tuple h1
  obtain ⟨its2,r2,p2,_⟩:=I.list h2
  exact ⟨.tuple_list p1 p2.isList (by exact Om.k422 hu),.tuple_list p1 p2.isList (by exact Om.k422 hu),.tuple_list p1 p2.isList (by exact Om.k422 hu)⟩
 | lstT h1 h2 =>
  intro A u v rx ry hu
  cases rx
  cases ry
  obtain ⟨its,r1,p1,_⟩:=I.list h1
  obtain ⟨its2,r2,p2,_⟩:=I.tuple h2
  exact ⟨.list_tuple p1.isList p2 (by exact Om.k422 hu),.list_tuple p1.isList p2 (by exact Om.k422 hu),.list_tuple p1.isList p2 (by exact Om.k422 hu)⟩
end
noncomputable def Zl9 (K:PySem.W.Frag) (d:Nat) (neg:Bool):R2:=fun x y H Q=>∃ b,EqD K H d x y b/\Q (.bl (if neg then !b else b)) H
section
variable {X:Cx}
theorem Zh9 {d:Nat} (hu:X.A.units+d<cLine) (K:PySem.W.Frag) (hK:X.K=K:=by rfl):OpR X (compareOp .Eq) (Zl9 K d false):=by
 subst hK
 intro pins s σ H x y v u Q I rx ry h
 obtain ⟨b,e,q⟩:=h
 exact (e.all I rx ry hu).2.1 _ _ _ _ ⟨.bl b,H,I,rfl,q⟩
end
end L2
namespace L2
open PySem PySem.Spec PyProof.Rows
section
variable {prog:Program} {w:World} {A:Around} {E:Value->Shared->Prop}
end
end L2
namespace L2
open PySem PySem.Spec PyProof.Rows
theorem EqD.cast {K:PySem.W.Frag} {H:Hp} {d:Nat} {x y:V} {b b':Bool} (h:EqD K H d x y b) (e:b=b'):EqD K H d x y b':=e ▸ h
theorem Zge {xs ys:List V}:(decide (xs.length=ys.length)&&(List.range xs.length).all fun j=>decide (j<ys.length)&&eqV (xs.getD j .non) (ys.getD j .non))=Jq xs ys:=by
 by_cases hl:xs.length=ys.length
 ·rw [decide_eq_true hl,QCj,<- hl,Zee,<- ZaJ hl]
  refine Bool.eq_iff_iff.mpr ?_
  rw [QBe,QBe]
  refine forall_congr' fun j=>forall_congr' fun hj=>?_
  have h1:=List.mem_range.mp hj
  have h2:j<ys.length:=by exact Om.a2 ‹_› ‹_›
  rw [QAb h1,QAb h2,QAd,QAd,QAb h1,QAb h2]
  rfl
 ·unfold Jq
  rw [decide_eq_false hl,QCc,QCc]
theorem ZgV {xs:List V} (f:xs.all Yb=true) {j:Nat} {x:V} (h:xs[j]? = some x):Yb x=true:=List.all_eq_true.mp f _ (QAu h)
section
variable {K:PySem.W.Frag} {H:Hp} {d:Nat} {a c:Addr} {xs ys:List V}
theorem ZjM (h1:SqT K H a xs) (h2:SqT K H c ys) (f1:xs.all Yb=true) (f2:ys.all Yb=true):EqD K H (d+1) (.ref a) (.ref c) (Jq xs ys):=by
 rw [<- Zge]
 refine .tups h1 h2 fun j x y e1 e2=>?_
 have g1:xs.getD j .non=x:=by rw [QAd,e1]; rfl
 have g2:ys.getD j .non=y:=by rw [QAd,e2]; rfl
 rw [g1,g2]
 exact .flat (ZgV f1 e1) (ZgV f2 e2)
theorem ZiU {n:Nat}:(decide (n=n)&&(List.range n).all fun j=>decide (j<n)&&true)=true:=by
 rw [decide_eq_true rfl,QCj,QBe]
 intro j hj
 rw [decide_eq_true (List.mem_range.mp hj)]
 rfl
theorem ZiH (h1:SqL K H a xs) (h2:SqL K H c ys) (hl:xs.length=ys.length) (he:∀ (j:Nat) x y,xs[j]? = some x->ys[j]? = some y->EqD K H d x y true):EqD K H (d+1) (.ref a) (.ref c) true:=by
 have:=EqD.lsts (e:=fun _=>true) h1 h2 fun _=>he
 rw [<- hl,ZiU] at this
 exact this
end
end L2
namespace L2
open PySem PySem.Spec PyProof.Rows
structure Dfn (K:PySem.W.Frag) (mg:Str->Option Value) (x:Str) (st:Stmt) (ps:List Str) (f:Addr) (fd:FuncData):Prop where
 F:Fun K x x st f fd
 b:Binds K fd ps []
 m:mg x=some (.ref f)
section
variable {X:Cx}
theorem ZB (K:PySem.W.Frag) (h:X.K=K:=by rfl):Jh X (.type "tuple") (fun xs H Q=>∃ p ys,xs=[.ref p]/\((SqL K H p ys/\∀ l,H l=none->Q (.ref l) (upd H l (.tup ys)))\/(SqT K H p ys/\Q (.ref p) H))):=by subst h; exact ZcQ
theorem ZcA (K:PySem.W.Frag) (h:X.K=K:=by rfl):Jh X (.type "list") (fun xs H Q=>∃ p ys,xs=[.ref p]/\(SqL K H p ys\/SqT K H p ys)/\∀ l,H l=none->Q (.ref l) (upd H l (.lst ys))):=by subst h; exact Zea
end
end L2
namespace L2
open PySem PySem.Spec PyProof.Rows
section
variable {M:Model} {A:Around} {E:Value->Shared->Prop} {s:Shared}
end
end L2
namespace L2
open PySem PySem.Spec PyProof.Rows PySem.W
section
variable {prog:Program} {w:World} {A:Around} {E:Value->Shared->Prop} {h:Heap} {g:Array GenState} {d:Drawn} {t:Nat} {os:OsState}
variable {nm q:Str} {C N:Addr} {bs bm bmB:List Value} {hdct:Bool} {sn:List Str} {sub:List Value} {ab:Bool} {col:Option Bool} {dd:Option Addr} {k0 k1 k2 k3 k5:Option Value} {B newId initId:String}
end
section
variable {prog:Program} {w:World} {A:Around} {E:Value->Shared->Prop} {K:Frag} {h:Heap} {g:Array GenState} {d:Drawn} {t:Nat} {os:OsState}
variable {nm q f:Str} {C N x:Addr} {bs bm:List Value} {sn:List Str} {sub:List Value} {ab:Bool} {col:Option Bool} {dd:Option Addr} {k0 k1 k2 k3 k5:Option Value} {newId:String} {o:Obj} {v:Value}
end
end L2
namespace L2
open PySem PySem.Spec PyProof.Rows
section
variable {X:Cx} {pins:List (Addr × Obj)} {σ:St} {H:Hp} {s:Shared}
end
section
variable {X:Cx} {o e value:Expr} {f:Str} {pos pos':Pos} {ta tv:TE}
end
section
variable {X:Cx} {k:Nat} {f C:Addr} {fd:FuncData} {ps:List Str} {sp:Sp} {x:Str} {p pos:Pos} {e:Expr} {es:List Expr} {t:TA}
end
end L2
namespace L2
open PySem PySem.Spec PyProof.Rows
section
variable {M:Model} {A:Around} {E:Value->Shared->Prop} {env:Env}
variable {nm q:Str} {C N:Addr} {bs bm:List Value} {hdct:Bool} {sn:List Str} {sub:List Value} {ab:Bool} {col:Option Bool} {dd:Option Addr} {k0 k1 k2 k3 k5:Option Value} {newId:String}
end
section
variable {P:Program} {w:World} {K:PySem.W.Frag} {mg:Str->Option Value} {base:Heap} {N:List Str} {qual:Str} {scope:Scope} {f:Addr} {cd:Value} {A:Around} {outer:List Env} {s₀:Shared} {H₀:Hp} {E:XK}
end
section
variable {P:Program} {w:World} {K:PySem.W.Frag} {mg:Str->Option Value} {base:Heap} {E:XK}
end
section
variable {X:Cx}
end
end L2
namespace L2
open PySem PySem.Spec PyProof.Rows
section
variable {X:Cx}
theorem ZbA:Jh X (.type "range") (fun xs H Q=>∃ n:Nat,xs=[.int (n:Int)]/\∀ p,H p=none->Q (.ref p) (upd H p (.rng 0 n))):=by
 intro pins s σ H xs us Q I r h
 obtain ⟨n,rfl,q⟩:=h
 obtain ⟨u,rfl,rx⟩:=J5 r
 obtain ⟨t,rfl⟩:=rx
 refine call_range_1 ⟨.ref s.heap.objs.size,_,I.laid (t':=s.toks+1+1) (o:=.rng 0 n) (fun b o e=>QAk _ e) (QAc _) ⟨_,_,_,QAx _ rfl⟩,rfl,q _ (I.hok.fresh (QAc _))⟩
theorem Zeq:∀ (n:Nat) (its:List Value),its.length=n->(∀ (j:Nat) v,its[j]? = some v->∃ t,v = .int (j:Int) t)->Vals (rng n) its:=by
 have go:∀ (xs:List V) (its:List Value),xs.length=its.length->(∀ (j:Nat) x v,xs[j]? = some x->its[j]? = some v->RelV x v)->Vals xs its:=by
  intro xs
  induction xs with
  | nil =>
   intro its hl _
   cases its with
   | nil=>exact .nil
   | cons _ _=>cases hl
  | cons x xs ih =>
   intro its hl h
   cases its with
   | nil=>cases hl
   | cons v its=>exact .cons (h 0 x v rfl rfl) (ih its (Nat.succ.inj hl) fun j y u e1 e2=>h (j+1) y u (by simpa using e1) (by simpa using e2))
 intro n its hl h
 refine go _ _ (by rw [Zr,hl]) fun j x v e1 e2=>?_
 obtain ⟨_,rfl⟩:=Z3 e1
 exact h j v e2
theorem Zgk (hc:X.calm=true):Jh X (.type "list") (fun xs H Q=>∃ (p:Addr) (n:Nat),xs=[.ref p]/\H p=some (.rng 0 n)/\n<=1000/\∀ l,H l=none->Q (.ref l) (upd H l (.lst (rng n)))):=by
 intro pins s σ H xs us Q I r h
 obtain ⟨p,n,rfl,hp,hn,q⟩:=h
 obtain ⟨u,rfl,rx⟩:=J5 r
 cases rx
 obtain ⟨t,u,v,e⟩:=I.hok p _ hp
 have e2:Builtin.Range.rangeSize 0 (n:Int) 1=n:=by rw [rangeSize_one]; split <;> omega
 refine call_list_range (n:=n) (I.ok.hd hc) e (small_one (by exact Om.k487 ) (by exact Om.k486 ) (by exact Om.c2) (by exact Om.c1 ‹_› rfl)) e2 (by exact Om.b1 ‹_› rfl) fun h' tk acc c' kp e' hi=>?_
 refine ⟨.ref s.heap.objs.size,_,I.laid (t':=tk) kp (QAc _) (show ObjOk X.prog X.w _ h' _ (.lst (rng n)) from ⟨by rw [Zr]; exact Zq hn,acc.toList,c',Zeq n _ (by rw [QAv]; exact hi.1) fun j w ew=>?_,by rw [e']⟩),rfl,q _ (I.hok.fresh (QAc _))⟩
 obtain ⟨t',ht⟩:=hi.2 j w (by simpa using ew)
 refine ⟨t',?_⟩
 rw [ht,QBx,Int.mul_one]
end
section
variable (l:Addr) (its:List Value) (n:Nat) (dd:Option Addr) (sl:Array (Option Value)) (k:Int) (t:Tok)
end
end L2
namespace L2
open PySem PySem.Spec PyProof.Rows
section
variable {κ:Type} [DecidableEq κ]
end
section
variable {P:Program} {w:World} {H:Hp} {h:Heap} {a:Addr}
end
section
variable {X:Cx} {pins:List (Addr × Obj)} {σ:St} {H:Hp} {s:Shared} {a:Addr} {y v:V} {u r:Value} {o:Option V} {A:Around} {E:Value->Shared->Prop}
end
section
variable {X:Cx} {pins:List (Addr × Obj)} {σ:St} {H:Hp} {s:Shared} {a:Addr} {kvs:List (Key × V)} {k:Key} {u:Value} {A:Around} {E:Value->Shared->Prop}
end
section
variable {X:Cx} {o i e value:Expr} {pos pos' tpos:Pos} {td ty tv:TE}
end
section
variable {X:Cx} {pos:Pos}
end
section
variable {X:Cx} {pins:List (Addr × Obj)} {σ:St} {H:Hp} {s:Shared} {a:Addr} {y d:V} {u r:Value} {o:Option V} {A:Around} {E:Value->Shared->Prop}
end
section
variable {X:Cx} {o e f:Expr} {apos cpos:Pos} {td ty tx:TE}
end
section
variable {X:Cx} {pins:List (Addr × Obj)} {σ:St} {H:Hp} {s:Shared} {a:Addr} {kvs:List (Key × V)} {A:Around} {E:Value->Shared->Prop}
end
section
variable {X:Cx} {pins:List (Addr × Obj)} {σ:St} {H:Hp} {s:Shared} {a:Addr} {y:V} {u:Value} {A:Around} {E:Value->Shared->Prop}
end
end L2
namespace L2
open PySem PySem.Spec PyProof.Rows
section
variable {X:Cx}
end
section
variable {κ:Type} [DecidableEq κ]
end
end L2
namespace L2
open PySem PySem.Spec PyProof.Rows
section
variable {X:Cx} {es:List Expr} {te:TE} {t:TA} {p:Pos}
end
end L2
namespace L2
open PySem PySem.Spec PyProof.Rows
section
variable {X:Cx} {pins:List (Addr × Obj)} {σ:St} {H:Hp} {s:Shared} {a:Addr} {kvs:List (Key × V)}
end
noncomputable def Zja (K:PySem.W.Frag):List V->Hp->VK->Prop:=fun xs H Q=>∃ (p:Addr) (ns:List Int),xs=[.ref p]/\SqL K H p (ns.map V.int)/\ns.length<64/\∀ (l:Addr) (ns':List Int),H l=none->ns'.Perm ns->ns'.Pairwise (· <= ·)->Q (.ref l) (upd H l (.lst (ns'.map V.int)))
theorem Ze5 {X:Cx} (K:PySem.W.Frag) (hK:X.K=K:=by rfl):Jh X (.builtin "sorted") (Zja K):=by
 subst hK
 intro pins s σ H xs us Q I r h
 obtain ⟨p,ns,rfl,hq,hl,q⟩:=h
 obtain ⟨u,rfl,rx⟩:=J5 r
 cases rx
 obtain ⟨its,rv,ht,hz⟩:=I.list hq
 have hlen:its.length=ns.length:=by rw [<- rv.length,QAa]
 refine sorted_ints (vs:=its) (ns:=ns) ht.isList (Y5 rv) (by rw [hlen]; exact hl) fun out ns' a1 a2 a3=>?_
 obtain ⟨e,he⟩:=sortedAll_at s.heap its out
 have hn:H (s.heap.objs.size+1)=none:=I.hok.fresh (QCh _)
 have vv:=Za9 a1
 refine ⟨.ref (s.heap.objs.size+1),_,I.laid (t':=s.toks) (fun b o e=>sortedAll_old e) (QCh _) ?_,rfl,q _ ns' hn a2 a3⟩
 exact ⟨QAq (m:=64) (by rw [QAa,a2.length_eq]; exact Om.d1 ‹_›) (by decide),out.toList,e,vv,by simpa using he⟩
end L2
namespace L2
open PySem PySem.Spec PyProof.Rows
end L2
namespace L2
open PySem PySem.Spec PyProof.Rows
section
variable {prog:Program} {w:World} {A:Around} {R:Result->Shared->Prop} {κ:Type} [DecidableEq κ] {knd:PySem.KeyKind prog w κ}
end
end L2
namespace L2
open PySem PySem.Spec PyProof.Rows
theorem ZiP {J:It} {n:Nat} {Y:Nat->Hp->V->Hp->Prop} {P:Hp->Prop} {g:TG} {tt:TT} {te:TE} {l:Addr} {QL:Hp->Prop} {σ0:St} {H0:Hp} (hgo:∀ i H, P H->i<n->J.go i H) (hy:∀ i H x H', P H->J.yld i H x H'->i<n->Y i H x H') (hst:∀ i H, P H->n<=i->J.stop i H)
    (Pv:Nat->List V->St->Hp->Prop) (h0:Pv 0 [] σ0 H0) (hP:∀ i ys σ H, Pv i ys σ H->P H/\H l=some (.lst ys))
    (hs:∀ i x ys σ H H2, i<n->Pv i ys σ H->Y i H x H2->Za6 g tt te x σ H2 fun o σ3 H5 => match o with
      | some y => H5 l=some (.lst ys)/\ys.length<sizeLine/\Pv (i+1) (ys++[y]) σ3 (upd H5 l (.lst (ys++[y])))
      | none => Pv (i+1) ys σ3 H5)
    (hd:∀ ys σ H, Pv n ys σ H->QL H) :
    ∃ W:Nat->Nat->List V->St->Hp->Prop, (∃ m, W 0 m [] σ0 H0) /\
    ∀ i m ys σ' H', W i m ys σ' H'->H' l=some (.lst ys) /\
      ((J.stop i H'/\QL H') \/
       (J.go i H'/\∃ N:List V->St->Hp->Prop, (∀ zs σ2 H2, N zs σ2 H2->∃ m', m'<m/\W (i+1) m' zs σ2 H2)/\∀ x H2, J.yld i H' x H2->g x σ' H2 fun σ3 H3 => tt σ3 H3 fun b H4 =>
          if b=true then te σ3 H4 fun y H5 => H5 l=some (.lst ys)/\ys.length<sizeLine/\N (ys++[y]) σ3 (upd H5 l (.lst (ys++[y])))
          else N ys σ3 H4)) := by
  refine ⟨fun i m ys σ H => m=n - i/\i<=n/\Pv i ys σ H, ⟨n, by simp, QAh _, h0⟩, ?_⟩
  rintro i m ys σ H ⟨rfl, hi, p⟩
  obtain ⟨hp, hl⟩ := hP i ys σ H p
  refine ⟨hl, ?_⟩
  by_cases hlt:i<n
  · exact .inr ⟨hgo i H hp hlt, fun zs σ2 H2 => Pv (i+1) zs σ2 H2, fun zs σ2 H2 q => ⟨n - (i+1), by exact Om.k394 hlt, rfl, hlt, q⟩, fun x H2 y => hs i x ys σ H H2 hlt p (hy i H x H2 hp y hlt)⟩
  · have e:i=n := by exact Om.k488 hi hlt
    subst e
    exact .inl ⟨hst _ H hp (QAc _), hd ys σ H p⟩
end L2
namespace L2
open PySem PySem.Spec PyProof.Rows
theorem Inv.turnedL {X:Cx} {pins:List (Addr × Obj)} {σ:St} {H:Hp} {s:Shared} {h':Heap} {t':Nat} {fp:List Addr} (I:Inv X pins σ H s) (k:∀ b o,b∉fp->s.heap.get? b=some o->h'.get? b=some o) (hf:∀ b∈fp,Zap X pins H b):Inv X pins σ H { s with heap:=h',toks:=t' }:=by
 have nit:∀ b u,H b=some u->b∉fp:=fun b u e z=>by rw [(hf b z).1] at e; cases e
 refine I.step (g':=s.gens) (d':=s.drawn) (ch:=fp) (fun b hb=>?_) (fun b o _ _ hc e _=>k b o hc e) (fun b o _ _ hc e _=>⟨o.slots,k b o hc e⟩) (fun _ _ _ _ n=>n)
  (fun b o hc e=>⟨o,k b o hc e⟩) (fun _ _ e=>e) (fun _ _ _ e=>e) (fun b ps e=>⟨#[],by rw [e]; simp⟩) (fun m hm=>?_) (fun b u e=>?_) I.bare
 ·obtain ⟨f0,f1,f2,f3,f4,f5⟩:=hf b hb
  exact ⟨f3,f1,f4,f5⟩
 ·obtain ⟨o,es,ep,ho,r⟩:=hm
  exact ⟨o,es,ep,k _ o (fun z=>(hf _ z).2.1 rfl) ho,r⟩
 ·refine (I.hok b u e).stay (fun c v hc q=>k c v ?_ q) (fun _ q=>q) fun _ _ q=>q
  rcases hc with z | z
  ·rw [z]; exact nit b u e
  ·exact nit c _ z
end L2
namespace L2
open PySem PySem.Spec PyProof.Rows
theorem Zk3:bootBuiltins "zip" = some (Value.type "zip"):=by decide +kernel
end L2
namespace L2
open PySem PySem.Spec PyProof.Rows
section
variable {prog:Program} {w:World} {A:Around} {E:Value->Shared->Prop} {s:Shared}
theorem ZaL {it t:Addr} {i:Nat} {vs:Array Value} {x:Value} {Q:Value->Shared->Prop} (gi:s.heap.IsTupleIter it t i) (gt:s.heap.IsTuple t vs) (hx:vs[i]? = some x)
  (q:∀ h',h'.IsTupleIter it t (i+1)->Heap.SameBut it s.heap h'->Q x { s with heap:=h' }):wpAny (model prog w) A (Builtin.SmallTypes.nextOf (.ref it)) Q E s:=by
 obtain ⟨o,eo,co,d⟩:=id gi
 obtain ⟨ot,et,_,nt,dt⟩:=gt
 unfold Builtin.SmallTypes.nextOf
 refine wpAny_bind (wpAny_callSpecial?_slot (name:=Str.ofString "__next__") gi.typeIs PySem.F.slot_tuple_iterator_next (wpAny_call_entry PySem.F.slot_tuple_iterator_next gi.typeIs PySem.F.entry_tuple_iterator_next ?_ (PySem.F.args_tuple_iterator_next_1 _)))
 refine wpAny_bind (m:=field (.ref it) 0) (wpAny_field eo d (x:=.ref t) rfl ?_)
 refine (if_neg (show ¬ ((Value.ref t==Value.none)=true) from QAl)).symm ▸ wpAny_bind (m:=field (.ref it) 1) (wpAny_field eo d (x:=.int i 0) rfl (wpAny_bind (m:=seqItems? (.ref t)) (wpAny_seqItems et dt ?_)))
 simp only [QAf,hx]
 refine wpAny_bind (wpAny_setField eo d (by simp) (wpAny_pure ⟨x,rfl,wpAny_pure (q _ ⟨_,Heap.get?_update_self _ eo (Obj.isFreed_of_fields (Obj.data_mapFields d _)),(Obj.cls_mapFields ..).trans co,?_⟩ (Heap.SameBut.update ..))⟩))
 rw [Obj.data_mapFields d]
 simp [rawInt]
theorem Zc8 {it t:Addr} {i:Nat} {vs:Array Value} {Q:Value->Shared->Prop} (hh:A.handled=none) (gi:s.heap.IsTupleIter it t i) (gt:s.heap.IsTuple t vs) (hx:vs[i]? = none)
  (q:∀ h' e,Heap.ExtBut it s.heap h'->(∃ o,h'.get? e=some o/\o.cls = .type "StopIteration")->E (.ref e) { s with heap:=h' }):wpAny (model prog w) A (Builtin.SmallTypes.nextOf (.ref it)) Q E s:=by
 obtain ⟨o,eo,co,d⟩:=id gi
 obtain ⟨ot,et,_,nt,dt⟩:=gt
 unfold Builtin.SmallTypes.nextOf
 refine wpAny_bind (wpAny_callSpecial?_slot (name:=Str.ofString "__next__") gi.typeIs PySem.F.slot_tuple_iterator_next (wpAny_call_entry PySem.F.slot_tuple_iterator_next gi.typeIs PySem.F.entry_tuple_iterator_next ?_ (PySem.F.args_tuple_iterator_next_1 _)))
 refine wpAny_bind (m:=field (.ref it) 0) (wpAny_field eo d (x:=.ref t) rfl ?_)
 refine (if_neg (show ¬ ((Value.ref t==Value.none)=true) from QAl)).symm ▸ wpAny_bind (m:=field (.ref it) 1) (wpAny_field eo d (x:=.int i 0) rfl (wpAny_bind (m:=seqItems? (.ref t)) (wpAny_seqItems et dt ?_)))
 simp only [QAf,hx]
 refine wpAny_bind (wpAny_rule (wpAny_bind (wpAny_setField eo d (by simp) (wpAny_bind (m:=newExc (.type "StopIteration") []) ?_))))
 simp only [newExc,newTuple]
 refine wpAny_bind (wpAny_newObj_type (wpAny_bind (m:=firstArgMember _ _) (wpAny_of_eq (a:=Value.none) (by first | rfl | (simp only [firstArgMember]; rfl)) (wpAny_newObj_type ?_ (by size_fits)))) (by size_fits))
 simp only [raiseNew]
 refine wpAny_bind (wpAny_handled ?_)
 rw [show A.in1.handled=none from hh]
 exact wpAny_bind (wpAny_pure (wpAny_throw (q _ _ (((Heap.SameBut.update ..).extBut.push _).push _) ⟨_,QAx _ rfl,rfl⟩)))
theorem Zhc {z ti to i1 i2 l1 l2:Addr} {k1 k2:Nat} {xs ys:Array Value} {x y a b:Value} {Q:Value->Shared->Prop} (D:ZipApart z ti to i1 i2 l1 l2) (gz:IsZip s.heap z ti to .none) (gi:IsPair s.heap ti (.ref i1) (.ref i2)) (go:IsPair s.heap to a b)
  (g1:s.heap.IsTupleIter i1 l1 k1) (g2:s.heap.IsTupleIter i2 l2 k2) (t1:s.heap.IsTuple l1 xs) (t2:s.heap.IsTuple l2 ys) (hx:xs[k1]? = some x) (hy:ys[k2]? = some y)
  (q:∀ h',IsZip h' z ti to (rawInt s.heap.objs.size)->IsPair h' to x y->h'.IsTupleIter i1 l1 (k1+1)->h'.IsTupleIter i2 l2 (k2+1)->IsPair h' s.heap.objs.size x y ->
   (∀ c o,c≠z->c≠to->c≠i1->c≠i2->s.heap.get? c=some o->h'.get? c=some o)->Q (.ref s.heap.objs.size) { s with heap:=h' }) :
  wpAny (model prog w) A (Builtin.«zip.__next__» ⟨[.ref z],[]⟩) (fun fin s'=>∃ v,fin = .done (.ret v)/\Q v s') E s:=by
 refine wpAny_bind (m:=field (.ref z) 2) (wpAny_field gz rfl (x:=.bool false) rfl ?_)
 refine wpAny_bind (m:=field (.ref z) 3) (wpAny_field gz rfl (x:=.ref ti) rfl (wpAny_bind (wpAny_seqItems gi rfl ?_)))
 refine wpAny_bind (m:=Builtin.SmallTypes.ownedTupleIsFree (.ref z)) ?_
 unfold Builtin.SmallTypes.ownedTupleIsFree
 refine wpAny_bind (wpAny_field gz rfl (x:=.none) rfl (wpAny_pure ?_))
 simp only [if_true]
 refine wpAny_bind (wpAny_rule (wpAny_bind (wpAny_field gz rfl (x:=.ref to) rfl (wpAny_bind (wpAny_setField_rec gz (by simp) fun ha za sa=>wpAny_bind ?_)))))
 replace za:IsZip ha z ti to .ellipsis:=za
 simp only [List.zipIdx_cons,List.zipIdx_nil,List.forIn_cons,List.forIn_nil]
 refine wpAny_bind (wpAny_bind (wpAny_onRaise (wpAny_bind (m:=Builtin.SmallTypes.nextOf (.ref i1)) ?_)))
 refine ZaL (g1.extBut sa.extBut D.i1z) (t1.extBut sa.extBut D.l1z) hx fun hb g1b sb=>wpAny_pure ?_
 have ob:IsPair hb to a b:=sb.extBut _ _ D.TOi1 (sa.extBut _ _ D.TOz go)
 refine wpAny_bind (wpAny_seqItems ob rfl (wpAny_bind (wpAny_updateSeq_pair ob fun hc oc sc=>wpAny_bind (wpAny_letGo (wpAny_pure ?_)))))
 replace oc:IsPair hc to x b:=oc
 refine wpAny_bind (wpAny_bind (wpAny_onRaise (wpAny_bind (m:=Builtin.SmallTypes.nextOf (.ref i2)) ?_)))
 refine ZaL (((g2.extBut sa.extBut D.i2z).extBut sb.extBut D.i12.symm).extBut sc.extBut D.TOi2.symm) (((t2.extBut sa.extBut D.l2z).extBut sb.extBut D.l2i1).extBut sc.extBut D.l2TO) hy fun hd g2d sd=>wpAny_pure ?_
 have od:IsPair hd to x b:=sd.extBut _ _ D.TOi2 oc
 refine wpAny_bind (wpAny_seqItems od rfl (wpAny_bind (wpAny_updateSeq_pair od fun he oe se=>wpAny_bind (wpAny_letGo (wpAny_pure (wpAny_pure ?_))))))
 replace oe:IsPair he to x y:=oe
 refine wpAny_bind (wpAny_seqItems oe rfl (wpAny_bind (wpAny_newTuple ?_)))
 have ze:IsZip he z ti to .ellipsis:=se.extBut _ _ D.TOz.symm (sd.extBut _ _ D.i2z.symm (sc.extBut _ _ D.TOz.symm (sb.extBut _ _ D.i1z.symm za)))
 have hsz:he.objs.size=s.heap.objs.size:=by rw [se.1,sd.1,sc.1,sb.1,sa.1]
 have zlt:z<he.objs.size:=QAi ze
 have g1e:he.IsTupleIter i1 l1 (k1+1):=((g1b.extBut sc.extBut D.TOi1.symm).extBut sd.extBut D.i12).extBut se.extBut D.TOi1.symm
 have g2e:he.IsTupleIter i2 l2 (k2+1):=g2d.extBut se.extBut D.TOi2.symm
 refine wpAny_bind (m:=Builtin.SmallTypes.ownedTupleHandOut (.ref z) (.ref he.objs.size)) ?_
 unfold Builtin.SmallTypes.ownedTupleHandOut
 have zf:IsZip (he.push { cls:=.type "tuple",data:=.seq #[x,y] }) z ti to .ellipsis:=QAk _ ze
 refine wpAny_bind (wpAny_setField_rec zf (by simp) fun hg zg sg=>?_)
 replace zg:IsZip hg z ti to (rawInt he.objs.size):=zg
 refine wpAny_setField_rec zg (by simp) fun hk zk sk=>wpAny_pure ⟨_,rfl,?_⟩
 replace zk:IsZip hk z ti to (rawInt he.objs.size):=zk
 have up:∀ c o,c≠z->he.get? c=some o->hk.get? c=some o:=fun c o n e=>sk.extBut _ _ n (sg.extBut _ _ n (QAk _ e))
 have pk:IsPair hk he.objs.size x y:=sk.extBut _ _ (Nat.ne_of_gt zlt) (sg.extBut _ _ (Nat.ne_of_gt zlt) (QAx _ rfl))
 show Q (.ref he.objs.size) _
 rw [hsz] at zk pk ⊢
 refine q hk zk (up _ _ D.TOz oe) ?_ ?_ pk fun c o n1 n2 n3 n4 e=>up c o n1 (se.extBut _ _ n2 (sd.extBut _ _ n4 (sc.extBut _ _ n2 (sb.extBut _ _ n3 (sa.extBut _ _ n1 e)))))
 ·exact let ⟨o,e,r⟩:=g1e; ⟨o,up _ o D.i1z e,r⟩
 ·exact let ⟨o,e,r⟩:=g2e; ⟨o,up _ o D.i2z e,r⟩
theorem ZhH {z ti to i1 i2 l1 l2:Addr} {k1 k2:Nat} {xs ys:Array Value} {a b:Value} {Q:Fin->Shared->Prop} (hh:A.handled=none) (D:ZipApart z ti to i1 i2 l1 l2) (gz:IsZip s.heap z ti to .none) (gi:IsPair s.heap ti (.ref i1) (.ref i2)) (go:IsPair s.heap to a b)
  (g1:s.heap.IsTupleIter i1 l1 k1) (g2:s.heap.IsTupleIter i2 l2 k2) (t1:s.heap.IsTuple l1 xs) (t2:s.heap.IsTuple l2 ys) (hend:xs[k1]? = none\/ys[k2]? = none)
  (q:∀ h' e,(∀ c o,c≠z->c≠to->c≠i1->c≠i2->s.heap.get? c=some o->h'.get? c=some o)->(∃ o,h'.get? e=some o/\o.cls = .type "StopIteration")->E (.ref e) { s with heap:=h' }) :
  wpAny (model prog w) A (Builtin.«zip.__next__» ⟨[.ref z],[]⟩) Q E s:=by
 refine wpAny_bind (m:=field (.ref z) 2) (wpAny_field gz rfl (x:=.bool false) rfl ?_)
 refine wpAny_bind (m:=field (.ref z) 3) (wpAny_field gz rfl (x:=.ref ti) rfl (wpAny_bind (wpAny_seqItems gi rfl ?_)))
 refine wpAny_bind (m:=Builtin.SmallTypes.ownedTupleIsFree (.ref z)) ?_
 unfold Builtin.SmallTypes.ownedTupleIsFree
 refine wpAny_bind (wpAny_field gz rfl (x:=.none) rfl (wpAny_pure ?_))
 simp only [if_true]
 refine wpAny_bind (wpAny_rule (wpAny_bind (wpAny_field gz rfl (x:=.ref to) rfl (wpAny_bind (wpAny_setField_rec gz (by simp) fun ha za sa=>wpAny_bind ?_)))))
 replace za:IsZip ha z ti to .ellipsis:=za
 simp only [List.zipIdx_cons,List.zipIdx_nil,List.forIn_cons,List.forIn_nil]
 refine wpAny_bind (wpAny_bind (wpAny_onRaise (wpAny_bind (m:=Builtin.SmallTypes.nextOf (.ref i1)) ?_)))
 cases hx:xs[k1]? with
 | none =>
  refine Zc8 hh (g1.extBut sa.extBut D.i1z) (t1.extBut sa.extBut D.l1z) hx fun hb e sb zz0=>?_
  obtain ⟨oe,ee,ce⟩:=zz0
  have zb:IsZip hb z ti to .ellipsis:=sb _ _ D.i1z.symm za
  have ne:e≠z:=fun u=>by subst u; rw [zb] at ee; cases ee; simp at ce
  exact wpAny_setField_rec zb (by simp) fun hc _ sc=>q hc e (fun c o n1 _ n3 _ u=>sc.extBut _ _ n1 (sb _ _ n3 (sa.extBut _ _ n1 u))) ⟨oe,sc.extBut _ _ ne ee,ce⟩
 | some x =>
  have hy:ys[k2]? = none:=by
   rcases hend with u | u
   ·rw [hx] at u; cases u
   ·exact u
  refine ZaL (g1.extBut sa.extBut D.i1z) (t1.extBut sa.extBut D.l1z) hx fun hb g1b sb=>wpAny_pure ?_
  have ob:IsPair hb to a b:=sb.extBut _ _ D.TOi1 (sa.extBut _ _ D.TOz go)
  refine wpAny_bind (wpAny_seqItems ob rfl (wpAny_bind (wpAny_updateSeq_pair ob fun hc oc sc=>wpAny_bind (wpAny_letGo (wpAny_pure ?_)))))
  refine wpAny_bind (wpAny_bind (wpAny_onRaise (wpAny_bind (m:=Builtin.SmallTypes.nextOf (.ref i2)) ?_)))
  refine Zc8 hh (((g2.extBut sa.extBut D.i2z).extBut sb.extBut D.i12.symm).extBut sc.extBut D.TOi2.symm) (((t2.extBut sa.extBut D.l2z).extBut sb.extBut D.l2i1).extBut sc.extBut D.l2TO) hy fun hd e sd zz0=>?_
  obtain ⟨oe,ee,ce⟩:=zz0
  have zd:IsZip hd z ti to .ellipsis:=sd _ _ D.i2z.symm (sc.extBut _ _ D.TOz.symm (sb.extBut _ _ D.i1z.symm za))
  have ne:e≠z:=fun u=>by subst u; rw [zd] at ee; cases ee; simp at ce
  exact wpAny_setField_rec zd (by simp) fun he _ se=>q he e (fun c o n1 n2 n3 n4 u=>se.extBut _ _ n1 (sd _ _ n4 (sc.extBut _ _ n2 (sb.extBut _ _ n3 (sa.extBut _ _ n1 u))))) ⟨oe,se.extBut _ _ ne ee,ce⟩
noncomputable abbrev zt1 (h:Heap) (l1:Addr):Heap:=h.push { cls:=.type "tuple_iterator",data:=.fields #[.ref l1,.int 0 0] }
noncomputable abbrev zt2 (h:Heap) (l1 l2:Addr):Heap:=(zt1 h l1).push { cls:=.type "tuple_iterator",data:=.fields #[.ref l2,.int 0 0] }
noncomputable abbrev zt3 (h:Heap) (l1 l2:Addr):Heap:=(zt2 h l1 l2).push { cls:=.type "tuple",data:=.seq #[.ref h.objs.size,.ref (zt1 h l1).objs.size] }
noncomputable abbrev zt4 (h:Heap) (l1 l2:Addr):Heap:=(zt3 h l1 l2).push { cls:=.type "tuple",data:=.seq #[.none,.none] }
noncomputable abbrev zt5 (h:Heap) (l1 l2:Addr):Heap:=(zt4 h l1 l2).push { cls:=.type "zip",data:=.fields #[.none,.bool false,.bool false,.ref (zt2 h l1 l2).objs.size,.ref (zt3 h l1 l2).objs.size] }
theorem Zf5 (l1 l2:Addr) (xs ys:Array Value):Meets (Builtin.«zip.__new__» ⟨[.type "zip",.ref l1,.ref l2],[]⟩) (fun _ R s=>s.heap.IsTuple l1 xs/\s.heap.IsTuple l2 ys/\R (.ok (.ret (.ref (zt4 s.heap l1 l2).objs.size))) { s with heap:=zt5 s.heap l1 l2 }) :=
 .of_wp fun prog w A R s h=>by
  obtain ⟨hp,g,d,tk,os⟩:=s
  obtain ⟨t1,t2,h⟩:=h
  have hsub:=sub_zip
  have u1:Heap.IsTuple (Shared.heap ⟨hp,g,d,tk,os⟩) l1 xs:=t1
  have u2:Heap.IsTuple (Shared.heap ⟨hp.push { cls:=.type "tuple_iterator",data:=.fields #[.ref l1,.int 0 0] },g,d,tk,os⟩) l2 ys:=Heap.IsTuple.push t2 _
  wp_walk using wpAny_pyIter_tuple u1,wpAny_pyIter_tuple u2
  exact ⟨_,rfl,h⟩
theorem ZhD {l1 l2:Addr} {xs ys:Array Value} {Q:Value->Shared->Prop} (t1:s.heap.IsTuple l1 xs) (t2:s.heap.IsTuple l2 ys)
  (h:∀ h',IsZip h' (s.heap.objs.size+4) (s.heap.objs.size+2) (s.heap.objs.size+3) .none->IsPair h' (s.heap.objs.size+2) (.ref s.heap.objs.size) (.ref (s.heap.objs.size+1))->IsPair h' (s.heap.objs.size+3) .none .none ->
   h'.IsTupleIter s.heap.objs.size l1 0->h'.IsTupleIter (s.heap.objs.size+1) l2 0->(∀ c o,s.heap.get? c=some o->h'.get? c=some o)->Q (.ref (s.heap.objs.size+4)) { s with heap:=h' }) :
  wpAny (model prog w) A (call (.type "zip") [.ref l1,.ref l2]) Q E s:=by
 refine callType_new PySem.F.called_zip (by decide) (PySem.F.typeCall_zip_2 _ _) (PySem.F.newCall_zip_2 _ _) (fun obj=>PySem.F.args_object_init_3 obj _ _) PySem.F.entry_zip_new (Zf5 l1 l2 xs ys) ⟨t1,t2,?_⟩
 have z1:(zt1 s.heap l1).objs.size=s.heap.objs.size+1:=QCi ..
 have z2:(zt2 s.heap l1 l2).objs.size=s.heap.objs.size+2:=by rw [QCi,z1]
 have z3:(zt3 s.heap l1 l2).objs.size=s.heap.objs.size+3:=by rw [QCi,z2]
 have z4:(zt4 s.heap l1 l2).objs.size=s.heap.objs.size+4:=by rw [QCi,z3]
 have p5:∀ c o,(zt4 s.heap l1 l2).get? c=some o->(zt5 s.heap l1 l2).get? c=some o:=fun c o e=>QAk _ e
 have p4:∀ c o,(zt3 s.heap l1 l2).get? c=some o->(zt5 s.heap l1 l2).get? c=some o:=fun c o e=>p5 c o (QAk _ e)
 have p3:∀ c o,(zt2 s.heap l1 l2).get? c=some o->(zt5 s.heap l1 l2).get? c=some o:=fun c o e=>p4 c o (QAk _ e)
 have p2:∀ c o,(zt1 s.heap l1).get? c=some o->(zt5 s.heap l1 l2).get? c=some o:=fun c o e=>p3 c o (QAk _ e)
 have g5:(zt5 s.heap l1 l2).get? (zt4 s.heap l1 l2).objs.size=some _:=QAx _ rfl
 have g4:(zt5 s.heap l1 l2).get? (zt3 s.heap l1 l2).objs.size=some _:=p5 _ _ (QAx _ rfl)
 have g3:(zt5 s.heap l1 l2).get? (zt2 s.heap l1 l2).objs.size=some _:=p4 _ _ (QAx _ rfl)
 have g2:(zt5 s.heap l1 l2).get? (zt1 s.heap l1).objs.size=some _:=p3 _ _ (QAx _ rfl)
 have g1:(zt5 s.heap l1 l2).get? s.heap.objs.size=some _:=p2 _ _ (QAx _ rfl)
 show _/\_
 rw [z2,z3,z4] at g5
 rw [z1,z2] at g3
 rw [z3] at g4
 rw [z1] at g2
 rw [z4]
 exact ⟨⟨_,g5,rfl⟩,h _ g5 g3 g4 ⟨_,g1,rfl,rfl⟩ ⟨_,g2,rfl,rfl⟩ fun c o e=>p2 c o (QAk _ e)⟩
theorem ZeG {z ti to i1 i2 l1 l2:Addr} {k1 k2:Nat} {xs ys:Array Value} {x y a b:Value} {Q:Option Value->Shared->Prop} (D:ZipApart z ti to i1 i2 l1 l2) (gz:IsZip s.heap z ti to .none) (gi:IsPair s.heap ti (.ref i1) (.ref i2)) (go:IsPair s.heap to a b)
  (g1:s.heap.IsTupleIter i1 l1 k1) (g2:s.heap.IsTupleIter i2 l2 k2) (t1:s.heap.IsTuple l1 xs) (t2:s.heap.IsTuple l2 ys) (hx:xs[k1]? = some x) (hy:ys[k2]? = some y)
  (q:∀ h',IsZip h' z ti to (rawInt s.heap.objs.size)->IsPair h' to x y->h'.IsTupleIter i1 l1 (k1+1)->h'.IsTupleIter i2 l2 (k2+1)->IsPair h' s.heap.objs.size x y ->
   (∀ c o,c≠z->c≠to->c≠i1->c≠i2->s.heap.get? c=some o->h'.get? c=some o)->Q (some (.ref s.heap.objs.size)) { s with heap:=h' }):wpAny (model prog w) A (pyNext (.ref z)) Q E s:=by
 have hT:s.TypeIs (.ref z) "zip":=⟨_,gz,rfl⟩
 unfold pyNext
 exact wpAny_bind (wpAny_attempt (wpAny_callSpecial?_slot (name:=Str.ofString "__next__") hT PySem.F.slot_zip_next (wpAny_call_entry PySem.F.slot_zip_next hT PySem.F.entry_zip_next (Zhc D gz gi go g1 g2 t1 t2 hx hy fun h' a1 a2 a3 a4 a5 a6=>wpAny_pure (q h' a1 a2 a3 a4 a5 a6)) (PySem.F.args_zip_next_1 _))))
theorem Zf4 {z ti to i1 i2 l1 l2:Addr} {k1 k2:Nat} {xs ys:Array Value} {a b:Value} {Q:Option Value->Shared->Prop} (hh:A.handled=none) (D:ZipApart z ti to i1 i2 l1 l2) (gz:IsZip s.heap z ti to .none) (gi:IsPair s.heap ti (.ref i1) (.ref i2)) (go:IsPair s.heap to a b)
  (g1:s.heap.IsTupleIter i1 l1 k1) (g2:s.heap.IsTupleIter i2 l2 k2) (t1:s.heap.IsTuple l1 xs) (t2:s.heap.IsTuple l2 ys) (hend:xs[k1]? = none\/ys[k2]? = none)
  (q:∀ h',(∀ c o,c≠z->c≠to->c≠i1->c≠i2->s.heap.get? c=some o->h'.get? c=some o)->Q none { s with heap:=h' }):wpAny (model prog w) A (pyNext (.ref z)) Q E s:=by
 have hT:s.TypeIs (.ref z) "zip":=⟨_,gz,rfl⟩
 unfold pyNext
 refine wpAny_bind (wpAny_attempt (wpAny_callSpecial?_slot (name:=Str.ofString "__next__") hT PySem.F.slot_zip_next (wpAny_call_entry PySem.F.slot_zip_next hT PySem.F.entry_zip_next (ZhH hh D gz gi go g1 g2 t1 t2 hend fun h' e k ⟨o,eo,co⟩=>?_) (PySem.F.args_zip_next_1 _))))
 exact wpAny_bind (wpAny_isInstance (T:="StopIteration") (b:=true) ⟨o,eo,co⟩ isSubtype_stop (wpAny_pure (q _ k)))
end
noncomputable def ZlR (K:PySem.W.Frag) (l1 l2:Addr):It :=
  ⟨fun i H => ∃ xs ys x y, SqT K H l1 xs/\SqT K H l2 ys/\xs[i]? = some x/\ys[i]? = some y,
   fun i H v H' => ∃ p x y, v = .ref p/\H p=none/\(∀ xs, SqT K H l1 xs->xs[i]? = some x)/\(∀ ys, SqT K H l2 ys->ys[i]? = some y)/\H'=upd H p (.tup [x, y]),
   fun i H => ∃ xs ys, SqT K H l1 xs/\SqT K H l2 ys/\(xs.length<=i\/ys.length<=i)⟩
structure Zmi (z TI TO i1 i2 l1 l2:Addr) (i:Nat) (h:Heap):Prop where
 z:IsZip h z TI TO .none
 ti:IsPair h TI (.ref i1) (.ref i2)
 to:∃ a b,IsPair h TO a b
 i1:h.IsTupleIter i1 l1 i
 i2:h.IsTupleIter i2 l2 i
theorem Zd2 {h h':Heap} {a t:Addr} {i:Nat} (x:h.IsTupleIter a t i) (k:∀ o,h.get? a=some o->h'.get? a=some o):h'.IsTupleIter a t i:=let ⟨o,e,r⟩:=x; ⟨o,k o e,r⟩
theorem Zhe {P:Program} {w:World} {K:PySem.W.Frag} {elts:List Expr} {x1} {tpos:Pos} {z TI TO i1 i2 l1 l2:Addr} (D:ZipApart z TI TO i1 i2 l1 l2):Turn P w K (.Tuple elts x1 tpos) (ZlR K l1 l2) [z,TI,TO,i1,i2] z (fun i h=>Zmi z TI TO i1 i2 l1 l2 i h) where
 mem:=by simp
 obj:=fun i h st b hb=>by
  simp only [QBs,QCa,or_false] at hb
  rcases hb with rfl | rfl | rfl | rfl | rfl
  ·exact ⟨_,st.z,fun v q=>by cases q⟩
  ·exact ⟨_,st.ti,fun v q=>by cases q⟩
  ·obtain ⟨a,b,e⟩:=st.to
   exact ⟨_,e,fun v q=>by cases q⟩
  ·obtain ⟨o,e,c,d⟩:=st.i1
   exact ⟨o,e,fun v q=>by rw [d] at q; cases q⟩
  ·obtain ⟨o,e,c,d⟩:=st.i2
   exact ⟨o,e,fun v q=>by rw [d] at q; cases q⟩
 keep:=fun i h h' st k=>⟨k z (by simp) _ st.z,k TI (by simp) _ st.ti,let ⟨a,b,e⟩:=st.to; ⟨a,b,k TO (by simp) _ e⟩,Zd2 st.i1 fun o e=>k i1 (by simp) o e,Zd2 st.i2 fun o e=>k i2 (by simp) o e⟩
 item:=by
  intro X hP hw hK hc i pins s σ H E I hf st hg
  subst hP hw hK
  obtain ⟨xs,ys,x,y,hq1,hq2,hx,hy⟩:=hg
  obtain ⟨its1,rv1,p1,hz1⟩:=I.tuple hq1
  obtain ⟨its2,rv2,p2,hz2⟩:=I.tuple hq2
  obtain ⟨u,hu,ru⟩:=rv1.get hx
  obtain ⟨v,hv,rv⟩:=rv2.get hy
  obtain ⟨a,b,hTO⟩:=st.to
  refine ZeG D st.z st.ti hTO st.i1 st.i2 p1 p2 (x:=u) (y:=v) (by simpa using hu) (by simpa using hv) fun h' z1 to1 j1 j2 htup keep=>⟨_,rfl,?_⟩
  refine wpAny_letOwnedTupleGo_zip (s:={ s with heap:=h' }) z1 fun h2 z2 sb=>?_
  have hnone:H s.heap.objs.size=none:=I.hok.fresh (QAc _)
  have hfp:∀ c∈[z,TI,TO,i1,i2],c<s.heap.objs.size:=fun c hc=>by
   simp only [QBs,QCa,or_false] at hc
   rcases hc with rfl | rfl | rfl | rfl | rfl
   ·exact QAi st.z
   ·exact QAi st.ti
   ·exact QAi hTO
   ·obtain ⟨o,e,_⟩:=st.i1; exact QAi e
   ·obtain ⟨o,e,_⟩:=st.i2; exact QAi e
  have I1:Inv X pins σ (upd H s.heap.objs.size (.tup [x,y])) { s with heap:=s.heap.push { cls:=.type "tuple",data:=.seq #[u,v] } } :=
   I.laid (t':=s.toks) (fun b u e=>QAk _ e) (QAc _) ⟨(show 2<=sizeLine by decide),[u,v],.cons ru (.cons rv .nil),⟨_,QAx _ rfl,rfl,_,rfl⟩⟩
  have hkk:∀ c o,c∉[z,TI,TO,i1,i2]->(s.heap.push { cls:=.type "tuple",data:=.seq #[u,v] }).get? c=some o->h2.get? c=some o:=fun c o hc e=>by
   simp only [QBs,QCa,or_false,not_or] at hc
   rw [sb.2 c hc.1]
   by_cases q:c=s.heap.objs.size
   ·subst q
    rw [QAx _ rfl] at e
    cases e
    exact htup
   ·rw [Heap.get?_push_ne _ _ _ q] at e
    exact keep c o hc.1 hc.2.2.1 hc.2.2.2.1 hc.2.2.2.2 e
  have hf':∀ c∈[z,TI,TO,i1,i2],Zap X pins (upd H s.heap.objs.size (.tup [x,y])) c:=fun c hc=>by
   obtain ⟨f0,r⟩:=hf c hc
   exact ⟨by rw [Zf (QBa (hfp c hc))]; exact f0,r⟩
  have I2:Inv X pins σ (upd H s.heap.objs.size (.tup [x,y])) { s with heap:=h2 }:=I1.turnedL (t':=s.toks) hkk hf'
  refine ⟨.ref s.heap.objs.size,_,I2,rfl,⟨_,x,y,rfl,hnone,fun l h=>by rw [I.tuple_inj h hq1]; exact hx,fun l h=>by rw [I.tuple_inj h hq2]; exact hy,rfl⟩,?_,fun c hc=>(hf' c hc).1⟩
  exact ⟨z2,(sb.2 TI D.TIz).trans (keep TI _ D.TIz D.TITO D.TIi1 D.TIi2 st.ti),⟨u,v,(sb.2 TO D.TOz).trans to1⟩,Zd2 j1 fun o e=>(sb.2 i1 D.i1z).trans e,Zd2 j2 fun o e=>(sb.2 i2 D.i2z).trans e⟩
 done:=by
  intro X hP hw hK hc i pins s σ H E I hf st hg
  subst hP hw hK
  obtain ⟨xs,ys,hq1,hq2,hend⟩:=hg
  obtain ⟨its1,rv1,p1,hz1⟩:=I.tuple hq1
  obtain ⟨its2,rv2,p2,hz2⟩:=I.tuple hq2
  obtain ⟨a,b,hTO⟩:=st.to
  have h1:=rv1.length
  have h2:=rv2.length
  refine Zf4 (I.ok.hd hc) D st.z st.ti hTO st.i1 st.i2 p1 p2 (hend.imp (fun h=>by simp; exact Om.k489 h1 h) fun h=>by simp; exact Om.k489 h2 h) fun h' keep=>⟨rfl,I.turnedL (t':=s.toks) (fun c o hc e=>?_) hf⟩
  simp only [QBs,QCa,or_false,not_or] at hc
  exact keep c o hc.1 hc.2.2.1 hc.2.2.2.1 hc.2.2.2.2 e
 self:=fun _ _ _ _ _ st h=>wpAny_pyIter_zip st.z h
noncomputable def ZlB (K:PySem.W.Frag) (ta:TA):TI:=fun σ H R=>ta σ H fun vs H1=>∃ l1 l2 xs ys,vs=[.ref l1,.ref l2]/\SqT K H1 l1 xs/\SqT K H1 l2 ys/\R (ZlR K l1 l2) H1
theorem Zjg {X:Cx} {elts:List Expr} {x1} {tpos:Pos} {a b:Expr} {ta:TA} {p pos:Pos} (K:PySem.W.Frag) (hg:Gl X "zip") (hm:X.mg "zip" = none) (ha:PA X [a,b] ta) (hK:X.K=K:=by rfl) (hs:starEach [a,b] X.env=[(false,eval a X.env),(false,eval b X.env)]:=by rfl) (hs2:starEach [b] X.env=[(false,eval b X.env)]:=by rfl) :
  PI X (.Tuple elts x1 tpos) (.Call (.Name "zip" p) [a,b] [] pos) (ZlB K ta):=by
 subst hK
 intro pins s σ H R I h
 refine Call_ (Zcn I hg hm Zk3 (PyProof.Rows.callWith_type1 (thn (ha pos pins s σ H _ I h) fun us s1 zz0=>?_) (by rw [hs,hs2]) (by rw [hs2]; rfl)))
 obtain ⟨vs,H1,I1,r1,q1⟩:=zz0
 obtain ⟨l1,l2,xs,ys,e,hq1,hq2,q⟩:=q1
 subst e
 cases r1 with
 | cons r rr =>
  cases rr with
  | cons r' rr =>
   cases rr
   cases r
   cases r'
   obtain ⟨its1,rv1,p1,hz1⟩:=I1.tuple hq1
   obtain ⟨its2,rv2,p2,hz2⟩:=I1.tuple hq2
   have a1:l1<s1.heap.objs.size:=by obtain ⟨_,e,_⟩:=p1; exact QAi e
   have a2:l2<s1.heap.objs.size:=by obtain ⟨_,e,_⟩:=p2; exact QAi e
   refine ZhD p1 p2 fun h' hz hTI hTO hi1 hi2 hk=>wpAny_pyIter_zip (s:={ s1 with heap:=h' }) hz ?_
   refine ⟨_,[s1.heap.objs.size+4,s1.heap.objs.size+2,s1.heap.objs.size+3,s1.heap.objs.size,s1.heap.objs.size+1],_,_,H1,rfl,I1.kept (t':=s1.toks) hk,Zhe (zipApart_new a1 a2),⟨hz,hTI,⟨_,_,hTO⟩,hi1,hi2⟩,fun c hc=>?_,q⟩
   simp only [QBs,QCa,or_false] at hc
   have hge:s1.heap.objs.size<=c:=by
    have:s1.heap.objs.size+0=s1.heap.objs.size:=rfl
    rcases hc with rfl | rfl | rfl | rfl | rfl
    ·exact Nat.le_add_right _ _
    ·exact Nat.le_add_right _ _
    ·exact Nat.le_add_right _ _
    ·exact QAc _
    ·exact Nat.le_add_right _ _
   exact I1.fpOk hge (I1.hok.fresh hge)
theorem ZjJ {J:It} {n:Nat} {Y:Nat->Hp->V->Hp->Prop} {P:Hp->Prop} {g:TG} {tb:TS} {D:Zef} {σ:St} {H:Hp} (hgo:∀ i H,P H->i<n->J.go i H) (hy:∀ i H x H',P H->J.yld i H x H'->i<n->Y i H x H') (hst:∀ i H,P H->n<=i->J.stop i H)
  (Pv:Nat->St->Hp->Prop) (h0:Pv 0 σ H) (hP:∀ i σ H,Pv i σ H->P H)
  (hs:∀ i x σ H H2,i<n->Pv i σ H->Y i H x H2->g x σ H2 fun σ2 H3=>tb { D with nx:=Pv (i+1),ct:=Pv (i+1),bk:=D.nx } σ2 H3) (hd:∀ σ H,Pv n σ H->D.nx σ H) :
  ∃ W:Nat->Nat->St->Hp->Prop,(∃ m,W 0 m σ H)/\∀ i m σ H,W i m σ H ->
   (J.stop i H/\D.nx σ H)\/(J.go i H/\∃ N:St->Hp->Prop,(∀ σ' H',N σ' H'->∃ m',m'<m/\W (i+1) m' σ' H')/\∀ x H',J.yld i H x H'->g x σ H' fun σ2 H2=>tb { D with nx:=N,ct:=N,bk:=D.nx } σ2 H2):=by
 refine ⟨fun i m σ H=>m=n - i/\i<=n/\Pv i σ H,⟨n,by simp,QAh _,h0⟩,?_⟩
 rintro i m σ H ⟨rfl,hi,p⟩
 have hp:=hP i σ H p
 by_cases hlt:i<n
 ·exact .inr ⟨hgo i H hp hlt,fun σ2 H2=>Pv (i+1) σ2 H2,fun σ2 H2 q=>⟨n - (i+1),by exact Om.k394 hlt,rfl,hlt,q⟩,fun x H2 y=>hs i x σ H H2 hlt p (hy i H x H2 hp y hlt)⟩
 ·have e:i=n:=by exact Om.k488 hi hlt
  subst e
  exact .inl ⟨hst _ H hp (QAc _),hd σ H p⟩
end L2
namespace L2
open PySem PySem.Spec PyProof.Rows
end L2
namespace L2
open PySem PySem.Spec PyProof.Rows
section
variable {prog:Program} {w:World} {A:Around} {E:Value->Shared->Prop} {s:Shared}
end
end L2
namespace L2
open PySem PySem.Spec PyProof.Rows
section
variable {prog:Program} {w:World} {A:Around} {R:Result->Shared->Prop} {I:Addr} {fp wr:List Addr} {G:Array GenState->Array GenState->Prop} {P:Nat->Value->Prop} {St:Nat->Shared->Prop}
end
section
variable {prog:Program} {w:World} {A:Around} {E:Value->Shared->Prop} {s:Shared}
end
end L2
namespace L2
open PySem PySem.Spec PyProof.Rows
section
variable {prog:Program} {w:World} {A:Around} {E:Value->Shared->Prop} {s:Shared}
end
end L2
namespace L2
open PySem PySem.Spec PyProof.Rows
end L2
namespace L2
open PySem PySem.Spec PyProof.Rows
section
variable {prog:Program} {w:World} {A:Around} {E:Value->Shared->Prop} {s:Shared} {d:Addr} {es:Array (Int × Value)} {ep:Nat} {ns:List Nat}
end
end L2
namespace L2
open PySem PySem.Spec PyProof.Rows
section
variable {prog:Program} {w:World} {A:Around} {E:Value->Shared->Prop} {s:Shared} {d:Addr} {ns:List Nat}
end
end L2
namespace L2
open PySem PySem.Spec PyProof.Rows
section
variable {prog:Program} {w:World} {A:Around} {E:Value->Shared->Prop} {s:Shared}
end
end L2
namespace L2
open PySem PySem.Spec PyProof.Rows
open AutoSeq1 (wpAny_loadPart')
section
variable (l:Addr) (its:List Value) (n:Nat) (dd:Option Addr) (sl:Array (Option Value)) (t:Tok)
end
section
variable {prog:Program} {w:World} {A:Around} {E:Value->Shared->Prop} {s:Shared}
open HT in
end
end L2
namespace L2
open PySem PySem.Spec PyProof.Rows
open AutoSeq1 (wpAny_loadPart')
section
variable {prog:Program} {w:World} {A:Around} {E:Value->Shared->Prop} {s:Shared}
theorem ZcP {R:List Value->Shared->Prop} {r:Addr} {n:Nat} {t u v:Tok} (hh:A.handled=none) (hr:IsRange s.heap r 0 (n:Int) 1 t u v) (hn:n<=1000)
  (h:∀ (h':Heap) (tk:Nat) (acc:Array Value),(∀ b o,s.heap.get? b=some o->h'.get? b=some o)->ItemsOf (fun i v=>∃ t,v = .int (i:Int) t) acc n->R acc.toList { s with heap:=h',toks:=tk }) :
  wpAny (model prog w) A (collect (.ref r)) R E s:=by
 have e2:Builtin.Range.rangeSize 0 (n:Int) 1=n:=by rw [rangeSize_one]; split <;> omega
 unfold collect
 refine wpAny_bind (wpAny_runValue (codeAny_builtin entry_proto_collect' ?_))
 rw [Around.under_plainId PySem.F.plain_proto_collect _]
 refine wpAny_bind (m:=newList []) (wpAny_newObj_type (wpAny_pure ⟨plainId_quiet PySem.F.plain_list_iadd _,codeAny_builtin entry_list_iadd' ?_⟩))
 rw [Around.under_plainId PySem.F.plain_list_iadd _]
 have g1:(s.heap.push { cls:=.type "list",data:=.seq ([]:List Value).toArray }).get? s.heap.objs.size=some { cls:=.type "list",data:=.seq #[] }:=QAx _ rfl
 have key:=wpAny_extend_range (prog:=prog) (w:=w) (A:=A) (s:={ s with heap:=s.heap.push { cls:=.type "list",data:=.seq ([]:List Value).toArray } }) (n:=n)
  (R:=fun (q:Result) (s':Shared)=>∃ (h':Heap) (tk:Nat) (acc':Array Value) (c':Nat),q = .ok (.ret (.ref s.heap.objs.size))/\s'={ s with heap:=h',toks:=tk }/\(∀ b o,s.heap.get? b=some o->h'.get? b=some o) /\
   h'.get? s.heap.objs.size=some { cls:=.type "list",dict:=none,data:=.seq acc' c',slots:=#[] }/\ItemsOf (fun i v=>∃ t,v = .int (i:Int) t) acc' n)
  hh (QAk _ hr) (small_one (by exact Om.k487 ) (by exact Om.k486 ) (by exact Om.c2) (by exact Om.c1 ‹_› rfl)) e2 (by exact Om.b1 ‹_› rfl) s.heap.objs.size (.ref s.heap.objs.size) 0 g1
  fun h' tk acc' c' hk hS' hacc=>⟨h',tk,acc',c',rfl,rfl,fun b o e=>hk b o (QBa (QAi e)) (QAk _ e),hS',hacc.1,fun i w hw=>by
   obtain ⟨t',e⟩:=hacc.2 i w hw
   exact ⟨t',by rw [e,QBx,Int.mul_one]⟩⟩
 refine wpAny_mono key (fun fin s' x=>?_) fun e s' x=>by obtain ⟨_,_,_,_,e',_⟩:=x; cases e'
 cases fin with
 | done f =>
  obtain ⟨h',tk,acc',c',e,rfl,hk,hS',hacc⟩:=x
  cases e
  exact wpAny_bind (m:=load s.heap.objs.size) (wpAny_load hS' (wpAny_pure (h h' tk acc' hk hacc)))
 | again c1 =>
  refine ⟨x.1,codeAny_mono x.2 fun q s2 y=>?_⟩
  obtain ⟨h',tk,acc',c',rfl,rfl,hk,hS',hacc⟩:=y
  exact wpAny_bind (m:=load s.heap.objs.size) (wpAny_load hS' (wpAny_pure (h h' tk acc' hk hacc)))
theorem ZbC {R:Value->Shared->Prop} {r:Addr} {n:Nat} {t u v:Tok} (hh:A.handled=none) (hr:IsRange s.heap r 0 (n:Int) 1 t u v) (hn:n<=1000)
  (h:∀ (h1:Heap) (tk:Nat) (acc:Array Value),(∀ b o,s.heap.get? b=some o->h1.get? b=some o)->ItemsOf (fun i v=>∃ t,v = .int (i:Int) t) acc n->R (.ref h1.objs.size) { s with heap:=h1.push { cls:=.type "tuple",data:=.seq acc },toks:=tk }) :
  wpAny (model prog w) A (Builtin.«tuple.__new__» ⟨[.type "tuple",.ref r],[]⟩) (fun fin s'=>∃ v,fin = .done (.ret v)/\R v s') E s:=by
 obtain ⟨hp,g,d,tk,os⟩:=s
 have hsub:=sub_tuple_self
 have hinit:=init_tuple_lookup
 have hmh:=madeHere_tuple
 have hT:Shared.TypeIs ⟨hp,g,d,tk,os⟩ (.ref r) "range":=⟨_,hr,rfl⟩
 wp_walk using wpAny_loadPart' hr,wpAny_typeOf hT,ZcP hh hr hn
 intro h1 tk1 acc hk hi
 refine wpAny_bind (m:=Builtin.Tuple.tupleExact acc.toList.toArray) ?_
 unfold Builtin.Tuple.tupleExact
 refine wpAny_newObj_type ?_ (by show acc.toList.toArray.size<=sizeLine; rw [show acc.toList.toArray=acc by simp,hi.1,sizeLine_eq]; exact Om.b1 ‹_› rfl)
 rw [show acc.toList.toArray=acc by simp]
 exact wpAny_pure ⟨_,rfl,h h1 tk1 acc hk hi⟩
theorem Zbr {r:Addr} {n:Nat} {t u v:Tok} {Q:Value->Shared->Prop} (hh:A.handled=none) (hr:IsRange s.heap r 0 (n:Int) 1 t u v) (hn:n<=1000)
  (h:∀ (h1:Heap) (tk:Nat) (acc:Array Value),(∀ b o,s.heap.get? b=some o->h1.get? b=some o)->ItemsOf (fun i v=>∃ t,v = .int (i:Int) t) acc n->Q (.ref h1.objs.size) { s with heap:=h1.push { cls:=.type "tuple",data:=.seq acc },toks:=tk }) :
  wpAny (model prog w) A (call (.type "tuple") [.ref r]) Q E s:=by
 have g:Meets (Builtin.«tuple.__new__» ⟨[.type "tuple",.ref r],[]⟩) (fun A R s=>A.handled=none/\IsRange s.heap r 0 (n:Int) 1 t u v/\∀ (h1:Heap) (tk:Nat) (acc:Array Value),(∀ b o,s.heap.get? b=some o->h1.get? b=some o)->ItemsOf (fun i v=>∃ t,v = .int (i:Int) t) acc n->R (.ok (.ret (.ref h1.objs.size))) { s with heap:=h1.push { cls:=.type "tuple",data:=.seq acc },toks:=tk }) :=
  .of_wp fun prog w A R s h=>by
   obtain ⟨h1,h2,h3⟩:=h
   exact ZbC (R:=fun v s'=>R (.ok (.ret v)) s') (by simpa using h1) h2 hn h3
 exact callType_new F.called_tuple (by decide) (F.typeCall_tuple_1 _) (F.newCall_tuple_1 _) (fun obj=>F.args_object_init_2 obj _) F.entry_tuple_new g
  ⟨by simpa using hh,hr,fun h1 tk acc hk hi=>⟨⟨_,QAx _ rfl,rfl⟩,h h1 tk acc hk hi⟩⟩
theorem Ze4 {X:Cx} (hc:X.calm=true):Jh X (.type "tuple") (fun xs H Q=>∃ (p:Addr) (n:Nat),xs=[.ref p]/\H p=some (.rng 0 n)/\n<=1000/\∀ l,H l=none->Q (.ref l) (upd H l (.tup (rng n)))):=by
 intro pins s σ H xs us Q I r h
 obtain ⟨p,n,rfl,hp,hn,q⟩:=h
 obtain ⟨u,rfl,rx⟩:=J5 r
 cases rx
 obtain ⟨t,u,v,e⟩:=I.hok p _ hp
 refine Zbr (n:=n) (I.ok.hd hc) e hn fun h1 tk acc kp hi=>?_
 have I1:Inv X pins σ H { s with heap:=h1,toks:=tk }:=I.kept kp
 refine ⟨.ref h1.objs.size,_,I1.laid (t':=tk) (o:=.tup (rng n)) (fun b o e=>QAk _ e) (QAc _) (show ObjOk X.prog X.w _ _ _ (.tup (rng n)) from ⟨by rw [Zr]; exact Zq hn,acc.toList,Zeq n _ (by rw [QAv]; exact hi.1) fun j w ew=>?_,by simpa using IsTupN.new _ _⟩),rfl,q _ (I1.hok.fresh (QAc _))⟩
 exact hi.2 j w (by simpa using ew)
end
end L2
namespace L2
open PySem PySem.Spec PyProof.Rows
section
variable {X:Cx} {o i:Expr} {pos:Pos} {td ty:TE}
end
end L2
namespace L2
open PySem PySem.Spec PyProof.Rows
theorem no2 {n a:Nat} (h:a<n) (e:a=n+2):False:=by exact Om.k485 h e
theorem ne2 {n a b:Nat} (h:b<n) (e:a=n+2):a≠b:=by exact Om.k484 h e
theorem Zmg (n:Nat):n+2≠n:=by exact Om.k483 
theorem Zcz:∀ (names:List (Str × NameKind)) (n:Nat) (acc:List (Str × Addr)) (h:Heap),names.filter (fun y=>y.2 == .cell)=[]->cellsFrom n names acc=acc/\pushCells h names=h
 | [],_,_,_,_=>⟨rfl,rfl⟩
 | (x,k)::r,n,acc,h,e=>by
  unfold cellsFrom pushCells
  cases hk:(k==NameKind.cell) with
  | true=>rw [QDy (by simpa using hk)] at e; cases e
  | false =>
   rw [QDz (by simpa using hk)] at e
   simp only [QDb,if_false]
   exact Zcz r n acc h e
theorem Zdm {x0:Str}:∀ (names:List (Str × NameKind)) (n:Nat) (acc:List (Str × Addr)) (h:Heap),names.filter (fun y=>y.2 == .cell)=[(x0,.cell)]->cellsFrom n names acc=(x0,n)::acc/\pushCells h names=h.push { cls:=.type "cell",data:=.cell none }
 | [],_,_,_,e=>by cases e
 | (x,k)::r,n,acc,h,e=>by
  unfold cellsFrom pushCells
  cases hk:(k==NameKind.cell) with
  | true =>
   rw [QDy (by simpa using hk)] at e
   injection e with e1 e2
   cases e1
   simp only [if_true]
   exact Zcz r (n+1) ((x0,n)::acc) _ e2
  | false =>
   rw [QDz (by simpa using hk)] at e
   simp only [QDb,if_false]
   exact Zdm r n acc h e
section
variable {M:Model} {A:Around} {E:Value->Shared->Prop} {s:Shared}
theorem ZeH {scope:Scope} {globals:Addr} {closure:List (Str × Addr)} {qual:Str} {env:Env} {x0:Str} {Q:Env->Shared->Prop} (h1:scope.names.filter (fun y=>y.2 == .cell)=[(x0,.cell)])
  (h:Q { scope,locals:=s.heap.objs.size,globals,cells:=(x0,s.heap.objs.size+1)::closure,qual,func:=none,code:=env.code,frame:=env.frame,builtins:=env.builtins } { s with heap:=(s.heap.push { cls:=.type "dict",data:=.dict #[] }).push { cls:=.type "cell",data:=.cell none } }) :
  wpAny M A (newFunctionEnv scope globals closure [] qual none .none (some env)) Q E s:=by
 simp only [newFunctionEnv,Option.isSome_some,if_true]
 refine wpAny_bind (wpAny_alloc ?_)
 refine wpAny_bind (wpAny_layCells _ (fun name kind cells=>by cases hkc:kind==NameKind.cell <;> simp [hkc]) _ _ _ _ ?_)
 obtain ⟨e1,e2⟩:=Zdm scope.names (s.heap.push { cls:=.type "dict",data:=.dict #[] }).objs.size closure (s.heap.push { cls:=.type "dict",data:=.dict #[] }) h1
 rw [QCi] at e1
 show wpAny M A _ Q E { s with heap:=pushCells (s.heap.push { cls:=.type "dict",data:=.dict #[] }) scope.names }
 rw [e2]
 rw [List.forIn_nil]
 refine wpAny_bind (wpAny_pure (wpAny_pure ?_))
 rw [show ({ s with heap:=s.heap.push { cls:=.type "dict",data:=.dict #[] } }:Shared).heap.objs.size=s.heap.objs.size+1 from QCi ..]
 rw [e1]
 exact h
end
noncomputable def Z5 (X:Cx) (x0:Str) (Nc:List Str) (scope:Scope) (cl:List (Str × Addr)) (C:Addr) (s₁:Shared) (H₁:Hp) (fp:List Addr):Cx where
 prog:=X.prog
 w:=X.w
 K:=X.K
 mg:=X.mg
 base:=X.base
 A:=X.A
 N:=Nc
 s₀:=s₁
 H₀:=H₁
 env:=compEnvC scope cl C X.env
 outer:=X.stack
 stack:=X.stack
 ex:=fp
 fn:=fun x=>x==x0
 calm:=X.calm
 pn:=[]
 xe:=fun _ _=>False
structure Zi0 (X:Cx) (x0:Str) (Nc:List Str) (scope:Scope) (fm:List (Option Nat)):Prop where
 kind:scope.kind = .function
 one:scope.names.filter (fun y=>y.2 == .cell)=[(x0,.cell)]
 nofr:(x0,NameKind.free)∉scope.names
 names:∀ y∈scope.names,y.2 = .local->scope.names.lookup y.1=some .local
 free:∀ y∈scope.names,y.2 = .free->X.env.kindOf y.1=some .cell\/X.env.kindOf y.1=some .free
 len:fm.length=Nc.length
 at_:∀ (p:Option Nat × Str),p∈fm.zip Nc->∀ j,p.1=some j->X.N[j]? = some p.2/\(p.2,NameKind.free)∈scope.names/\scope.names.lookup p.2=some .free
noncomputable def captOkC (N:List Str) (sc:Scope) (x0:Str) (Nc:List Str) (scope:Scope) (fm:List (Option Nat)):Bool :=
 decide (scope.kind = .function)&&(decide (scope.names.filter (fun y=>y.2 == .cell)=[(x0,.cell)])&&(decide ((x0,NameKind.free)∉scope.names)&&(scope.names.all (fun y=>(decide (y.2 ≠ .local)||decide (scope.names.lookup y.1=some .local)) &&
  (decide (y.2 ≠ .free)||(decide (sc.names.lookup y.1=some .cell)||decide (sc.names.lookup y.1=some .free))))&&(decide (fm.length=Nc.length) &&
  (fm.zip Nc).all (fun p=>match p.1 with
   | none=>true
   | some j=>decide (N[j]? = some p.2)&&decide ((p.2,NameKind.free)∈scope.names)&&decide (scope.names.lookup p.2=some .free))))))
theorem captOkC.capt {X:Cx} {x0:Str} {Nc:List Str} {scope:Scope} {fm:List (Option Nat)} (h:captOkC X.N X.env.scope x0 Nc scope fm=true):Zi0 X x0 Nc scope fm:=by
 unfold captOkC at h
 rw [QAw,QAw,QAw,QAw,QAw] at h
 obtain ⟨h1,h5,h6,h2,h3,h4⟩:=h
 rw [QBe] at h2 h4
 have g:∀ y∈scope.names,(y.2 ≠ .local\/scope.names.lookup y.1=some .local)/\(y.2 ≠ .free\/(X.env.scope.names.lookup y.1=some .cell\/X.env.scope.names.lookup y.1=some .free)):=fun y hy=>by
  have:=h2 y hy
  simpa only [QAw,QDn,decide_eq_true_eq] using this
 refine ⟨of_decide_eq_true h1,of_decide_eq_true h5,of_decide_eq_true h6,fun y hy e=>?_,fun y hy e=>?_,of_decide_eq_true h3,fun p hp j e=>?_⟩
 ·rcases (g y hy).1 with z | z
  ·exact absurd e z
  ·exact z
 ·rcases (g y hy).2 with z | z
  ·exact absurd e z
  ·exact z
 ·have:=h4 p hp
  obtain ⟨a,b⟩:=p
  cases e
  simp only [QAw,decide_eq_true_eq] at this
  exact ⟨this.1.1,this.1.2,this.2⟩
theorem JS {env:Env} {x0:Str}:∀ {names:List (Str × NameKind)} {x:Str}, (∀ y∈names, y.2 = .cell->y.1=x0) ->
    ((names.map fun (n, k) => if (k==NameKind.free&&env.scope.kind == .function&&env.kindOf n==some .cell) then (n, NameKind.cell) else (n, k)).lookup x=some .cell \/
     (names.map fun (n, k) => if (k==NameKind.free&&env.scope.kind == .function&&env.kindOf n==some .cell) then (n, NameKind.cell) else (n, k)).lookup x=some .free)->x=x0\/(x, NameKind.free)∈names
  | [], _, _, h => by simp at h
  | (n, k)::r, x, hc, h => by
    have ih := @JS env x0 r x (fun y hy => hc y (QAo _ hy))
    rw [QAr] at h
    cases hx:x==n with
    | true =>
      have hxn:x=n := by simpa using hx
      dsimp only at h
      split at h
      · rename_i hk
        rw [QAw, QAw] at hk
        have:k = .free := by simpa using hk.1.1
        rw [hxn, this]
        exact .inr QAj
      · simp only [QBj, hx] at h
        rcases h with h | h
        · cases h
          exact .inl (hxn.trans (hc (n, .cell) QAj rfl))
        · cases h
          rw [hxn]
          exact .inr QAj
    | false =>
      dsimp only at h
      split at h
      · simp only [QBj, hx] at h
        exact (ih h).imp id (QAo _)
      · simp only [QBj, hx] at h
        exact (ih h).imp id (QAo _)
section
variable {X:Cx} {pins:List (Addr × Obj)} {σ:St} {H₁:Hp} {s₁:Shared}
theorem ZhC {x0:Str} {Nc:List Str} {scope:Scope} {fm:List (Option Nat)} {fp:List Addr} {h₁:Heap} {tk:Nat} {m:Str->Option Value} (c:Zi0 X x0 Nc scope fm) (I:Inv X pins σ H₁ s₁) (hf:∀ b∈fp,Zap X pins H₁ b) (hfp:∀ b∈fp,b<s₁.heap.objs.size)
  (old:∀ b o,s₁.heap.get? b=some o->h₁.get? b=some o) (hD:h₁.get? s₁.heap.objs.size=some { cls:=.type "list",data:=.seq ([]:List Value).toArray }) (hns:h₁.Ns (s₁.heap.objs.size+1) m) (hcl:h₁.IsCell (s₁.heap.objs.size+2) none) :
  Inv (Z5 X x0 Nc scope ((x0,s₁.heap.objs.size+2)::ZF X.env.cells scope.names []) (s₁.heap.objs.size+1) s₁ H₁ fp) [] (capt fm σ) (upd H₁ s₁.heap.objs.size (.lst [])) { s₁ with heap:=h₁,toks:=tk }:=by
 have hfree:∀ y∈scope.names,y.2 = .free->∃ a,X.env.cells.lookup y.1=some a:=fun y hy e=>I.ok.has y.1 (c.free y hy e)
 have sub0:∀ x a,(ZF X.env.cells scope.names []).lookup x=some a->X.env.cells.lookup x=some a:=ZaN _ _ hfree (fun x a e=>by simp at e)
 have lt:∀ x a,X.env.cells.lookup x=some a->a<s₁.heap.objs.size:=fun x a e=>(I.cell x a e).elim fun v q=>q.lt
 have look:∀ x a,((x0,s₁.heap.objs.size+2)::ZF X.env.cells scope.names []).lookup x=some a->(x=x0/\a=s₁.heap.objs.size+2)\/X.env.cells.lookup x=some a:=fun x a e=>by
  rw [QBj] at e
  cases hx:(x==x0) with
  | true =>
   rw [hx] at e
   cases e
   exact .inl ⟨by simpa using hx,rfl⟩
  | false =>
   rw [hx] at e
   exact .inr (sub0 x a e)
 have own:∀ y∈scope.names,y.2 = .cell->y.1=x0:=fun y hy e=>by
  have:y∈scope.names.filter (fun y=>y.2 == .cell):=List.mem_filter.mpr ⟨hy,by rw [e]; rfl⟩
  rw [c.one] at this
  rw [List.mem_singleton.mp this]
 have hDn:H₁ s₁.heap.objs.size=none:=I.hok.fresh (QAc _)
 have hCn:H₁ (s₁.heap.objs.size+1)=none:=I.hok.fresh (QCh _)
 have hLn:H₁ (s₁.heap.objs.size+2)=none:=I.hok.fresh (by exact Om.k482 )
 refine ⟨⟨I.ok.mod,c.kind,I.ok.glob,I.ok.blt,QCh _,fun x y a e1 e2=>?_,fun x hx=>?_,fun x a z e=>?_,I.ok.hd,I.ok.frames,.inl rfl,fun b hb=>?_,I.bs,QAq I.ok.bsz I.sz,fun b o e hb=>?_,fun b hb hfs=>?_,I.stack,I.stkFree⟩,
  rfl,I.bare,Un.laid old (QAc _) hDn,⟨m,hns,fun i x v e1 e2 e3=>?_⟩,fun x a e=>?_,?_,fun x a e=>?_,fun p hp=>absurd (show p∈([]:List (Addr × Obj)) from hp) (by simp),?_,?_⟩
 ·rcases look x a e1 with ⟨z1,z2⟩ | z1
  ·rcases look y a e2 with ⟨w1,w2⟩ | w1
   ·rw [z1,w1]
   ·exact (no2 (lt y a w1) z2).elim
  ·rcases look y a e2 with ⟨w1,w2⟩ | w1
   ·exact (no2 (lt x a z1) w2).elim
   ·exact I.ok.inj x y a z1 w1
 ·show ∃ c,((x0,s₁.heap.objs.size+2)::ZF X.env.cells scope.names []).lookup x=some c
  rw [QBj]
  cases hx0:(x==x0) with
  | true=>exact ⟨_,rfl⟩
  | false =>
   rcases JS (env:=X.env) own hx with z | z
   ·rw [z] at hx0
    simp at hx0
   ·exact JA _ _ x (.inr z)
 ·have z':x=x0:=by simpa using (show (x==x0)=true from z)
  rcases look x a e with ⟨_,w2⟩ | w
  ·show s₁.heap.objs.size<=a
   exact Om.k481 w2
  ·rw [show ((Z5 X x0 Nc scope ((x0,s₁.heap.objs.size+2)::ZF X.env.cells scope.names []) (s₁.heap.objs.size+1) s₁ H₁ fp)).env.cells.lookup x=((x0,s₁.heap.objs.size+2)::ZF X.env.cells scope.names []).lookup x from rfl,QBj,z'] at e
   simp at e
   show s₁.heap.objs.size<=a
   exact Om.k480 e
 ·refine ⟨QBa (QDk (hfp b hb)),fun x a e=>?_⟩
  rcases look x a e with ⟨_,w2⟩ | w
  ·exact ne2 (hfp b hb) w2
  ·exact (hf b hb).2.2.2.2.1 x a w
 ·rcases (hf b hb).2.2.2.1 with z | z
  ·exact I.ok.noex b o e z
  ·exact absurd (QAz (QAi e) (QAq I.ok.bsz z)) (QCb _)
 ·rcases List.mem_cons.mp (I.stkSub b hfs) with z | z
  ·exact (hf b hb).2.1 z
  ·exact (hf b hb).2.2.1 z
 ·-- the names taken over
  have hz:∃ j,fm[i]? = some (some j)/\σ[j]? = some (some v):=by
   unfold capt at e2
   rw [QAe] at e2
   cases q:fm[i]? with
   | none=>rw [q] at e2; cases e2
   | some o =>
    rw [q] at e2
    cases o with
    | none=>cases e2
    | some j =>
     refine ⟨j,rfl,?_⟩
     have e2':(σ[j]?).join=some v:=Option.some.inj e2
     cases q2:σ[j]? with
     | none=>rw [q2] at e2'; cases e2'
     | some u=>rw [q2] at e2'; cases u with
      | none=>cases e2'
      | some u=>cases e2'; rfl
  obtain ⟨j,hfm,hσ⟩:=hz
  have hp:((some j:Option Nat),x)∈fm.zip Nc:=by
   have:(fm.zip Nc)[i]? = some (some j,x):=by rw [List.getElem?_zip_eq_some]; exact ⟨hfm,e1⟩
   exact QAu this
  obtain ⟨hN,hmem,hlk⟩:=c.at_ _ hp j rfl
  have hk:=c.free _ hmem rfl
  obtain ⟨m0,hn0,hl0⟩:=I.loc
  have hvis:Vis X.env.scope x:=hk.elim (fun z=>.inr (.inl z)) (fun z=>.inr (.inr z))
  obtain ⟨u,ru,lk⟩:=hl0 j x v hN hσ hvis
  have hx0:(x==x0)=false:=by
   cases q:(x==x0) with
   | false=>rfl
   | true =>
    have q':x=x0:=by simpa using q
    exact absurd (q' ▸ hmem) c.nofr
  refine ⟨u,ru,.inr ⟨YC (env:=X.env) hlk,?_⟩⟩
  rcases lk with ⟨z,_⟩ | ⟨_,a,ea,o,ho,hd⟩
  ·rcases hk with q | q
   ·rw [show X.env.kindOf x=_ from q] at z; cases z
   ·rw [show X.env.kindOf x=_ from q] at z; cases z
  ·obtain ⟨a',ea'⟩:=JA (cells:=X.env.cells) scope.names [] x (.inr hmem)
   have:=sub0 x a' ea'
   rw [ea] at this
   cases this
   refine ⟨a,?_,o,old a o ho,hd⟩
   show ((x0,s₁.heap.objs.size+2)::ZF X.env.cells scope.names []).lookup x=some a
   rw [QBj,hx0]
   exact ea'
 ·rcases look x a e with ⟨_,w2⟩ | w
  ·rw [w2]
   exact ⟨none,hcl⟩
  ·obtain ⟨v,o,ho,hd⟩:=I.cell x a w
   exact ⟨v,o,old a o ho,hd⟩
 ·show upd H₁ s₁.heap.objs.size (.lst []) (s₁.heap.objs.size+1)=none
  rw [Zf (Nat.succ_ne_self _)]
  exact hCn
 ·show upd H₁ s₁.heap.objs.size (.lst []) a=none
  rcases look x a e with ⟨_,w2⟩ | w
  ·rw [w2,Zf (Zmg _)]
   exact hLn
  ·rw [Zf (QBa (lt x a w))]
   exact I.freeC x a w
 ·exact I.hok.laid old (QAc _) ⟨QAh _,[],0,.nil,hD⟩
 ·show (capt fm σ).length=Nc.length
  unfold capt
  rw [QAa]
  exact c.len
theorem Zgj {x0:Str} {Nc:List Str} {scope:Scope} {cl:List (Str × Addr)} {C:Addr} {fp:List Addr} {σ':St} {H':Hp} {s':Shared} (I:Inv X pins σ H₁ s₁) (hf:∀ b∈fp,Zap X pins H₁ b) (J:Inv (Z5 X x0 Nc scope cl C s₁ H₁ fp) [] σ' H' s') :
  Inv X pins σ H' s':=I.call' (ch:=fp) J.os J.base J.hok J.bare fun b hb=>⟨(hf b hb).2.2.2.1,(hf b hb).2.1,(hf b hb).2.2.2.2.1,(hf b hb).2.2.2.2.2⟩
theorem ZiR {x0:Str} {Nc:List Str} {scope:Scope} {cl:List (Str × Addr)} {fp:List Addr} {σ':St} {H':Hp} {s':Shared} {σ2:St} {s2:Shared} {h'':Heap} (I:Inv X pins σ H₁ s₁) (J:Inv (Z5 X x0 Nc scope cl (s₁.heap.objs.size+1) s₁ H₁ fp) [] σ' H' s')
  (I2:Inv X pins σ2 H' s2) (sb:Heap.SameBut (s₁.heap.objs.size+1) s2.heap h''):Inv X pins σ2 H' { s2 with heap:=h'' }:=by
 have hle:s₁.heap.objs.size<=s₁.heap.objs.size+1:=QCh _
 refine I2.turned (t':=s2.toks) (it:=s₁.heap.objs.size+1) (fun b o hb e=>(sb.2 b hb).trans e) J.free (Nat.ne_of_gt (QAz I.lt hle)) (.inr (QAq I.sz hle)) (fun x c e z=>?_) (fun p hp z=>?_)
 ·obtain ⟨v,q⟩:=I.cell x c e
  exact absurd (QAz q.lt (by rw [z]; exact hle)) (QCb _)
 ·exact absurd (QAz (QAi (I.pin p hp).1) (by rw [z]; exact hle)) (QCb _)
theorem Ze2 {elt tg iter:Expr} {ifs:List Expr} {scope:Scope} {pos:Pos} {x0:Str} {Nc:List Str} {fm:List (Option Nat)} {g:TG} {tt:TT} {te:TE} {it:Addr} {fp:List Addr} {tn:Nat->Heap->Prop} {J:It} {Q:VK} {E:Value->Shared->Prop} {RR:Value->Addr->Result->Shared->Prop}
    (hc:X.calm=true) (c:Zi0 X x0 Nc scope fm) (I:Inv X pins σ H₁ s₁) (T:Turn X.prog X.w X.K tg J fp it tn) (st:tn 0 s₁.heap) (hf:∀ b∈fp, Zap X pins H₁ b)
    (hg:∀ cl C s₁ H₁ fp, PG (Z5 X x0 Nc scope cl C s₁ H₁ fp) tg g) (ht:∀ cl C s₁ H₁ fp, PTs (Z5 X x0 Nc scope cl C s₁ H₁ fp) ifs tt) (he:∀ cl C s₁ H₁ fp, PE (Z5 X x0 Nc scope cl C s₁ H₁ fp) elt te)
    (h:∀ l, H₁ l=none->∃ W:Nat->Nat->List V->St->Hp->Prop, (∃ m, W 0 m [] (capt fm σ) (upd H₁ l (.lst []))) /\
      ∀ i m ys σ' H', W i m ys σ' H'->H' l=some (.lst ys) /\
        ((J.stop i H'/\Q (.ref l) H') \/
         (J.go i H'/\∃ N:List V->St->Hp->Prop, (∀ zs σ2 H2, N zs σ2 H2->∃ m', m'<m/\W (i+1) m' zs σ2 H2)/\∀ x H2, J.yld i H' x H2->g x σ' H2 fun σ3 H3 => tt σ3 H3 fun b H4 =>
            if b=true then te σ3 H4 fun y H5 => H5 l=some (.lst ys)/\ys.length<sizeLine/\N (ys++[y]) σ3 (upd H5 l (.lst (ys++[y])))
            else N ys σ3 H4)))
    (fin:∀ σ' H' s', Inv (Z5 X x0 Nc scope ((x0, s₁.heap.objs.size+2)::ZF X.env.cells scope.names []) (s₁.heap.objs.size+1) s₁ H₁ fp) [] σ' H' s'->Q (.ref s₁.heap.objs.size) H'->RR (.ref s₁.heap.objs.size) (s₁.heap.objs.size+1) (.ok .next) s') :
    wpAny (model X.prog X.w) X.A (newList []) (fun acc s₃ => wpAny (model X.prog X.w) X.A (newFunctionEnv scope X.env.globals (ZF X.env.cells scope.names []) [] X.env.qual none .none (some X.env)) (fun cenv s₄ =>
      codeAny (model X.prog X.w) X.A (.compStart (.ListComp elt [⟨tg, iter, ifs, 0⟩] scope pos) 0 (.ref it) acc { cenv with scope := relabel scope X.env }) (RR acc cenv.locals) s₄) E s₃) E s₁ := by
  have hfp:∀ b∈fp, b<s₁.heap.objs.size := fun b hb => by
    obtain ⟨o, ho, _⟩ := T.obj 0 _ st b hb
    exact QAi ho
  refine wpAny_newObj_type (ZeH c.one ?_)
  dsimp only
  generalize hH2:s₁.heap.push { cls := .type "list", dict := none, data := .seq ([]:List Value).toArray }=H2
  have hC:H2.objs.size=s₁.heap.objs.size+1 := by rw [<- hH2, QCi]
  show codeAny _ _ (.compStart _ 0 _ _ (compEnvC scope ((x0, H2.objs.size+1)::ZF X.env.cells scope.names []) H2.objs.size X.env)) (RR _ H2.objs.size) _
  have hns₁:((H2.push { cls := .type "dict", data := .dict #[] }).push { cls := .type "cell", data := .cell none }).Ns (s₁.heap.objs.size+1) (fun _ => none) := by
    rw [<- hC]
    exact (Heap.Ns.new H2 (.type "dict")).keeps fun b o e => QAk _ e
  have old2:∀ b o, H2.get? b=some o->((H2.push { cls := .type "dict", data := .dict #[] }).push { cls := .type "cell", data := .cell none }).get? b=some o := fun b o e => QAk _ (QAk _ e)
  have hcl:((H2.push { cls := .type "dict", data := .dict #[] }).push { cls := .type "cell", data := .cell none }).IsCell (s₁.heap.objs.size+2) none := by
    have e:s₁.heap.objs.size+2=(H2.push { cls := .type "dict", data := .dict #[] }).objs.size := by rw [QCi, hC]
    rw [e]
    exact ⟨_, QAx _ rfl, rfl⟩
  generalize ((H2.push { cls := .type "dict", data := .dict #[] }).push { cls := .type "cell", data := .cell none })=h₁ at hns₁ old2 hcl ⊢
  rw [hC]
  have old:∀ b o, s₁.heap.get? b=some o->h₁.get? b=some o := fun b o e => old2 b o (hH2 ▸ QAk _ e)
  have hD:h₁.get? s₁.heap.objs.size=some { cls := .type "list", data := .seq ([]:List Value).toArray } := old2 _ _ (hH2 ▸ QAx _ rfl)
  have st1:tn 0 h₁ := T.keep _ _ _ st fun b _ o e => old b o e
  have hDn:H₁ s₁.heap.objs.size=none := I.hok.fresh (QAc _)
  obtain ⟨W, ⟨m0, w0⟩, turn⟩ := h _ hDn
  have loop:∀ tk:Nat, codeAny (model X.prog X.w) X.A (.compLoop (.ListComp elt [⟨tg, iter, ifs, 0⟩] scope pos) 0 (.ref it) (.ref s₁.heap.objs.size) (compEnvC scope ((x0, s₁.heap.objs.size+2)::ZF X.env.cells scope.names []) (s₁.heap.objs.size+1) X.env))
      (RR (.ref s₁.heap.objs.size) (s₁.heap.objs.size+1)) { s₁ with heap := h₁, toks := tk } := by
    intro tk
    have I0 := ZhC (tk := tk) c I hf hfp old hD hns₁ hcl
    have stat:∀ {H':Hp}, (∀ b∈fp, H' b=none)->∀ b∈fp, Zap (Z5 X x0 Nc scope ((x0, s₁.heap.objs.size+2)::ZF X.env.cells scope.names []) (s₁.heap.objs.size+1) s₁ H₁ fp) [] H' b := fun hn b hb =>
      ⟨hn b hb, (I0.ok.exf b hb).1, I0.ok.exfs b hb, .inl hb, (I0.ok.exf b hb).2, fun p hp => absurd (show p∈([]:List (Addr × Obj)) from hp) (by simp)⟩
    refine Zcx (fun n s' => ∃ i ys σ' H', Inv (Z5 X x0 Nc scope ((x0, s₁.heap.objs.size+2)::ZF X.env.cells scope.names []) (s₁.heap.objs.size+1) s₁ H₁ fp) [] σ' H' s'/\tn i s'.heap/\(∀ b∈fp, H' b=none)/\W i n ys σ' H') ?_ m0
      ⟨0, [], _, _, I0, st1, fun b hb => by rw [Zf (QBa (hfp b hb))]; exact (hf b hb).1, w0⟩
    rintro n s3 ⟨i, ys, σ3, H3, I3, st3, fr3, w3⟩
    obtain ⟨hl, alt⟩ := turn i n ys σ3 H3 w3
    rcases alt with ⟨stop, qn⟩ | ⟨go, N, hN, step⟩
    · refine thn (T.done (Z5 X x0 Nc scope ((x0, s₁.heap.objs.size+2)::ZF X.env.cells scope.names []) (s₁.heap.objs.size+1) s₁ H₁ fp) rfl rfl rfl hc i [] s3 σ3 H3 NoX I3 (stat fr3) st3 stop) fun r s4 zz0 => ?_
      obtain ⟨hr, I4⟩ := zz0
      subst hr
      exact fin σ3 H3 s4 I4 qn
    · refine thn (T.item (Z5 X x0 Nc scope ((x0, s₁.heap.objs.size+2)::ZF X.env.cells scope.names []) (s₁.heap.objs.size+1) s₁ H₁ fp) rfl rfl rfl hc i [] s3 σ3 H3 NoX I3 (stat fr3) st3 go) fun r s4 zz0 => ?_
      obtain ⟨u, hr, h4⟩ := zz0
      subst hr
      refine thn h4 fun _ s5 zz0 => ?_
      obtain ⟨x, H5, I5, r5, y5, st5, fr5⟩ := zz0
      have I5' := I5.pinned (stat fr5) (T.obj _ _ st5)
      have again:∀ {σ7:St} {H7:Hp} {s7:Shared} {zs:List V} {m':Nat}, Inv (Z5 X x0 Nc scope ((x0, s₁.heap.objs.size+2)::ZF X.env.cells scope.names []) (s₁.heap.objs.size+1) s₁ H₁ fp) ([]++Zbe fp s5.heap) σ7 H7 s7->m'<n->W (i+1) m' zs σ7 H7 ->
          ∃ m, m<n/\∃ i ys σ' H', Inv (Z5 X x0 Nc scope ((x0, s₁.heap.objs.size+2)::ZF X.env.cells scope.names []) (s₁.heap.objs.size+1) s₁ H₁ fp) [] σ' H' s7/\tn i s7.heap/\(∀ b∈fp, H' b=none)/\W i m ys σ' H' := fun {σ7 H7 s7 zs m'} I7 hm w7 => by
        refine ⟨m', hm, i+1, zs, σ7, H7, I7.unpinned, T.keep _ _ _ st5 fun b hb o e => (I7.pin (b, o) (QBg _ (QBg _ (Y2 hb e)))).1, fun b hb => ?_, w7⟩
        obtain ⟨o, e, d⟩ := T.obj _ _ st5 b hb
        exact (I7.pin (b, o) (QBg _ (QBg _ (Y2 hb e)))).2.1
      refine thn (hg _ _ _ _ _ _ s5 σ3 H5 x u _ I5' r5 (step x H5 y5)) fun _ s6 zz0 => ?_
      obtain ⟨σ6, H6, I6, q6⟩ := zz0
      refine thn (ht _ _ _ _ _ _ s6 σ6 H6 _ I6 q6) fun ok s7 zz0 => ?_
      obtain ⟨H7, I7, q7⟩ := zz0
      cases ok with
      | false =>
        rw [if_neg QAl] at q7 ⊢
        obtain ⟨m', hm, w7⟩ := hN _ _ _ q7
        exact again I7 hm w7
      | true =>
        rw [if_pos rfl] at q7 ⊢
        refine thn (he _ _ _ _ _ _ s7 σ6 H7 _ I7 q7) fun y s8 zz0 => ?_
        obtain ⟨v8, H8, I8, r8, hl8, hz8, n8⟩ := zz0
        obtain ⟨m', hm, w8⟩ := hN _ _ _ n8
        refine thn (Yt _ s8 σ6 H8 (.ref s₁.heap.objs.size) [v8] (.ref s₁.heap.objs.size) [y] (fun v H' => H'=upd H8 s₁.heap.objs.size (.lst (ys++[v8]))) I8 rfl (.cons r8 .nil) ⟨_, ys, v8, rfl, rfl, hl8, hz8, rfl⟩) fun _ s9 zz0 => ?_
        obtain ⟨_, H9, I9, _, e9⟩ := zz0
        subst e9
        exact again I9 hm w8
  exact codeAny_compStart_list (loop _) (T.self _ 0 _ _ _ st1 (loop _))
end
section
variable {X:Cx} {elt tg iter:Expr} {ifs:List Expr} {scope:Scope} {pos spos:Pos} {wi:TI} {g:TG} {tt:TT} {te:TE}
theorem ZfW (x0:Str) (Nc:List Str) (fm:List (Option Nat)) (hc:X.calm=true) (hk:captOkC X.N X.env.scope x0 Nc scope fm=true) (hi:PI X tg iter wi)
  (hg:∀ cl C s₁ H₁ fp,PG (Z5 X x0 Nc scope cl C s₁ H₁ fp) tg g) (ht:∀ cl C s₁ H₁ fp,PTs (Z5 X x0 Nc scope cl C s₁ H₁ fp) ifs tt) (he:∀ cl C s₁ H₁ fp,PE (Z5 X x0 Nc scope cl C s₁ H₁ fp) elt te)
  (hs:∀ x,foldedSetIterable iter X.env x=pure x:=by intro _; rfl):PE X (.ListComp elt [⟨tg,iter,ifs,0⟩] scope pos) (ZhM fm wi g tt te):=by
 intro pins s σ H Q I h
 have c:=captOkC.capt hk
 rw [eval_ListComp]
 refine wpAny_comprehension_free (use:=none) rfl hs (JK fun y hy e=>I.ok.has y.1 (c.free y hy e)) c.kind c.names (thn (hi pins s σ H _ I h) fun v s1 h1=>thn h1 fun itv s2 h2=>?_)
 obtain ⟨it,fp,tn,J,H2,e,I2,T,st2,f2,h⟩:=h2
 subst e
 refine Ze2 (RR:=fun acc C=>compPost (model X.prog X.w) X.A X.xe none (EP X pins σ Q) acc C) hc c I2 T st2 f2 hg ht he h fun σ' H' s' J' q=>?_
 obtain ⟨m,hn,_⟩:=J'.loc
 exact ⟨m,hn,fun h'' sb=>⟨.ref s2.heap.objs.size,H',ZiR I2 J' (Zgj I2 f2 J') sb,rfl,q⟩⟩
end
theorem ZfU {X:Cx} {x0:Str} {Nc:List Str} {scope:Scope} {cl:List (Str × Addr)} {C:Addr} {s₁:Shared} {H₁:Hp} {fp:List Addr} (i:Nat) {pos:Pos} (hN:Nc.Nodup:=by decide +kernel) (hi:Nc[i]? = some x0:=by rfl)
  (hx:(relabel scope X.env).names.lookup x0=some .cell:=by rfl):PG (Z5 X x0 Nc scope cl C s₁ H₁ fp) (.Name x0 pos) (Jy i):=ZG hN hi (.inr hx) (.inl (by show (x0==x0)=true; simp))
end L2
namespace L2
open PySem PySem.Spec PyProof.Rows
section
variable {prog:Program} {w:World} {A:Around} {E:Value->Shared->Prop} {s:Shared}
theorem Ya:∀ {vs:List Value} {ns:List Int},IntsAre vs ns->vs.length=ns.length
 | _,_,.nil=>rfl
 | _,_,.cons _ _ r=>by rw [QAy,QAy,Ya r]
theorem Yd:∀ {vs:List Value} {ns:List Int},IntsAre vs ns->∀ (j:Nat) (h:j<ns.length),∃ t,vs[j]? = some (.int ns[j] t)
 | _,_,.cons n t r,0,_=>⟨t,rfl⟩
 | _,_,.cons n t r,j+1,h=>Yd r j (Nat.lt_of_succ_lt_succ h)
theorem Zgb {k:Int}:∀ {ns:List Int} {j:Nat},j<ns.idxOf k->∀ (h2:j<ns.length),(ns[j]==k)=false:=fun h h2=>PyProof.Rows.ne_of_lt_idxOf h h2
theorem Zbb {t:Addr} {items:Array Value} {ns:List Int} {x:Int} {u:Tok} {P:Fin->Shared->Prop} (ht:IsTup s.heap t items) (hi:IntsAre items.toList ns) (hk:x∈ns)
  (h:P (.done (.ret (.int ((ns.idxOf x:Nat):Int) s.toks))) { s with toks:=s.toks+1 }):wpAny (model prog w) A (Builtin.«tuple.index» ⟨[.ref t,.int x u],[]⟩) P E s:=by
 have hlen:items.size=ns.length:=by rw [<- QAv]; exact Ya hi
 have hj:ns.idxOf x<ns.length:=List.idxOf_lt_length_iff.mpr hk
 show wpAny _ _ (Builtin.Tuple.tupleItemsOf (.ref t) >>= _) _ _ s
 refine wpAny_bind (tupleItemsOf_ ht ?_)
 show wpAny _ _ (forIn [0:min items.size items.size] _ _ >>= _) _ _ s
 rw [Std.Legacy.Range.forIn_eq_forIn_range']
 simp only [Std.Legacy.Range.size,Nat.sub_zero,Nat.add_sub_cancel,Nat.div_one,Nat.min_self]
 refine wpAny_bind (wpAny_forIn_list _
   (fun rest b s'=>b.1=none/\s'=s/\∃ i,rest=List.range' i (items.size - i)/\i<=ns.idxOf x)
   _ ?_ ?_ _ _ ⟨rfl,rfl,0,by simp,QAh _⟩)
 ·rintro y rest b s' ⟨hb,rfl,i,hr,hle⟩
  have e:items.size - i=(items.size - (i+1))+1:=by exact Om.k479 hlen hj hle
  rw [e,List.range'_succ] at hr
  injection hr with h1 h2
  subst h1
  obtain ⟨tk,hy⟩:=Yd hi y (by exact Om.k478 hj hle)
  rw [QDa] at hy
  simp only [hy]
  refine wpAny_bind (wpAny_eqBool_int ?_)
  cases hnx:(ns[y]'(by exact Om.k478 hj hle)==x) with
  | true =>
   have hyi:y=ns.idxOf x:=by
    rcases QCq y (ns.idxOf x) with z | z
    ·rw [Zgb z (by exact Om.k119 hj z)] at hnx
     cases hnx
    ·exact Om.k118 hle z
   subst hyi
   exact wpAny_bind (wpAny_bind (wpAny_mkInt (wpAny_pure (wpAny_pure (wpAny_pure h)))))
  | false =>
   refine wpAny_pure ⟨rfl,rfl,y+1,h2,?_⟩
   rcases QCq y (ns.idxOf x) with z | z
   ·exact z
   ·have:y=ns.idxOf x:=by exact Om.k118 hle z
    subst this
    have:=List.getElem_idxOf hj
    rw [this] at hnx
    simp at hnx
 ·rintro ⟨b1,b2⟩ s' ⟨hb,rfl,i,hr,hle⟩
  have:items.size - i=0:=by
   cases hz:items.size - i with
   | zero=>rfl
   | succ m=>rw [hz,List.range'_succ] at hr; cases hr
  exact (Om.k477 hlen hj hle this).elim
end
noncomputable def Zl1 (to:TE) (t:TA):TE:=fun σ H Q=>to σ H fun x H1=>∃ (p:Addr) (ns:List Int),x = .ref p/\H1 p=some (.tup (ns.map V.int))/\t σ H1 fun xs H2=>∃ k:Int,xs=[.int k]/\H2 p=some (.tup (ns.map V.int))/\k∈ns/\Q (.int ((ns.idxOf k:Nat):Int)) H2
section
variable {X:Cx} {o e:Expr} {to:TE} {t:TA} {apos cpos:Pos}
theorem Zay (ho:PE X o to) (ha:PA X [e] t)
  (hbase:attributeBase o "index" X.env (eval o X.env)=eval o X.env:=by rfl)
  (hfew:((backTo cpos (starEach [e] X.env)).all (fun x=>!x.1)&&(backToKw cpos (keywordEach [] X.env)).all (fun x=>x.1.isSome)
   && decide ([e].length+([]:List Keyword).length+(if ([]:List Keyword).isEmpty then 0 else 1)<30))=true:=by rfl)
  (hline:(apos.endLine==cpos.line)=true:=by rfl) (hs:starEach [e] X.env=(false,eval e X.env)::starEach [] X.env:=by rfl) (hplain:(backTo cpos (starEach [] X.env)).any (·.1)=false:=by rfl) :
  PE X (.Call (.Attribute o "index" apos) [e] [] cpos) (Zl1 to t):=by
 intro pins s σ H Q I h
 refine wpAny_Call_method_late hbase hfew hline rfl (thn (ho pins s σ H _ I h) fun v s1 zz0=>?_)
 obtain ⟨x,H1,I1,r1,q1⟩:=zz0
 obtain ⟨p,ns,rfl,hp,q1⟩:=q1
 cases r1
 obtain ⟨_,its,_,pl⟩:=I1.hok p _ hp
 have pl:IsTupN s1.heap p its.toArray:=pl
 refine ⟨"tuple","tuple.index",F.plainAttrs_tuple,F.slot_tuple_index,F.type_tuple_index,pl.is.typeIs,fun a e=>(by cases e; exact pl.bare),?_⟩
 have hA:=ha cpos pins s1 σ H1 _ I1 q1
 rw [hs] at hA ⊢
 refine Calls.callWith_builtin (by show (false||(backTo cpos (starEach [] X.env)).any (·.1))=false; rw [hplain] <;> rfl) (Calls.evalArgs_plain ?_)
 refine thn hA fun us s2 zz0=>?_
 obtain ⟨vs,H2,I2,r2,q2⟩:=zz0
 obtain ⟨k,rfl,hp2,hk,q⟩:=q2
 obtain ⟨u,rfl,t,rfl⟩:=r2.one
 obtain ⟨_,its2,rv,pl2⟩:=I2.hok p _ hp2
 have pl2:IsTupN s2.heap p its2.toArray:=pl2
 exact wpAny_call_entry F.slot_tuple_index pl2.is.typeIs F.entry_tuple_index (Zbb pl2.is (Y5 rv) hk ⟨_,rfl,.int _,H2,I2.tok _,⟨_,rfl⟩,q⟩) (F.args_tuple_index_2 _ _)
end
end L2
namespace My
open PySem L2
theorem Zax {X:Cx} {pos:Pos} {es:List Expr} {k:Nat} {t:TGs} {n:Nat} (K:PySem.W.Frag) (hc:X.calm=true) (h:PGs X es t) (hK:X.K=K:=by rfl)
  (hn:(assignEach es X.env).length=n:=by rfl) (hst:(assignEach es X.env).findIdx? (·.1)=none:=by rfl):PG X (.Tuple es k pos) (ZlF K n t):=by subst hK; exact ZfS hc h hn hst
end My
namespace L2
open PySem PySem.Spec PyProof.Rows
open PySem.SeqAt
noncomputable def Zjb:V->List V->Hp->VK->Prop:=fun x vs H Q=>∃ (l:Addr) (ns:List Int) (k:Int),x = .ref l/\vs=[.int k]/\H l=some (.lst (ns.map V.int))/\k∈ns/\Q (.int ((ns.idxOf k:Nat):Int)) H
theorem Zc9 {X:Cx}:MtM X "list.index" Zjb:=by
 intro pins s σ H x vs v us Q I rx rv h
 obtain ⟨l,ns,k,rfl,rfl,hH,hk,q⟩:=h
 cases rx
 obtain ⟨u,rfl,t,rfl⟩:=rv.one
 obtain ⟨z,its,n,r,hl,e⟩:=I.lstM hH
 have hi:IntsAre its ns:=Y5 r
 have hlen:its.length=ns.length:=Ya hi
 have hj:ns.idxOf k<ns.length:=List.idxOf_lt_length_iff.mpr hk
 have hb:=Zbm
 have hz:ns.length<=sizeLine:=by have:=z; rw [<- hlen]; exact Om.y2 ‹_› ‹_› rfl
 refine call_meets PySem.F.slot_list_index ⟨_,e,rfl⟩ PySem.F.entry_list_index (PySem.F.args_list_index_2 _ _)
  (list_indexAt l its.toArray n none #[] (.int k t) (isInt k) (ns.idxOf k) (by simpa [hlen] using hj) (by exact Om.k476 z hl hlen hj hb) ?_ ?_) ⟨e,fun y hy=>(eq_isInt k t hi y (by simpa using hy)).at _ _,.int _,H,I.tok _,⟨_,rfl⟩,q⟩
 ·show isInt k its[ns.idxOf k]=true
  rw [isInt_at k hi _ (by exact Om.a1 ‹_› ‹_›) hj]
  simpa using List.getElem_idxOf hj
 ·intro j hjs hlt
  show isInt k its[j]=false
  rw [isInt_at k hi j (by simpa using hjs) (by exact Om.k119 hj hlt)]
  exact ne_of_lt_idxOf hlt _
end L2
namespace My
noncomputable abbrev HS:=List (Int × Nat)
noncomputable def look (hs:HS) (x:Int):Option Nat:=(hs.find? fun p=>decide (p.1=x)).map (·.2)
noncomputable def Zaa (hs:HS) (x:Int) (w:Nat):HS:=if (hs.any fun p=>decide (p.1=x))=true then hs.map (fun p=>if p.1=x then (p.1,w) else p) else hs++[(x,w)]
noncomputable def YW (hs:HS):List Int:=hs.map (·.1)
theorem ZeJ (x:Int):look [] x=none:=rfl
theorem Yi {p:Int × Nat} {r:HS} {x:Int} (e:p.1=x):look (p::r) x=some p.2:=by simp [look,List.find?_cons,e]
theorem Yj {p:Int × Nat} {r:HS} {x:Int} (e:¬ p.1=x):look (p::r) x=look r x:=by simp [look,List.find?_cons,e]
theorem look_none {x:Int}:∀ {hs:HS},look hs x=none↔x∉YW hs
 | []=>by simp [ZeJ,YW]
 | p::r=>by
  by_cases e:p.1=x
  ·rw [Yi e]
   simp [YW,e]
  ·rw [Yj e,look_none]
   simp only [YW,QAr,QBs,not_or]
   exact ⟨fun h=>⟨fun z=>e z.symm,h⟩,fun h=>h.2⟩
theorem Zci {x:Int} {v:Nat}:∀ {hs:HS},look hs x=some v->(x,v)∈hs
 | [],h=>by cases h
 | p::r,h=>by
  by_cases e:p.1=x
  ·rw [Yi e] at h
   cases h
   rw [<- e]
   exact QAj
  ·rw [Yj e] at h
   exact QAo _ (Zci h)
theorem Zbx {x:Int} {v:Nat}:∀ {hs:HS},(YW hs).Nodup->(x,v)∈hs->look hs x=some v
 | [],_,h=>by cases h
 | p::r,nd,h=>by
  rcases List.mem_cons.mp h with z | z
  ·rw [Yi (by rw [<- z])]
   rw [<- z]
  ·have hn:p.1∉YW r:=(List.nodup_cons.mp nd).1
   have:¬ p.1=x:=fun e=>hn (by rw [e]; exact List.mem_map.mpr ⟨_,z,rfl⟩)
   rw [Yj this]
   exact Zbx (List.nodup_cons.mp nd).2 z
theorem ZcD (x:Int):∀ hs:HS,(hs.any fun p=>decide (p.1=x))=(look hs x).isSome
 | []=>rfl
 | p::r=>by
  rw [List.any_cons]
  by_cases e:p.1=x
  ·simp only [Yi e,decide_eq_true e,Bool.true_or,Option.isSome_some]
  ·rw [Yj e,decide_eq_false e,Bool.false_or]
   exact ZcD x r
theorem Zcj (x y:Int) (w:Nat):∀ hs:HS,look (hs.map fun p=>if p.1=x then (p.1,w) else p) y=(look hs y).map fun v=>if y=x then w else v
 | []=>rfl
 | p::r=>by
  rw [QAr]
  by_cases h:p.1=x
  ·rw [if_pos h]
   by_cases e:p.1=y
   ·rw [Yi (p:=(p.1,w)) e,Yi e,QDp,if_pos (e.symm.trans h)]
   ·rw [Yj (p:=(p.1,w)) e,Yj e,Zcj x y w r]
  ·rw [if_neg h]
   by_cases e:p.1=y
   ·rw [Yi e,Yi e,QDp,if_neg (fun z=>h (e.trans z))]
   ·rw [Yj e,Yj e,Zcj x y w r]
theorem Zdc (x y:Int) (w:Nat):∀ hs:HS,look hs x=none->look (hs++[(x,w)]) y=if y=x then some w else look hs y
 | [],_=>by
  by_cases e:x=y
  ·rw [if_pos e.symm]; exact Yi (p:=(x,w)) e
  ·rw [if_neg (fun z=>e z.symm)]; exact Yj (p:=(x,w)) e
 | p::r,hn=>by
  rw [List.cons_append]
  have hk:¬ p.1=x:=fun z=>by rw [Yi z] at hn; cases hn
  rw [Yj hk] at hn
  by_cases e:p.1=y
  ·rw [Yi e,Yi e,if_neg (fun z=>hk (e.trans z))]
  ·rw [Yj e,Yj e,Zdc x y w r hn]
theorem Zch (hs:HS) (x y:Int) (w:Nat):look (Zaa hs x w) y=if y=x then some w else look hs y:=by
 unfold Zaa
 rw [ZcD]
 cases q:look hs x with
 | none =>
  rw [if_neg (by decide)]
  exact Zdc x y w hs q
 | some v =>
  rw [if_pos (show (some v).isSome=true from rfl),Zcj]
  by_cases e:y=x
  ·rw [if_pos e,e,q,QDp,if_pos rfl]
  ·rw [if_neg e]
   cases look hs y with
   | none=>rfl
   | some u=>rw [QDp,if_neg e]
theorem Ziw (x:Int) (w:Nat) (hs:HS):YW (hs.map fun p=>if p.1=x then (p.1,w) else p)=YW hs:=by
 unfold YW
 rw [QBb]
 refine QBq fun p _=>?_
 show (if p.1=x then (p.1,w) else p).1=p.1
 split <;> rfl
theorem Zc6 {hs:HS} (x:Int) (w:Nat) (h:(YW hs).Nodup):(YW (Zaa hs x w)).Nodup:=by
 unfold Zaa
 rw [ZcD]
 cases q:look hs x with
 | none =>
  rw [if_neg (by decide)]
  unfold YW
  rw [QAm]
  refine List.nodup_append.mpr ⟨h,by simp,fun a ha b hb=>?_⟩
  rw [QAr,List.map_nil,QDd] at hb
  rintro rfl
  have hb':a=x:=hb
  exact look_none.mp q (hb' ▸ ha)
 | some v =>
  rw [if_pos (show (some v).isSome=true from rfl),Ziw]
  exact h
theorem Zjw {hs:HS} {x:Int} {w:Nat} {p:Int × Nat} (h:p∈Zaa hs x w):p∈hs\/p=(x,w):=by
 unfold Zaa at h
 split at h
 ·obtain ⟨q,hq,e⟩:=List.mem_map.mp h
  split at e
  ·next z=>rw [<- e,z]; exact .inr rfl
  ·rw [<- e]; exact .inl hq
 ·rcases List.mem_append.mp h with z | z
  ·exact .inl z
  ·exact .inr (List.mem_singleton.mp z)
noncomputable def cnt (hs:HS) (ts:List Int) (v:Nat):Nat:=hs.countP fun p=>decide (p.1∉ts)&&decide (p.2=v)
theorem JI {y:Int} {ts:List Int} (hy:y∉ts) (v:Nat):∀ {hs:HS},(YW hs).Nodup->cnt hs ts v=cnt hs (ts++[y]) v+if look hs y=some v then 1 else 0
 | [],_=>by
  rw [ZeJ,if_neg (by intro z; cases z)]
  rfl
 | p::r,nd=>by
  have ih:=JI hy v (List.nodup_cons.mp nd).2
  unfold cnt at ih ⊢
  rw [QBt,QBt]
  by_cases e:p.1=y
  ·have hn:look r y=none:=look_none.mpr (e ▸ (List.nodup_cons.mp nd).1)
   rw [hn,if_neg (by intro z; cases z),Nat.add_zero] at ih
   rw [Yi e,ih]
   have h1:(decide (p.1∉ts++[y])&&decide (p.2=v))=false:=by
    rw [decide_eq_false (by rw [e]; simp),QCc]
   have h2:decide (p.1∉ts)=true:=decide_eq_true (by rw [e]; exact hy)
   rw [h1,h2,QCj,if_neg QAl,Nat.add_zero]
   by_cases z:p.2=v
   ·rw [if_pos (decide_eq_true z),if_pos (by rw [z])]
   ·rw [if_neg (by rw [decide_eq_false z]; exact QAl),if_neg (fun q=>z (Option.some.inj q))]
  ·rw [Yj e,ih]
   have h1:(decide (p.1∉ts++[y])&&decide (p.2=v))=(decide (p.1∉ts)&&decide (p.2=v)):=by
    congr 1
    refine decide_eq_decide.mpr ⟨fun h z=>h (QBf _ z),fun h z=>?_⟩
    rcases List.mem_append.mp z with z | z
    ·exact h z
    ·exact e (List.mem_singleton.mp z)
   rw [h1]
   omega
theorem Zcy {v:Nat} {hs:HS} (nd:(YW hs).Nodup):∀ {new ts:List Int},(ts++new).Nodup->cnt hs ts v=cnt hs (ts++new) v+new.countP fun y=>decide (look hs y=some v)
 | [],ts,_=>by rw [QBh]; rfl
 | y::new,ts,h=>by
  have e:ts++y::new=(ts++[y])++new:=by rw [QBo]; rfl
  rw [e] at h ⊢
  have hy:y∉ts:=fun z=>by
   have:=(List.nodup_append.mp (List.nodup_append.mp h).1).2.2 y z y (by simp)
   exact this rfl
  rw [JI hy v nd,Zcy nd h,QBt]
  by_cases q:look hs y=some v
  ·rw [if_pos q,if_pos (decide_eq_true q)]
   omega
  ·rw [if_neg q,if_neg (by rw [decide_eq_false q]; exact QAl)]
   omega
theorem Zg2 {y:Int} {ts:List Int} (hy:y∉ts) {hs:HS} (nd:(YW hs).Nodup) (w v:Nat):cnt (Zaa hs y w) ts v=cnt hs (ts++[y]) v+if v=w then 1 else 0:=by
 rw [JI hy v (Zc6 y w nd),Zch,if_pos rfl]
 have h2:cnt (Zaa hs y w) (ts++[y]) v=cnt hs (ts++[y]) v:=by
  unfold Zaa cnt
  split
  ·rw [List.countP_map]
   refine List.countP_congr fun p _=>?_
   show ((decide ((if p.1=y then (p.1,w) else p).1∉ts++[y])&&decide ((if p.1=y then (p.1,w) else p).2=v))=true↔_)
   by_cases e:p.1=y
   ·rw [if_pos e]
    have:decide (p.1∉ts++[y])=false:=decide_eq_false (by rw [e]; simp)
    show ((decide (p.1∉ts++[y])&&_)=true↔(decide (p.1∉ts++[y])&&_)=true)
    rw [this,QCc,QCc]
   ·rw [if_neg e]
  ·rw [List.countP_append,QBt,List.countP_nil]
   have:(decide ((y,w).1∉ts++[y])&&decide ((y,w).2=v))=false:=by
    rw [decide_eq_false (by simp),QCc]
   rw [this,if_neg QAl]
   rfl
 rw [h2]
 congr 1
 by_cases z:v=w
 ·rw [if_pos z,if_pos (by rw [z])]
 ·rw [if_neg z,if_neg (fun q=>z (Option.some.inj q).symm)]
noncomputable abbrev Res:=Bool × HS × List Int
noncomputable def Jk (rc:Nat->HS->List Int->Res) (w:Nat):List Int->HS->List Int->Res
 | [],hs,ts=>(false,hs,ts)
 | x::xs,hs,ts=>if x∈ts then Jk rc w xs hs ts else
  match look hs x with
  | none=>(true,Zaa hs x w,ts++[x])
  | some v =>
   match rc v hs (ts++[x]) with
   | (true,hs',ts')=>(true,Zaa hs' x w,ts')
   | (false,hs',ts')=>Jk rc w xs hs' ts'
noncomputable def YI (L:List (List Int)):Nat->Nat->HS->List Int->Res
 | 0,_,hs,ts=>(false,hs,ts)
 | k+1,w,hs,ts=>Jk (YI L k) w (L.getD w []) hs ts
structure OkH (L:List (List Int)) (hs:HS):Prop where
 nd:(YW hs).Nodup
 ed:∀ p∈hs,p.2<L.length/\p.1∈L.getD p.2 []
structure Zla (L:List (List Int)) (U:List Int) (w:Nat) (xs:List Int) (hs:HS) (ts:List Int) (r:Res) where
 new:List Int
 pre:r.2.2=ts++new
 nd:r.2.2.Nodup
 sub:∀ y∈new,y∈U
 keep:∀ y∈ts,look r.2.1 y=look hs y
 ok:OkH L r.2.1
 yes:r.1=true->∀ v,cnt r.2.1 ts v=cnt hs ts v+if v=w then 1 else 0
 no:r.1=false->r.2.1=hs/\(∀ x∈xs,x∈r.2.2)/\∀ y∈r.2.2,y∉ts->∃ v,look hs y=some v/\∀ x∈L.getD v [],x∈r.2.2
noncomputable def free (U ts:List Int):Nat:=U.countP fun y=>decide (y∉ts)
theorem ZjG {U ts:List Int} {x:Int} (hx:x∈U) (hn:x∉ts):free U (ts++[x])<free U ts:=by
 unfold free
 induction U with
 | nil=>cases hx
 | cons y U ih =>
  rw [QBt,QBt]
  have mono:∀ U:List Int,U.countP (fun y=>decide (y∉ts++[x]))<=U.countP fun y=>decide (y∉ts):=fun U=>List.countP_mono_left fun y _ h=>by
   simp only [QCv,QDd,not_or,decide_eq_true_eq] at h ⊢
   exact h.1
  by_cases e:y=x
  ·subst e
   rw [if_neg (by simp),if_pos (decide_eq_true hn)]
   have:=mono U
   omega
  ·rcases List.mem_cons.mp hx with z | z
   ·exact (e z.symm).elim
   ·have h1:decide (y∉ts++[x])=decide (y∉ts):=by
     refine decide_eq_decide.mpr ⟨fun h q=>h (QBf _ q),fun h q=>?_⟩
     rcases List.mem_append.mp q with q | q
     ·exact h q
     ·exact e (List.mem_singleton.mp q)
    rw [h1]
    have:=ih z
    omega
theorem ZjH {U ts new:List Int}:free U (ts++new)<=free U ts:=List.countP_mono_left fun y _ h=>by
 simp only [QCv,not_or,decide_eq_true_eq] at h ⊢
 exact h.1
theorem OkH.put {L:List (List Int)} {hs:HS} (o:OkH L hs) {x:Int} {w:Nat} (hw:w<L.length) (hx:x∈L.getD w []):OkH L (Zaa hs x w) :=
 ⟨Zc6 x w o.nd,fun p hp=>(Zjw hp).elim (o.ed p) fun e=>by rw [e]; exact ⟨hw,hx⟩⟩
theorem Zbl {L:List (List Int)} {U:List Int} (hU:∀ l∈L,∀ x∈l,x∈U) {k:Nat} (ih:∀ v hs ts,v<L.length->OkH L hs->ts.Nodup->free U ts<k->Nonempty (Zla L U v (L.getD v []) hs ts (YI L k v hs ts)))
  {w:Nat} (hw:w<L.length):∀ (xs:List Int) (hs:HS) (ts:List Int),(∀ x∈xs,x∈L.getD w [])->OkH L hs->ts.Nodup->free U ts<=k->Nonempty (Zla L U w xs hs ts (Jk (YI L k) w xs hs ts))
 | [],hs,ts,_,o,nt,_=>⟨⟨[],(QBh _).symm,nt,fun y h=>(by cases h),fun _ _=>rfl,o,fun h=>(by cases h),fun _=>⟨rfl,fun x h=>(by cases h),fun y h h'=>(h' h).elim⟩⟩⟩
 | x::xs,hs,ts,hxs,o,nt,hf=>by
  have hxw:x∈L.getD w []:=hxs x QAj
  have hxs':∀ x∈xs,x∈L.getD w []:=fun y h=>hxs y (QAo _ h)
  have hxU:x∈U:=by
   rw [QAd,QAb hw] at hxw
   exact hU _ (QAs hw) x hxw
  by_cases e:x∈ts
  ·have hl:Jk (YI L k) w (x::xs) hs ts=Jk (YI L k) w xs hs ts:=by
    rw [Jk,if_pos e]
   rw [hl]
   obtain ⟨g⟩:=Zbl hU ih hw xs hs ts hxs' o nt hf
   refine ⟨⟨g.new,g.pre,g.nd,g.sub,g.keep,g.ok,g.yes,fun h=>⟨(g.no h).1,fun y hy=>?_,(g.no h).2.2⟩⟩⟩
   rcases List.mem_cons.mp hy with z | z
   ·rw [z,g.pre]; exact QBf _ e
   ·exact (g.no h).2.1 y z
  ·have nt1:(ts++[x]).Nodup:=List.nodup_append.mpr ⟨nt,by simp,fun a ha b hb=>by
    rw [QDd] at hb
    rintro rfl
    exact e (hb ▸ ha)⟩
   cases q:look hs x with
   | none =>
    have hl:Jk (YI L k) w (x::xs) hs ts=(true,Zaa hs x w,ts++[x]):=by
     rw [Jk,if_neg e,q]
    rw [hl]
    refine ⟨⟨[x],rfl,nt1,fun y h=>by rw [List.mem_singleton.mp h]; exact hxU,fun y hy=>?_,o.put hw hxw,fun _ v=>?_,fun h=>(by cases h)⟩⟩
    ·show look (Zaa hs x w) y=look hs y
     rw [Zch,if_neg (fun z:y=x=>e (z ▸ hy))]
    ·show cnt (Zaa hs x w) ts v=_
     rw [Zg2 e o.nd,JI e v o.nd,q,if_neg (show ¬ (none:Option Nat)=some v from fun z=>by cases z)]
     rfl
   | some v =>
    have hv:v<L.length:=(o.ed _ (Zci q)).1
    obtain ⟨g⟩:=ih v hs (ts++[x]) hv o nt1 (QAz (ZjG hxU e) hf)
    cases hr:YI L k v hs (ts++[x]) with
    | mk b r =>
     obtain ⟨hs',ts'⟩:=r
     rw [hr] at g
     cases b with
     | true =>
      have hl:Jk (YI L k) w (x::xs) hs ts=(true,Zaa hs' x w,ts'):=by
       rw [Jk,if_neg e,q]
       simp only [hr]
      rw [hl]
      have gp:ts'=ts++[x]++g.new:=g.pre
      refine ⟨⟨[x]++g.new,by rw [<- QBo]; exact gp,g.nd,fun y h=>?_,fun y hy=>?_,g.ok.put hw hxw,fun _ u=>?_,fun h=>(by cases h)⟩⟩
      ·rcases List.mem_append.mp h with z | z
       ·rw [List.mem_singleton.mp z]; exact hxU
       ·exact g.sub y z
      ·show look (Zaa hs' x w) y=look hs y
       rw [Zch,if_neg (fun z:y=x=>e (z ▸ hy))]
       exact g.keep y (QBf _ hy)
      ·show cnt (Zaa hs' x w) ts u=_
       have h1:cnt hs' (ts++[x]) u=cnt hs (ts++[x]) u+if u=v then 1 else 0:=g.yes rfl u
       rw [Zg2 e g.ok.nd,h1,JI e u o.nd,q]
       congr 2
       by_cases z:u=v
       ·rw [if_pos z,if_pos (by rw [z])]
       ·rw [if_neg z,if_neg (fun y=>z (Option.some.inj y).symm)]
     | false =>
      have hl:Jk (YI L k) w (x::xs) hs ts=Jk (YI L k) w xs hs' ts':=by
       rw [Jk,if_neg e,q]
       simp only [hr]
      rw [hl]
      obtain ⟨n1,n2,n3⟩:=g.no rfl
      have n1':hs'=hs:=n1
      subst n1'
      have gp:ts'=ts++[x]++g.new:=g.pre
      have hf':free U ts'<=k:=by
       rw [gp,QBo]
       exact QAq ZjH hf
      obtain ⟨g2⟩:=Zbl hU ih hw xs hs' ts' hxs' o g.nd hf'
      have gp2:=g2.pre
      have hsub:∀ y∈ts',y∈(Jk (YI L k) w xs hs' ts').2.2:=fun y hy=>by rw [gp2]; exact QBf _ hy
      refine ⟨⟨[x]++g.new++g2.new,gp2.trans ((congrArg (· ++ g2.new) gp).trans (by simp only [QBo])),g2.nd,fun y h=>?_,fun y hy=>?_,g2.ok,fun h u=>?_,fun h=>⟨(g2.no h).1,fun y hy=>?_,fun y hy hn=>?_⟩⟩⟩
      ·rcases List.mem_append.mp h with h | h
       ·rcases List.mem_append.mp h with z | z
        ·rw [List.mem_singleton.mp z]; exact hxU
        ·exact g.sub y z
       ·exact g2.sub y h
      ·exact g2.keep y (by rw [gp]; exact QBf _ (QBf _ hy))
      ·have h2:=g2.yes h u
       have hnd:(ts++([x]++g.new)).Nodup:=by rw [<- QBo,<- gp]; exact g.nd
       have e1:=Zcy (v:=u) g2.ok.nd hnd
       have e2:=Zcy (v:=u) o.nd hnd
       rw [<- QBo,<- gp] at e1 e2
       have e3:([x]++g.new).countP (fun y=>decide (look (Jk (YI L k) w xs hs' ts').2.1 y=some u))=([x]++g.new).countP fun y=>decide (look hs' y=some u):=by
        refine List.countP_congr fun y hy=>?_
        rw [g2.keep y (by rw [gp,QBo]; exact QBg _ hy)]
       rw [e3] at e1
       omega
      ·rcases List.mem_cons.mp hy with z | z
       ·rw [z]
        exact hsub _ (by rw [gp]; exact QBf _ (QBg _ (List.mem_singleton.mpr rfl)))
       ·exact (g2.no h).2.1 y z
      ·by_cases hy':y∈ts'
       ·by_cases z:y=x
        ·exact ⟨v,by rw [z]; exact q,fun a ha=>hsub a (n2 a ha)⟩
        ·obtain ⟨u,hu,hc⟩:=n3 y hy' (fun m=>(List.mem_append.mp m).elim hn fun m=>z (List.mem_singleton.mp m))
         exact ⟨u,hu,fun a ha=>hsub a (hc a ha)⟩
       ·exact (g2.no h).2.2 y hy hy'
theorem ZbT {L:List (List Int)} {U:List Int} (hU:∀ l∈L,∀ x∈l,x∈U):∀ (k v:Nat) (hs:HS) (ts:List Int),v<L.length->OkH L hs->ts.Nodup->free U ts<k->Nonempty (Zla L U v (L.getD v []) hs ts (YI L k v hs ts))
 | 0,_,_,_,_,_,_,h=>absurd h (QDr _)
 | k+1,v,hs,ts,hv,o,nt,h=>Zbl hU (ZbT hU k) hv _ hs ts (fun _ h=>h) o nt (Nat.le_of_lt_succ h)
end My
namespace My
noncomputable def Jt (L:List (List Int)) (k:Nat):List Nat->HS->Option (Nat × List Int) × HS
 | [],hs=>(none,hs)
 | w::ws,hs=>match YI L k w hs [] with
  | (true,hs',_)=>Jt L k ws hs'
  | (false,hs',ts)=>(some (w,ts),hs')
noncomputable def valH (hs:HS) (y:Int):Nat:=(look hs y).getD 0
structure Paper (L:List (List Int)) (hs:HS) (u:Nat) (ts:List Int):Prop where
 hu:u<L.length
 nd:ts.Nodup
 held:∀ y∈ts,∃ v,look hs y=some v/\v<L.length/\v≠u/\∀ x∈L.getD v [],x∈ts
 inj:∀ y∈ts,∀ z∈ts,look hs y=look hs z->y=z
 own:∀ x∈L.getD u [],x∈ts
theorem ZjR {hs:HS} (nd:(YW hs).Nodup) {y:Int} {v:Nat} (h:look hs y=some v):1<=cnt hs [] v:=by
 rw [JI (y:=y) (ts:=[]) (by simp) v nd,if_pos h]
 exact Om.k475 
theorem ZjQ {hs:HS} (nd:(YW hs).Nodup) {y z:Int} {v:Nat} (h:look hs y=some v) (h':look hs z=some v) (ne:y≠z):2<=cnt hs [] v:=by
 rw [JI (y:=y) (ts:=[]) (by simp) v nd,if_pos h,JI (y:=z) (ts:=[]++[y]) (by simpa using fun e=>ne e.symm) v nd,if_pos h']
 exact Om.k474 
structure Held (L:List (List Int)) (hs:HS) (w:Nat):Prop where
 ok:OkH L hs
 one:∀ v,cnt hs [] v=if v<w then 1 else 0
theorem Held.inj {L:List (List Int)} {hs:HS} {w:Nat} (h:Held L hs w) {y z:Int} {v:Nat} (hy:look hs y=some v) (hz:look hs z=some v):y=z:=by
 by_cases e:y=z
 ·exact e
 ·have h2:=ZjQ h.ok.nd hy hz e
  rw [h.one v] at h2
  split at h2 <;> omega
theorem Held.lt {L:List (List Int)} {hs:HS} {w:Nat} (h:Held L hs w) {y:Int} {v:Nat} (hy:look hs y=some v):v<w:=by
 have h2:=ZjR h.ok.nd hy
 rw [h.one v] at h2
 split at h2
 ·assumption
 ·exact (Om.k473 h2).elim
theorem Zej {L:List (List Int)} {U:List Int} (hU:∀ l∈L,∀ x∈l,x∈U) {k:Nat} (hk:U.length<k):∀ (m w:Nat) (hs:HS),w+m=L.length->Held L hs w ->
  ((Jt L k (List.range' w m) hs).1=none->Held L (Jt L k (List.range' w m) hs).2 L.length) /\
   ∀ u ts,(Jt L k (List.range' w m) hs).1=some (u,ts)->Paper L (Jt L k (List.range' w m) hs).2 u ts
 | 0,w,hs,hw,h=>⟨fun _=>by rw [<- hw]; exact h,fun u ts e=>by cases e⟩
 | m+1,w,hs,hw,h=>by
  have hwl:w<L.length:=by exact Om.k472 hw
  have hfr:free U []<k:=Nat.lt_of_le_of_lt List.countP_le_length hk
  obtain ⟨g⟩:=ZbT hU k w hs [] hwl h.ok QBr hfr
  rw [List.range'_succ]
  cases hr:YI L k w hs [] with
  | mk b r =>
   obtain ⟨hs',ts'⟩:=r
   rw [hr] at g
   cases b with
   | true =>
    have e:Jt L k (w::List.range' (w+1) m) hs=Jt L k (List.range' (w+1) m) hs':=by
     rw [Jt]
     simp only [hr]
    rw [e]
    refine Zej hU hk m (w+1) hs' (by exact Om.k471 hw) ⟨g.ok,fun v=>?_⟩
    have:=g.yes rfl v
    rw [show cnt hs' [] v=_ from this,h.one v]
    by_cases a:v<w
    ·rw [if_pos a,if_neg (by exact Om.k470 hw a),if_pos (by exact Om.f2 ‹_›)]
    ·rw [if_neg a]
     by_cases b:v=w
     ·rw [if_pos b,if_pos (by exact Om.k469 hw b)]
     ·rw [if_neg b,if_neg (by exact Om.k468 hw a b)]
   | false =>
    have e:Jt L k (w::List.range' (w+1) m) hs=(some (w,ts'),hs'):=by
     rw [Jt]
     simp only [hr]
    rw [e]
    obtain ⟨n1,n2,n3⟩:=g.no rfl
    have n1':hs'=hs:=n1
    subst n1'
    refine ⟨fun z=>(by cases z),fun u ts z=>?_⟩
    cases z
    refine ⟨hwl,g.nd,fun y hy=>?_,fun y hy z hz q=>?_,n2⟩
    ·obtain ⟨v,hv,hc⟩:=n3 y hy (by simp)
     have:=h.lt hv
     exact ⟨v,hv,by exact Om.k467 hw hwl this,by exact Om.k466 hw this,hc⟩
    ·obtain ⟨v,hv,_⟩:=n3 y hy (by simp)
     exact h.inj hv (q ▸ hv)
theorem Ziz (L:List (List Int)):Held L [] 0:=⟨⟨QBr,fun p h=>by cases h⟩,fun v=>by rw [if_neg (by exact Om.k465 )]; rfl⟩
theorem Zcm:∀ {T S:List Int},T.Nodup->(∀ x∈T,x∈S)->T.length<=S.length
 | [],_,_,_=>QAh _
 | x::T,S,nd,h=>by
  have hx:x∈S:=h x QAj
  have ih:=Zcm (T:=T) (S:=S.erase x) (List.nodup_cons.mp nd).2 fun y hy=>by
   have:y≠x:=fun e=>(List.nodup_cons.mp nd).1 (e ▸ hy)
   exact (List.mem_erase_of_ne this).mpr (h y (QAo _ hy))
  rw [List.length_erase_of_mem hx] at ih
  have:0<S.length:=List.length_pos_of_mem hx
  rw [QAy]
  omega
noncomputable def ZdY (hs:HS) (u:Nat) (ts:List Int):List Int:=(u:Int)::ts.map fun y=>((valH hs y:Nat):Int)
theorem Paper.val {L:List (List Int)} {hs:HS} {u:Nat} {ts:List Int} (p:Paper L hs u ts) {y:Int} (hy:y∈ts):look hs y=some (valH hs y):=by
 obtain ⟨v,hv,_⟩:=p.held y hy
 unfold valH
 rw [hv]
 rfl
theorem Paper.nodup {L:List (List Int)} {hs:HS} {u:Nat} {ts:List Int} (p:Paper L hs u ts):(ZdY hs u ts).Nodup:=by
 refine List.nodup_cons.mpr ⟨fun h=>?_,?_⟩
 ·obtain ⟨y,hy,e⟩:=List.mem_map.mp h
  obtain ⟨v,hv,_,hne,_⟩:=p.held y hy
  rw [p.val hy] at hv
  have:=Option.some.inj hv
  exact (Om.k464 e hne this).elim
 ·refine List.nodup_iff_pairwise_ne.mpr (List.pairwise_map.mpr ?_)
  have nd:=p.nd
  have go:∀ {l:List Int},(∀ x∈l,x∈ts)->l.Nodup->l.Pairwise fun a b=>((valH hs a:Nat):Int)≠((valH hs b:Nat):Int):=by
   intro l
   induction l with
   | nil=>intro _ _; exact .nil
   | cons a l ih =>
    intro hs' nd
    refine .cons (fun b hb e=>?_) (ih (fun x hx=>hs' x (QAo _ hx)) (List.nodup_cons.mp nd).2)
    have ha:=hs' a QAj
    have hb':=hs' b (QAo _ hb)
    have:a=b:=p.inj a ha b hb' (by rw [p.val ha,p.val hb']; congr 1; exact Om.e1 ‹_›)
    exact (List.nodup_cons.mp nd).1 (this ▸ hb)
  exact go (fun _ h=>h) nd
theorem Paper.mem {L:List (List Int)} {hs:HS} {u:Nat} {ts:List Int} (p:Paper L hs u ts) {z:Int} (h:z∈ZdY hs u ts):∃ v:Nat,z=(v:Int)/\v<L.length/\∀ x∈L.getD v [],x∈ts:=by
 rcases List.mem_cons.mp h with e | e
 ·exact ⟨u,e,p.hu,p.own⟩
 ·obtain ⟨y,hy,e⟩:=List.mem_map.mp e
  obtain ⟨v,hv,hl,_,hc⟩:=p.held y hy
  rw [p.val hy] at hv
  exact ⟨v,by rw [<- e,Option.some.inj hv],hl,hc⟩
end My
namespace My
noncomputable def Z6 (R:List (List Int)) (c:Nat):List Int:=R.map fun r=>r.getD c 0
noncomputable def ZU (n:Nat):List Int:=(List.range n).map fun (k:Nat)=>(k:Int)
structure OkRows (n:Nat) (R:List (List Int)):Prop where
 len:R.length<=n
 row:∀ r∈R,r.length=n/\r.Nodup/\∀ x∈r,0<=x/\x<(n:Int)
 col:∀ c,c<n->(Z6 R c).Nodup
noncomputable def Jw (n:Nat) (R:List (List Int)) (c:Nat):List Int:=(ZU n).filter fun t=>decide (t∉Z6 R c)
noncomputable def ZaH (n:Nat) (R:List (List Int)):List (List Int):=(List.range n).map (Jw n R)
theorem mem_rngI {n:Nat} {x:Int}:x∈ZU n↔0<=x/\x<(n:Int):=by
 unfold ZU
 rw [List.mem_map]
 constructor
 ·rintro ⟨k,hk,rfl⟩
  have:=List.mem_range.mp hk
  omega
 ·intro h
  exact ⟨x.toNat,List.mem_range.mpr (by exact Om.k463 h),by exact Om.k462 h⟩
theorem J0 (n:Nat):(ZU n).Nodup:=by
 unfold ZU
 refine List.nodup_iff_pairwise_ne.mpr (List.pairwise_map.mpr ?_)
 exact (List.nodup_iff_pairwise_ne.mp QCd).imp fun h e=>h (by exact Om.e1 ‹_›)
theorem Yg (n:Nat):(ZU n).length=n:=by rw [ZU,QAa,QAp]
theorem Zgm {A B:List Int} (na:A.Nodup) (h:∀ x∈A,x∈B) (hl:B.length<=A.length):∀ x∈B,x∈A:=by
 intro x hx
 by_cases e:x∈A
 ·exact e
 ·exfalso
  have:=Zcm (T:=A) (S:=B.erase x) na fun y hy=>by
   have:y≠x:=fun z=>e (z ▸ hy)
   exact (List.mem_erase_of_ne this).mpr (h y hy)
  rw [List.length_erase_of_mem hx] at this
  have:0<B.length:=List.length_pos_of_mem hx
  exact (Om.k461 hl ‹_› this).elim
theorem Ja {n:Nat} {r:List Int} (hl:r.length=n) (nd:r.Nodup) (hr:∀ x∈r,0<=x/\x<(n:Int)) {t:Int} (ht:0<=t/\t<(n:Int)):t∈r :=
 Zgm nd (fun x hx=>mem_rngI.mpr (hr x hx)) (by rw [Yg,hl]; exact QAc _) t (mem_rngI.mpr ht)
theorem Zbv {n:Nat} {t:Int} (ht:0<=t/\t<(n:Int)):∀ {R:List (List Int)},(∀ r∈R,r.length=n/\r.Nodup/\∀ x∈r,0<=x/\x<(n:Int))->(∀ c,c<n->(Z6 R c).Nodup)->R.length<=(List.range n).countP fun c=>decide (t∈Z6 R c)
 | [],_,_=>QAh _
 | r::R,hr,hc=>by
  have ih:=Zbv ht (R:=R) (fun r' h=>hr r' (by simp [h])) fun c h=>by
   have:=hc c h
   exact (List.nodup_cons.mp this).2
  obtain ⟨hl,nd,hb⟩:=hr r (by simp)
  have hmem:=Ja hl nd hb ht
  obtain ⟨i,hi,e⟩:=QBd hmem
  have hin:i<n:=by exact Om.a2 ‹_› ‹_›
  have hg:r.getD i 0=t:=by rw [QAd,QAb hi]; exact e
  have hni:t∉Z6 R i:=by
   have:r.getD i 0∉Z6 R i:=(List.nodup_cons.mp (hc i hin)).1
   rw [hg] at this
   exact this
  have key:∀ (l:List Nat),l.Nodup->i∈l->l.countP (fun c=>decide (t∈Z6 R c))+1<=l.countP fun c=>decide (t∈Z6 (r::R) c):=by
   intro l
   induction l with
   | nil=>intro _ h; cases h
   | cons c l ih =>
    intro nd h
    have hsub:∀ l:List Nat,l.countP (fun c=>decide (t∈Z6 R c))<=l.countP fun c=>decide (t∈Z6 (r::R) c):=fun l=>by
     refine List.countP_mono_left fun c _ hc=>?_
     exact decide_eq_true (QAo _ (of_decide_eq_true hc))
    rw [QBt,QBt]
    by_cases e:c=i
    ·subst e
     rw [decide_eq_false hni,decide_eq_true (show t∈Z6 (r::R) c by show t∈r.getD c 0::_; rw [hg]; exact QAj)]
     have:=hsub l
     simp
     assumption
    ·have hin:i∈l:=by
      rcases List.mem_cons.mp h with z | z
      ·exact absurd z.symm e
      ·exact z
     have:=ih (List.nodup_cons.mp nd).2 hin
     by_cases q:t∈Z6 R c
     ·rw [decide_eq_true q,decide_eq_true (show t∈Z6 (r::R) c from QAo _ q)]
      simp
      assumption
     ·rw [decide_eq_false q]
      simp
      exact Om.k460 hi this
  have:=key (List.range n) QCd (List.mem_range.mpr hin)
  rw [QAy]
  omega
theorem Zgh (l:List Nat) (p:Nat->Bool):l.countP (fun c=>!p c)+l.countP p=l.length:=by
 induction l with
 | nil=>rfl
 | cons a l ih =>
  rw [QBt,QBt,QAy]
  cases p a <;> simp <;> omega
theorem Ziv {n:Nat} {R:List (List Int)} (c:Nat):n - R.length<=(Jw n R c).length:=by
 have h:(ZU n).length<=(Jw n R c).length+(Z6 R c).length:=by
  have:=Zcm (T:=ZU n) (S:=Jw n R c++Z6 R c) (J0 n) fun x hx=>by
   by_cases e:x∈Z6 R c
   ·exact QBg _ e
   ·exact QBf _ (List.mem_filter.mpr ⟨hx,decide_eq_true e⟩)
  rwa [QAn] at this
 rw [Yg] at h
 unfold Z6 at h
 rw [QAa] at h
 omega
theorem dbl (T:List Int) (m:Nat->Int->Bool):∀ P:List Nat,(P.map fun p=>T.countP fun t=>m p t).sum=(T.map fun t=>P.countP fun p=>m p t).sum
 | []=>by
  induction T with
  | nil=>rfl
  | cons t T ih=>simpa using ih
 | p::P=>by
  rw [QAr,QDe,dbl T m P]
  clear dbl
  induction T with
  | nil=>rfl
  | cons t T ih =>
   rw [QAr,QAr,QDe,QDe,QBt,QBt]
   exact Om.k459 ih
theorem ZhO {α:Type} {f:α->Nat} {d:Nat}:∀ {l:List α},(∀ x∈l,d<=f x)->l.length*d<=(l.map f).sum
 | [],_=>by simp
 | x::l,h=>by
  have:=ZhO (l:=l) fun y hy=>h y (by simp [hy])
  have:=h x (by simp)
  rw [QAr,QDe,QAy,QCp]
  omega
theorem ZhN {α:Type} {f:α->Nat} {d:Nat}:∀ {l:List α},(∀ x∈l,f x<=d)->(l.map f).sum<=l.length*d
 | [],_=>by simp
 | x::l,h=>by
  have:=ZhN (l:=l) fun y hy=>h y (by simp [hy])
  have:=h x (by simp)
  rw [QAr,QDe,QAy,QCp]
  omega
theorem Zdf {n:Nat} {R:List (List Int)} {c:Nat} (h:c<n):(ZaH n R).getD c []=Jw n R c:=by
 unfold ZaH
 rw [QAd,QAe,QBk h]
 rfl
theorem Zde (n:Nat) (R:List (List Int)):(ZaH n R).length=n:=by rw [ZaH,QAa,QAp]
theorem ZiG {A B:List Int} (na:A.Nodup) (h:∀ x∈A,x∈B):A.length<=B.countP fun t=>decide (t∈A):=by
 rw [List.countP_eq_length_filter]
 exact Zcm na fun x hx=>List.mem_filter.mpr ⟨h x hx,decide_eq_true hx⟩
theorem Zcv:∀ {A B:List Nat} (p:Nat->Bool),A.Nodup->(∀ x∈A,x∈B)->A.countP p<=B.countP p
 | [],B,p,_,_=>by simp
 | a::A,B,p,nd,h=>by
  have ha:=h a (by simp)
  have ih:=Zcv (A:=A) (B:=B.erase a) p (List.nodup_cons.mp nd).2 fun x hx=>by
   have:x≠a:=fun e=>(List.nodup_cons.mp nd).1 (e ▸ hx)
   exact (List.mem_erase_of_ne this).mpr (h x (by simp [hx]))
  have e:B.countP p=(B.erase a).countP p+if p a then 1 else 0:=by
   have:=(List.perm_cons_erase ha).countP_eq p
   rw [this,QBt]
  rw [QBt,e]
  omega
theorem Zih {n:Nat} {R:List (List Int)} (ok:OkRows n R) (hlt:R.length<n) {hs:HS} {u:Nat} {ts:List Int} (pa:Paper (ZaH n R) hs u ts):False:=by
 let P:List Nat:=u::ts.map (valH hs)
 have eP:ZdY hs u ts=P.map fun (k:Nat)=>(k:Int):=by
  show _=(u:Int)::(ts.map (valH hs)).map _
  rw [QBb]
  rfl
 have ndP:P.Nodup:=by
  have:=pa.nodup
  rw [eP] at this
  exact List.nodup_iff_pairwise_ne.mpr ((List.pairwise_map.mp (List.nodup_iff_pairwise_ne.mp this)).imp fun h e=>h (by rw [e]))
 have hP:∀ p∈P,p<n/\∀ x∈Jw n R p,x∈ts:=fun p hp=>by
  obtain ⟨v,e,hv,hx⟩:=pa.mem (z:=(p:Int)) (by rw [eP]; exact List.mem_map.mpr ⟨p,hp,rfl⟩)
  have:v=p:=by exact Om.k458 e
  subst this
  rw [Zde] at hv
  rw [Zdf hv] at hx
  exact ⟨hv,hx⟩
 have h1:=ZhO (l:=P) (f:=fun p=>ts.countP fun t=>decide (t∈Jw n R p)) (d:=n - R.length) fun p hp=>by
  have nd:(Jw n R p).Nodup:=(J0 n).sublist List.filter_sublist
  exact QAq (Ziv p) (ZiG nd (hP p hp).2)
 rw [dbl ts (fun p t=>decide (t∈Jw n R p)) P] at h1
 have h2:=ZhN (l:=ts) (f:=fun t=>P.countP fun p=>decide (t∈Jw n R p)) (d:=n - R.length) fun t _=>by
  by_cases ht:0<=t/\t<(n:Int)
  ·have hs:=Zbv ht ok.row ok.col
   have hn:=Zgh (List.range n) fun c=>decide (t∈Z6 R c)
   rw [QAp] at hn
   have hle:P.countP (fun p=>decide (t∈Jw n R p))<=(List.range n).countP fun c=>!decide (t∈Z6 R c):=by
    refine QAq (Zcv (B:=List.range n) _ ndP fun x hx=>List.mem_range.mpr (hP x hx).1) (List.countP_mono_left fun c _ hc=>?_)
    have:=(List.mem_filter.mp (of_decide_eq_true hc)).2
    simpa using this
   omega
  ·have:P.countP (fun p=>decide (t∈Jw n R p))=0:=by
    rw [List.countP_eq_zero]
    intro p _ hc
    exact ht (mem_rngI.mp (List.mem_filter.mp (of_decide_eq_true hc)).1)
   omega
 have hl:P.length=ts.length+1:=by show (u::ts.map (valH hs)).length=_; rw [QAy,QAa]
 rw [hl,QCp] at h1
 have h3:0<n - R.length:=by exact Om.k309 hlt
 exact (Om.k457 h1 h2 h3).elim
theorem OkRows.more {n:Nat} {R:List (List Int)} (ok:OkRows n R) (hlt:R.length<n) {r:List Int} (hl:r.length=n) (nd:r.Nodup) (hm:∀ c,c<n->r.getD c 0∈Jw n R c):OkRows n (R++[r]):=by
 have hb:∀ x∈r,0<=x/\x<(n:Int):=fun x hx=>by
  obtain ⟨i,hi,e⟩:=QBd hx
  have:=hm i (by exact Om.a2 ‹_› ‹_›)
  rw [QAd,QAb hi] at this
  have:=(List.mem_filter.mp this).1
  have h2:=mem_rngI.mp this
  rw [<- e]
  exact h2
 refine ⟨by rw [QAn]; exact hlt,fun r' h=>?_,fun c hc=>?_⟩
 ·rcases List.mem_append.mp h with h | h
  ·exact ok.row r' h
  ·rw [List.mem_singleton.mp h]
   exact ⟨hl,nd,hb⟩
 ·unfold Z6
  rw [QAm]
  refine List.nodup_append.mpr ⟨ok.col c hc,by simp,fun a ha b hb' e=>?_⟩
  have hb2:b=r.getD c 0:=by simpa using hb'
  have h2:=(List.mem_filter.mp (hm c hc)).2
  have h3:r.getD c 0∉Z6 R c:=by simpa using h2
  exact h3 (by rw [<- hb2,<- e]; exact ha)
end My
namespace My
theorem Held.has {L:List (List Int)} {hs:HS} {n v:Nat} (h:Held L hs n) (hv:v<n):∃ y,look hs y=some v:=by
 have h1:=h.one v
 rw [if_pos hv] at h1
 unfold cnt at h1
 have h2:0<hs.countP fun p=>decide (p.1∉([]:List Int))&&decide (p.2=v):=by exact Om.k456 h1
 obtain ⟨p,hp,hq⟩:=List.countP_pos_iff.mp h2
 simp only [QAw,decide_eq_true_eq] at hq
 exact ⟨p.1,Zbx h.ok.nd (by rw [<- hq.2]; exact hp)⟩
structure OkRow (n:Nat) (A:List (List Int)) (r:List Int):Prop where
 len:r.length=n
 nd:r.Nodup
 at_:∀ c,c<n->r.getD c 0∈Jw n A c
theorem ZfO {n:Nat} {R:List (List Int)} (ok:OkRows n R) (hlt:R.length<n):∃ r,OkRow n R r:=by
 have hU:∀ l∈ZaH n R,∀ x∈l,x∈ZU n:=fun l hl x hx=>by
  obtain ⟨c,_,rfl⟩:=List.mem_map.mp hl
  exact (List.mem_filter.mp hx).1
 have g:=Zej (L:=ZaH n R) (U:=ZU n) hU (k:=n+1) (by rw [Yg]; exact Om.k455 ) (ZaH n R).length 0 [] (by exact Om.k454 ) (Ziz _)
 generalize Jt (ZaH n R) (n+1) (List.range' 0 (ZaH n R).length) []=z at g
 obtain ⟨o,hs⟩:=z
 cases o with
 | some p=>exact (Zih ok hlt (g.2 p.1 p.2 rfl)).elim
 | none =>
  have hd:=g.1 rfl
  rw [Zde] at hd
  let pick:Nat->Int:=fun v=>if h:v<n then Classical.choose (hd.has h) else 0
  have hp:∀ v,v<n->look hs (pick v)=some v:=fun v hv=>by
   show look hs (if h:v<n then Classical.choose (hd.has h) else 0)=some v
   rw [dif_pos hv]
   exact Classical.choose_spec (hd.has hv)
  refine ⟨(List.range n).map pick,by rw [QAa,QAp],?_,fun c hc=>?_⟩
  ·refine List.nodup_iff_pairwise_ne.mpr (List.pairwise_map.mpr ?_)
   refine List.Pairwise.imp_of_mem ?_ (List.nodup_iff_pairwise_ne.mp QCd)
   intro a b ha hb hne e
   have h1:=hp a (List.mem_range.mp ha)
   rw [e,hp b (List.mem_range.mp hb)] at h1
   exact hne (Option.some.inj h1).symm
  ·have e:((List.range n).map pick).getD c 0=pick c:=by
    rw [QAd,QAe,QBk hc]
    rfl
   rw [e]
   have h2:=(hd.ok.ed _ (Zci (hp c hc))).2
   rw [Zdf hc] at h2
   exact h2
theorem OkRow.more {n:Nat} {R:List (List Int)} {r:List Int} (h:OkRow n R r) (ok:OkRows n R) (hlt:R.length<n):OkRows n (R++[r]):=ok.more hlt h.len h.nd h.at_
noncomputable def ZS (n:Nat) (A:List (List Int)) (row:List Int):List Int:=(ZU n).filter fun t=>decide (t∉row)&&decide (t∉Z6 A row.length)
structure PRow (n:Nat) (A:List (List Int)) (row:List Int):Prop where
 len:row.length<=n
 nd:row.Nodup
 at_:∀ c,c<row.length->row.getD c 0∈Jw n A c
theorem PRow.nil (n:Nat) (A:List (List Int)):PRow n A []:=⟨QAh _,QBr,fun c h=>absurd h (QDr _)⟩
theorem PRow.full {n:Nat} {A:List (List Int)} {row:List Int} (p:PRow n A row) (h:row.length=n):OkRow n A row:=⟨h,p.nd,fun c hc=>p.at_ c (by exact Om.a1 ‹_› ‹_›)⟩
theorem PRow.next {n:Nat} {A:List (List Int)} {row:List Int} (p:PRow n A row) (h:row.length<n) {t:Int} (ht:t∈ZS n A row):PRow n A (row++[t]):=by
 obtain ⟨h1,h2⟩:=List.mem_filter.mp ht
 simp only [QAw,decide_eq_true_eq] at h2
 refine ⟨by rw [QAn]; exact h,List.nodup_append.mpr ⟨p.nd,by simp,fun a ha b hb=>by
  rw [QDd] at hb
  rintro rfl
  exact h2.1 (hb ▸ ha)⟩,fun c hc=>?_⟩
 rw [QAn] at hc
 have hc':c<row.length+1:=hc
 by_cases e:c<row.length
 ·have:=p.at_ c e
  rw [QAd,QCo e,<- QAd]
  exact this
 ·have ec:c=row.length:=by exact Om.k388 hc' e
  subst ec
  rw [QAd,QCt (QAc _),Nat.sub_self]
  exact List.mem_filter.mpr ⟨h1,decide_eq_true h2.2⟩
theorem Zjs {n:Nat} {A:List (List Int)} {row r:List Int} (h:row.length<n) (o:OkRow n A r) (hp:row <+: r):∃ t∈ZS n A row,row++[t] <+: r:=by
 obtain ⟨tl,rfl⟩:=hp
 have hl:=o.len
 rw [QAn] at hl
 cases tl with
 | nil=>simp at hl; exact (Om.k407 h hl).elim
 | cons t tl =>
  refine ⟨t,?_,⟨tl,by simp⟩⟩
  have h1:=o.at_ row.length (by assumption)
  rw [QAd,QCt (QAc _),Nat.sub_self] at h1
  obtain ⟨h2,h3⟩:=List.mem_filter.mp h1
  refine List.mem_filter.mpr ⟨h2,?_⟩
  have h4:=List.nodup_append.mp o.nd
  simp only [QAw]
  exact ⟨decide_eq_true fun z=>h4.2.2 t z t QAj rfl,h3⟩
end My
namespace My
structure One (n:Nat) (s:Nat->Nat):Prop where
 lt:∀ c,c<n->s c<n
 inj:∀ c d,c<n->d<n->s c=s d->c=d
noncomputable def Z0 (acc:List Nat):Nat:=acc.getLast?.getD 0
theorem Y4 (acc:List Nat) (x:Nat):Z0 (acc++[x])=x:=by simp [Z0]
inductive Path (n:Nat) (s:Nat->Nat) (c:Nat):List Nat->Prop
 | one:c<n->Path n s c [c]
 | more {acc:List Nat}:Path n s c acc->s (Z0 acc)∉acc->Path n s c (acc++[s (Z0 acc)])
theorem Path.lt {n:Nat} {s:Nat->Nat} {c:Nat} (o:One n s) {acc:List Nat} (p:Path n s c acc):∀ x∈acc,x<n:=by
 induction p with
 | one h=>intro x hx; rw [List.mem_singleton.mp hx]; exact h
 | @more acc p _ ih =>
  have hl:Z0 acc<n:=by
   cases p with
   | one h=>exact h
   | @more acc' p' _=>rw [Y4]; exact ih _ (by simp)
  intro x hx
  rcases List.mem_append.mp hx with hx | hx
  ·exact ih x hx
  ·rw [List.mem_singleton.mp hx]
   exact o.lt _ hl
theorem Path.last_mem {n:Nat} {s:Nat->Nat} {c:Nat} {acc:List Nat} (p:Path n s c acc):Z0 acc∈acc:=by
 cases p with
 | one _=>exact List.mem_singleton.mpr rfl
 | more _ _=>rw [Y4]; simp
theorem Path.nodup {n:Nat} {s:Nat->Nat} {c:Nat} {acc:List Nat} (p:Path n s c acc):acc.Nodup:=by
 induction p with
 | one _=>simp
 | more p h ih=>exact List.nodup_append.mpr ⟨ih,by simp,fun a ha b hb e=>h (by rw [<- List.mem_singleton.mp hb,<- e]; exact ha)⟩
theorem Path.head_mem {n:Nat} {s:Nat->Nat} {c:Nat} {acc:List Nat} (p:Path n s c acc):c∈acc:=by
 induction p with
 | one _=>exact List.mem_singleton.mpr rfl
 | more _ _ ih=>exact QBf _ ih
theorem Path.pred {n:Nat} {s:Nat->Nat} {c:Nat} {acc:List Nat} (p:Path n s c acc):∀ x∈acc,x≠c->∃ y∈acc,y≠Z0 acc/\s y=x:=by
 induction p with
 | one _=>intro x hx hne; exact absurd (List.mem_singleton.mp hx) hne
 | @more acc p h ih =>
  intro x hx hne
  rw [Y4]
  rcases List.mem_append.mp hx with hx | hx
  ·obtain ⟨y,hy,_,e⟩:=ih x hx hne
   exact ⟨y,QBf _ hy,fun z=>h (z ▸ hy),e⟩
  ·exact ⟨Z0 acc,QBf _ p.last_mem,fun z=>h (z ▸ p.last_mem),(List.mem_singleton.mp hx).symm⟩
theorem Path.back {n:Nat} {s:Nat->Nat} {c:Nat} (o:One n s) {acc:List Nat} (p:Path n s c acc) (h:s (Z0 acc)∈acc):s (Z0 acc)=c:=by
 by_cases e:s (Z0 acc)=c
 ·exact e
 ·obtain ⟨y,hy,hne,hs⟩:=p.pred _ h e
  exact absurd (o.inj _ _ (p.lt o _ hy) (p.lt o _ p.last_mem) hs) hne
theorem ZaV {l:List Nat} {n:Nat} (nd:l.Nodup) (h:∀ x∈l,x<n):l.length<=n:=by
 have nd':(l.map fun (c:Nat)=>(c:Int)).Nodup:=List.nodup_iff_pairwise_ne.mpr (List.pairwise_map.mpr ((List.nodup_iff_pairwise_ne.mp nd).imp fun h e=>h (by exact Om.e1 ‹_›)))
 have:=Zcm nd' (S:=ZU n) fun x hx=>by
  obtain ⟨c,hc,rfl⟩:=List.mem_map.mp hx
  have:=h c hc
  exact mem_rngI.mpr ⟨by exact Om.c6,by exact Om.c5 ‹_›⟩
 rwa [QAa,Yg] at this
noncomputable def J7 (s:Nat->Nat) (c:Nat):Nat->List Nat->List Nat
 | 0,acc=>acc
 | m+1,acc=>if s (Z0 acc)=c then acc else J7 s c m (acc++[s (Z0 acc)])
noncomputable def Yn (s:Nat->Nat) (n c:Nat):List Nat:=J7 s c n [c]
theorem Path.next {n:Nat} {s:Nat->Nat} {c:Nat} (o:One n s) {acc:List Nat} (p:Path n s c acc) (h:s (Z0 acc)≠c):Path n s c (acc++[s (Z0 acc)])/\acc.length<n:=by
 have p':Path n s c (acc++[s (Z0 acc)]):=.more p fun z=>h (p.back o z)
 refine ⟨p',?_⟩
 have:=ZaV p'.nodup (p'.lt o)
 rw [QAn] at this
 exact this
theorem Zet {n:Nat} {s:Nat->Nat} {c:Nat} (o:One n s):∀ (m:Nat) (acc:List Nat),Path n s c acc->n<m+acc.length+1->Path n s c (J7 s c m acc)/\s (Z0 (J7 s c m acc))=c
 | 0,acc,p,h=>by
  refine ⟨p,?_⟩
  by_cases e:s (Z0 acc)=c
  ·exact e
  ·have:=(p.next o e).2
   exact (Om.k453 h this).elim
 | m+1,acc,p,h=>by
  rw [J7]
  by_cases e:s (Z0 acc)=c
  ·rw [if_pos e]
   exact ⟨p,e⟩
  ·rw [if_neg e]
   exact Zet o m _ (p.next o e).1 (by rw [QAn]; show n<m+(acc.length+1)+1; exact Om.k452 h)
theorem J1 {n:Nat} {s:Nat->Nat} {c:Nat} (o:One n s) (hc:c<n):Path n s c (Yn s n c)/\s (Z0 (Yn s n c))=c:=Zet o n [c] (.one hc) (by simp; exact Om.k451 )
theorem Zes {n:Nat} {s:Nat->Nat} {c:Nat} (o:One n s) (hc:c<n) {x:Nat} (hx:x∈Yn s n c):s x∈Yn s n c/\∃ y∈Yn s n c,s y=x:=by
 obtain ⟨p,e⟩:=J1 o hc
 constructor
 ·generalize Yn s n c=acc at p e hx
  have go:∀ {acc:List Nat},Path n s c acc->∀ x∈acc,x=Z0 acc\/s x∈acc:=by
   intro acc p
   induction p with
   | one _=>intro x hx; exact .inl (List.mem_singleton.mp hx)
   | @more acc p h ih =>
    intro x hx
    rw [Y4]
    rcases List.mem_append.mp hx with hx | hx
    ·rcases ih x hx with z | z
     ·exact .inr (by rw [z]; simp)
     ·exact .inr (QBf _ z)
    ·exact .inl (List.mem_singleton.mp hx)
  rcases go p x hx with z | z
  ·rw [z,e]
   exact p.head_mem
  ·exact z
 ·by_cases h:x=c
  ·exact ⟨_,p.last_mem,e.trans h.symm⟩
  ·obtain ⟨y,hy,_,hs⟩:=p.pred x hx h
   exact ⟨y,hy,hs⟩
noncomputable def Zz (s:Nat->Nat) (n:Nat):Nat->List (List Nat)
 | 0=>[]
 | i+1=>if (Zz s n i).all (fun r=>decide (i∉r))=true then Zz s n i++[Yn s n i] else Zz s n i
end My
namespace My
structure Cyc (s:Nat->Nat) (c:List Nat):Prop where
 pos:0<c.length
 nd:c.Nodup
 nx:∀ i,i<c.length->s (c.getD i 0)=c.getD ((i+1) % c.length) 0
noncomputable def rot (c:List Nat) (k:Nat):List Nat:=c.drop k++c.take k
theorem gDN {c:List Nat} {i:Nat} (h:i<c.length):c.getD i 0=c[i]:=by rw [QAd,QAb h]; rfl
theorem YM (c:List Nat) (k:Nat):(rot c k).length=c.length:=by
 unfold rot
 rw [QAn,QBn,QAt]
 exact Om.k450 
theorem Zb0 {c:List Nat} {k i:Nat} (hk:k<c.length) (hi:i<c.length):(rot c k).getD i 0=c.getD ((k+i) % c.length) 0:=by
 unfold rot
 rw [QAd,QAd]
 congr 1
 by_cases h:k+i<c.length
 ·rw [QCo (by rw [QBn]; exact Om.k449 hk h),List.getElem?_drop,QCk h]
 ·rw [QCt (by rw [QBn]; exact Om.k448 hk h),QBn,List.getElem?_take_of_lt (by exact Om.k447 hk hi h)]
  congr 1
  rw [Nat.mod_eq_sub_mod (by exact Om.k446 h),QCk (by exact Om.k445 hk hi h)]
  exact Om.k444 hk h
theorem rot_mem {c:List Nat} {k x:Nat}:x∈rot c k↔x∈c:=by
 unfold rot
 rw [QCv,or_comm,<- QCv,QCl]
theorem Zkr {c:List Nat} {k:Nat} (h:c.Nodup):(rot c k).Nodup:=by
 have p:(rot c k).Perm c:=by
  unfold rot
  refine List.perm_append_comm.trans ?_
  rw [QCl]
 exact p.nodup_iff.mpr h
theorem Cyc.rot {s:Nat->Nat} {c:List Nat} (h:Cyc s c) {k:Nat} (hk:k<c.length):Cyc s (rot c k):=by
 refine ⟨by rw [YM]; exact h.pos,Zkr h.nd,fun i hi=>?_⟩
 rw [YM] at hi ⊢
 rw [Zb0 hk hi,Zb0 hk (Nat.mod_lt _ h.pos),h.nx _ (Nat.mod_lt _ h.pos),Nat.mod_add_mod,Nat.add_mod_mod,Nat.add_assoc]
theorem Zij {c:List Nat} (h:c.Nodup) {i j:Nat} (hi:i<c.length) (hj:j<c.length) (e:c.getD i 0=c.getD j 0):i=j:=by
 rw [gDN hi,gDN hj] at e
 exact (List.getElem_inj h).mp e
theorem Zil {k m L:Nat} (hk:k<L) (h:(k+m) % L=k):m % L=0:=by
 have:(k+m) % L=k % L:=by rw [h,QCk hk]
 have:=Nat.sub_mod_eq_zero_of_mod_eq this
 rwa [Nat.add_sub_cancel_left] at this
theorem ZeY {s:Nat->Nat} {c d:List Nat} (hc:Cyc s c) (hd:Cyc s d) {k:Nat} (hk:k<d.length) (e:c.getD 0 0=d.getD k 0):c=rot d k:=by
 have all:∀ i,c.getD (i % c.length) 0=d.getD ((k+i) % d.length) 0:=by
  intro i
  induction i with
  | zero=>rw [Nat.zero_mod,Nat.add_zero,QCk hk]; exact e
  | succ i ih =>
   have h1:=hc.nx (i % c.length) (Nat.mod_lt _ hc.pos)
   have h2:=hd.nx ((k+i) % d.length) (Nat.mod_lt _ hd.pos)
   rw [ih,h2,Nat.mod_add_mod,Nat.mod_add_mod] at h1
   rw [<- h1]
   rfl
 have l1:c.length % d.length=0:=by
  have h:=all c.length
  rw [Nat.mod_self,e] at h
  exact Zil hk (Zij hd.nd hk (Nat.mod_lt _ hd.pos) h).symm
 have l2:d.length % c.length=0:=by
  have h:=all d.length
  rw [Nat.add_mod_right,QCk hk,<- e] at h
  exact Zij hc.nd (Nat.mod_lt _ hc.pos) hc.pos h
 have hl:c.length=d.length:=Nat.dvd_antisymm (Nat.dvd_of_mod_eq_zero l2) (Nat.dvd_of_mod_eq_zero l1)
 refine QBp (by rw [YM,hl]) fun i h1 h2=>?_
 have h:=all i
 rw [QCk h1,gDN h1] at h
 rw [h,<- Zb0 hk (by exact Om.k408 hl h1),gDN h2]
structure Cov (s:Nat->Nat) (C:List (List Nat)) (U:Nat->Prop):Prop where
 cy:∀ c∈C,Cyc s c
 dj:C.Pairwise fun c d=>∀ x∈c,x∉d
 all:∀ x,U x↔∃ c∈C,x∈c
theorem YB {α:Type} {C:List α} {i:Nat} (h:i<C.length) {x:α}:x∈C↔x=C[i]\/x∈C.eraseIdx i:=by
 rw [QCw]
 conv=>lhs; rw [<- QCl i C,QBl h]
 simp only [QCv,QBs]
 constructor
 ·rintro (a | a | a)
  ·exact .inr (.inl a)
  ·exact .inl a
  ·exact .inr (.inr a)
 ·rintro (a | a | a)
  ·exact .inr (.inl a)
  ·exact .inl a
  ·exact .inr (.inr a)
theorem Zct {α:Type} {C:List α} {i:Nat} (h:i<C.length):(C[i]::C.eraseIdx i).Perm C:=by
 rw [QCw]
 conv=>rhs; rw [<- QCl i C,QBl h]
 exact List.perm_middle.symm
theorem Zku {C D:List (List Nat)} (p:C.Perm D) (h:C.Pairwise fun c d=>∀ x∈c,x∉d):D.Pairwise fun c d=>∀ x∈c,x∉d :=
 (p.pairwise_iff fun {a b} q x hx hb=>q x hb hx).mp h
theorem Cov.erase {s:Nat->Nat} {C:List (List Nat)} {U:Nat->Prop} (v:Cov s C U) {i:Nat} (h:i<C.length) {c:List Nat} (hc:∀ x,x∈c↔x∈C[i]):Cov s (C.eraseIdx i) (fun x=>U x/\x∉c):=by
 have dj:=Zku (Zct h).symm v.dj
 rw [List.pairwise_cons] at dj
 refine ⟨fun d hd=>v.cy d ((YB h).mpr (.inr hd)),dj.2,fun x=>?_⟩
 rw [v.all x]
 constructor
 ·rintro ⟨⟨d,hd,hx⟩,hn⟩
  rcases (YB h).mp hd with rfl | hd
  ·exact absurd ((hc x).mpr hx) hn
  ·exact ⟨d,hd,hx⟩
 ·rintro ⟨d,hd,hx⟩
  exact ⟨⟨d,(YB h).mpr (.inr hd),hx⟩,fun z=>dj.1 d hd x ((hc x).mp z) hx⟩
theorem Cov.find {s:Nat->Nat} {C:List (List Nat)} {U:Nat->Prop} (v:Cov s C U) {d:List Nat} (hd:Cyc s d) (hU:∀ x∈d,U x):∃ (i:Nat) (h:i<C.length) (k:Nat),k<C[i].length/\d=rot C[i] k:=by
 have h0:d.getD 0 0∈d:=by rw [gDN hd.pos]; exact QAs _
 obtain ⟨c,hc,hx⟩:=(v.all _).mp (hU _ h0)
 obtain ⟨i,hi,rfl⟩:=QBd hc
 obtain ⟨k,hk,e⟩:=QBd hx
 exact ⟨i,hi,k,hk,ZeY hd (v.cy _ hc) hk (by rw [gDN hk,e])⟩
inductive Alg (s:Nat->Nat):(Nat->Prop)->List Nat->List Nat->Prop
 | nil {U:Nat->Prop}:(∀ x,¬ U x)->Alg s U [] []
 | step {U:Nat->Prop} {c w ls:List Nat}:Cyc s c->(∀ x∈c,U x)->(∀ d,Cyc s d->(∀ x∈d,U x)->c.length<=d.length)->Alg s (fun x=>U x/\x∉c) w ls->Alg s U (c++w) (c.length::ls)
theorem Alg.congr {s:Nat->Nat} {U V:Nat->Prop} {w ls:List Nat} (h:∀ x,U x↔V x) (a:Alg s U w ls):Alg s V w ls:=by
 have:U=V:=funext fun x=>propext (h x)
 exact this ▸ a
theorem ZcE {s:Nat->Nat} {U:Nat->Prop} {w ls:List Nat} (a:Alg s U w ls):∀ {C:List (List Nat)},Cov s C U->ls.Perm (C.map List.length)/\ls.Pairwise (· <= ·):=by
 induction a with
 | nil h =>
  intro C v
  cases C with
  | nil=>exact ⟨.nil,.nil⟩
  | cons c C =>
   have:=(v.cy c QAj).pos
   exact absurd ((v.all (c.getD 0 0)).mpr ⟨c,QAj,by rw [gDN this]; exact QAs _⟩) (h _)
 | @step U c w ls hc hU hm _ ih =>
  intro C v
  obtain ⟨i,hi,k,hk,e⟩:=v.find hc hU
  have hl:c.length=C[i].length:=by rw [e,YM]
  obtain ⟨p,pw⟩:=ih (v.erase hi (c:=c) fun x=>by rw [e]; exact rot_mem)
  constructor
  ·refine ((p.cons c.length).trans ?_)
   rw [hl]
   exact (Zct hi).map List.length
  ·refine List.pairwise_cons.mpr ⟨fun m hm'=>?_,pw⟩
   obtain ⟨d,hd,rfl⟩:=List.mem_map.mp (p.mem_iff.mp hm')
   have hd':=(YB hi).mpr (.inr hd)
   exact hm d (v.cy d hd') fun x hx=>(v.all x).mpr ⟨d,hd',hx⟩
noncomputable def Zf8 (C:List (List Nat)) (m:Nat):Prop:=(∃ c∈C,c.length=m)/\∀ c∈C,m<=c.length
noncomputable def mnl (C:List (List Nat)):Nat:=(C.map List.length).foldl Nat.min (C.headD []).length
noncomputable def Zo:Nat->List (List Nat)->List (List Nat)
 | _,[]=>[[]]
 | 0,_::_=>[]
 | f+1,c::C=>(List.range (c::C).length).flatMap fun i=>if ((c::C).getD i []).length=mnl (c::C) then (List.range (mnl (c::C))).flatMap fun st=>(Zo f ((c::C).take i++(c::C).drop (i+1))).map fun w=>rot ((c::C).getD i []) st++w else []
theorem ZeV:∀ (l:List Nat) (a:Nat),(l.foldl Nat.min a=a\/l.foldl Nat.min a∈l)/\l.foldl Nat.min a<=a/\∀ x∈l,l.foldl Nat.min a<=x
 | [],a=>⟨.inl rfl,QAc _,fun x h=>by cases h⟩
 | y::l,a=>by
  obtain ⟨h1,h2,h3⟩:=ZeV l (Nat.min a y)
  rw [List.foldl_cons]
  have ha:Nat.min a y<=a:=Nat.min_le_left _ _
  have hy:Nat.min a y<=y:=Nat.min_le_right _ _
  refine ⟨?_,QAq h2 ha,fun x hx=>?_⟩
  ·rcases h1 with h1 | h1
   ·by_cases q:a<=y
    ·exact .inl (by rw [h1]; exact Nat.min_eq_left q)
    ·exact .inr (by rw [h1]; exact List.mem_cons.mpr (.inl (Nat.min_eq_right (by exact Om.k443 q))))
   ·exact .inr (QAo _ h1)
  ·rcases List.mem_cons.mp hx with rfl | hx
   ·exact QAq h2 hy
   ·exact h3 x hx
theorem Zaz (c:List Nat) (C:List (List Nat)):Zf8 (c::C) (mnl (c::C)):=by
 obtain ⟨h1,h2,h3⟩:=ZeV ((c::C).map List.length) c.length
 refine ⟨?_,fun d hd=>h3 _ (List.mem_map.mpr ⟨d,hd,rfl⟩)⟩
 rcases h1 with h1 | h1
 ·exact ⟨c,QAj,h1.symm⟩
 ·obtain ⟨d,hd,e⟩:=List.mem_map.mp h1
  exact ⟨d,hd,e⟩
theorem gDL {C:List (List Nat)} {i:Nat} (h:i<C.length):C.getD i []=C[i]:=by rw [QAd,QAb h]; rfl
theorem YX (f:Nat) (c:List Nat) (C:List (List Nat)):Zo (f+1) (c::C)=(List.range (c::C).length).flatMap fun i=>if ((c::C).getD i []).length=mnl (c::C) then (List.range (mnl (c::C))).flatMap fun st=>(Zo f ((c::C).take i++(c::C).drop (i+1))).map fun w=>rot ((c::C).getD i []) st++w else []:=rfl
theorem Cyc.head {s:Nat->Nat} {c:List Nat} (h:Cyc s c):c.getD 0 0∈c:=by rw [gDN h.pos]; exact QAs _
theorem mem_walks {f:Nat} {c:List Nat} {C:List (List Nat)} {w:List Nat}:w∈Zo (f+1) (c::C)↔∃ (i:Nat) (h:i<(c::C).length) (st:Nat) (w':List Nat),(c::C)[i].length=mnl (c::C)/\st<(c::C)[i].length/\w'∈Zo f ((c::C).eraseIdx i)/\w=rot (c::C)[i] st++w':=by
 rw [YX,List.mem_flatMap]
 constructor
 ·rintro ⟨i,hi,h⟩
  have hi':=List.mem_range.mp hi
  rw [gDL hi'] at h
  by_cases q:(c::C)[i].length=mnl (c::C)
  ·rw [if_pos q] at h
   obtain ⟨st,hst,h⟩:=List.mem_flatMap.mp h
   obtain ⟨w',hw,rfl⟩:=List.mem_map.mp h
   exact ⟨i,hi',st,w',q,by rw [q]; exact List.mem_range.mp hst,by rw [QCw]; exact hw,rfl⟩
  ·rw [if_neg q] at h
   cases h
 ·rintro ⟨i,hi,st,w',q,hst,hw,rfl⟩
  refine ⟨i,List.mem_range.mpr hi,?_⟩
  rw [gDL hi,if_pos q]
  refine List.mem_flatMap.mpr ⟨st,List.mem_range.mpr (by rw [<- q]; exact hst),List.mem_map.mpr ⟨w',?_,rfl⟩⟩
  rw [<- QCw]
  exact hw
theorem YJ {s:Nat->Nat}:∀ {f:Nat} {C:List (List Nat)} {U:Nat->Prop} {w:List Nat},Cov s C U->C.length<=f->(w∈Zo f C↔∃ ls,Alg s U w ls)
 | f,[],U,w,v,_=>by
  have hU:∀ x,¬ U x:=fun x h=>by
   obtain ⟨c,hc,_⟩:=(v.all x).mp h
   cases hc
  have e:Zo f []=[[]]:=by cases f <;> rfl
  rw [e,QDd]
  constructor
  ·rintro rfl
   exact ⟨[],.nil hU⟩
  ·rintro ⟨ls,a⟩
   cases a with
   | nil=>rfl
   | step hc hc2 _ _=>exact absurd (hc2 _ hc.head) (hU _)
 | 0,_::_,_,_,_,h=>by simp at h
 | f+1,c::C,U,w,v,hf=>by
  have lst:=Zaz c C
  rw [mem_walks]
  constructor
  ·rintro ⟨i,hi,st,w',q,hst,hw,rfl⟩
   have hcy:=(v.cy _ (QAs hi)).rot hst
   have v':=v.erase hi (c:=rot (c::C)[i] st) fun x=>rot_mem
   obtain ⟨ls,a⟩:=(YJ v' (by rw [List.length_eraseIdx_of_lt hi]; simp at hf ⊢; assumption)).mp hw
   refine ⟨_,.step hcy (fun x hx=>(v.all x).mpr ⟨_,QAs hi,rot_mem.mp hx⟩) (fun d hd hdU=>?_) a⟩
   obtain ⟨j,hj,k,hk,e⟩:=v.find hd hdU
   rw [YM,q,e,YM]
   exact lst.2 _ (QAs hj)
  ·rintro ⟨ls,a⟩
   cases a with
   | nil h=>exact absurd ((v.all _).mpr ⟨c,QAj,(v.cy c QAj).head⟩) (h _)
   | @step _ d w' ls hd hdU hm a =>
    obtain ⟨i,hi,k,hk,rfl⟩:=v.find hd hdU
    have v':=v.erase hi (c:=rot (c::C)[i] k) fun x=>rot_mem
    refine ⟨i,hi,k,w',?_,hk,(YJ v' (by rw [List.length_eraseIdx_of_lt hi]; simp at hf ⊢; assumption)).mpr ⟨ls,a⟩,rfl⟩
    obtain ⟨⟨d',hd',e⟩,h2⟩:=lst
    have h3:=hm d' (v.cy d' hd') fun x hx=>(v.all x).mpr ⟨d',hd',hx⟩
    rw [YM,e] at h3
    exact Nat.le_antisymm h3 (h2 _ (QAs hi))
termination_by f=>f
theorem Za7 {s:Nat->Nat}:∀ {f:Nat} {C:List (List Nat)},(∀ c∈C,0<c.length)->C.length<=f->∃ w,w∈Zo f C
 | f,[],_,_=>⟨[],by cases f <;> simp [Zo]⟩
 | 0,_::_,_,h=>by simp at h
 | f+1,c::C,hp,hf=>by
  obtain ⟨⟨d,hd,e⟩,_⟩:=Zaz c C
  obtain ⟨i,hi,rfl⟩:=QBd hd
  obtain ⟨w,hw⟩:=Za7 (s:=s) (f:=f) (C:=(c::C).eraseIdx i) (fun x hx=>hp x ((YB hi).mpr (.inr hx))) (by rw [List.length_eraseIdx_of_lt hi]; simp at hf ⊢; assumption)
  exact ⟨_,mem_walks.mpr ⟨i,hi,0,w,e,hp _ hd,hw,rfl⟩⟩
section
variable {n:Nat} {s s' θ θi:Nat->Nat}
structure Conj (n:Nat) (s s' θ θi:Nat->Nat):Prop where
 a:∀ x,θi (θ x)=x
 b:∀ x,θ (θi x)=x
 lt:∀ x,x<n->θ x<n
 lti:∀ x,x<n->θi x<n
 go:∀ x,x<n->s' (θ x)=θ (s x)
 sl:∀ x,x<n->s x<n
theorem Conj.sym (h:Conj n s s' θ θi):Conj n s' s θi θ:=by
 refine ⟨h.b,h.a,h.lti,h.lt,fun x hx=>?_,fun x hx=>?_⟩
 ·have:=h.go (θi x) (h.lti x hx)
  rw [h.b] at this
  rw [this,h.a]
 ·have:=h.go (θi x) (h.lti x hx)
  rw [h.b] at this
  rw [this]
  exact h.lt _ (h.sl _ (h.lti x hx))
theorem Conj.inj (h:Conj n s s' θ θi) {x y:Nat} (e:θ x=θ y):x=y:=by rw [<- h.a x,<- h.a y,e]
theorem Ziq {c:List Nat} {θ:Nat->Nat} {i:Nat} (h:i<c.length):(c.map θ).getD i 0=θ (c.getD i 0):=by
 rw [gDN (by rw [QAa]; exact h),gDN h,QBu]
theorem Conj.cyc (h:Conj n s s' θ θi) {c:List Nat} (hc:Cyc s c) (hn:∀ x∈c,x<n):Cyc s' (c.map θ):=by
 refine ⟨by rw [QAa]; exact hc.pos,?_,fun i hi=>?_⟩
 ·refine List.nodup_iff_pairwise_ne.mpr (List.pairwise_map.mpr ((List.nodup_iff_pairwise_ne.mp hc.nd).imp fun q e=>q (h.inj e)))
 ·rw [QAa] at hi ⊢
  have hm:c.getD i 0∈c:=by rw [gDN hi]; exact QAs _
  rw [Ziq hi,Ziq (Nat.mod_lt _ hc.pos),h.go _ (hn _ hm),hc.nx i hi]
theorem Conj.alg (h:Conj n s s' θ θi) {U:Nat->Prop} {w ls:List Nat} (a:Alg s U w ls):(∀ x,U x->x<n)->Alg s' (fun y=>U (θi y)) (w.map θ) ls:=by
 induction a with
 | nil hU=>intro _; exact .nil fun x=>hU _
 | @step U c w ls hc hU hm _ ih =>
  intro hn
  rw [QAm]
  have e:c.length=(c.map θ).length:=(QAa _).symm
  rw [e]
  refine .step (h.cyc hc fun x hx=>hn x (hU x hx)) (fun x hx=>?_) (fun d hd hdU=>?_) (Alg.congr (fun y=>?_) (ih fun x hx=>hn x hx.1))
  ·obtain ⟨z,hz,rfl⟩:=List.mem_map.mp hx
   show U (θi (θ z))
   rw [h.a]
   exact hU z hz
  ·have h2:=hm (d.map θi) (h.sym.cyc hd fun x hx=>by have:=h.lt _ (hn _ (hdU x hx)); rw [h.b] at this; exact this) fun x hx=>by
    obtain ⟨z,hz,rfl⟩:=List.mem_map.mp hx
    exact hdU z hz
   rw [QAa] at h2 ⊢
   exact h2
  ·show U (θi y)/\θi y∉c↔U (θi y)/\y∉c.map θ
   refine and_congr_right fun _=>not_congr ⟨fun z=>List.mem_map.mpr ⟨_,z,h.b y⟩,fun z=>?_⟩
   obtain ⟨x,hx,rfl⟩:=List.mem_map.mp z
   rw [h.a]
   exact hx
theorem Zgi (h:Conj n s s' θ θi) {C C':List (List Nat)} (v:Cov s C (· < n)) (v':Cov s' C' (· < n)) {f f':Nat} (hf:C.length<=f) (hf':C'.length<=f') {w:List Nat} (hw:w∈Zo f C):w.map θ∈Zo f' C':=by
 obtain ⟨ls,a⟩:=(YJ v hf).mp hw
 refine (YJ v' hf').mpr ⟨ls,Alg.congr (fun x=>?_) (h.alg a fun x hx=>hx)⟩
 exact ⟨fun z=>by have:=h.lt _ z; rw [h.b] at this; exact this,fun z=>h.lti _ z⟩
theorem ZhB (h:Conj n s s' θ θi) {C C':List (List Nat)} (v:Cov s C (· < n)) (v':Cov s' C' (· < n)):∃ ls:List Nat,ls.Perm (C.map List.length)/\ls.Perm (C'.map List.length)/\ls.Pairwise (· <= ·):=by
 obtain ⟨w,hw⟩:=Za7 (s:=s) (f:=C.length) (C:=C) (fun c hc=>(v.cy c hc).pos) (QAc _)
 obtain ⟨ls,a⟩:=(YJ v (QAc _)).mp hw
 obtain ⟨p,pw⟩:=ZcE a v
 have a':Alg s' (· < n) (w.map θ) ls:=Alg.congr (fun x=>⟨fun z=>by have:=h.lt _ z; rw [h.b] at this; exact this,fun z=>h.lti _ z⟩) (h.alg a fun x hx=>hx)
 exact ⟨ls,p,(ZcE a' v').1,pw⟩
end
section
variable {n:Nat} {s:Nat->Nat}
theorem Zjh {c:Nat} {acc:List Nat} (p:Path n s c acc):acc.getD 0 0=c/\0<acc.length/\Z0 acc=acc.getD (acc.length - 1) 0/\∀ i,i+1<acc.length->acc.getD (i+1) 0=s (acc.getD i 0):=by
 induction p with
 | one h=>exact ⟨rfl,by simp,rfl,fun i hi=>by simp at hi⟩
 | @more acc p _ ih =>
  obtain ⟨h1,h2,h3,h4⟩:=ih
  have ap:∀ i,i<acc.length->(acc++[s (Z0 acc)]).getD i 0=acc.getD i 0:=fun i hi=>by
   rw [QAd,QCo hi,<- QAd]
  have ae:(acc++[s (Z0 acc)]).getD acc.length 0=s (Z0 acc):=by
   rw [QAd,QCt (QAc _),Nat.sub_self]
   rfl
  refine ⟨by rw [ap 0 h2]; exact h1,by simp,?_,fun i hi=>?_⟩
  ·rw [Y4,QAn]
   exact ae.symm
  ·rw [QAn] at hi
   have hi':i<acc.length:=by simp at hi; assumption
   rw [ap i hi']
   by_cases q:i+1<acc.length
   ·rw [ap (i+1) q]
    exact h4 i q
   ·have e:i+1=acc.length:=by exact Om.k441 hi' q
    rw [e,ae,h3,show acc.length - 1=i by exact Om.k442 h2 hi' q]
theorem Zb2 (o:One n s) {c:Nat} (hc:c<n):Cyc s (Yn s n c):=by
 obtain ⟨p,e⟩:=J1 o hc
 obtain ⟨h1,h2,h3,h4⟩:=Zjh p
 refine ⟨h2,p.nodup,fun i hi=>?_⟩
 by_cases q:i+1<(Yn s n c).length
 ·rw [QCk q]
  exact (h4 i q).symm
 ·have e2:i+1=(Yn s n c).length:=by exact Om.k441 hi q
  rw [e2,Nat.mod_self,h1,show i=(Yn s n c).length - 1 by exact Om.k440 hi q,<- h3]
  exact e
theorem ZiO {c d:List Nat} (hc:Cyc s c) (hd:Cyc s d) {x:Nat} (h1:x∈c) (h2:x∈d):∀ y,y∈c↔y∈d:=by
 obtain ⟨i,hi,e1⟩:=QBd h1
 obtain ⟨j,hj,e2⟩:=QBd h2
 have h:=ZeY (hc.rot hi) hd hj (by rw [Zb0 hi hc.pos,Nat.add_zero,QCk hi,gDN hi,gDN hj,e1,e2])
 intro y
 rw [<- rot_mem (c:=c) (k:=i),h,rot_mem]
theorem Zb1 (o:One n s):∀ i,i<=n->(∀ r∈Zz s n i,∃ c,c<n/\r=Yn s n c)/\(Zz s n i).Pairwise (fun c d=>∀ x∈c,x∉d)/\∀ x,x<i->∃ r∈Zz s n i,x∈r
 | 0,_=>⟨fun r h=>(by cases h),List.Pairwise.nil,fun x h=>absurd h (QDr _)⟩
 | i+1,hi=>by
  obtain ⟨h1,h2,h3⟩:=Zb1 o i (by exact Om.f4 ‹_›)
  rw [Zz]
  by_cases q:(Zz s n i).all (fun r=>decide (i∉r))=true
  ·rw [if_pos q]
   rw [QBe] at q
   have cyI:=Zb2 o (c:=i) (by exact Om.f5 ‹_›)
   have inI:i∈Yn s n i:=(J1 o (by exact Om.f5 ‹_›)).1.head_mem
   refine ⟨fun r hr=>?_,List.pairwise_append.mpr ⟨h2,List.pairwise_singleton _ _,fun c hc d hd x hx hxd=>?_⟩,fun x hx=>?_⟩
   ·rcases List.mem_append.mp hr with hr | hr
    ·exact h1 r hr
    ·exact ⟨i,by exact Om.f5 ‹_›,List.mem_singleton.mp hr⟩
   ·rw [List.mem_singleton.mp hd] at hxd
    obtain ⟨k,hk,rfl⟩:=h1 c hc
    have:=(ZiO (Zb2 o hk) cyI hx hxd i).mpr inI
    exact of_decide_eq_true (q _ hc) this
   ·by_cases e:x<i
    ·obtain ⟨r,hr,hx⟩:=h3 x e
     exact ⟨r,QBf _ hr,hx⟩
    ·have:x=i:=by exact Om.k388 hx e
     subst this
     exact ⟨_,QBg _ QAj,inI⟩
  ·rw [if_neg q]
   refine ⟨h1,h2,fun x hx=>?_⟩
   by_cases e:x<i
   ·exact h3 x e
   ·have:x=i:=by exact Om.k388 hx e
    subst this
    rw [QBe] at q
    by_cases z:∃ r∈Zz s n x,x∈r
    ·exact z
    ·exact absurd (fun (r:List Nat) hr=>decide_eq_true (p:=x∉r) fun h=>z ⟨r,hr,h⟩) q
theorem Ys (o:One n s):Cov s (Zz s n n) (· < n):=by
 obtain ⟨h1,h2,h3⟩:=Zb1 o n (QAc _)
 refine ⟨fun c hc=>?_,h2,fun x=>⟨fun h=>h3 x h,fun ⟨c,hc,hx⟩=>?_⟩⟩
 ·obtain ⟨k,hk,rfl⟩:=h1 c hc
  exact Zb2 o hk
 ·obtain ⟨k,hk,rfl⟩:=h1 c hc
  exact (J1 o hk).1.lt o x hx
end
end My
namespace L2
open PySem PySem.Spec PyProof.Rows
section
variable {prog:Program} {w:World} {A:Around} {E:Value->Shared->Prop} {s:Shared}
end
end L2
namespace L2
open PySem PySem.Spec PyProof.Rows
noncomputable def Zkg (K:PySem.W.Frag) (t:Addr):It :=
  ⟨fun i H => ∃ xs x, SqL K H t xs/\xs[i]? = some x,
   fun i H v H' => ∃ p x, v = .ref p/\H p=none/\(∀ xs, SqL K H t xs->xs[i]? = some x)/\H'=upd H p (.tup [.int (i:Int), x]),
   fun i H => ∃ xs, SqL K H t xs/\xs.length<=i⟩
theorem ZfJ {P:Program} {w:World} {K:PySem.W.Frag} {elts:List Expr} {x1} {tpos:Pos} {e it t:Addr} (hei:e≠it) (hti:t≠it) (hte:t≠e):Turn P w K (.Tuple elts x1 tpos) (Zkg K t) [e,it] e (fun i h=>(∃ old,IsEnum h e it (i:Int) old)/\h.IsListIter it t i) where
 mem:=by simp
 obj:=fun i h st b hb=>by
  simp only [QBs,QCa,or_false] at hb
  rcases hb with rfl | rfl
  ·obtain ⟨old,z⟩:=st.1
   exact ⟨_,z,fun v q=>by cases q⟩
  ·obtain ⟨o,z,c,d⟩:=st.2
   exact ⟨o,z,fun v q=>by rw [d] at q; cases q⟩
 keep:=fun i h h' st k=>⟨let ⟨old,z⟩:=st.1; ⟨old,k e (by simp) _ z⟩,Heap.IsListIter.at st.2 fun o z=>k it (by simp) o z⟩
 item:=by
  intro X hP hw hK hc i pins s σ H E I hf st hg
  subst hP hw hK
  obtain ⟨xs,x,hq,hx⟩:=hg
  obtain ⟨its,rv,p,hz⟩:=I.list hq
  obtain ⟨u,hu,ru⟩:=rv.get hx
  obtain ⟨⟨old,he⟩,hit⟩:=st
  have hu':its.toArray[i]? = some u:=by simpa using hu
  have hlt:i<its.toArray.size:=(Array.getElem?_eq_some_iff.mp hu').1
  have hef:e∉[it,t]:=fun z=>by
   simp only [QBs,QCa,or_false] at z
   rcases z with z | z
   ·exact hei z
   ·exact hte z.symm
  refine wpAny_pyNext_enum_itemD (Draws.list (A:=X.A.in1) (I.ok.hd hc) it t hti its.toArray) he ⟨hit,p.isList⟩ hlt hei hef fun x' h' tk hP ho hs' hT hsz hk=>⟨_,rfl,?_⟩
  have ex:x'=u:=by rw [hu'] at hP; cases hP; rfl
  subst ex
  refine wpAny_letOwnedTupleGo_enum (s:={ s with heap:=h',toks:=tk+1 }) ho fun h2 he2 sb=>?_
  have hnone:H s.heap.objs.size=none:=I.hok.fresh (QAc _)
  have hfp:∀ c∈[e,it],c<s.heap.objs.size:=fun c hc=>by
   simp only [QBs,QCa,or_false] at hc
   rcases hc with rfl | rfl
   ·exact QAi he
   ·obtain ⟨o,z,_⟩:=hit; exact QAi z
  have I1:Inv X pins σ (upd H s.heap.objs.size (.tup [.int (i:Int),x])) { s with heap:=s.heap.push { cls:=.type "tuple",data:=.seq #[.int (i:Int) tk,x'] },toks:=tk+1 } :=
   I.laid (t':=tk+1) (fun b u e=>QAk _ e) (QAc _) ⟨(show 2<=sizeLine by decide),[.int (i:Int) tk,x'],.cons ⟨tk,rfl⟩ (.cons ru .nil),⟨_,QAx _ rfl,rfl,_,rfl⟩⟩
  have hkk:∀ c o,c∉[e,it]->(s.heap.push { cls:=.type "tuple",data:=.seq #[.int (i:Int) tk,x'] }).get? c=some o->h2.get? c=some o:=fun c o hc z=>by
   simp only [QBs,QCa,or_false,not_or] at hc
   rw [sb.2 c hc.1]
   by_cases q:c=s.heap.objs.size
   ·subst q
    rw [QAx _ rfl] at z
    cases z
    exact hT
   ·rw [Heap.get?_push_ne _ _ _ q] at z
    exact hk c o hc.1 hc.2 z
  have hf':∀ c∈[e,it],Zap X pins (upd H s.heap.objs.size (.tup [.int (i:Int),x])) c:=fun c hc=>by
   obtain ⟨f0,r⟩:=hf c hc
   exact ⟨by rw [Zf (QBa (hfp c hc))]; exact f0,r⟩
  have I2:Inv X pins σ (upd H s.heap.objs.size (.tup [.int (i:Int),x])) { s with heap:=h2,toks:=tk+1 }:=I1.turnedL (t':=tk+1) hkk hf'
  refine ⟨.ref s.heap.objs.size,_,I2,rfl,⟨_,x,rfl,hnone,fun l h=>by rw [I.list_inj h hq]; exact hx,rfl⟩,?_,fun c hc=>(hf' c hc).1⟩
  exact ⟨⟨_,he2⟩,Heap.IsListIter.at hs'.1 fun o z=>(sb.2 it (Ne.symm hei)).trans z⟩
 done:=by
  intro X hP hw hK hc i pins s σ H E I hf st hg
  subst hP hw hK
  obtain ⟨xs,hq,hend⟩:=hg
  obtain ⟨its,rv,p,hz⟩:=I.list hq
  obtain ⟨⟨old,he⟩,hit⟩:=st
  have h1:=rv.length
  refine wpAny_pyNext_enum_end (I.ok.hd hc) he hit p.isList (by simp; exact Om.k439 hend h1) fun h' keep=>⟨rfl,I.turnedL (t':=s.toks) (fun c o hc z=>?_) hf⟩
  simp only [QBs,QCa,or_false,not_or] at hc
  exact keep c o hc.2 z
 self:=fun _ _ _ _ _ st h=>let ⟨_,z⟩:=st.1; wpAny_pyIter_enum z h
noncomputable def ZkV (K:PySem.W.Frag) (ta:TA):TI:=fun σ H R=>ta σ H fun vs H1=>∃ t xs,vs=[.ref t]/\SqL K H1 t xs/\R (Zkg K t) H1
theorem Zh4 {X:Cx} {elts:List Expr} {x1} {tpos:Pos} {a:Expr} {ta:TA} {p pos:Pos} (K:PySem.W.Frag) (hg:Gl X "enumerate") (hm:X.mg "enumerate" = none) (ha:PA X [a] ta) (hK:X.K=K:=by rfl) (hs:starEach [a] X.env=[(false,eval a X.env)]:=by rfl) :
  PI X (.Tuple elts x1 tpos) (.Call (.Name "enumerate" p) [a] [] pos) (ZkV K ta):=by
 subst hK
 intro pins s σ H R I h
 refine Call_ (Zcn I hg hm boot_enumerate (PyProof.Rows.callWith_type1 (thn (ha pos pins s σ H _ I h) fun us s1 zz0=>?_) (by rw [hs]; rfl) (by rfl)))
 obtain ⟨vs,H1,I1,r1,q1⟩:=zz0
 obtain ⟨t,xs,e,hq,q⟩:=q1
 subst e
 cases r1 with
 | cons r rr =>
  cases rr
  cases r
  obtain ⟨its,rv,p,hz⟩:=I1.list hq
  have a1:t<s1.heap.objs.size:=by obtain ⟨_,e,_⟩:=p.isList; exact QAi e
  refine call_enumerate_list p.isList fun h' he hit _ hk=>wpAny_pyIter_enum (s:={ s1 with heap:=h' }) he ?_
  refine ⟨_,[s1.heap.objs.size+1,s1.heap.objs.size],_,_,H1,rfl,I1.kept (t':=s1.toks) hk,ZfJ (Nat.succ_ne_self _) (QBa a1) (QBa (QDk a1)),⟨⟨_,he⟩,hit⟩,fun c hc=>?_,q⟩
  simp only [QBs,QCa,or_false] at hc
  have hge:s1.heap.objs.size<=c:=by
   rcases hc with rfl | rfl
   ·exact Nat.le_add_right _ _
   ·exact QAc _
  exact I1.fpOk hge (I1.hok.fresh hge)
end L2
namespace L2
open PySem PySem.Spec PyProof.Rows
end L2
namespace L2
open PySem PySem.Spec PyProof.Rows PySem.W
noncomputable def Zcl:List Int->List Int->Bool
 | x::xs,y::ys=>if x=y then Zcl xs ys else decide (x<y)
 | _,_=>false
section
variable {prog:Program} {w:World} {A:Around} {E:Value->Shared->Prop} {s:Shared}
end
end L2
namespace L2
open PySem PySem.Spec PyProof.Rows
section
variable {prog:Program} {w:World} {A:Around} {E:Value->Shared->Prop} {s:Shared} {κ:Type} [DecidableEq κ] {knd:KeyKind prog w κ}
end
end L2
namespace L2
open PySem PySem.Spec PyProof.Rows
section
variable {prog:Program} {w:World} {A:Around} {E:Value->Shared->Prop} {s:Shared}
end
end L2
namespace L2
open PySem PySem.Spec PyProof.Rows
section
variable {prog:Program} {w:World} {A:Around} {R:Result->Shared->Prop} {I:Addr} {fp wr:List Addr} {G:Array GenState->Array GenState->Prop} {P:Nat->Value->Prop} {St:Nat->Shared->Prop}
end
section
variable {prog:Program} {w:World} {A:Around} {E:Value->Shared->Prop} {s:Shared}
end
end L2
namespace L2
open PySem PySem.Spec PyProof.Rows
section
variable {prog:Program} {w:World} {A:Around} {E:Value->Shared->Prop} {s:Shared} {R:Result->Shared->Prop}
end
end L2
namespace L2
open PySem PySem.Spec PyProof.Rows PySem.W SeqAt
theorem ZfK (l b:Addr) (items items2:List Value) (n n2:Nat) (dd dd2:Option Addr) (sl sl2:Array (Option Value)) (xs ys:List Int) (hi:IntsAre items xs) (hi2:IntsAre items2 ys) (hlen:xs.length=ys.length) :
  Meets (Builtin.«tuple.__lt__» ⟨[.ref l,.ref b],[]⟩)
   (fun A R s=>s.heap.get? l=some { cls:=.type "tuple",dict:=dd,data:=.seq items.toArray n,slots:=sl }/\s.heap.get? b=some { cls:=.type "tuple",dict:=dd2,data:=.seq items2.toArray n2,slots:=sl2 } /\
    R (.ok (.ret (.bool (Zcl xs ys)))) s) :=
 .of_wp fun prog w A R s h=>by
  obtain ⟨hp,g,d,tk,os⟩:=s; obtain ⟨hl,hb,h⟩:=h
  have f2:=AutoSeq1.sub_tuple_tuple
  have hl1:=Ya hi
  have hl2:=Ya hi2
  have hZ:(items.zip items2).length=xs.length:=by simp; exact Om.k438 hlen hl1 hl2
  wp_walk using wpAny_loadPart' hl,wpAny_loadPart' hb,wpAny_forIn_list _ (fun rest b s'=>b.1=none/\s'=⟨hp,g,d,tk,os⟩/\∃ i,rest=(items.zip items2).drop i /\
   R (.ok (.ret (.bool (Zcl (xs.drop i) (ys.drop i))))) ⟨hp,g,d,tk,os⟩) _
  case turn =>
   rintro ⟨y,x⟩ rest b s' ⟨hb',rfl,i,hz,hR⟩
   have hlt:i<(items.zip items2).length:=by
    rcases QCq i (items.zip items2).length with h' | h'
    ·exact h'
    ·rw [QCe h'] at hz; cases hz
   have hix:i<xs.length:=hZ ▸ hlt
   have hiy:i<ys.length:=by exact Om.a2 ‹_› ‹_›
   rw [QBl hlt] at hz
   injection hz with hyx hrest
   obtain ⟨t1,h1⟩:=Yd hi i hix
   obtain ⟨t2,h2⟩:=Yd hi2 i hiy
   have hy:y = .int xs[i] t1:=by
    have e:=congrArg Prod.fst hyx
    rw [List.getElem_zip] at e
    rw [QAb (by exact Om.a1 ‹_› ‹_›)] at h1
    exact e.trans (Option.some.inj h1)
   have hx:x = .int ys[i] t2:=by
    have e:=congrArg Prod.snd hyx
    rw [List.getElem_zip] at e
    rw [QAb (by exact Om.a1 ‹_› ‹_›)] at h2
    exact e.trans (Option.some.inj h2)
   subst hy hx
   rw [QBl hix,QBl hiy] at hR
   unfold Zcl at hR
   refine wpAny_bind (wpAny_eqBool_int ?_)
   by_cases he:xs[i]=ys[i]
   ·rw [if_pos he] at hR
    have hb:(xs[i]==ys[i])=true:=by simpa using he
    rw [hb]
    wp_walk
    exact ⟨rfl,rfl,i+1,hrest,hR⟩
   ·rw [if_neg he] at hR
    have hb:(xs[i]==ys[i])=false:=by simpa using he
    rw [hb]
    generalize hRC:richCompare=RC
    wp_walk
    subst hRC
    refine PyProof.Rows.lt_int (a:=xs[i]) (b:=ys[i]) ?_
    wp_walk
    exact ⟨_,rfl,hR⟩
  case fin =>
   rintro ⟨b1,b2⟩ s' ⟨hb',rfl,i,hz,hR⟩
   simp only at hb'
   subst hb'
   have hge:xs.length<=i:=by
    rcases QCq i (items.zip items2).length with h' | h'
    ·rw [QBl h'] at hz; cases hz
    ·exact hZ ▸ h'
   rw [QCe hge] at hR
   have hsz:items.length=items2.length:=by exact Om.u2 ‹_› ‹_› ‹_›
   wp_walk
   refine ⟨_,rfl,?_⟩
   simpa [Builtin.Tuple.tupleCompareSizes,Zcl,hsz] using hR
  case h =>
   exact ⟨rfl,rfl,0,by simp,by simpa using h⟩
section
variable {A:Around} {s:Shared}
theorem Zjy {prog:Program} {w:World} {E:Value->Shared->Prop} {Q:Value->Shared->Prop} {l b:Addr} {items items2:List Value} {xs ys:List Int} (hl:s.heap.IsTuple l items.toArray) (hb:s.heap.IsTuple b items2.toArray) (hi:IntsAre items xs) (hi2:IntsAre items2 ys) (hlen:xs.length=ys.length) (hu:A.units<cLine) (h:Q (.bool (Zcl xs ys)) s) :
  wpAny (model prog w) A (compareOp .Lt (.ref l) (.ref b)) Q E s:=by
 obtain ⟨⟨cls,dd,data,sl⟩,ho,hc,n,hd⟩:=id hl
 obtain ⟨⟨cls2,dd2,data2,sl2⟩,ho2,hc2,n2,hd2⟩:=id hb
 simp only at hc hd hc2 hd2
 subst hc hd hc2 hd2
 exact richCompare_meets_room (op:=.Lt) ⟨_,ho,rfl⟩ ⟨_,ho2,rfl⟩ F.slot_tuple_lt F.entry_tuple_lt (F.args_tuple_lt_2 _ _) (ZfK l b items items2 n n2 dd dd2 sl sl2 xs ys hi hi2 hlen)
  ⟨ho,ho2,show Value.bool (Zcl xs ys)≠Value.notImplemented/\Q (.bool (Zcl xs ys)) s from ⟨(fun x=>nomatch x),h⟩⟩ hu
theorem ZjO {l b:Addr} {items items2:List Value} {xs ys:List Int} (hl:s.heap.IsTuple l items.toArray) (hb:s.heap.IsTuple b items2.toArray) (hi:IntsAre items xs) (hi2:IntsAre items2 ys) (hlen:xs.length=ys.length) (hu:A.units<cLine):EqAt A s (.ref l) (.ref b) (decide (xs=ys)):=by
 have z1:=Ya hi
 have z2:=Ya hi2
 by_cases hne:l=b
 ·subst hne
  have e:items=items2:=by
   obtain ⟨o,ho,_,n,hd⟩:=id hl
   obtain ⟨o2,ho2,_,n2,hd2⟩:=id hb
   rw [ho] at ho2
   cases ho2
   rw [hd] at hd2
   injection hd2 with h1 h2
   have:=congrArg Array.toList h1
   simpa using this
  subst e
  have e2:xs=ys:=by
   refine QBp hlen fun j h1 h2=>?_
   obtain ⟨t1,g1⟩:=Yd hi j h1
   obtain ⟨t2,g2⟩:=Yd hi2 j h2
   rw [g1] at g2
   have:=Option.some.inj g2
   injection this
  rw [decide_eq_true e2]
  exact EqAt.same _
 ·have hr:=RcAt.tuples (A:=A) (s:=s) (e:=fun j=>decide (xs.getD j 0=ys.getD j 0)) hl hb hu fun j h1 h2=>by
   have j1:j<xs.length:=by simpa [z1] using h1
   have j2:j<ys.length:=by exact Om.a2 ‹_› ‹_›
   obtain ⟨t1,g1⟩:=Yd hi j j1
   obtain ⟨t2,g2⟩:=Yd hi2 j j2
   have e1:items.toArray[j] = .int xs[j] t1:=by
    rw [QAb (by exact Om.a1 ‹_› ‹_›)] at g1
    simpa using Option.some.inj g1
   have e2:items2.toArray[j] = .int ys[j] t2:=by
    rw [QAb (by exact Om.a1 ‹_› ‹_›)] at g2
    simpa using Option.some.inj g2
   rw [e1,e2]
   intro prog w E Q hq
   refine wpAny_eqBool_int ?_
   have e3:(xs[j]==ys[j])=decide (xs.getD j 0=ys.getD j 0):=by
    rw [QAd,QAd,QAb j1,QAb j2]
    show (xs[j]==ys[j])=decide (xs[j]=ys[j])
    rw [QBi]
    simp
   rw [e3]
   exact hq
  have e:((List.range (min items.toArray.size items2.toArray.size)).all (fun j=>decide (xs.getD j 0=ys.getD j 0))&&items.toArray.size==items2.toArray.size)=decide (xs=ys):=by
   have s1:items.toArray.size=xs.length:=by simp [z1]
   have s2:items2.toArray.size=xs.length:=by simp [z2,hlen]
   rw [s1,s2,Nat.min_self,beq_self_eq_true,Bool.and_true,QBi,QBe,decide_eq_true_eq]
   constructor
   ·intro h
    refine QBp hlen fun j h1 h2=>?_
    have:=of_decide_eq_true (h j (List.mem_range.mpr h1))
    rw [QAd,QAd,QAb h1,QAb h2] at this
    exact this
   ·intro h j _
    rw [h]
    exact decide_eq_true rfl
  rw [<- e]
  exact EqAt.of_refs hne hr
end
end L2
namespace L2
open PySem PySem.Spec PyProof.Rows
section
variable {prog:Program} {w:World} {A:Around} {R:Result->Shared->Prop} {it:Addr} {fp wr:List Addr} {n:Nat} {P:Nat->Value->Prop} {St:Nat->Heap->Prop} {G:Shared->Prop} {lt:Nat->Nat->Bool} {bx:Addr}
theorem ZbK:(toString "min" ++ toString ".loop" : String) = "min.loop":=by decide
theorem Zju (Wk:Walks prog w A.in1 it fp wr n P St) (hG:∀ (s:Shared) h' tk,G s->(∀ b o,b∉wr->b≠bx->s.heap.get? b=some o->h'.get? b=some o)->G { s with heap:=h',toks:=tk })
  (cmp:∀ i j u v (s:Shared) (Q:Value->Shared->Prop) (E:Value->Shared->Prop),G s->P i u->P j v->Q (.bool (lt i j)) s->wpAny (model prog w) A.in1 (richCompare .Lt u v) Q E s) (hb:bx∉fp) :
  ∀ (r i:Nat) (s:Shared) (u:Value) (c:Nat),n - (i+1)=r->i+1<=n->St (i+1) s.heap->G s->P (argBest lt i) u ->
  s.heap.get? bx=some { cls:=.type "list",dict:=none,data:=.seq #[u,u] c,slots:=#[] } ->
  (∀ v h' tk,P (argBest lt (n - 1)) v->(∀ b o,b∉wr->b≠bx->s.heap.get? b=some o->h'.get? b=some o)->R (.ok (.ret v)) { s with heap:=h',toks:=tk }) ->
  codeAny (model prog w) A (.builtin "min.loop" ⟨[.ref it,.none,.ref bx],[]⟩) R s:=by
 have hw:bx∉wr:=fun z=>hb (Wk.sub _ z)
 intro r
 induction r with
 | zero =>
  intro i s u c hr hi st g hp hx q
  have e:i+1=n:=by exact Om.k437 hr hi
  refine codeAny_builtin PySem.F.entry_min_loop ?_
  rw [Around.under_plainId PySem.F.plain_min_loop _]
  refine wpAny_bind (m:=seqItems? (.ref bx)) (wpAny_seqItems hx rfl ?_)
  refine wpAny_bind (m:=tryCatch (pyNext (.ref it)) _) (wpAny_tryCatch (Wk.done s _ _ (e ▸ st) fun h2 tk k2=>?_))
  have hx2:=k2 bx _ hw hx
  refine wpAny_bind (m:=updateSeq bx fun _=>#[]) (wpAny_updateSeq hx2 rfl (wpAny_bind (wpAny_letGo (wpAny_pure ?_))))
  exact q u _ tk (by rw [<- e]; exact hp) fun b o n1 n2 z=>(QDv _ _ (Ne.symm n2)).trans (k2 b o n1 z)
 | succ r ih =>
  intro i s u c hr hi st g hp hx q
  have hlt:i+1<n:=by exact Om.k436 hr hi
  refine codeAny_builtin PySem.F.entry_min_loop ?_
  rw [Around.under_plainId PySem.F.plain_min_loop _]
  refine wpAny_bind (m:=seqItems? (.ref bx)) (wpAny_seqItems hx rfl ?_)
  refine wpAny_bind (m:=tryCatch (pyNext (.ref it)) _) (wpAny_tryCatch (Wk.item (i+1) s _ _ hlt st fun x h2 tk px st2 k2=>?_))
  have hx2:=k2 bx _ hw hx
  have g2:G { s with heap:=h2,toks:=tk }:=hG s _ _ g fun b o n1 _ z=>k2 b o n1 z
  refine wpAny_bind (m:=tryCatch (holding [x,x] (richCompare .Lt x u >>= _)) _) (wpAny_tryCatch (wpAny_holding (wpAny_bind (cmp (i+1) (argBest lt i) x u _ _ _ g2 px hp ?_))))
  refine wpAny_bind (wpAny_holding (wpAny_truthy_bool (wpAny_bind (wpAny_letGo (wpAny_pure ?_)))))
  cases hl:lt (i+1) (argBest lt i) with
  | true =>
   simp only [if_true]
   refine wpAny_bind (wpAny_updateSeq hx2 rfl (wpAny_bind (wpAny_letGo ?_)))
   rw [ZbK]
   have up:∀ b o,b≠bx->h2.get? b=some o->(h2.update bx (Obj.mapSeq fun _=>#[x,x])).get? b=some o:=fun b o n2 z=>(QDv _ _ (Ne.symm n2)).trans z
   refine wpAny_pure ⟨plainId_quiet PySem.F.plain_min_loop _,ih (i+1) _ x _ (by exact Om.k435 hr hlt) hlt (Wk.frame _ _ _ st2 fun b hf o z=>up b o (fun e=>hb (e ▸ hf)) z) (hG _ _ _ g2 fun b o _ n2 z=>up b o n2 z) (by simp only [argBest,hl,if_true]; exact px) (Heap.get?_update_self _ hx2 rfl) fun v h3 tk3 pv k3=>?_⟩
   exact q v h3 tk3 pv fun b o n1 n2 z=>k3 b o n1 n2 (up b o n2 (k2 b o n1 z))
  | false =>
   simp only [QDb,if_false]
   refine wpAny_bind (wpAny_letGo ?_)
   rw [ZbK]
   exact wpAny_pure ⟨plainId_quiet PySem.F.plain_min_loop _,ih (i+1) _ u c (by exact Om.k435 hr hlt) hlt st2 g2 (by simp only [argBest,hl,QDb,if_false]; exact hp) hx2 fun v h3 tk3 pv k3=>q v h3 tk3 pv fun b o n1 n2 z=>k3 b o n1 n2 (k2 b o n1 z)⟩
theorem Zim (Wk:Walks prog w A.in1 it fp wr n P St) (hG:∀ (s:Shared) h' tk,G s->(∀ b o,b∉wr->b≠bx->s.heap.get? b=some o->h'.get? b=some o)->G { s with heap:=h',toks:=tk })
  (cmp:∀ i j u v (s:Shared) (Q:Value->Shared->Prop) (E:Value->Shared->Prop),G s->P i u->P j v->Q (.bool (lt i j)) s->wpAny (model prog w) A.in1 (richCompare .Lt u v) Q E s) (hb:bx∉fp) (hn:0<n)
  {s:Shared} {c:Nat} (st:St 0 s.heap) (g:G s) (hx:s.heap.get? bx=some { cls:=.type "list",dict:=none,data:=.seq #[] c,slots:=#[] })
  (q:∀ v h' tk,P (argBest lt (n - 1)) v->(∀ b o,b∉wr->b≠bx->s.heap.get? b=some o->h'.get? b=some o)->R (.ok (.ret v)) { s with heap:=h',toks:=tk }) :
  codeAny (model prog w) A (.builtin "min.loop" ⟨[.ref it,.none,.ref bx],[]⟩) R s:=by
 have hw:bx∉wr:=fun z=>hb (Wk.sub _ z)
 refine codeAny_builtin PySem.F.entry_min_loop ?_
 rw [Around.under_plainId PySem.F.plain_min_loop _]
 refine wpAny_bind (m:=seqItems? (.ref bx)) (wpAny_seqItems hx rfl ?_)
 refine wpAny_bind (m:=tryCatch (pyNext (.ref it)) _) (wpAny_tryCatch (Wk.item 0 s _ _ hn st fun x h2 tk px st2 k2=>?_))
 have hx2:=k2 bx _ hw hx
 have g2:G { s with heap:=h2,toks:=tk }:=hG s _ _ g fun b o n1 _ z=>k2 b o n1 z
 have up:∀ b o,b≠bx->h2.get? b=some o->(h2.update bx (Obj.mapSeq fun _=>#[x,x])).get? b=some o:=fun b o n2 z=>(QDv _ _ (Ne.symm n2)).trans z
 refine wpAny_bind (m:=updateSeq bx fun _=>#[x,x]) (wpAny_updateSeq hx2 rfl ?_)
 rw [ZbK]
 refine wpAny_pure ⟨plainId_quiet PySem.F.plain_min_loop _,Zju Wk hG cmp hb _ 0 _ x _ rfl hn (Wk.frame _ _ _ st2 fun b hf o z=>up b o (fun e=>hb (e ▸ hf)) z) (hG _ _ _ g2 fun b o _ n2 z=>up b o n2 z) px (Heap.get?_update_self _ hx2 rfl) fun v h3 tk3 pv k3=>?_⟩
 exact q v h3 tk3 pv fun b o n1 n2 z=>k3 b o n1 n2 (up b o n2 (k2 b o n1 z))
end
section
variable {prog:Program} {w:World} {A:Around} {E:Value->Shared->Prop} {s:Shared}
theorem ZgM {l:Addr} {vs:Array Value} {lt:Nat->Nat->Bool} {Q:Value->Shared->Prop} (hh:A.handled=none) (hl:s.heap.IsList l vs) (hn:0<vs.size)
  (cmp:∀ i j u v h' tk (Q:Value->Shared->Prop) (E:Value->Shared->Prop),(∀ b o,s.heap.get? b=some o->h'.get? b=some o)->vs[i]? = some u->vs[j]? = some v->Q (.bool (lt i j)) { s with heap:=h',toks:=tk }->wpAny (model prog w) A.in1 (richCompare .Lt u v) Q E { s with heap:=h',toks:=tk })
  (q:∀ v h' tk,vs[argBest lt (vs.size - 1)]? = some v->(∀ b o,s.heap.get? b=some o->h'.get? b=some o)->Q v { s with heap:=h',toks:=tk }) :
  wpAny (model prog w) A (call (.builtin "min") [.ref l]) Q E s:=by
 refine call_function_tree PySem.F.kind_min PySem.F.plain_min PySem.F.entry_min (PySem.F.args_min1 _) ?_
 refine wpAny_bind (wpAny_of_eq (a:=[none,none]) rfl (wpAny_bind (wpAny_pure (wpAny_bind (m:=pyIter (.ref l)) ?_))))
 refine wpAny_pyIter_list hl ?_
 obtain ⟨ol,el,_⟩:=id hl
 have ll:l<s.heap.objs.size:=QAi el
 refine wpAny_bind (wpAny_newObj_type ?_)
 rw [ZbK]
 have k1:∀ b o,s.heap.get? b=some o->(s.heap.push { cls:=.type "list_iterator",data:=.fields #[.ref l,.int 0 0] }).get? b=some o:=fun b o e=>QAk _ e
 have z1:(s.heap.push { cls:=.type "list_iterator",data:=.fields #[.ref l,.int 0 0] }).objs.size=s.heap.objs.size+1:=QCi ..
 have k2:∀ b o,s.heap.get? b=some o->((s.heap.push { cls:=.type "list_iterator",data:=.fields #[.ref l,.int 0 0] }).push { cls:=.type "list",data:=.seq #[] }).get? b=some o:=fun b o e=>QAk _ (k1 b o e)
 refine wpAny_pure ⟨plainId_quiet PySem.F.plain_min_loop _,Zim (bx:=(s.heap.push { cls:=.type "list_iterator",data:=.fields #[.ref l,.int 0 0] }).objs.size) (G:=fun t=>∃ h' tk,t={ s with heap:=h',toks:=tk }/\∀ b o,s.heap.get? b=some o->h'.get? b=some o) (Walks.list (A:=A.in1) hh s.heap.objs.size l (QBa ll) vs)
  (fun t h' tk ⟨h1,tk1,e1,g⟩ k=>⟨h',tk,by rw [e1],fun b o e=>k b o ?_ ?_ (by rw [e1]; exact g b o e)⟩) (fun i j u v t Q E zz0 hu hv z=> by obtain ⟨h1,tk1,e1,g⟩ := zz0; exact by subst e1; exact cmp i j u v h1 tk1 Q E g hu hv z) ?_ hn ⟨⟨_,QAk _ (QAx _ rfl),rfl,rfl⟩,hl.at fun o e=>k2 l o e⟩ ⟨_,_,rfl,k2⟩ (QAx _ rfl) fun v h' tk hv k=>q v h' tk hv fun b o e=>k b o ?_ ?_ (k2 b o e)⟩
 ·exact fun z=>QBa (QAi e) (by simpa using z)
 ·exact fun z=>by
   have:=QAi e
   rw [z,z1] at this
   exact Nat.not_succ_lt_self this
 ·intro z
  rw [z1] at z
  simp only [QBs,QCa,or_false] at z
  rcases z with z | z
  ·exact Nat.succ_ne_self _ z
  ·rw [<- z] at ll
   exact Nat.not_succ_lt_self ll
 ·exact fun z=>QBa (QAi e) (by simpa using z)
 ·exact fun z=>by
   have:=QAi e
   rw [z,z1] at this
   exact Nat.not_succ_lt_self this
end
end L2
namespace L2
open PySem PySem.Spec PyProof.Rows PySem.W SeqAt
theorem ZjA (l b:Addr) (us vs:List Value) (n n2:Nat) (dd dd2:Option Addr) (sl sl2:Array (Option Value)) (xs ys:List Int) (hx:IntsAre us xs) (hy:IntsAre vs ys) :
  ∀ (k i:Nat),xs.length - i=k->i<=xs.length->i<=ys.length->Meets (Builtin.«list.__eq__.loop» ⟨[.ref l,.ref b,rawInt i,rawInt 0],[]⟩)
   (fun _ R s=>s.heap.get? l=some { cls:=.type "list",dict:=dd,data:=.seq us.toArray n,slots:=sl }/\s.heap.get? b=some { cls:=.type "list",dict:=dd2,data:=.seq vs.toArray n2,slots:=sl2 } /\
    R (.ok (.ret (.bool (HT.lexLt (xs.drop i) (ys.drop i))))) s):=by
 have zx:=Ya hx
 have zy:=Ya hy
 have ends:∀ i,i<=xs.length->i<=ys.length->(xs.length=i\/ys.length=i)->HT.lexLt (xs.drop i) (ys.drop i)=decide (xs.length<ys.length):=fun i h1 h2 h=>by
  rcases h with h | h
  ·rw [QCe (by exact Om.l1 ‹_›)]
   by_cases q:ys.length=i
   ·rw [QCe (by exact Om.l1 ‹_›)]
    exact (decide_eq_false (by exact Om.k434 h q)).symm
   ·rw [QBl (by exact Om.k431 h2 q)]
    exact (decide_eq_true (by exact Om.k433 h2 h q)).symm
  ·rw [QCe (l:=ys) (by exact Om.l1 ‹_›)]
   by_cases q:xs.length=i
   ·rw [QCe (by exact Om.l1 ‹_›)]
    exact (decide_eq_false (by exact Om.k432 h q)).symm
   ·rw [QBl (by exact Om.k431 h1 q)]
    exact (decide_eq_false (by exact Om.k430 h1 h)).symm
 intro k
 induction k with
 | zero =>
  intro i hk h1 h2 prog w A R s h
  obtain ⟨hp,g,d,tk,os⟩:=s
  obtain ⟨hl,hb,h⟩:=h
  wp_walk using AutoSeq1.wpAny_loadPart' hl,AutoSeq1.wpAny_loadPart' hb
  have e1:us.toArray[((i:Nat):Int).toNat]? = none:=by simp; exact Om.k429 zx hk
  rw [e1]
  wp_walk using AutoSeq1.wpAny_loadPart' hl,AutoSeq1.wpAny_loadPart' hb
  rw [ends i h1 h2 (.inl (by exact Om.k428 hk h1))] at h
  show R (.ok (.ret (.bool (decide (us.toArray.size<vs.toArray.size))))) _
  rw [QAg,QAg,zx,zy]
  exact h
 | succ k ih =>
  intro i hk h1 h2 prog w A R s h
  obtain ⟨hp,g,d,tk,os⟩:=s
  obtain ⟨hl,hb,h⟩:=h
  have lx:i<xs.length:=by exact Om.k427 hk h1
  obtain ⟨t1,g1⟩:=Yd hx i lx
  have e1:us.toArray[((i:Nat):Int).toNat]? = some (.int xs[i] t1):=by simpa using g1
  wp_walk using AutoSeq1.wpAny_loadPart' hl,AutoSeq1.wpAny_loadPart' hb
  by_cases ly:i<ys.length
  ·obtain ⟨t2,g2⟩:=Yd hy i ly
   have e2:vs.toArray[((i:Nat):Int).toNat]? = some (.int ys[i] t2):=by simpa using g2
   rw [e1,e2]
   rw [QBl lx,QBl ly] at h
   unfold HT.lexLt at h
   refine wpAny_bind (wpAny_eqBool_int ?_)
   by_cases he:xs[i]=ys[i]
   ·rw [if_pos he] at h
    rw [show (xs[i]==ys[i])=true by simpa using he]
    wp_walk
    rw [show ((i:Int)+1)=((i+1:Nat):Int) from rfl]
    exact ⟨plainId_quiet MeetsSeq3.plain_eq_loop _,codeAny_builtin MeetsSeq3.entry_eq_loop (by
     rw [Around.under_plainId MeetsSeq3.plain_eq_loop _]
     exact ih (i+1) (by exact Om.k426 hk lx ly) lx ly prog w A R _ ⟨hl,hb,h⟩)⟩
   ·rw [if_neg he] at h
    rw [show (xs[i]==ys[i])=false by simpa using he]
    generalize hRC:richCompare=RC
    wp_walk using AutoSeq1.wpAny_loadPart' hl,AutoSeq1.wpAny_loadPart' hb
    rw [e1,e2]
    subst hRC
    refine wpAny_bind (PyProof.Rows.lt_int (a:=xs[i]) (b:=ys[i]) ?_)
    wp_walk
    exact h
  ·have e2:vs.toArray[((i:Nat):Int).toNat]? = none:=by simp; omega
   rw [e1,e2]
   wp_walk using AutoSeq1.wpAny_loadPart' hl,AutoSeq1.wpAny_loadPart' hb
   rw [ends i h1 h2 (.inr (by omega))] at h
   show R (.ok (.ret (.bool (decide (us.toArray.size<vs.toArray.size))))) _
   rw [QAg,QAg,zx,zy]
   exact h
theorem ZjB (l b:Addr) (us vs:List Value) (n n2:Nat) (dd dd2:Option Addr) (sl sl2:Array (Option Value)) (xs ys:List Int) (hx:IntsAre us xs) (hy:IntsAre vs ys) :
  Meets (Builtin.«list.__lt__» ⟨[.ref l,.ref b],[]⟩)
   (fun _ R s=>s.heap.get? l=some { cls:=.type "list",dict:=dd,data:=.seq us.toArray n,slots:=sl }/\s.heap.get? b=some { cls:=.type "list",dict:=dd2,data:=.seq vs.toArray n2,slots:=sl2 } /\
    R (.ok (.ret (.bool (HT.lexLt xs ys)))) s):=by
 intro prog w A R s h
 obtain ⟨hp,g,d,tk,os⟩:=s
 obtain ⟨hl,hb,h⟩:=h
 have f3:=AutoSeq1.sub_list_list
 wp_walk using AutoSeq1.wpAny_loadPart' hl,AutoSeq1.wpAny_loadPart' hb
 exact ⟨plainId_quiet MeetsSeq3.plain_eq_loop _,codeAny_builtin MeetsSeq3.entry_eq_loop (by
  rw [Around.under_plainId MeetsSeq3.plain_eq_loop _]
  exact ZjA l b us vs n n2 dd dd2 sl sl2 xs ys hx hy _ 0 rfl (QAh _) (QAh _) prog w A R _ ⟨hl,hb,h⟩)⟩
theorem Zis {prog:Program} {w:World} {A:Around} {s:Shared} {E:Value->Shared->Prop} {Q:Value->Shared->Prop} {l b:Addr} {us vs:List Value} {xs ys:List Int} (hl:s.heap.IsList l us.toArray) (hb:s.heap.IsList b vs.toArray) (hx:IntsAre us xs) (hy:IntsAre vs ys) (hu:A.units<cLine) (h:Q (.bool (HT.lexLt xs ys)) s) :
  wpAny (model prog w) A (richCompare .Lt (.ref l) (.ref b)) Q E s:=by
 obtain ⟨⟨cls,dd,data,sl⟩,ho,hc,n,hd⟩:=id hl
 obtain ⟨⟨cls2,dd2,data2,sl2⟩,ho2,hc2,n2,hd2⟩:=id hb
 simp only at hc hd hc2 hd2
 subst hc hd hc2 hd2
 exact richCompare_meets_room (op:=.Lt) ⟨_,ho,rfl⟩ ⟨_,ho2,rfl⟩ F.slot_list_lt F.entry_list_lt (F.args_list_lt_2 _ _) (ZjB l b us vs n n2 dd dd2 sl sl2 xs ys hx hy)
  ⟨ho,ho2,show Value.bool (HT.lexLt xs ys)≠Value.notImplemented/\Q (.bool (HT.lexLt xs ys)) s from ⟨(fun x=>nomatch x),h⟩⟩ hu
end L2
namespace L2
open PySem PySem.Spec PyProof.Rows PySem.W SeqAt
noncomputable def Y7 (e r:Nat->Bool):Nat->Nat->Bool
 | 0,_=>false
 | k+1,i=>if e i then Y7 e r k (i+1) else r i
noncomputable def ZjW (A:Around) (s:Shared) (u v:Value) (b:Bool):Prop:=∀ (prog:Program) (w:World) (E:Value->Shared->Prop) (Q:Value->Shared->Prop),Q (.bool b) s->wpAny (model prog w) A (richCompare .Lt u v) Q E s
theorem Zhg (l b:Addr) (us vs:List Value) (n n2:Nat) (dd dd2:Option Addr) (sl sl2:Array (Option Value)) (e r:Nat->Bool) (hlen:us.length=vs.length) :
  Meets (Builtin.«tuple.__lt__» ⟨[.ref l,.ref b],[]⟩)
   (fun A R s=>s.heap.get? l=some { cls:=.type "tuple",dict:=dd,data:=.seq us.toArray n,slots:=sl }/\s.heap.get? b=some { cls:=.type "tuple",dict:=dd2,data:=.seq vs.toArray n2,slots:=sl2 } /\
    (∀ i u v,us[i]? = some u->vs[i]? = some v->EqAt A.in1 s u v (e i)/\(e i=false->ZjW A.in1 s u v (r i))) /\
    R (.ok (.ret (.bool (Y7 e r us.length 0)))) s) :=
 .of_wp fun prog w A R s h=>by
  obtain ⟨hp,g,d,tk,os⟩:=s
  obtain ⟨hl,hb,hc,h⟩:=h
  have f2:=AutoSeq1.sub_tuple_tuple
  have hZ:(us.zip vs).length=us.length:=by simp; exact Om.k425 hlen
  wp_walk using AutoSeq1.wpAny_loadPart' hl,AutoSeq1.wpAny_loadPart' hb,wpAny_forIn_list _ (fun rest b s'=>b.1=none/\s'=⟨hp,g,d,tk,os⟩/\∃ i,rest=(us.zip vs).drop i /\
   R (.ok (.ret (.bool (Y7 e r (us.length - i) i)))) ⟨hp,g,d,tk,os⟩) _
  case turn =>
   rintro ⟨y,x⟩ rest b s' ⟨hb',rfl,i,hz,hR⟩
   have hlt:i<(us.zip vs).length:=by
    rcases QCq i (us.zip vs).length with z | z
    ·exact z
    ·rw [QCe z] at hz; cases hz
   have hix:i<us.length:=hZ ▸ hlt
   have hiy:i<vs.length:=by exact Om.a2 ‹_› ‹_›
   rw [QBl hlt] at hz
   injection hz with hyx hrest
   have hy:y=us[i]:=by
    have q:=congrArg Prod.fst hyx
    rw [List.getElem_zip] at q
    exact q
   have hx:x=vs[i]:=by
    have q:=congrArg Prod.snd hyx
    rw [List.getElem_zip] at q
    exact q
   subst hy hx
   obtain ⟨c1,c2⟩:=hc i _ _ (QAb hix) (QAb hiy)
   rw [show us.length - i=(us.length - (i+1))+1 by exact Om.k424 hlen hZ hlt] at hR
   unfold Y7 at hR
   refine wpAny_bind (c1 prog w _ _ ?_)
   cases he:e i with
   | true =>
    rw [he] at hR
    wp_walk
    exact ⟨rfl,rfl,i+1,hrest,hR⟩
   | false =>
    rw [he] at hR
    generalize hRC:richCompare=RC
    wp_walk
    subst hRC
    refine c2 he prog w _ _ ?_
    wp_walk
    exact ⟨_,rfl,hR⟩
  case fin =>
   rintro ⟨b1,b2⟩ s' ⟨hb',rfl,i,hz,hR⟩
   simp only at hb'
   subst hb'
   have hge:us.length<=i:=by
    rcases QCq i (us.zip vs).length with z | z
    ·rw [QBl z] at hz; cases hz
    ·exact hZ ▸ z
   rw [show us.length - i=0 by exact Om.k423 hlen hZ hge] at hR
   wp_walk
   refine ⟨_,rfl,?_⟩
   simpa [Builtin.Tuple.tupleCompareSizes,Y7,hlen] using hR
  case h =>
   exact ⟨rfl,rfl,0,by simp,by simpa using h⟩
theorem Zjz {A:Around} {s:Shared} {l b:Addr} {us vs:List Value} {e r:Nat->Bool} (hl:s.heap.IsTuple l us.toArray) (hb:s.heap.IsTuple b vs.toArray) (hlen:us.length=vs.length) (hu:A.units<cLine)
  (hc:∀ i u v,us[i]? = some u->vs[i]? = some v->EqAt A.in1 s u v (e i)/\(e i=false->ZjW A.in1 s u v (r i))):ZjW A s (.ref l) (.ref b) (Y7 e r us.length 0):=fun prog w E Q h=>by
 obtain ⟨⟨cls,dd,data,sl⟩,ho,hc1,n,hd⟩:=id hl
 obtain ⟨⟨cls2,dd2,data2,sl2⟩,ho2,hc2,n2,hd2⟩:=id hb
 simp only at hc1 hd hc2 hd2
 subst hc1 hd hc2 hd2
 exact richCompare_meets_room (op:=.Lt) ⟨_,ho,rfl⟩ ⟨_,ho2,rfl⟩ F.slot_tuple_lt F.entry_tuple_lt (F.args_tuple_lt_2 _ _) (Zhg l b us vs n n2 dd dd2 sl sl2 e r hlen)
  ⟨ho,ho2,hc,show Value.bool (Y7 e r us.length 0)≠Value.notImplemented/\Q (.bool (Y7 e r us.length 0)) s from ⟨(fun x=>nomatch x),h⟩⟩ hu
end L2
namespace HT
open PySem PyProof.Rows
section
variable {prog:Program} {w:World} {A:Around} {E:Value->Shared->Prop} {s:Shared}
end
end HT
namespace L2
open PySem PySem.Spec PyProof.Rows
theorem ZcU:∀ {ps:List Addr} {us:List Value},Vals (ps.map V.ref) us->us=ps.map Value.ref
 | [],_,.nil=>rfl
 | p::ps,_,.cons r t=>by
  cases r
  rw [ZcU t]
  rfl
end L2
namespace L2
open PySem PySem.Spec PyProof.Rows PySem.W SeqAt
inductive LtD (K:PySem.W.Frag) (H:Hp):Nat->V->V->Bool->Prop where
 | nums {d:Nat} (x y:Int):LtD K H d (.int x) (.int y) (decide (x<y))
 | lsts {d:Nat} {a c:Addr} {xs ys:List Int} (h1:SqL K H a (xs.map V.int)) (h2:SqL K H c (ys.map V.int)):LtD K H d (.ref a) (.ref c) (HT.lexLt xs ys)
 | tups {d:Nat} {a c:Addr} {us vs:List V} {e r:Nat->Bool} (h1:SqT K H a us) (h2:SqT K H c vs) (hl:us.length=vs.length) (he:∀ i u v,us[i]? = some u->vs[i]? = some v->EqD K H d u v (e i)) (hr:∀ i u v,us[i]? = some u->vs[i]? = some v->e i=false->LtD K H d u v (r i)):LtD K H (d+1) (.ref a) (.ref c) (Y7 e r us.length 0)
section
variable {X:Cx} {pins:List (Addr × Obj)} {σ:St} {H:Hp} {s:Shared}
theorem LtD.at (I:Inv X pins σ H s) {d:Nat} {x y:V} {b:Bool} (h:LtD X.K H d x y b):∀ {A:Around} {u v:Value},RelV x u->RelV y v->A.units+d<cLine->ZjW A s u v b:=by
 induction h with
 | nums x y =>
  intro A u v rx ry hu prog w E Q q
  obtain ⟨t1,rfl⟩:=rx
  obtain ⟨t2,rfl⟩:=ry
  exact PyProof.Rows.lt_int (a:=x) (b:=y) q
 | @lsts d a c xs ys h1 h2 =>
  intro A u v rx ry hu prog w E Q q
  cases rx
  cases ry
  obtain ⟨its,r1,p1,_⟩:=I.list h1
  obtain ⟨its2,r2,p2,_⟩:=I.list h2
  exact Zis p1.isList p2.isList (Y5 r1) (Y5 r2) (by exact Om.k422 hu) q
 | @tups d a c us vs e r h1 h2 hl he hr ih =>
  intro A u v rx ry hu
  cases rx
  cases ry
  obtain ⟨its,r1,p1,_⟩:=I.tuple h1
  obtain ⟨its2,r2,p2,_⟩:=I.tuple h2
  have e1:=r1.length
  have e2:=r2.length
  rw [e1]
  refine Zjz p1 p2 (by exact Om.k421 hl e1 e2) (by exact Om.k420 hu) fun i u v hu1 hv1=>?_
  have l1:i<us.length:=by rw [e1]; exact (List.getElem?_eq_some_iff.mp hu1).1
  have l2:i<vs.length:=by rw [e2]; exact (List.getElem?_eq_some_iff.mp hv1).1
  obtain ⟨u',g1,ru⟩:=r1.get (QAb l1)
  obtain ⟨v',g2,rv⟩:=r2.get (QAb l2)
  have z1:u'=u:=by
   rw [hu1] at g1
   cases g1
   rfl
  have z2:v'=v:=by
   rw [hv1] at g2
   cases g2
   rfl
  subst z1
  subst z2
  exact ⟨((he i _ _ (QAb l1) (QAb l2)).all I (A:=A.in1) ru rv (by show A.units+1+d<cLine; exact Om.k419 hu)).1,fun q=>ih i _ _ (QAb l1) (QAb l2) q ru rv (by show A.units+1+d<cLine; exact Om.k419 hu)⟩
end
noncomputable def Zl7 (K:PySem.W.Frag) (d:Nat):List V->Hp->VK->Prop:=fun xs H Q=>∃ (l:Addr) (ps:List Addr) (lt:Nat->Nat->Bool) (p:Addr),xs=[.ref l]/\SqL K H l (ps.map V.ref)/\0<ps.length/\(∀ i j p q,ps[i]? = some p->ps[j]? = some q->LtD K H d (.ref p) (.ref q) (lt i j))/\ps[argBest lt (ps.length - 1)]? = some p/\Q (.ref p) H
theorem Ze6 {X:Cx} {d:Nat} (K:PySem.W.Frag) (hc:X.calm=true) (hu:X.A.units+1+d<cLine) (hK:X.K=K:=by rfl):Jh X (.builtin "min") (Zl7 K d):=by
 subst hK
 intro pins s σ H xs us Q I r h
 obtain ⟨l,ps,lt,p,rfl,hl,hn,hlt,hp,q⟩:=h
 obtain ⟨u,rfl,ru⟩:=J5 r
 cases ru
 obtain ⟨its,rv,pl,_⟩:=I.list hl
 have hits:=ZcU rv
 subst hits
 have ext:∀ {h':Heap} {tk:Nat},(∀ b o,s.heap.get? b=some o->h'.get? b=some o)->Inv X pins σ H { s with heap:=h',toks:=tk }:=fun k=>I.kept k
 refine ZgM (lt:=lt) (I.ok.hd hc) pl.isList (by simp; exact hn) (fun i j u v h' tk Q E k hu1 hv1 z=>?_) (fun v h' tk hv k=>?_)
 ·have hu2:(ps.map Value.ref)[i]? = some u:=by simpa using hu1
  have hv2:(ps.map Value.ref)[j]? = some v:=by simpa using hv1
  rw [QAe] at hu2 hv2
  cases h1:ps[i]? with
  | none=>rw [h1] at hu2; cases hu2
  | some a =>
   cases h2:ps[j]? with
   | none=>rw [h2] at hv2; cases hv2
   | some c =>
    rw [h1] at hu2
    rw [h2] at hv2
    cases hu2
    cases hv2
    exact (hlt i j a c h1 h2).at (ext k) (A:=X.A.in1) rfl rfl (by show X.A.units+1+d<cLine; exact hu) _ _ _ _ z
 ·have hv2:(ps.map Value.ref)[argBest lt (ps.length - 1)]? = some v:=by simpa using hv
  rw [QAe,hp] at hv2
  cases hv2
  exact ⟨.ref p,H,ext k,rfl,q⟩
end L2
namespace L2
open PySem PySem.Spec PyProof.Rows
section
variable {X:Cx} {es:List Expr} {te:TE} {t:TA} {p:Pos} {e:Expr}
end
end L2
namespace L2
open PySem PySem.Spec PyProof.Rows
section
variable {X:Cx} {es:List Expr} {t:TA} {p:Pos}
end
end L2
namespace My
open PySem L2
noncomputable def top (i:Nat):Stmt:=PySem.Challenge.pw_latinclose_k55_all_own_renamings.main.body.getD i (.Pass ⟨0,0,0,0⟩)
noncomputable abbrev Zag:Stmt:=top 1
noncomputable abbrev Ym:Stmt:=top 2
noncomputable abbrev JF:Stmt:=top 3
noncomputable abbrev ZP:Stmt:=top 4
noncomputable abbrev Y9:Stmt:=top 5
noncomputable abbrev JX:Stmt:=top 6
noncomputable abbrev Jd:Stmt:=top 7
noncomputable abbrev Yz:Stmt:=top 9
noncomputable abbrev JD:Stmt:=top 10
noncomputable abbrev Je:Stmt:=top 12
noncomputable abbrev Zae:Stmt:=top 13
noncomputable abbrev Jc:Stmt:=top 14
noncomputable abbrev JG:Stmt:=top 15
noncomputable abbrev YE:Stmt:=top 16
noncomputable abbrev YD:Stmt:=top 17
noncomputable abbrev ZdR:Stmt:=top 19
noncomputable abbrev Zah:Stmt:=top 21
noncomputable abbrev Jm:Stmt:=top 22
noncomputable abbrev ZaF:Stmt:=top 23
noncomputable abbrev YK:Stmt:=top 24
noncomputable abbrev Zbw:Stmt:=top 25
noncomputable abbrev ZaQ:Stmt:=top 26
noncomputable abbrev JY:Stmt:=top 27
noncomputable abbrev ZdQ:Stmt:=top 28
noncomputable abbrev JE:Stmt:=top 29
noncomputable abbrev Jf:Stmt:=top 30
noncomputable abbrev JC:Stmt:=top 31
noncomputable abbrev Zaf:Stmt:=top 32
noncomputable abbrev JB:Stmt:=top 33
noncomputable abbrev ZbX:Stmt:=top 34
structure Blt (mg:Str->Option Value):Prop where
 len:mg "len" = none
 range:mg "range" = none
 tuple:mg "tuple" = none
 list:mg "list" = none
 isin:mg "isinstance" = none
 int:mg "int" = none
 bool:mg "bool" = none
 zip:mg "zip" = none
 max:mg "max" = none
 sorted:mg "sorted" = none
 enum:mg "enumerate" = none
 min:mg "min" = none
end My
namespace My
open PySem L2
theorem Ze7:bootBuiltins "range" = some (Value.type "range"):=by decide +kernel
inductive Zg9 (K:PySem.W.Frag) (vs:List V) (H:Hp) (Q:VK):Prop where
 | mk (a:Addr) (ns:List Int) (k:Nat) (_:vs=[.ref a,.int k]) (_:SqL K H a (ns.map V.int)) (_:∀ z:Int,Q (.int z) H):Zg9 K vs H Q
noncomputable def Zbd (K:PySem.W.Frag):Sp:=fun vs H Q _=>Zg9 K vs H Q
section
variable {P:Program} {w:World} {K:PySem.W.Frag} {mg:Str->Option Value} {base:Heap}
theorem Zkn:Zs ["_law_script","_law_k"] ["_law_script","_law_k"] (Ze Zah):=⟨rfl,rfl,rfl,by decide +kernel,rfl,by decide +kernel,by decide +kernel⟩
theorem ZgL {f:Addr} {fd:FuncData} (F:Fun K "_law_cell_at" "_law_cell_at" Zah f fd) (T:Blt mg):FnOk P w K mg base CX0 1 f fd ["_law_script","_law_k"] (Zbd K):=by
 refine F.ok Zkn (fun vs H Q E h=>?_) (fun cdv A outer s H vs Q E hr h=>?_)
 ·obtain ⟨a,ns,k,rfl,_⟩:=h
  rfl
 ·obtain ⟨a,ns,k,rfl,hS,q⟩:=h
  refine ⟨_,Zd (Jg (ZR Zj3 (pv 1) (Zu (ZJ K) rfl T.len PySem.boot_len (Za (pv 0) Zc)) (Yp _)) (Zg (Zt (ZQ YG (pv 0) (pv 1) (fun _ _=>rfl)))) Yf)
   (Zg (Zt Zi)),?_⟩
  refine ⟨_,rfl,_,rfl,a,_,rfl,.inl hS,_,_,rfl,rfl,_,rfl,?_⟩
  refine Zal (fun hc=>?_) (fun _=>q 0)
  have hlt:k<ns.length:=by
   have:=of_decide_eq_true hc
   rw [QAa] at this
   omega
  have hat:(ns.map V.int)[k]? = some (.int ns[k]):=by rw [QAe]; simp [hlt]
  exact ⟨_,rfl,_,rfl,a,_,_,_,rfl,rfl,hS,YU hat,q _⟩
theorem scNumber:Zs ["_law_script","_law_k","_law_cell","_law_number_here","_law_turn_here","_law_mixed"] ["_law_script","_law_k"] (Ze Jm):=⟨rfl,rfl,rfl,by decide +kernel,rfl,by decide +kernel,by decide +kernel⟩
inductive ZfD (H:Hp) (a:Addr) (k:Nat) (z:Int) (i:Nat) (σ:St) (H2:Hp):Prop where
 | mk (num:Int) (kk mx:Option V) (_:σ=[some (.ref a),some (.int (k:Int)),some (.int z),some (.int num),kk,mx]) (_:H2=H):ZfD H a k z i σ H2
theorem Zc5 {f fC:Addr} {fd dC:FuncData} (F:Fun K "_law_number" "_law_number" Jm f fd) (T:Blt mg) (DC:Dfn K mg "_law_cell_at" Zah ["_law_script","_law_k"] fC dC):FnOk P w K mg base CX0 2 f fd ["_law_script","_law_k"] (Zbd K):=by
 have GC:FnOk P w K mg base CX0 1 fC dC ["_law_script","_law_k"] (Zbd K):=ZgL DC.F T
 refine F.ok scNumber (fun vs H Q E h=>?_) (fun cdv A outer s H vs Q E hr h=>?_)
 ·obtain ⟨a,ns,k,rfl,_⟩:=h
  rfl
 ·obtain ⟨a,ns,k,rfl,hS,q⟩:=h
  refine' ⟨_,Zd ?s0 (Zd (Zj (i:=3) scNumber.nd rfl (Or.inl rfl) Zi) (Zd (Yu PassesOwn.never rfl (Zp rfl T.range (Za Zi Zc)) (ZG (i:=4) scNumber.nd rfl (Or.inl rfl)) (Zd ?b0 (Zg ?b1))) (Zd ?s3 (Zg ?s4)))),?rd⟩
  case s0=>exact Zj (i:=2) scNumber.nd rfl (Or.inl rfl) (Zm GC hr rfl DC.m DC.F.kp DC.b .nil ZO (Za (pv 0) (Za (pv 1) Zc)))
  case b0=>exact Zj (i:=5) scNumber.nd rfl (Or.inl rfl) (Zk Yh (Zk J4 (Zk Yv (Zk Yv (Zk Yv (Zk Yh (pv 2) (Zk Zcb Zi Zi)) (Zk J4 Zi (pv 1))) (Zk J4 Zi (pv 4))) Zi) Zi) Zi)
  case b1=>exact Zj (i:=3) scNumber.nd rfl (Or.inl rfl) (Zk Yv (Zk J4 (pv 3) (Zk Zcb Zi Zi)) (Zk Yh (Zk J4 (Zk Yh (Zk J4 (Zk Yv (Zk Yv (Zk YF (pv 5) Zi) (pv 1)) Zi) Zi) Zi) Zi) (Zk Zcb Zi Zi)))
  case s3=>exact Jg (ZR ZaG (Zk Yh (Zm GC hr rfl DC.m DC.F.kp DC.b .nil ZO (Za (pv 0) (Za Zi Zc))) Zi) Zi (Yp _)) (Zg (Zt (pv 3))) Yf
  case s4=>exact Zt (Zk Yv (pv 2) (Zk J4 (Zk J4 (Zk Zcb Zi Zi) (pv 3)) (Zx ZhF rfl T.int Zk4 (Za (ZgI Zj3 (pv 2) (Zk Zcb Zi Zi) (Yp _)) Zc))))
  case rd =>
   refine ⟨_,rfl,_,rfl,a,ns,k,rfl,hS,fun z=>?_⟩
   refine ⟨2,rfl,by decide,by decide,?_⟩
   refine Yk (lo:=0) (n:=2) (ZfD H a k z) ⟨0,none,none,rfl,rfl⟩ ?_ ?_
   ·rintro i σ H2 hi ⟨num,kk,mx,rfl,rfl⟩
    rw [QBx]
    refine ⟨_,rfl,_,_,rfl,rfl,⟨by decide,by decide,by decide⟩,_,_,rfl,rfl,(by show (0:Int)<10 ^ 24; decide),_,rfl,_,_,rfl,rfl,.inl ⟨by decide,by decide⟩,_,_,rfl,rfl,_,rfl,_,_,rfl,rfl,.inl ⟨by decide,by decide⟩,_,_,rfl,rfl,_,_,rfl,rfl,_,_,rfl,rfl,.inr ⟨by decide,by decide⟩,_,_,rfl,rfl,(by show (0:Int)<2305843009213693951; decide),?_⟩
    refine ⟨_,rfl,_,_,rfl,rfl,⟨by decide,by decide,by decide⟩,_,_,rfl,rfl,.inr ⟨by decide,by decide⟩,_,rfl,_,_,rfl,rfl,⟨by decide,by decide⟩,_,rfl,_,_,rfl,rfl,_,_,rfl,rfl,_,_,rfl,rfl,.inr ⟨by decide,by decide⟩,_,_,rfl,rfl,(by show (0:Int)<2305843009213693921; decide),_,_,rfl,rfl,.inr ⟨by decide,by decide⟩,_,_,rfl,rfl,⟨by decide,by decide,by decide⟩,_,_,rfl,rfl,(by show (0:Int)<10 ^ 18; decide),_,_,rfl,rfl,?_⟩
    exact ⟨_,_,_,rfl,rfl⟩
   ·rintro σ H2 ⟨num,kk,mx,rfl,rfl⟩
    refine ⟨_,rfl,a,ns,1,rfl,hS,fun z1=>⟨_,_,rfl,rfl,(by show (0:Int)<2; decide),rfl,_,rfl,Zal (fun _=>⟨_,rfl,q num⟩) (fun _=>?_)⟩⟩
    refine ⟨_,rfl,_,_,rfl,rfl,⟨by decide,by decide,by decide⟩,_,rfl,_,_,rfl,rfl,.inl ⟨by decide,by decide⟩,_,rfl,_,_,rfl,rfl,⟨by decide,by decide,by decide⟩,_,_,rfl,rfl,.inr ⟨_,rfl,_,_,rfl,rfl,.inr ?_,_,_,rfl,rfl,q _⟩⟩
    split <;> decide
end
end My
namespace My
open PySem L2
theorem Zdj {α β:Type} (f:α->β):∀ (l:List α) (k:Nat),(l.map f).eraseIdx k=(l.eraseIdx k).map f
 | [],_=>rfl
 | _::_,0=>rfl
 | x::l,k+1=>by rw [QAr,List.eraseIdx_cons_succ,List.eraseIdx_cons_succ,QAr,Zdj f l k]
theorem Zb7:∀ (l:List Int) (k:Nat) (h:k<l.length),([l[k]]++l.eraseIdx k).Perm l
 | x::l,0,_=>List.Perm.refl _
 | x::l,k+1,h=>by
  have ih:=Zb7 l k (by simpa using h)
  show ([l[k]'(by simpa using h)]++(x::l.eraseIdx k)).Perm (x::l)
  exact (List.Perm.swap x _ _).trans (ih.cons x)
theorem ZhX (n:Nat):rng n=(ZU n).map V.int:=by
 unfold rng ZU
 rw [QBb]
 rfl
structure Turn (n:Nat) (r:List Int):Prop where
 len:r.length=n
 nd:r.Nodup
 rg:∀ x∈r,0<=x/\x<(n:Int)
theorem Turn.of_perm {n:Nat} {r:List Int} (h:r.Perm (ZU n)):Turn n r:=⟨by rw [h.length_eq,Yg],h.nodup_iff.mpr (J0 n),fun x hx=>mem_rngI.mp (h.mem_iff.mp hx)⟩
inductive Zg5 (vs:List V) (H:Hp) (Q:VK):Prop where
 | mk (n:Nat) (z:Int) (_:vs=[.int (n:Int),.int z]) (_:n<=8) (_:∀ (t:Addr) (H':Hp) (r:List Int),Same H H'->H t=none->H' t=some (.tup (r.map V.int))->Turn n r->Q (.ref t) H'):Zg5 vs H Q
noncomputable def ZhP:Sp:=fun vs H Q _=>Zg5 vs H Q
noncomputable def Zj8 (H:Hp) (n:Nat) (lp lf:Addr) (m:Nat) (σ:St) (H2:Hp):Prop :=
 ∃ (num:Int) (pool found:List Int),σ=[some (.int (n:Int)),some (.int num),some (.ref lp),some (.ref lf)]/\Same H H2/\H2 lp=some (.lst (pool.map V.int))/\H2 lf=some (.lst (found.map V.int))/\(found++pool).Perm (ZU n)/\m=pool.length
section
variable {P:Program} {w:World} {K:PySem.W.Frag} {mg:Str->Option Value} {base:Heap}
theorem scTurn:Zs ["_law_n","_law_number_here","_law_pool","_law_found"] ["_law_n","_law_number_here"] (Ze ZaF):=⟨rfl,rfl,rfl,by decide +kernel,rfl,by decide +kernel,by decide +kernel⟩
theorem Zjm {f:Addr} {fd:FuncData} (F:Fun K "_law_turn" "_law_turn" ZaF f fd) (T:Blt mg):FnOk P w K mg base CX0 1 f fd ["_law_n","_law_number_here"] ZhP:=by
 refine F.ok scTurn (fun vs H Q E h=>?_) (fun cdv A outer s H vs Q E hr h=>?_)
 ·obtain ⟨_,_,rfl,_⟩:=h
  rfl
 ·obtain ⟨n,z,rfl,h8,q⟩:=h
  have hu:((A.deeper (PyProof.Rows.envOfC "_law_turn" (Ze ZaF) s.heap.objs.size f cdv))).units<cLine:=by have:=hr.un; omega
  refine' ⟨_,Zd ?s0 (Zd (Zj (i:=3) scTurn.nd rfl (Or.inl rfl) (Yc Zc)) (Zd (Zb5 PassesOwn.never ?c (Zd ?b0 (Zg ?b1))) (Zg ?r))),?rd⟩
  case s0=>exact Zj (i:=2) scTurn.nd rfl (Or.inl rfl) (Zx (Zgk rfl) rfl T.list Zec (Za (Zx ZbA rfl T.range Ze7 (Za (pv 0) Zc)) Zc))
  case c=>exact ZR (ZkD hu K) (pv 2) (Yc Zc) (Yp _)
  case b0=>exact YA (Jj PySem.F.plainAttrs_list PySem.F.slot_list_append PySem.F.type_list_append Yt (pv 3) (Za (Jj PySem.F.plainAttrs_list PySem.F.slot_list_pop PySem.F.type_list_pop Zik (pv 2) (Za (Zk Yh (pv 1) (Zu (ZJ K) rfl T.len PySem.boot_len (Za (pv 2) Zc))) Zc)) Zc))
  case b1=>exact Zj (i:=1) scTurn.nd rfl (Or.inl rfl) (Zk YF (pv 1) (Zk Yv (Zu (ZJ K) rfl T.len PySem.boot_len (Za (pv 2) Zc)) Zi))
  case r=>exact Zt (Zx (ZB K) rfl T.tuple ZX (Za (pv 3) Zc))
  case rd =>
   refine ⟨_,rfl,n,rfl,fun lr hlr=>⟨lr,n,rfl,Zb,by exact Om.b1 ‹_› rfl,fun lp hlp=>⟨QAh _,fun lf hlf=>?_⟩⟩⟩
   rw [ZhX] at hlf ⊢
   have s0:Same H (upd H lr (.rng 0 (n:Int))):=Same.new hlr
   have s1:Same (upd H lr (.rng 0 (n:Int))) (upd (upd H lr (.rng 0 (n:Int))) lp (.lst ((ZU n).map V.int))):=Same.new hlp
   have s2:Same (upd (upd H lr (.rng 0 (n:Int))) lp (.lst ((ZU n).map V.int))) (upd (upd (upd H lr (.rng 0 (n:Int))) lp (.lst ((ZU n).map V.int))) lf (.lst [])):=Same.new hlf
   have fp:H lp=none:=s0.free hlp
   have ff:H lf=none:=(s0.trans s1).free hlf
   have hne:lp≠lf:=fun e=>by rw [<- e,Zb] at hlf; cases hlf
   refine ⟨Zj8 H n lp lf,⟨_,z,ZU n,[],rfl,s0.trans (s1.trans s2),s2 _ _ Zb,Zb,List.Perm.refl _,rfl⟩,?_⟩
   rintro m σ H2 ⟨num,pool,found,rfl,sH,hp,hf,hpm,rfl⟩
   have hlen:found.length+pool.length=n:=by rw [<- QAn,hpm.length_eq,Yg]
   refine ⟨_,rfl,QAh _,fun le hle=>⟨lp,le,pool.map V.int,[],rfl,rfl,SqL.of ((Same.new hle) _ _ hp),SqL.of Zb,.inl ⟨ZM pool,rfl⟩,_,rfl,?_⟩⟩
   have s3:Same H2 (upd H2 le (.lst [])):=Same.new hle
   have hp3:=s3 _ _ hp
   have hf3:=s3 _ _ hf
   have sH3:=sH.trans s3
   generalize upd H2 le (.lst [])=H3 at hp3 hf3 sH3 ⊢
   cases pool with
   | nil =>
    refine ZaE ⟨_,rfl,lf,_,rfl,.inl ⟨SqL.of hf3,fun t ht=>?_⟩⟩
    rw [QBh] at hpm
    exact q t _ found (sH3.trans (Same.new ht)) (sH3.free ht) Zb (Turn.of_perm hpm)
   | cons x pool =>
    have hb:(if true=true then !Jq ((x::pool).map V.int) [] else Jq ((x::pool).map V.int) [])=true:=by rw [if_pos rfl,ZiJ]; rfl
    rw [hb]
    refine Zbn ⟨fun σ' H'=>∃ m',m'<(x::pool).length/\Zj8 H n lp lf m' σ' H',fun _ _ z=>z,?_⟩
    have hpos:0<(x::pool).length:=Nat.succ_pos _
    generalize x::pool=pl at hp3 hpm hlen hpos ⊢
    have hml:(pl.map V.int).length=pl.length:=QAa _
    have hp1:(0:Int)<(pl.length:Int):=by exact Om.k418 hpos hml
    obtain ⟨i,hi,hil⟩:∃ i:Nat,num % (pl.length:Int)=(i:Int)/\i<pl.length:=by
     have e1:=QCx num (show (pl.length:Int)≠0 by exact Om.k417 hpos hml)
     have e2:=QEa num hp1
     exact ⟨(num % (pl.length:Int)).toNat,by exact Om.z1 ‹_›,by exact Om.k416 h8 hlen hpos hml e2⟩
    have hsi:seqIndex? (i:Int) (pl.map V.int).length=some i:=by
     have:=PySem.StrLaws.seqIndex_nonneg (i:=(i:Int)) (n:=(pl.map V.int).length) (by exact Om.c6) (by rw [hml]; exact Om.c5 ‹_›)
     simpa using this
    refine ⟨_,rfl,.inl ⟨rfl,_,SqL.of hf3⟩,_,rfl,.inl ⟨rfl,_,SqL.of hp3⟩,_,rfl,_,rfl,lp,_,rfl,.inl (SqL.of hp3),_,_,rfl,rfl,by rw [hml]; exact hp1,lp,_,(i:Int),i,.int pl[i],rfl,?_,hp3,by exact Om.k415 ,by exact Om.k414 h8 hlen hpos hml hil,hsi,by rw [QAe,QAb hil]; rfl,?_⟩
    ·show [V.int (num % ((pl.map V.int).length:Int))]=_
     rw [hml,hi]
    have hf4:(upd H3 lp (.lst ((pl.map V.int).eraseIdx i))) lf=some (.lst (found.map V.int)):=by rw [Zf (Ne.symm hne)]; exact hf3
    refine ⟨lf,_,_,rfl,rfl,hf4,by rw [QAa]; exact Zw (by exact Om.k413 h8 hlen hpos hml),?_⟩
    have hp5:(upd (upd H3 lp (.lst ((pl.map V.int).eraseIdx i))) lf (.lst (found.map V.int++[.int pl[i]]))) lp=some (.lst ((pl.eraseIdx i).map V.int)):=by rw [Zf hne,Zb,Zdj]
    refine ⟨_,rfl,_,rfl,lp,_,rfl,.inl (SqL.of hp5),_,_,rfl,rfl,_,_,rfl,rfl,⟨?_,?_⟩,(pl.eraseIdx i).length,?_,_,pl.eraseIdx i,found++[pl[i]],rfl,fun b u e=>?_,hp5,?_,?_,rfl⟩
    ·show (0:Int)<(((pl.eraseIdx i).map V.int).length:Int)+1
     exact Om.k412 
    ·show (((pl.eraseIdx i).map V.int).length:Int)+1<1073741824
     rw [QAa,List.length_eraseIdx]
     split <;> omega
    ·rw [List.length_eraseIdx,if_pos hil]
     exact Om.k411 hpos hml
    ·rw [Zf (Zh e ff),Zf (Zh e fp)]
     exact sH3 _ _ e
    ·rw [Zb,QAm]
     rfl
    ·rw [QBo]
     exact (List.Perm.append_left found (Zb7 pl i hil)).trans hpm
end
end My
namespace My
open PySem L2
theorem Zad:∀ {a b:List Int},a.Perm b->a.Pairwise (· <= ·)->b.Pairwise (· <= ·)->a=b
 | [],b,p,_,_=>(List.Perm.nil_eq p)
 | x::a,[],p,_,_=>by have:=p.length_eq; cases this
 | x::a,y::b,p,ha,hb=>by
  have hxy:x=y:=by
   have h1:y∈x::a:=p.mem_iff.mpr QAj
   have h2:x∈y::b:=p.mem_iff.mp QAj
   have l1:x<=y:=by
    rcases List.mem_cons.mp h1 with z | z
    ·exact Om.k410 z
    ·exact (List.pairwise_cons.mp ha).1 y z
   have l2:y<=x:=by
    rcases List.mem_cons.mp h2 with z | z
    ·exact Om.k410 z
    ·exact (List.pairwise_cons.mp hb).1 x z
   omega
  subst hxy
  rw [Zad (List.Perm.cons_inv p) (List.pairwise_cons.mp ha).2 (List.pairwise_cons.mp hb).2]
noncomputable def TG (H:Hp) (a:Addr) (R:List (List Int)):Prop:=∃ ps:List Addr,H a=some (.tup (ps.map V.ref))/\Paired (fun p (r:List Int)=>H p=some (.tup (r.map V.int))) ps R
theorem TG.same {c:Addr} {H H1:Hp} {R:List (List Int)} (g:TG H c R) (x:Same H H1):TG H1 c R :=
 let ⟨ps,h,r⟩:=g
 ⟨ps,x _ _ h,Paired.mapP r fun _ _ z=>x _ _ z⟩
theorem TG.at {c:Addr} {H:Hp} {R:List (List Int)} (g:TG H c R) {k:Nat} (hk:k<R.length):∃ xs p,H c=some (.tup xs)/\xs.length=R.length/\atI xs (k:Int)=some (.ref p)/\H p=some (.tup ((R.getD k []).map V.int)):=by
 obtain ⟨ps,h,r⟩:=g
 obtain ⟨p,hp,hH⟩:=Paired.getR r (QAb hk)
 refine ⟨_,p,h,by rw [QAa,r.length],YU (by rw [QAe,hp]; rfl),?_⟩
 rw [hH]
 simp [QAd,QAb hk]
structure Ren (n:Nat) (R:List (List Int)):Prop where
 len:R.length=3
 row:∀ r∈R,Turn n r
theorem Ren.at {n:Nat} {R:List (List Int)} (h:Ren n R) {k:Nat} (hk:k<3):Turn n (R.getD k []):=by
 have hk':k<R.length:=by rw [h.len]; exact hk
 have:R.getD k []=R[k]:=by simp [QAd,QAb hk']
 rw [this]
 exact h.row _ (QAs hk')
theorem YQ {r:List Int} {i:Nat} (h:i<r.length):atI (r.map V.int) (i:Int)=some (.int (r.getD i 0)):=by
 refine YU ?_
 rw [QAe,QAb h]
 simp [QAd,QAb h]
inductive ZbB (K:PySem.W.Frag) (vs:List V) (H:Hp) (Q:VK):Prop where
 | mk (a:Addr) (ns:List Int) (k n:Nat) (_:vs=[.ref a,.int (k:Int),.int (n:Int)]) (_:SqL K H a (ns.map V.int)) (_:n<=8) (_:∀ (t:Addr) (H':Hp) (R:List (List Int)),Same H H'->H t=none->TG H' t R->Ren n R->Q (.ref t) H'):ZbB K vs H Q
noncomputable def ZbV (K:PySem.W.Frag):Sp:=fun vs H Q _=>ZbB K vs H Q
section
variable {P:Program} {w:World} {K:PySem.W.Frag} {mg:Str->Option Value} {base:Heap}
theorem ZfN:Zs ["_law_script","_law_k","_law_n"] ["_law_script","_law_k","_law_n"] (Ze YK):=⟨rfl,rfl,rfl,by decide +kernel,rfl,by decide +kernel,by decide +kernel⟩
inductive ZfC (H:Hp) (a:Addr) (k:Nat) (n:Nat) (l:Addr) (i:Nat) (ys:List V) (σ:St) (H2:Hp):Prop where
 | mk (v:Option V) (qs:List Addr) (R:List (List Int)) (_:σ=[v,some (.int (n:Int)),some (.ref a),some (.int (k:Int))]) (_:ys=qs.map V.ref) (_:Same H H2) (_:H2 l=some (.lst ys)) (_:Paired (fun q (x:List Int)=>H2 q=some (.tup (x.map V.int))) qs R) (_:R.length=i) (_:∀ r∈R,Turn n r):ZfC H a k n l i ys σ H2
theorem ZeD {f fC fN fT:Addr} {fd dC dN dT:FuncData} (F:Fun K "_law_renaming" "_law_renaming" YK f fd) (T:Blt mg) (DC:Dfn K mg "_law_cell_at" Zah ["_law_script","_law_k"] fC dC) (DN:Dfn K mg "_law_number" Jm ["_law_script","_law_k"] fN dN) (DT:Dfn K mg "_law_turn" ZaF ["_law_n","_law_number_here"] fT dT) :
  FnOk P w K mg base CX0 3 f fd ["_law_script","_law_k","_law_n"] (ZbV K):=by
 have GN:FnOk P w K mg base CX0 2 fN dN ["_law_script","_law_k"] (Zbd K):=Zc5 DN.F T DC
 have GT:FnOk P w K mg base CX0 2 fT dT ["_law_n","_law_number_here"] ZhP:=(Zjm DT.F T).mono (by decide)
 refine F.ok ZfN (fun vs H Q E h=>?_) (fun cdv A outer s H vs Q E hr h=>?_)
 ·obtain ⟨_,_,_,_,rfl,_⟩:=h
  rfl
 ·obtain ⟨a,ns,k,n,rfl,hS,h8,q⟩:=h
  refine ⟨_,Zg (Zt (Zx (ZB K) rfl T.tuple ZX (Za (Yr ["_law_j","_law_n","_law_script","_law_k"] [none,some 2,some 0,some 1] rfl rfl (Zp rfl T.range (Za Zi Zc)) (fun _ _ _ _ _=>Yx 0) (fun _ _ _ _ _=>ZA)
   (fun _ _ _ _ _=>Zm GT hr rfl DT.m DT.F.kp DT.b .nil ZO (Za (pv 1) (Za (Zm GN hr rfl DN.m DN.F.kp DN.b .nil ZO (Za (pv 2) (Za (Zk Yv (pv 3) (pv 0)) Zc))) Zc)))) Zc))),?_⟩
  refine ⟨3,rfl,by decide,by decide,fun l hl=>?_⟩
  refine ZZ (ZI (n:=3)) (ZfC H a k n l)
   ⟨none,[],[],rfl,rfl,Same.new hl,Zb,.nil,rfl,fun r h=>by cases h⟩ (fun i ys σ H2 zz0=> by obtain ⟨_,_,_,_,_,_,h2,_,_,_⟩ := zz0; exact ⟨trivial,h2⟩) ?_ ?_
  ·rintro i x ys σ H2 hx ⟨v,qs,R,rfl,rfl,s2,h2,hQ,hRl,hRt⟩
   obtain ⟨hi,rfl⟩:=Z3 hx
   refine ⟨_,rfl,_,rfl,_,rfl,_,rfl,_,_,rfl,rfl,a,ns,k+i,rfl,s2.seq hS,fun z=>?_⟩
   refine ⟨n,z,rfl,h8,fun t H3 r s3 _ ht3 tr=>?_⟩
   have h3:=s3 _ _ h2
   have up:∀ b row,H3 b=some (.tup row)->(upd H3 l (.lst (qs.map V.ref++[.ref t]))) b=some (.tup row):=fun b row e=>by
    rw [Zf (YV e h3 (by intro z; cases z))]
    exact e
   refine ⟨h3,by rw [QAa,hQ.length,hRl]; exact Zw (by exact Om.k409 hRl hi),_,qs++[t],R++[r],rfl,by rw [QAm]; rfl,fun b u e=>?_,Zb,Paired.snoc (Paired.mapP hQ fun _ _ e=>up _ _ (s3 _ _ e)) (up _ _ ht3),by rw [QAn,hRl]; rfl,fun x hx=>?_⟩
   ·rw [Zf (Zh e hl)]
    exact s3 _ _ (s2 _ _ e)
   ·rcases List.mem_append.mp hx with hx | hx
    ·exact hRt x hx
    ·rw [List.mem_singleton.mp hx]
     exact tr
  ·rintro ys σ H2 ⟨v,qs,R,rfl,rfl,s2,h2,hQ,hRl,hRt⟩
   rw [Zr] at hRl
   refine ⟨l,_,rfl,.inl ⟨SqL.of h2,fun t ht=>?_⟩⟩
   exact q t _ R (s2.trans (Same.new ht)) (s2.free ht) ⟨qs,Zb,Paired.mapP hQ fun _ _ z=>(Same.new ht) _ _ z⟩ ⟨hRl,hRt⟩
end
end My
namespace My
noncomputable def cmp (r s:List Int):List Int:=r.map fun x=>s.getD x.toNat 0
noncomputable def inv (r:List Int):List Int:=(List.range r.length).map fun (i:Nat)=>((r.idxOf (i:Int):Nat):Int)
theorem ZH {r:List Int} {i:Nat} (h:i<r.length):r.getD i 0=r[i]:=by rw [QAd,QAb h]; rfl
theorem Zbz {n:Nat} {r s:List Int} (hr:r.length=n) (hs:s.length=n) (h:∀ i,i<n->r.getD i 0=s.getD i 0):r=s:=by
 refine QBp (by exact Om.g2 ‹_› ‹_›) fun i h1 h2=>?_
 rw [<- ZH h1,<- ZH h2]
 exact h i (by exact Om.a2 ‹_› ‹_›)
theorem Turn.val {n:Nat} {r:List Int} (t:Turn n r) {i:Nat} (h:i<n):∃ x:Nat,r.getD i 0=(x:Int)/\x<n:=by
 have hi:i<r.length:=by rw [t.len]; exact h
 have:=t.rg _ (QAs hi)
 rw [<- ZH hi] at this
 exact ⟨(r.getD i 0).toNat,by exact Om.k13 this,by exact Om.k368 h this⟩
theorem Turn.inj {n:Nat} {r:List Int} (t:Turn n r) {i j:Nat} (hi:i<n) (hj:j<n) (e:r.getD i 0=r.getD j 0):i=j:=by
 have hi':i<r.length:=by rw [t.len]; exact hi
 have hj':j<r.length:=by rw [t.len]; exact hj
 rw [ZH hi',ZH hj'] at e
 by_cases h:i=j
 ·exact h
 ·have p:=List.pairwise_iff_getElem.mp (List.nodup_iff_pairwise_ne.mp t.nd)
  rcases Nat.lt_or_gt_of_ne h with z | z
  ·exact absurd e (p i j hi' hj' z)
  ·exact absurd e.symm (p j i hj' hi' z)
theorem Turn.of {n:Nat} {r:List Int} (hl:r.length=n) (hv:∀ i,i<n->∃ x:Nat,r.getD i 0=(x:Int)/\x<n) (hi:∀ i j,i<n->j<n->r.getD i 0=r.getD j 0->i=j):Turn n r:=by
 refine ⟨hl,?_,fun x hx=>?_⟩
 ·refine List.nodup_iff_pairwise_ne.mpr (List.pairwise_iff_getElem.mpr fun i j h1 h2 hij e=>?_)
  rw [<- ZH h1,<- ZH h2] at e
  have:=hi i j (by exact Om.k408 hl h1) (by exact Om.a2 ‹_› ‹_›) e
  exact (Om.k407 hij this).elim
 ·obtain ⟨i,h,e⟩:=QBd hx
  obtain ⟨y,hy,hyn⟩:=hv i (by exact Om.a2 ‹_› ‹_›)
  rw [ZH h,e] at hy
  exact Om.k406 h hy hyn
theorem Jb (r s:List Int):(cmp r s).length=r.length:=QAa _
theorem YS {n:Nat} {r s:List Int} (t:Turn n r) {i:Nat} (h:i<n):(cmp r s).getD i 0=s.getD (r.getD i 0).toNat 0:=by
 have hi:i<r.length:=by rw [t.len]; exact h
 rw [ZH (by rw [Jb]; exact hi),ZH hi]
 exact QBu _
theorem Turn.cmp {n:Nat} {r s:List Int} (t:Turn n r) (u:Turn n s):Turn n (cmp r s):=by
 refine Turn.of (by rw [Jb,t.len]) (fun i h=>?_) fun i j hi hj e=>?_
 ·obtain ⟨x,hx,hxn⟩:=t.val h
  rw [YS t h,hx,QAf]
  exact u.val hxn
 ·obtain ⟨x,hx,hxn⟩:=t.val hi
  obtain ⟨y,hy,hyn⟩:=t.val hj
  rw [YS t hi,YS t hj,hx,hy,QAf,QAf] at e
  have:=u.inj hxn hyn e
  exact t.inj hi hj (by rw [hx,hy,this])
theorem Zbq {n:Nat} {r s u:List Int} (tr:Turn n r) (ts:Turn n s):cmp (cmp r s) u=cmp r (cmp s u):=by
 refine Zbz (n:=n) (by rw [Jb,Jb,tr.len]) (by rw [Jb,tr.len]) fun i h=>?_
 obtain ⟨x,hx,hxn⟩:=tr.val h
 rw [YS (tr.cmp ts) h,YS tr h,YS tr h,hx,QAf,YS ts hxn]
theorem Zas {n i:Nat} (h:i<n):(ZU n).getD i 0=(i:Int):=by
 have hi:i<(ZU n).length:=by rw [Yg]; exact h
 rw [ZH hi]
 simp [ZU]
theorem JN (n:Nat):Turn n (ZU n):=⟨Yg n,J0 n,fun x hx=>mem_rngI.mp hx⟩
theorem Zbp {n:Nat} {r:List Int} (t:Turn n r):cmp r (ZU n)=r:=by
 refine Zbz (n:=n) (by rw [Jb,t.len]) t.len fun i h=>?_
 obtain ⟨x,hx,hxn⟩:=t.val h
 rw [YS t h,hx,QAf,Zas hxn]
theorem Zbc {n:Nat} {r:List Int} (t:Turn n r):cmp (ZU n) r=r:=by
 refine Zbz (n:=n) (by rw [Jb,Yg]) t.len fun i h=>?_
 rw [YS (JN n) h,Zas h,QAf]
theorem Jp (r:List Int):(inv r).length=r.length:=by unfold inv; rw [QAa,QAp]
theorem Jx {n:Nat} {r:List Int} (t:Turn n r) {i:Nat} (h:i<n):(inv r).getD i 0=((r.idxOf (i:Int):Nat):Int):=by
 have hi:i<r.length:=by rw [t.len]; exact h
 rw [ZH (by rw [Jp]; exact hi)]
 simp [inv]
theorem YR {n:Nat} {r:List Int} (t:Turn n r) {i:Nat} (h:i<n):r.idxOf (i:Int)<n/\r.getD (r.idxOf (i:Int)) 0=(i:Int):=by
 have hm:(i:Int)∈r:=Ja t.len t.nd t.rg ⟨by exact Om.c6,by exact Om.c5 ‹_›⟩
 have h1:=List.idxOf_lt_length_of_mem hm
 refine ⟨by rw [<- t.len]; exact h1,?_⟩
 rw [ZH h1]
 exact List.getElem_idxOf h1
theorem Y6 {n:Nat} {r:List Int} (t:Turn n r) {i x:Nat} (h:i<n) (hx:x<n) (e:r.getD i 0=(x:Int)):r.idxOf (x:Int)=i:=by
 obtain ⟨h1,h2⟩:=YR t hx
 exact t.inj h1 h (h2.trans e.symm)
theorem Turn.inv {n:Nat} {r:List Int} (t:Turn n r):Turn n (inv r):=by
 refine Turn.of (by rw [Jp,t.len]) (fun i h=>⟨_,Jx t h,(YR t h).1⟩) fun i j hi hj e=>?_
 rw [Jx t hi,Jx t hj] at e
 have e':r.idxOf (i:Int)=r.idxOf (j:Int):=by exact Om.e1 ‹_›
 have h1:=(YR t hi).2
 rw [e',(YR t hj).2] at h1
 omega
theorem Zd9 {n:Nat} {r:List Int} (t:Turn n r):cmp r (inv r)=ZU n:=by
 refine Zbz (n:=n) (by rw [Jb,t.len]) (Yg n) fun i h=>?_
 obtain ⟨x,hx,hxn⟩:=t.val h
 rw [YS t h,hx,QAf,Jx t hxn,Zas h,Y6 t h hxn hx]
theorem Zd3 {n:Nat} {r:List Int} (t:Turn n r):cmp (inv r) r=ZU n:=by
 refine Zbz (n:=n) (by rw [Jb,Jp,t.len]) (Yg n) fun i h=>?_
 rw [YS t.inv h,Jx t h,QAf,(YR t h).2,Zas h]
theorem ZaZ {n:Nat} {r:List Int} (t:Turn n r):inv (inv r)=r:=by
 refine Zbz (n:=n) (by rw [Jp,Jp,t.len]) t.len fun i h=>?_
 obtain ⟨x,hx,hxn⟩:=t.val h
 rw [Jx t.inv h,hx,Y6 t.inv hxn h]
 rw [Jx t hxn,Y6 t h hxn hx]
noncomputable def Y8 (R S:List (List Int)):List (List Int):=(List.range 3).map fun k=>cmp (R.getD k []) (S.getD k [])
noncomputable def Ji (R:List (List Int)):List (List Int):=R.map inv
noncomputable def Zac (n:Nat):List (List Int):=[ZU n,ZU n,ZU n]
theorem Ren.three {n:Nat} {R:List (List Int)} (h:Ren n R):∃ a b c,R=[a,b,c]/\Turn n a/\Turn n b/\Turn n c:=by
 obtain ⟨hl,hr⟩:=h
 match R,hl,hr with
 | [a,b,c],_,hr=>exact ⟨a,b,c,rfl,hr a (by simp),hr b (by simp),hr c (by simp)⟩
theorem Ren.of3 {n:Nat} {a b c:List Int} (ha:Turn n a) (hb:Turn n b) (hc:Turn n c):Ren n [a,b,c]:=⟨rfl,fun r hr=>by
 rcases List.mem_cons.mp hr with rfl | hr
 ·exact ha
 ·rcases List.mem_cons.mp hr with rfl | hr
  ·exact hb
  ·rw [List.mem_singleton.mp hr]
   exact hc⟩
theorem Zmf (a b c d e f:List Int):Y8 [a,b,c] [d,e,f]=[cmp a d,cmp b e,cmp c f]:=rfl
theorem Zhh (n:Nat):Ren n (Zac n):=Ren.of3 (JN n) (JN n) (JN n)
theorem Ren.beh {n:Nat} {R S:List (List Int)} (hR:Ren n R) (hS:Ren n S):Ren n (Y8 R S):=by
 obtain ⟨a,b,c,rfl,ha,hb,hc⟩:=hR.three
 obtain ⟨d,e,f,rfl,hd,he,hf⟩:=hS.three
 exact Ren.of3 (ha.cmp hd) (hb.cmp he) (hc.cmp hf)
theorem Ren.und {n:Nat} {R:List (List Int)} (hR:Ren n R):Ren n (Ji R):=by
 obtain ⟨a,b,c,rfl,ha,hb,hc⟩:=hR.three
 exact Ren.of3 ha.inv hb.inv hc.inv
theorem ZaD {n:Nat} {R:List (List Int)} (hR:Ren n R):Y8 R (Ji R)=Zac n/\Y8 (Ji R) R=Zac n/\Ji (Ji R)=R/\Y8 R (Zac n)=R/\Y8 (Zac n) R=R:=by
 obtain ⟨a,b,c,rfl,ha,hb,hc⟩:=hR.three
 refine ⟨?_,?_,?_,?_,?_⟩
 ·show [cmp a (inv a),cmp b (inv b),cmp c (inv c)]=_
  rw [Zd9 ha,Zd9 hb,Zd9 hc]; rfl
 ·show [cmp (inv a) a,cmp (inv b) b,cmp (inv c) c]=_
  rw [Zd3 ha,Zd3 hb,Zd3 hc]; rfl
 ·show [inv (inv a),inv (inv b),inv (inv c)]=_
  rw [ZaZ ha,ZaZ hb,ZaZ hc]
 ·show [cmp a (ZU n),cmp b (ZU n),cmp c (ZU n)]=_
  rw [Zbp ha,Zbp hb,Zbp hc]
 ·show [cmp (ZU n) a,cmp (ZU n) b,cmp (ZU n) c]=_
  rw [Zbc ha,Zbc hb,Zbc hc]
theorem Zbt {n:Nat} {R S U:List (List Int)} (hR:Ren n R) (hS:Ren n S) (hU:Ren n U):Y8 (Y8 R S) U=Y8 R (Y8 S U):=by
 obtain ⟨a,b,c,rfl,ha,hb,hc⟩:=hR.three
 obtain ⟨d,e,f,rfl,hd,he,hf⟩:=hS.three
 obtain ⟨g,h,i,rfl,hg,hh,hi⟩:=hU.three
 show [cmp (cmp a d) g,cmp (cmp b e) h,cmp (cmp c f) i]=[cmp a (cmp d g),cmp b (cmp e h),cmp c (cmp f i)]
 rw [Zbq ha hd,Zbq hb he,Zbq hc hf]
end My
namespace My
open PySem L2
noncomputable def Zhb (n:Nat) (v:V):Prop:=v = .non\/∃ x:Nat,v = .int (x:Int)/\x<n
noncomputable def en (B:List (List V)) (i j:Nat):V:=(B.getD i []).getD j .non
structure EG (n:Nat) (B:List (List V)):Prop where
 len:B.length=n
 row:∀ i,i<n->(B.getD i []).length=n
 ent:∀ i j,i<n->j<n->Zhb n (en B i j)
noncomputable def mkB (n:Nat) (f:Nat->Nat->V):List (List V):=(List.range n).map fun i=>(List.range n).map fun j=>f i j
theorem ZaX (n:Nat) (f:Nat->Nat->V):(mkB n f).length=n:=by unfold mkB; rw [QAa,QAp]
theorem ZbL {n:Nat} (f:Nat->Nat->V) {i:Nat} (h:i<n):(mkB n f).getD i []=(List.range n).map fun j=>f i j:=by
 unfold mkB
 rw [QAd,QAe,QBk h]
 rfl
theorem ZkM {n:Nat} (f:Nat->Nat->V) {i j:Nat} (h:i<n) (h':j<n):en (mkB n f) i j=f i j:=by
 unfold en
 rw [ZbL f h,QAd,QAe,QBk h']
 rfl
theorem Zbk {n:Nat} {f g:Nat->Nat->V} (h:∀ i j,i<n->j<n->f i j=g i j):mkB n f=mkB n g:=by
 unfold mkB
 refine QBq fun i hi=>QBq fun j hj=>h i j (List.mem_range.mp hi) (List.mem_range.mp hj)
theorem EG.is {n:Nat} {B:List (List V)} (e:EG n B):B=mkB n (en B):=by
 refine QBp (by rw [ZaX,e.len]) fun i h1 h2=>?_
 have hi:i<n:=by rw [<- e.len]; exact h1
 have e1:B[i]=B.getD i []:=by rw [QAd,QAb h1]; rfl
 have e2:(mkB n (en B))[i]=(mkB n (en B)).getD i []:=by rw [QAd,QAb h2]; rfl
 rw [e1,e2,ZbL _ hi]
 refine QBp (by rw [e.row i hi,QAa,QAp]) fun j h3 h4=>?_
 rw [QBu,QDg]
 unfold en
 rw [QAd (l:=B.getD i []),QAb h3]
 rfl
noncomputable def ZaM (t:List Int):V->V
 | .int x=>.int (t.getD x.toNat 0)
 | v=>v
theorem Zir {n:Nat} {t u:List Int} (ht:Turn n t) {v:V} (h:Zhb n v):ZaM u (ZaM t v)=ZaM (cmp t u) v:=by
 rcases h with rfl | ⟨x,rfl,hx⟩
 ·rfl
 ·show V.int (u.getD (t.getD (x:Int).toNat 0).toNat 0)=V.int ((cmp t u).getD (x:Int).toNat 0)
  rw [QAf,YS ht hx]
theorem Zf7 {n:Nat} {v:V} (h:Zhb n v):ZaM (ZU n) v=v:=by
 rcases h with rfl | ⟨x,rfl,hx⟩
 ·rfl
 ·show V.int ((ZU n).getD (x:Int).toNat 0)=_
  rw [QAf,Zas hx]
noncomputable def ixo (r:List Int) (i:Nat):Nat:=r.idxOf (i:Int)
noncomputable def YO (n:Nat) (B:List (List V)) (R:List (List Int)):List (List V):=mkB n fun i j=>ZaM (R.getD 2 []) (en B (ixo (R.getD 0 []) i) (ixo (R.getD 1 []) j))
theorem ZW {n:Nat} {r:List Int} (t:Turn n r) {i:Nat} (h:i<n):ixo r i<n:=(YR t h).1
theorem ZgQ {n:Nat} {r s:List Int} (t:Turn n r) (u:Turn n s) {i:Nat} (h:i<n):ixo (cmp r s) i=ixo r (ixo s i):=by
 obtain ⟨h1,h2⟩:=YR u h
 obtain ⟨h3,h4⟩:=YR t h1
 refine Y6 (t.cmp u) h3 h ?_
 show (cmp r s).getD (r.idxOf ((s.idxOf (i:Int):Nat):Int)) 0=_
 rw [YS t h3,h4,QAf,h2]
theorem Zdg {n i:Nat} (h:i<n):ixo (ZU n) i=i:=Y6 (JN n) h h (Zas h)
theorem ZaY {n:Nat} {r:List Int} (t:Turn n r) {i:Nat} (h:i<n):(inv r).getD i 0=((ixo r i:Nat):Int):=Jx t h
theorem Zhk {n:Nat} {B:List (List V)} (e:EG n B):YO n B (Zac n)=B:=by
 conv=>rhs; rw [e.is]
 refine Zbk fun i j hi hj=>?_
 show ZaM (ZU n) (en B (ixo (ZU n) i) (ixo (ZU n) j))=_
 rw [Zdg hi,Zdg hj,Zf7 (e.ent i j hi hj)]
theorem ZgF {n:Nat} {B:List (List V)} {R S:List (List Int)} (e:EG n B) (hR:Ren n R) (hS:Ren n S):YO n (YO n B R) S=YO n B (Y8 R S):=by
 obtain ⟨a,b,c,rfl,ha,hb,hc⟩:=hR.three
 obtain ⟨a',b',c',rfl,ha',hb',hc'⟩:=hS.three
 rw [Zmf]
 refine Zbk fun i j hi hj=>?_
 show ZaM c' (en (YO n B [a,b,c]) (ixo a' i) (ixo b' j))=ZaM (cmp c c') (en B (ixo (cmp a a') i) (ixo (cmp b b') j))
 rw [ZgQ ha ha' hi,ZgQ hb hb' hj]
 have h1:=ZW ha' hi
 have h2:=ZW hb' hj
 unfold YO
 rw [ZkM _ h1 h2]
 show ZaM c' (ZaM c (en B (ixo a (ixo a' i)) (ixo b (ixo b' j))))=_
 rw [Zir hc (e.ent _ _ (ZW ha h1) (ZW hb h2))]
theorem Zi8 {n:Nat} {B:List (List V)} {R:List (List Int)} (e:EG n B) (hR:Ren n R):YO n (YO n B R) (Ji R)=B:=by
 rw [ZgF e hR hR.und,(ZaD hR).1,Zhk e]
theorem GridT.at' {c:Addr} {H:Hp} {B:List (List V)} (g:GridT H c B) {k:Nat} (hk:k<B.length):∃ xs p,H c=some (.tup xs)/\xs.length=B.length/\atI xs (k:Int)=some (.ref p)/\H p=some (.tup (B.getD k [])):=by
 obtain ⟨ps,h,r⟩:=g
 obtain ⟨p,hp,hH⟩:=Paired.getR r (QAb hk)
 refine ⟨_,p,h,by rw [QAa,r.length],YU (by rw [QAe,hp]; rfl),?_⟩
 rw [hH]
 simp [QAd,QAb hk]
theorem Zj7 {n:Nat} {B:List (List V)} (e:EG n B) {i j:Nat} (hi:i<n) (hj:j<n):atI (B.getD i []) (j:Int)=some (en B i j):=by
 refine YU ?_
 have:j<(B.getD i []).length:=by rw [e.row i hi]; exact hj
 unfold en
 rw [QAd (l:=B.getD i []),QAb this]
 rfl
end My
namespace My
open PySem L2
theorem YH {α β:Type} (g:α->β) (l:List α):l.filterMap (fun i=>some (g i))=l.map g:=by
 induction l with
 | nil=>rfl
 | cons a l ih=>rw [QDl,QAr,ih]
theorem Yo {α:Type} (l:List α) {i:Nat} (h:i<l.length):l.take (i+1)=l.take i++[l[i]]:=(List.take_append_getElem h).symm
inductive Zfc (vs:List V) (H:Hp) (Q:VK):Prop where
 | mk (n:Nat) (_:vs=[.int (n:Int)]) (_:1<=n) (_:n<=8) (_:∀ t H',Same H H'->TG H' t (Zac n)->Q (.ref t) H'):Zfc vs H Q
noncomputable def Zgw:Sp:=fun vs H Q _=>Zfc vs H Q
inductive Zds (vs:List V) (H:Hp) (Q:VK):Prop where
 | mk (a:Addr) (n:Nat) (R:List (List Int)) (_:vs=[.ref a]) (_:TG H a R) (_:Ren n R) (_:1<=n) (_:n<=8) (_:∀ t H',Same H H'->TG H' t (Ji R)->Q (.ref t) H'):Zds vs H Q
noncomputable def ZbU:Sp:=fun vs H Q _=>Zds vs H Q
inductive Zka (vs:List V) (H:Hp) (Q:VK):Prop where
 | mk (a:Addr) (n:Nat) (r:List Int) (_:vs=[.ref a]) (_:H a=some (.tup (r.map V.int))) (_:Turn n r) (_:n<=8) (_:∀ t H',Same H H'->H t=none->H' t=some (.tup ((inv r).map V.int))->Q (.ref t) H'):Zka vs H Q
noncomputable def Zll:Sp:=fun vs H Q _=>Zka vs H Q
inductive Zfe (vs:List V) (H:Hp) (Q:VK):Prop where
 | mk (v:V) (p:Addr) (n:Nat) (t:List Int) (_:vs=[v,.ref p]) (_:H p=some (.tup (t.map V.int))) (_:Turn n t) (_:Zhb n v) (_:Q (ZaM t v) H):Zfe vs H Q
noncomputable def Zgz:Sp:=fun vs H Q _=>Zfe vs H Q
inductive ZcF (vs:List V) (H:Hp) (Q:VK):Prop where
 | mk (g a:Addr) (n:Nat) (B:List (List V)) (R:List (List Int)) (_:vs=[.ref g,.ref a]) (_:GridT H g B) (_:EG n B) (_:TG H a R) (_:Ren n R) (_:1<=n) (_:n<=8) (_:∀ t H',Same H H'->GridT H' t (YO n B R)->Q (.ref t) H'):ZcF vs H Q
noncomputable def Zar:Sp:=fun vs H Q _=>ZcF vs H Q
section
variable {P:Program} {w:World} {K:PySem.W.Frag} {mg:Str->Option Value} {base:Heap}
theorem scStill:Zs ["n","turn"] ["n"] (Ze Zag):=⟨rfl,rfl,rfl,by decide +kernel,rfl,by decide +kernel,by decide +kernel⟩
theorem Zib {f:Addr} {fd:FuncData} (F:Fun K "still" "still" Zag f fd) (T:Blt mg):FnOk P w K mg base CX0 1 f fd ["n"] Zgw:=by
 refine F.ok scStill (fun vs H Q E h=>?_) (fun cdv A outer s H vs Q E hr h=>?_)
 ·obtain ⟨_,rfl,_⟩:=h
  rfl
 ·obtain ⟨n,rfl,h1,h8,q⟩:=h
  refine' ⟨_,Zd ?s0 (Zg (Zt (J3 (Za (pv 1) (Za (pv 1) (Za (pv 1) Zc)))))),?rd⟩
  case s0=>exact Zj (i:=1) scStill.nd rfl (Or.inl rfl) (Zx (Ze4 rfl) rfl T.tuple ZX (Za (Zx ZbA rfl T.range Ze7 (Za (pv 0) Zc)) Zc))
  case rd =>
   refine ⟨_,rfl,n,rfl,fun lr hlr=>⟨lr,n,rfl,Zb,by exact Om.b1 ‹_› rfl,fun lt hlt=>?_⟩⟩
   refine ⟨_,rfl,_,rfl,_,rfl,(show 3<=sizeLine from Zq (by decide)),fun lp hlp=>?_⟩
   have s0:Same H (upd H lr (.rng 0 (n:Int))):=Same.new hlr
   have s1:Same (upd H lr (.rng 0 (n:Int))) (upd (upd H lr (.rng 0 (n:Int))) lt (.tup (rng n))):=Same.new hlt
   have s2:Same (upd (upd H lr (.rng 0 (n:Int))) lt (.tup (rng n))) (upd (upd (upd H lr (.rng 0 (n:Int))) lt (.tup (rng n))) lp (.tup [.ref lt,.ref lt,.ref lt])):=Same.new hlp
   have ht:(upd (upd (upd H lr (.rng 0 (n:Int))) lt (.tup (rng n))) lp (.tup [.ref lt,.ref lt,.ref lt])) lt=some (.tup ((ZU n).map V.int)):=by
    rw [<- ZhX]
    exact s2 _ _ Zb
   exact q lp _ (s0.trans (s1.trans s2)) ⟨[lt,lt,lt],Zb,.cons ht (.cons ht (.cons ht .nil))⟩
theorem Zlo:Zs ["turn"] ["turn"] (Ze ZP):=⟨rfl,rfl,rfl,by decide +kernel,rfl,by decide +kernel,by decide +kernel⟩
theorem ZcJ {f:Addr} {fd:FuncData} (F:Fun K "turn_undone" "turn_undone" ZP f fd) (T:Blt mg):FnOk P w K mg base CX0 1 f fd ["turn"] Zll:=by
 refine F.ok Zlo (fun vs H Q E h=>?_) (fun cdv A outer s H vs Q E hr h=>?_)
 ·obtain ⟨_,_,_,rfl,_⟩:=h
  rfl
 ·obtain ⟨a,n,r,rfl,ha,tr,h8,q⟩:=h
  refine ⟨_,Zg (Zt (Zx (ZB K) rfl T.tuple ZX (Za (Yr ["number","turn"] [none,some 0] rfl rfl (Zp rfl T.range (Za (Zu (ZJ K) rfl T.len PySem.boot_len (Za (pv 0) Zc)) Zc)) (fun _ _ _ _ _=>Yx 0) (fun _ _ _ _ _=>ZA) (fun _ _ _ _ _=>Zay (pv 1) (Za (pv 0) Zc))) Zc))),?_⟩
  refine ⟨_,rfl,a,_,rfl,.inr (SqT.of ha),_,rfl,by exact Om.c2,by rw [QAa,tr.len]; exact Om.c1 ‹_› rfl,fun l hl=>?_⟩
  rw [QAa,tr.len,QAf]
  refine ZD (fun i=>some (.int ((r.idxOf (i:Int):Nat):Int))) (fun σ=>∃ v,σ=[v,some (.ref a)]) (ZI (n:=n)) (by rw [Zr]; exact Zq (by exact Om.b1 ‹_› rfl)) hl (fun H' sm=>trivial) ⟨none,rfl⟩ ?_ ?_
  ·rintro j x σ H' R' hj ⟨v,rfl⟩ sm kk
   obtain ⟨hjn,rfl⟩:=Z3 hj
   refine ⟨_,rfl,a,r,rfl,sm _ _ ha,_,rfl,_,rfl,sm _ _ ha,Ja tr.len tr.nd tr.rg ⟨by exact Om.c6,by exact Om.c5 ‹_›⟩,?_⟩
   exact kk [some (.int (j:Int)),some (.ref a)] H' ⟨_,rfl⟩ (Same.refl _)
  ·intro H2 s2 h2
   have e0:(List.range (rng n).length).filterMap (fun i:Nat=>some (V.int ((r.idxOf (i:Int):Nat):Int)))=(inv r).map V.int:=by
    rw [YH,Zr]
    unfold inv
    rw [tr.len,QBb]
    rfl
   rw [e0] at h2
   exact ⟨l,_,rfl,.inl ⟨SqL.of h2,fun t ht=>q t _ (s2.trans (Same.new ht)) (s2.free ht) Zb⟩⟩
theorem ZhU:Zs ["renaming"] ["renaming"] (Ze Y9):=⟨rfl,rfl,rfl,by decide +kernel,rfl,by decide +kernel,by decide +kernel⟩
inductive ZfB (H:Hp) (R:List (List Int)) (lz:Addr) (i:Nat) (ys:List V) (σ:St) (H4:Hp):Prop where
 | mk (v0:Option V) (zs:List Addr) (_:σ=[v0]) (_:ys=zs.map V.ref) (_:Same H H4) (_:H4 lz=some (.lst ys)) (_:Paired (fun q (r:List Int)=>H4 q=some (.tup (r.map V.int))) zs ((Ji R).take i)):ZfB H R lz i ys σ H4
theorem Zc4 {f fU:Addr} {fd dU:FuncData} (F:Fun K "undone" "undone" Y9 f fd) (T:Blt mg) (DU:Dfn K mg "turn_undone" ZP ["turn"] fU dU):FnOk P w K mg base CX0 2 f fd ["renaming"] ZbU:=by
 have GU:FnOk P w K mg base CX0 1 fU dU ["turn"] Zll:=ZcJ DU.F T
 refine F.ok ZhU (fun vs H Q E h=>?_) (fun cdv A outer s H vs Q E hr h=>?_)
 ·obtain ⟨_,_,_,rfl,_⟩:=h
  rfl
 ·obtain ⟨a,n,R,rfl,hA,rR,h1,h8,q⟩:=h
  refine ⟨_,Zg (Zt (Zx (ZB K) rfl T.tuple ZX (Za (Yr ["turn"] [none] rfl rfl (ZbJ K (pv 0)) (fun _ _ _ _ _=>Yx 0) (fun _ _ _ _ _=>ZA) (fun _ _ _ _ _=>Zm GU hr rfl DU.m DU.F.kp DU.b .nil ZO (Za (pv 0) Zc))) Zc))),?_⟩
  obtain ⟨ps,hps,hPs⟩:=id hA
  have lp:(ps.map V.ref).length=3:=by rw [QAa,hPs.length,rR.len]
  have lu:(Ji R).length=3:=by unfold Ji; rw [QAa,rR.len]
  refine ⟨_,rfl,a,rfl,⟨_,SqT.of hps⟩,fun lz hlz=>?_⟩
  refine ZZ (ZbH (xs:=ps.map V.ref)) (ZfB H R lz)
   ⟨none,[],rfl,rfl,Same.new hlz,Zb,.nil⟩ (fun i ys σ H4 zz0=> by obtain ⟨_,_,_,_,s4,hl,_⟩ := zz0; exact ⟨SqT.of (s4 _ _ hps),hl⟩) ?_ ?_
  ·rintro i x ys σ H4 hx ⟨v0,zs,rfl,rfl,s4,hl4,hZ⟩
   have hi:i<3:=by rw [<- lp]; exact (List.getElem?_eq_some_iff.mp hx).1
   rw [QAe] at hx
   cases hpi:ps[i]? with
   | none=>rw [hpi] at hx; cases hx
   | some p1 =>
    rw [hpi] at hx
    cases hx
    obtain ⟨r,hr1,hp1⟩:=Paired.getL hPs hpi
    have tr:=rR.row r (QAu hr1)
    refine ⟨_,rfl,p1,n,r,rfl,s4 _ _ hp1,tr,h8,fun z H6 s6 hz0 hz=>?_⟩
    have hl6:=s6 _ _ hl4
    have up:∀ b row,H6 b=some (.tup row)->(upd H6 lz (.lst (zs.map V.ref++[.ref z]))) b=some (.tup row):=fun b row e=>by
     rw [Zf (YV e hl6 (by intro z; cases z))]
     exact e
    have hzl:zs.length=i:=by rw [hZ.length,QAt,lu]; exact Om.m1 ‹_›
    refine ⟨hl6,by rw [QAa,hzl]; exact Zw (by exact Om.k322 hi hzl),_,zs++[z],rfl,by rw [QAm]; rfl,fun b u e=>?_,Zb,?_⟩
    ·rw [Zf (Zh e hlz)]
     exact s6 _ _ (s4 _ _ e)
    ·have eb:(Ji R)[i]? = some (inv r):=by
      unfold Ji
      rw [QAe,hr1]
      rfl
     have hib:i<(Ji R).length:=by exact Om.a1 ‹_› ‹_›
     rw [QAb hib] at eb
     rw [Yo _ hib,Option.some.inj eb]
     exact Paired.snoc (Paired.mapP hZ fun _ _ e=>up _ _ (s6 _ _ e)) (up _ _ hz)
  ·rintro ys σ H4 ⟨v0,zs,rfl,rfl,s4,hl4,hZ⟩
   rw [lp,QBc (by exact Om.l1 ‹_›)] at hZ
   exact ⟨lz,_,rfl,.inl ⟨SqL.of hl4,fun t ht=>q t _ (s4.trans (Same.new ht)) ⟨zs,Zb,Paired.mapP hZ fun _ _ e=>(Same.new ht) _ _ e⟩⟩⟩
theorem Zi6:Zs ["entry","things"] ["entry","things"] (Ze JX):=⟨rfl,rfl,rfl,by decide +kernel,rfl,by decide +kernel,by decide +kernel⟩
theorem Zie {f:Addr} {fd:FuncData} (F:Fun K "entry_renamed" "entry_renamed" JX f fd):FnOk P w K mg base CX0 1 f fd ["entry","things"] Zgz:=by
 refine F.ok Zi6 (fun vs H Q E h=>?_) (fun cdv A outer s H vs Q E hr h=>?_)
 ·obtain ⟨_,_,_,_,rfl,_⟩:=h
  rfl
 ·obtain ⟨v,p,n,t,rfl,hp,ht,he,q⟩:=h
  refine ⟨_,Zg (Zt (ZeA (Zb4 (ZfX (pv 0))) Zb8 (ZQ Zak (pv 1) (pv 0) (fun _ _=>rfl)))),?_⟩
  rcases he with rfl | ⟨x,rfl,hx⟩
  ·exact ⟨_,rfl,_,rfl,Zbn q⟩
  ·refine ⟨_,rfl,_,rfl,ZaE ⟨_,rfl,_,rfl,p,_,_,_,rfl,rfl,SqT.of hp,YQ (i:=x) (by rw [ht.len]; exact hx),?_⟩⟩
   exact q
theorem scRenamed:Zs ["begun","renaming","sources","told","row"] ["begun","renaming"] (Ze Jd):=⟨rfl,rfl,rfl,by decide +kernel,rfl,by decide +kernel,by decide +kernel⟩
inductive ZfA (g:Addr) (a:Addr) (n:Nat) (B:List (List V)) (R:List (List Int)) (su:Addr) (lt:Addr) (H2:Hp) (i:Nat) (σ:St) (H3:Hp):Prop where
 | mk (v4:Option V) (qs:List Addr) (_:σ=[some (.ref g),some (.ref a),some (.ref su),some (.ref lt),v4]) (_:(∀ b o,b≠lt->H2 b=some o->H3 b=some o)) (_:H3 lt=some (.lst (qs.map V.ref))) (_:Paired (fun p row=>H3 p=some (.tup row)/\p≠lt) qs ((YO n B R).take i)):ZfA g a n B R su lt H2 i σ H3
theorem Zf0 {f fU fT fE:Addr} {fd dU dT dE:FuncData} (F:Fun K "renamed" "renamed" Jd f fd) (T:Blt mg) (DU:Dfn K mg "undone" Y9 ["renaming"] fU dU) (DT:Dfn K mg "turn_undone" ZP ["turn"] fT dT) (DE:Dfn K mg "entry_renamed" JX ["entry","things"] fE dE):FnOk P w K mg base CX0 3 f fd ["begun","renaming"] Zar:=by
 have GU:FnOk P w K mg base CX0 2 fU dU ["renaming"] ZbU:=Zc4 DU.F T DT
 have GE:FnOk P w K mg base CX0 2 fE dE ["entry","things"] Zgz:=(Zie DE.F).mono (by decide)
 refine F.ok scRenamed (fun vs H Q E h=>?_) (fun cdv A outer s H vs Q E hr h=>?_)
 ·obtain ⟨_,_,_,_,_,rfl,_⟩:=h
  rfl
 ·obtain ⟨g,a,n,B,R,rfl,hG,eg,hA,rn,h1,h8,q⟩:=h
  refine' ⟨_,Zd ?s0 (Zd (Zj (i:=3) scRenamed.nd rfl (Or.inl rfl) (Yc Zc)) (Zd (Yu PassesOwn.never rfl (Zh3 (ZQ Zak (pv 2) Zi (fun _ _=>rfl))) (ZG (i:=4) scRenamed.nd rfl (Or.inr rfl)) (Zg ?b)) (Zg (Zt (Zx (ZB K) rfl T.tuple ZX (Za (pv 3) Zc)))))),?rd⟩
  case s0=>exact Zj (i:=2) scRenamed.nd rfl (Or.inl rfl) (Zm GU hr rfl DU.m DU.F.kp DU.b .nil ZO (Za (pv 1) Zc))
  case b=>exact YA (Jj PySem.F.plainAttrs_list PySem.F.slot_list_append PySem.F.type_list_append Yt (pv 3) (Za (Zx (ZB K) rfl T.tuple ZX (Za (Yr ["column","begun","row","renaming"] [none,some 0,some 4,some 1] rfl rfl (ZbJ K (ZQ Zak (pv 2) Zi (fun _ _=>rfl))) (fun _ _ _ _ _=>Yx 0) (fun _ _ _ _ _=>ZA) (fun _ _ _ _ _=>Zm GE hr rfl DE.m DE.F.kp DE.b .nil ZO (Za (ZQ (Z9 K) (ZQ (Z9 K) (pv 1) (pv 2) (fun _ _=>rfl)) (pv 0) (fun _ _=>rfl)) (Za (ZQ (Z9 K) (pv 3) Zi (fun _ _=>rfl)) Zc)))) Zc)) Zc))
  case rd =>
   refine ⟨_,rfl,a,n,R,rfl,hA,rn,h1,h8,fun su H1 s1 hS=>⟨QAh _,fun lt hlt=>?_⟩⟩
   have s2:Same H1 (upd H1 lt (.lst [])):=Same.new hlt
   have hlt0:H lt=none:=s1.free hlt
   have hl2:(upd H1 lt (.lst [])) lt=some (.lst []):=Zb
   generalize upd H1 lt (.lst [])=H2 at s2 hl2 ⊢
   have hS2:=hS.same s2
   have rU:=rn.und
   have g0:(Ji R).getD 0 []=inv (R.getD 0 []):=by
    obtain ⟨x,y,z,rfl,_⟩:=rn.three
    rfl
   have g1:(Ji R).getD 1 []=inv (R.getD 1 []):=by
    obtain ⟨x,y,z,rfl,_⟩:=rn.three
    rfl
   obtain ⟨xs0,p0,a1,a2,a3,a4⟩:=hS2.at (k:=0) (by rw [rU.len]; decide)
   obtain ⟨xs1,p1,b1,b2,b3,b4⟩:=hS2.at (k:=1) (by rw [rU.len]; decide)
   rw [g0] at a4
   rw [g1] at b4
   have t0:=rn.at (k:=0) (by decide)
   have t1:=rn.at (k:=1) (by decide)
   have t2:=rn.at (k:=2) (by decide)
   have l0:((inv (R.getD 0 [])).map V.int).length=n:=by rw [QAa,Jp,t0.len]
   have l1:((inv (R.getD 1 [])).map V.int).length=n:=by rw [QAa,Jp,t1.len]
   have hG2:=(hG.same s1).same s2
   have hA2:=(hA.same s1).same s2
   refine ⟨_,rfl,su,_,0,_,rfl,rfl,SqT.of a1,a3,p0,rfl,⟨_,SqT.of a4⟩,?_⟩
   refine ZjI (xs:=(inv (R.getD 0 [])).map V.int) (ZfA g a n B R su lt H2)
    ⟨none,[],rfl,fun _ _ _ e=>e,hl2,.nil⟩ (fun i σ H3 _ zz0=> by obtain ⟨_,_,_,s3,_,_⟩ := zz0; exact SqT.of (s3 _ _ (fun z=>by rw [z,hl2] at a4; cases a4) a4)) ?_ ?_
   ·rintro i x σ H3 hx ⟨v4,qs,rfl,s3,hl3,hQ⟩
    have hi:i<n:=by rw [<- l0]; exact (List.getElem?_eq_some_iff.mp hx).1
    have hx':x = .int ((ixo (R.getD 0 []) i:Nat):Int):=by
     have hil:i<(inv (R.getD 0 [])).length:=by rw [Jp,t0.len]; exact hi
     rw [QAe,QAb hil] at hx
     have:=ZaY t0 hi
     rw [ZH hil] at this
     rw [this] at hx
     cases hx
     rfl
    subst hx'
    have up:∀ {b:Addr} {row:List V},H2 b=some (.tup row)->H3 b=some (.tup row):=fun {b row} e=>s3 _ _ (fun z=>by rw [z,hl2] at e; cases e) e
    have hio:=ZW t0 hi
    obtain ⟨xg,pg,c1,c2,c3,c4⟩:=GridT.at' hG2 (k:=ixo (R.getD 0 []) i) (by rw [eg.len]; exact hio)
    obtain ⟨xr,pr,d1,d2,d3,d4⟩:=hA2.at (k:=2) (by rw [rn.len]; decide)
    refine ⟨_,rfl,.inl ⟨rfl,_,SqL.of hl3⟩,_,rfl,su,_,1,_,rfl,rfl,SqT.of (up b1),b3,p1,rfl,⟨_,SqT.of (up b4)⟩,fun lc hlc=>?_⟩
    refine ZD (fun j=>some (ZaM (R.getD 2 []) (en B (ixo (R.getD 0 []) i) (ixo (R.getD 1 []) j)))) (fun σ=>∃ v,σ=[v,some (.ref g),some (.int ((ixo (R.getD 0 []) i:Nat):Int)),some (.ref a)]) (ZbH (xs:=(inv (R.getD 1 [])).map V.int)) (by rw [l1]; exact Zq (by exact Om.b1 ‹_› rfl)) hlc (fun H' sm=>SqT.of (sm _ _ (up b4))) ⟨none,rfl⟩ ?_ ?_
    ·rintro j y σ H4 R' hj ⟨v,rfl⟩ sm kk
     have hjn:j<n:=by rw [<- l1]; exact (List.getElem?_eq_some_iff.mp hj).1
     have hy':y = .int ((ixo (R.getD 1 []) j:Nat):Int):=by
      have hil:j<(inv (R.getD 1 [])).length:=by rw [Jp,t1.len]; exact hjn
      rw [QAe,QAb hil] at hj
      have:=ZaY t1 hjn
      rw [ZH hil] at this
      rw [this] at hj
      cases hj
      rfl
     subst hy'
     have hjo:=ZW t1 hjn
     refine ⟨_,rfl,_,rfl,g,_,_,_,rfl,rfl,SqT.of (sm _ _ (up c1)),c3,_,rfl,pg,_,_,_,rfl,rfl,SqT.of (sm _ _ (up c4)),Zj7 eg hio hjo,_,rfl,a,_,2,_,rfl,rfl,SqT.of (sm _ _ (up d1)),d3,_,pr,n,R.getD 2 [],rfl,sm _ _ (up d4),t2,eg.ent _ _ hio hjo,?_⟩
     exact kk [some (.int ((ixo (R.getD 1 []) j:Nat):Int)),some (.ref g),some (.int ((ixo (R.getD 0 []) i:Nat):Int)),some (.ref a)] H4 ⟨_,rfl⟩ (Same.refl _)
    ·intro H4 s4 h4
     have er:(List.range ((inv (R.getD 1 [])).map V.int).length).filterMap (fun j:Nat=>some (ZaM (R.getD 2 []) (en B (ixo (R.getD 0 []) i) (ixo (R.getD 1 []) j))))=(YO n B R).getD i []:=by
      rw [YH,l1]
      unfold YO
      rw [ZbL _ hi]
     rw [er] at h4
     have hib:i<(YO n B R).length:=by unfold YO; rw [ZaX]; exact hi
     have eb:(YO n B R)[i]=(YO n B R).getD i []:=by rw [QAd,QAb hib]; rfl
     generalize (YO n B R).getD i []=rw' at h4 eb
     refine ⟨lc,_,rfl,.inl ⟨SqL.of h4,fun tp htp=>?_⟩⟩
     have s5:Same H4 (upd H4 tp (.tup rw')):=Same.new htp
     have hl5:=s5 _ _ (s4 _ _ hl3)
     have htl:tp≠lt:=fun z=>by rw [z,s4 _ _ hl3] at htp; cases htp
     have hql:qs.length=i:=by rw [hQ.length,QAt]; exact Om.m1 ‹_›
     refine ⟨lt,_,_,rfl,rfl,hl5,by rw [QAa,hql]; exact Zw (by exact Om.k405 h1 h8 l0 l1 hi hql),_,qs++[tp],rfl,fun b o hb e=>?_,by rw [Zb,QAm]; rfl,?_⟩
     ·rw [Zf hb]
      exact s5 _ _ (s4 _ _ (s3 _ _ hb e))
     ·rw [Yo _ hib,eb]
      refine Paired.snoc (Paired.mapP hQ fun b row z=>⟨?_,z.2⟩) ⟨?_,htl⟩
      ·rw [Zf z.2]
       exact s5 _ _ (s4 _ _ z.1)
      ·rw [Zf htl,Zb]
   ·rintro σ H3 ⟨v4,qs,rfl,s3,hl3,hQ⟩
    rw [l0,QBc (by unfold YO; rw [ZaX]; exact QAc _)] at hQ
    refine ⟨_,rfl,lt,_,rfl,.inl ⟨SqL.of hl3,fun t ht=>q t _ (fun b o e=>?_) ⟨qs,Zb,Paired.mapP hQ fun _ _ z=>(Same.new ht) _ _ z.1⟩⟩⟩
    exact Same.new ht _ _ (s3 _ _ (Zh e hlt0) (s2 _ _ (s1 _ _ e)))
end
end My
namespace My
open PySem L2
theorem TG.three {H:Hp} {a:Addr} {x y z:List Int} (g:TG H a [x,y,z]):∃ p q r:Addr,H a=some (.tup [.ref p,.ref q,.ref r])/\H p=some (.tup (x.map V.int))/\H q=some (.tup (y.map V.int))/\H r=some (.tup (z.map V.int)):=by
 obtain ⟨ps,h,pr⟩:=g
 cases pr with
 | cons h1 t1 =>
  cases t1 with
  | cons h2 t2 =>
   cases t2 with
   | cons h3 t3 =>
    cases t3
    exact ⟨_,_,_,h,h1,h2,h3⟩
section
variable {P:Program} {w:World} {K:PySem.W.Frag} {mg:Str->Option Value} {base:Heap}
theorem scRenL:Zs ["_law_begun","_law_renaming_here","_law_rows","_law_columns","_law_things_here","_law_n","_law_made","_law_row_here","_law_line","_law_entries"] ["_law_begun","_law_renaming_here"] (Ze Zbw):=⟨rfl,rfl,rfl,by decide +kernel,rfl,by decide +kernel,by decide +kernel⟩
inductive Zfz (g:Addr) (a:Addr) (n:Nat) (B:List (List V)) (r:List Int) (c:List Int) (t:List Int) (p0:Addr) (p1:Addr) (p2:Addr) (lt:Addr) (H2:Hp) (i:Nat) (σ:St) (H3:Hp):Prop where
 | mk (v7 v8 v9:Option V) (qs:List Addr) (_:σ=[some (.ref g),some (.ref a),some (.ref p0),some (.ref p1),some (.ref p2),some (.int (n:Int)),some (.ref lt),v7,v8,v9]) (_:(∀ b o,b≠lt->H2 b=some o->H3 b=some o)) (_:H3 lt=some (.lst (qs.map V.ref))) (_:Paired (fun p row=>H3 p=some (.tup row)/\p≠lt) qs ((YO n B [r,c,t]).take i)):Zfz g a n B r c t p0 p1 p2 lt H2 i σ H3
theorem Zjn {f:Addr} {fd:FuncData} (F:Fun K "_law_renamed" "_law_renamed" Zbw f fd) (T:Blt mg):FnOk P w K mg base CX0 1 f fd ["_law_begun","_law_renaming_here"] Zar:=by
 refine F.ok scRenL (fun vs H Q E h=>?_) (fun cdv A outer s H vs Q E hr h=>?_)
 ·obtain ⟨_,_,_,_,_,rfl,_⟩:=h
  rfl
 ·obtain ⟨g,a,n,B,R,rfl,hG,eg,hA,rn,h1,h8,q⟩:=h
  refine' ⟨_,Zd ?s0 (Zd ?s1 (Zd (Zj (i:=6) scRenL.nd rfl (Or.inl rfl) (Yc Zc)) (Zd (Yu PassesOwn.never rfl (Zp rfl T.range (Za (pv 5) Zc)) (ZG (i:=7) scRenL.nd rfl (Or.inl rfl)) (Zd ?b0 (Zd ?b1 (Zg ?b2)))) (Zg (Zt (Zx (ZB K) rfl T.tuple ZX (Za (pv 6) Zc))))))),?rd⟩
  case s0=>exact ZdX (pv 1) (Zax (n:=3) K rfl (ZV (ZG (i:=2) scRenL.nd rfl (Or.inl rfl)) (ZV (ZG (i:=3) scRenL.nd rfl (Or.inr rfl)) (ZV (ZG (i:=4) scRenL.nd rfl (Or.inr rfl)) JH))))
  case s1=>exact Zj (i:=5) scRenL.nd rfl (Or.inl rfl) (Zu (ZJ K) rfl T.len PySem.boot_len (Za (pv 0) Zc))
  case b0=>exact Zj (i:=8) scRenL.nd rfl (Or.inr rfl) (ZQ Zak (pv 0) (Zay (pv 2) (Za (pv 7) Zc)) (fun _ _=>rfl))
  case b1=>exact Zez (i:=9) ["_law_column","_law_line","_law_columns"] [none,some 8,some 3] scRenL.nd rfl (Or.inl rfl) rfl rfl (Zp rfl T.range (Za (pv 5) Zc)) (fun _ _ _ _ _=>Yx 0) (fun _ _ _ _ _=>ZA) (fun _ _ _ _ _=>ZQ (Z9 K) (pv 1) (Zay (pv 2) (Za (pv 0) Zc)) (fun _ _=>rfl))
  case b2=>exact YA (Jj PySem.F.plainAttrs_list PySem.F.slot_list_append PySem.F.type_list_append Yt (pv 6) (Za (Zx (ZB K) rfl T.tuple ZX (Za (Yr ["_law_thing","_law_things_here"] [none,some 4] rfl rfl (Z2 K (pv 9)) (fun _ _ _ _ _=>Yx 0) (fun _ _ _ _ _=>ZA) (fun _ _ _ _ _=>ZeA (Zb4 (ZfX (pv 0))) Zb8 (ZQ (Z9 K) (pv 1) (pv 0) (fun _ _=>rfl)))) Zc)) Zc))
  case rd =>
   obtain ⟨r,c,t,rfl,t0,t1,t2⟩:=rn.three
   obtain ⟨p0,p1,p2,ha,hp0,hp1,hp2⟩:=hA.three
   obtain ⟨gs,hgs,hGs⟩:=id hG
   have hgl:(gs.map V.ref).length=n:=by rw [QAa,hGs.length,eg.len]
   refine ⟨_,rfl,a,_,rfl,SqT.of ha,rfl,_,_,rfl,_,_,rfl,_,_,rfl,rfl,?_⟩
   refine ⟨_,rfl,g,_,rfl,.inr (SqT.of hgs),?_⟩
   show Jy 5 (V.int ((gs.map V.ref).length:Int)) _ _ _
   rw [hgl]
   refine ⟨QAh _,fun lt hlt=>?_⟩
   have s2:Same H (upd H lt (.lst [])):=Same.new hlt
   have hl2:(upd H lt (.lst [])) lt=some (.lst []):=Zb
   generalize upd H lt (.lst [])=H2 at s2 hl2 ⊢
   refine ⟨_,rfl,(n:Int),rfl,by exact Om.c2,by exact Om.c1 ‹_› rfl,?_⟩
   rw [QAf]
   refine Yk (lo:=0) (n:=n) (Zfz g a n B r c t p0 p1 p2 lt H2)
    ⟨none,none,none,[],rfl,fun _ _ _ e=>e,hl2,.nil⟩ ?_ ?_
   ·rintro i σ H3 hi ⟨v7,v8,v9,qs,rfl,s3,hl3,hQ⟩
    rw [QBx]
    have up:∀ {b:Addr} {row:List V},H b=some (.tup row)->H3 b=some (.tup row):=fun {b row} e=>s3 _ _ (fun z=>by rw [z,hlt] at e; cases e) (s2 _ _ e)
    have hio:=ZW t0 hi
    obtain ⟨xg,pg,c1,c2,c3,c4⟩:=GridT.at' hG (k:=ixo r i) (by rw [eg.len]; exact hio)
    refine ⟨_,rfl,_,rfl,p0,r,rfl,up hp0,_,rfl,(i:Int),rfl,up hp0,Ja t0.len t0.nd t0.rg ⟨by exact Om.c6,by exact Om.c5 ‹_›⟩,g,_,_,_,rfl,rfl,SqT.of (up c1),c3,?_⟩
    refine ⟨_,rfl,(n:Int),rfl,by exact Om.c2,by exact Om.c1 ‹_› rfl,fun le hle=>?_⟩
    rw [QAf]
    refine ZD (fun j=>some (en B (ixo r i) (ixo c j))) (fun σ=>∃ v,σ=[v,some (.ref pg),some (.ref p1)]) (ZI (n:=n)) (by rw [Zr]; exact Zq (by exact Om.b1 ‹_› rfl)) hle (fun H' sm=>trivial) ⟨none,rfl⟩ ?_ ?_
    ·rintro j y σ H4 R' hj ⟨v,rfl⟩ sm kk
     obtain ⟨hjn,rfl⟩:=Z3 hj
     have hjo:=ZW t1 hjn
     refine ⟨_,rfl,_,rfl,p1,c,rfl,sm _ _ (up hp1),_,rfl,(j:Int),rfl,sm _ _ (up hp1),Ja t1.len t1.nd t1.rg ⟨by exact Om.c6,by exact Om.c5 ‹_›⟩,pg,_,_,_,rfl,rfl,SqT.of (sm _ _ (up c4)),Zj7 eg hio hjo,?_⟩
     exact kk [some (.int (j:Int)),some (.ref pg),some (.ref p1)] H4 ⟨_,rfl⟩ (Same.refl _)
    intro H4 s4 hle4
    rw [YH,Zr] at hle4
    refine ⟨_,rfl,.inl ⟨rfl,_,SqL.of (s4 _ _ hl3)⟩,_,rfl,le,rfl,⟨_,SqL.of hle4⟩,fun lc hlc=>?_⟩
    refine ZD (fun j=>some (ZaM t (en B (ixo r i) (ixo c j)))) (fun σ=>∃ v,σ=[v,some (.ref p2)]) (Z1 (xs:=(List.range n).map fun j=>en B (ixo r i) (ixo c j))) (by rw [QAa,QAp]; exact Zq (by exact Om.b1 ‹_› rfl)) hlc (fun H' sm=>SqL.of (sm _ _ hle4)) ⟨none,rfl⟩ ?_ ?_
    ·rintro j y σ H5 R' hj ⟨v,rfl⟩ sm kk
     have hjn:j<n:=by
      have:=(List.getElem?_eq_some_iff.mp hj).1
      rw [QAa,QAp] at this
      exact this
     rw [QAe,QBk hjn] at hj
     cases hj
     have kk':=fun v'=>kk [v',some (.ref p2)] H5 ⟨v',rfl⟩ (Same.refl _)
     show Za6 _ _ _ (en B (ixo r i) (ixo c j)) _ _ _
     rcases eg.ent _ _ hio (ZW t1 hjn) with e | ⟨x,e,hx⟩
     ·rw [e] at kk' ⊢
      exact ⟨_,rfl,_,rfl,Zbn (kk' _)⟩
     ·rw [e] at kk' ⊢
      exact ⟨_,rfl,_,rfl,ZaE ⟨_,rfl,_,rfl,p2,_,_,_,rfl,rfl,SqT.of (sm _ _ (s4 _ _ (up hp2))),YQ (i:=x) (by rw [t2.len]; exact hx),kk' _⟩⟩
    ·intro H5 s5 h5
     have er:(List.range ((List.range n).map fun j=>en B (ixo r i) (ixo c j)).length).filterMap (fun j:Nat=>some (ZaM t (en B (ixo r i) (ixo c j))))=(YO n B [r,c,t]).getD i []:=by
      rw [YH,QAa,QAp]
      unfold YO
      rw [ZbL _ hi]
      rfl
     rw [er] at h5
     have hib:i<(YO n B [r,c,t]).length:=by unfold YO; rw [ZaX]; exact hi
     have eb:(YO n B [r,c,t])[i]=(YO n B [r,c,t]).getD i []:=by rw [QAd,QAb hib]; rfl
     generalize (YO n B [r,c,t]).getD i []=rw' at h5 eb
     refine ⟨lc,_,rfl,.inl ⟨SqL.of h5,fun tp htp=>?_⟩⟩
     have s6:Same H5 (upd H5 tp (.tup rw')):=Same.new htp
     have hl5:=s6 _ _ (s5 _ _ (s4 _ _ hl3))
     have htl:tp≠lt:=fun z=>by rw [z,s5 _ _ (s4 _ _ hl3)] at htp; cases htp
     have hql:qs.length=i:=by rw [hQ.length,QAt]; exact Om.m1 ‹_›
     refine ⟨lt,_,_,rfl,rfl,hl5,by rw [QAa,hql]; exact Zw (by exact Om.k404 h1 h8 hgl hi hql),_,_,_,qs++[tp],rfl,fun b o hb e=>?_,by rw [Zb,QAm]; rfl,?_⟩
     ·rw [Zf hb]
      exact s6 _ _ (s5 _ _ (s4 _ _ (s3 _ _ hb e)))
     ·rw [Yo _ hib,eb]
      refine Paired.snoc (Paired.mapP hQ fun b row z=>⟨?_,z.2⟩) ⟨?_,htl⟩
      ·rw [Zf z.2]
       exact s6 _ _ (s5 _ _ (s4 _ _ z.1))
      ·rw [Zf htl,Zb]
   ·rintro σ H3 ⟨v7,v8,v9,qs,rfl,s3,hl3,hQ⟩
    rw [QBc (by unfold YO; rw [ZaX]; exact QAc _)] at hQ
    refine ⟨_,rfl,lt,_,rfl,.inl ⟨SqL.of hl3,fun tt htt=>q tt _ (fun b o e=>?_) ⟨qs,Zb,Paired.mapP hQ fun _ _ z=>(Same.new htt) _ _ z.1⟩⟩⟩
    exact Same.new htt _ _ (s3 _ _ (Zh e hlt) (s2 _ _ e))
end
end My
namespace My
open PySem L2
structure MG (H:Hp) (a:Addr) (ps:List Addr) (R:List (List Int)):Prop where
 out:H a=some (.lst (ps.map V.ref))
 rows:Paired (fun p (r:List Int)=>H p=some (.lst (r.map V.int))) ps R
 nd:ps.Nodup
 ap:a∉ps
noncomputable def mkI (n:Nat) (f:Nat->Nat->Int):List (List Int):=(List.range n).map fun k=>(List.range n).map fun c=>f k c
theorem ZT (n:Nat) (f:Nat->Nat->Int):(mkI n f).length=n:=by unfold mkI; rw [QAa,QAp]
theorem Zcf {n:Nat} (f:Nat->Nat->Int) {i:Nat} (h:i<n):(mkI n f)[i]? = some ((List.range n).map fun c=>f i c):=by
 unfold mkI
 rw [QAe,QBk h]
 rfl
theorem Zce {f:Nat->Int} {n:Nat} (h:∀ i j,i<n->j<n->f i=f j->i=j):((List.range n).map f).Nodup:=by
 refine List.nodup_iff_pairwise_ne.mpr (List.pairwise_map.mpr ?_)
 refine List.Pairwise.imp_of_mem ?_ (List.nodup_iff_pairwise_ne.mp QCd)
 intro a b ha hb hne e
 exact hne (h a b (List.mem_range.mp ha) (List.mem_range.mp hb) e)
theorem ZkL {n:Nat} {f:Nat->Nat->Int} (hv:∀ k c,k<n->c<n->0<=f k c/\f k c<(n:Int)) (hr:∀ k c d,k<n->c<n->d<n->f k c=f k d->c=d) (hcol:∀ k l c,k<n->l<n->c<n->f k c=f l c->k=l):OkRows n (mkI n f):=by
 refine ⟨by rw [ZT]; exact QAc _,fun r hr'=>?_,fun c hc=>?_⟩
 ·obtain ⟨k,hk,rfl⟩:=List.mem_map.mp hr'
  have hk':=List.mem_range.mp hk
  refine ⟨by rw [QAa,QAp],Zce fun i j hi hj e=>hr k i j hk' hi hj e,fun x hx=>?_⟩
  obtain ⟨c,hc,rfl⟩:=List.mem_map.mp hx
  exact hv k c hk' (List.mem_range.mp hc)
 ·have e:Z6 (mkI n f) c=(List.range n).map fun k=>f k c:=by
   unfold Z6 mkI
   rw [QBb]
   refine QBq fun k _=>?_
   show ((List.range n).map fun c=>f k c).getD c 0=f k c
   rw [QAd,QAe,QBk hc]
   rfl
  rw [e]
  exact Zce fun i j hi hj e=>hcol i j c hi hj hc e
noncomputable def okF (n:Nat) (f:Nat->Nat->Int):Bool:=(List.range n).all fun k=>(List.range n).all fun c=>decide (0<=f k c)&&decide (f k c<(n:Int))&&(List.range n).all fun d=>(!decide (f k c=f k d)||decide (c=d))&&(!decide (f c k=f d k)||decide (c=d))
theorem Zf3 {n:Nat} {f:Nat->Nat->Int} (h:okF n f=true):OkRows n (mkI n f):=by
 unfold okF at h
 rw [QBe] at h
 have g:∀ k c,k<n->c<n->(0<=f k c/\f k c<(n:Int))/\∀ d,d<n->(f k c=f k d->c=d)/\(f c k=f d k->c=d):=fun k c hk hc=>by
  have h1:=h k (List.mem_range.mpr hk)
  rw [QBe] at h1
  have h2:=h1 c (List.mem_range.mpr hc)
  rw [QAw,QAw,decide_eq_true_eq,decide_eq_true_eq,QBe] at h2
  refine ⟨h2.1,fun d hd=>?_⟩
  have h3:=h2.2 d (List.mem_range.mpr hd)
  rw [QAw,QDn,QDn,Bool.not_eq_true',Bool.not_eq_true',decide_eq_false_iff_not,decide_eq_false_iff_not,decide_eq_true_eq] at h3
  exact ⟨fun e=>h3.1.elim (fun z=>absurd e z) id,fun e=>h3.2.elim (fun z=>absurd e z) id⟩
 exact ZkL (fun k c hk hc=>(g k c hk hc).1) (fun k c d hk hc hd e=>((g k c hk hc).2 d hd).1 e) (fun k l c hk hl hc e=>((g c k hc hk).2 l hl).2 e)
noncomputable def fX (i j:Nat):Int:=Builtin.bitXor (i:Int) (j:Int)
noncomputable def fS (i j:Nat):Int:=2*(((i:Int) / 2+(j:Int) / 2) % 3)+((i:Int)+(j:Int)) % 2
noncomputable def fC (n i j:Nat):Int:=((i:Int)+(j:Int)) % (n:Int)
theorem Zly:OkRows 4 (mkI 4 fX):=Zf3 (by decide +kernel)
theorem Zlz:OkRows 6 (mkI 6 fS):=Zf3 (by decide +kernel)
theorem Zid {n:Nat} (h:n<=8):OkRows n (mkI n (fC n)):=by
 refine Zf3 ?_
 have:∀ n,n<9->okF n (fC n)=true:=by decide +kernel
 exact this n (by exact Om.f3 ‹_›)
theorem Y1 {α β:Type} {F G:α->β->Prop}:∀ {as:List α} {bs:List β},Paired F as bs->(∀ a∈as,∀ b,F a b->G a b)->Paired G as bs
 | _,_,.nil,_=>.nil
 | _,_,.cons h t,k=>.cons (k _ QAj _ h) (Y1 t fun a ha b e=>k a (QAo _ ha) b e)
inductive Zha (vs:List V) (H:Hp) (Q:VK):Prop where
 | mk (n:Nat) (z:Int) (_:vs=[.int (n:Int),.int z]) (_:1<=n) (_:n<=8) (_:∀ (l:Addr) (ps:List Addr) (R:List (List Int)) (H':Hp),Same H H'->H l=none->(∀ p∈ps,H p=none)->MG H' l ps R->OkRows n R->R.length=n->Q (.ref l) H'):Zha vs H Q
noncomputable def ZhT:Sp:=fun vs H Q _=>Zha vs H Q
section
variable {P:Program} {w:World} {K:PySem.W.Frag} {mg:Str->Option Value} {base:Heap}
theorem Zko:Zs ["_law_n","_law_number_here"] ["_law_n","_law_number_here"] (Ze ZaQ):=⟨rfl,rfl,rfl,by decide +kernel,rfl,by decide +kernel,by decide +kernel⟩
inductive Zfx (H:Hp) (l:Addr) (i:Nat) (ys:List V) (σ:St) (H2:Hp):Prop where
 | mk (v:Option V) (qs:List Addr) (_:σ=[v]) (_:ys=qs.map V.ref) (_:Same H H2) (_:H2 l=some (.lst ys)) (_:Paired (fun p (r:List Int)=>H2 p=some (.lst (r.map V.int))) qs ((mkI 4 fX).take i)) (_:qs.Nodup) (_:l∉qs) (_:∀ p∈qs,H p=none):Zfx H l i ys σ H2
inductive Zfw (H:Hp) (n:Nat) (l:Addr) (i:Nat) (ys:List V) (σ:St) (H2:Hp):Prop where
 | mk (v:Option V) (qs:List Addr) (_:σ=[v,some (.int (n:Int))]) (_:ys=qs.map V.ref) (_:Same H H2) (_:H2 l=some (.lst ys)) (_:Paired (fun p (r:List Int)=>H2 p=some (.lst (r.map V.int))) qs ((mkI n (fC n)).take i)) (_:qs.Nodup) (_:l∉qs) (_:∀ p∈qs,H p=none):Zfw H n l i ys σ H2
inductive Zfv (H:Hp) (l:Addr) (i:Nat) (ys:List V) (σ:St) (H2:Hp):Prop where
 | mk (v:Option V) (qs:List Addr) (_:σ=[v]) (_:ys=qs.map V.ref) (_:Same H H2) (_:H2 l=some (.lst ys)) (_:Paired (fun p (r:List Int)=>H2 p=some (.lst (r.map V.int))) qs ((mkI 6 fS).take i)) (_:qs.Nodup) (_:l∉qs) (_:∀ p∈qs,H p=none):Zfv H l i ys σ H2
inductive Zfu (H:Hp) (n:Nat) (l:Addr) (i:Nat) (ys:List V) (σ:St) (H2:Hp):Prop where
 | mk (v:Option V) (qs:List Addr) (_:σ=[v,some (.int (n:Int))]) (_:ys=qs.map V.ref) (_:Same H H2) (_:H2 l=some (.lst ys)) (_:Paired (fun p (r:List Int)=>H2 p=some (.lst (r.map V.int))) qs ((mkI n (fC n)).take i)) (_:qs.Nodup) (_:l∉qs) (_:∀ p∈qs,H p=none):Zfu H n l i ys σ H2
inductive Zft (H:Hp) (n:Nat) (l:Addr) (i:Nat) (ys:List V) (σ:St) (H2:Hp):Prop where
 | mk (v:Option V) (qs:List Addr) (_:σ=[v,some (.int (n:Int))]) (_:ys=qs.map V.ref) (_:Same H H2) (_:H2 l=some (.lst ys)) (_:Paired (fun p (r:List Int)=>H2 p=some (.lst (r.map V.int))) qs ((mkI n (fC n)).take i)) (_:qs.Nodup) (_:l∉qs) (_:∀ p∈qs,H p=none):Zft H n l i ys σ H2
theorem Zjq {f:Addr} {fd:FuncData} (F:Fun K "_law_base" "_law_base" ZaQ f fd) (T:Blt mg):FnOk P w K mg base CX0 1 f fd ["_law_n","_law_number_here"] ZhT:=by
 refine F.ok Zko (fun vs H Q E h=>?_) (fun cdv A outer s H vs Q E hr h=>?_)
 ·obtain ⟨_,_,rfl,_⟩:=h
  rfl
 ·obtain ⟨n,z,rfl,h1,h8,q⟩:=h
  refine' ⟨_,Zd (Jg (PW.pt (Zh1 ?c0 (ZgH ?c1))) (Zg (Zt ?r0)) Yf) (Zd (Jg (PW.pt (Zh1 ?d0 (ZgH ?d1))) (Zg (Zt ?r1)) Yf) (Zg (Zt ?r2))),?rd⟩
  case c0=>exact ZR ZaG (pv 0) Zi (Yp _)
  case c1=>exact ZR ZaG (Zk Yh (pv 1) Zi) Zi (Yp _)
  case d0=>exact ZR ZaG (pv 0) Zi (Yp _)
  case d1=>exact ZR ZaG (Zk Yh (pv 1) Zi) Zi (Yp _)
  case r0=>exact ZfW "_law_i" ["_law_i"] [none] rfl rfl (Zp rfl T.range (Za Zi Zc)) (fun _ _ _ _ _=>ZfU 0) (fun _ _ _ _ _=>ZA) (fun _ _ _ _ _=>Yr ["_law_j","_law_i"] [none,some 0] rfl rfl (Zp rfl T.range (Za Zi Zc)) (fun _ _ _ _ _=>Yx 0) (fun _ _ _ _ _=>ZA) (fun _ _ _ _ _=>Zk ZkB (pv 1) (pv 0)))
  case r1=>exact ZfW "_law_i" ["_law_i"] [none] rfl rfl (Zp rfl T.range (Za Zi Zc)) (fun _ _ _ _ _=>ZfU 0) (fun _ _ _ _ _=>ZA) (fun _ _ _ _ _=>Yr ["_law_j","_law_i"] [none,some 0] rfl rfl (Zp rfl T.range (Za Zi Zc)) (fun _ _ _ _ _=>Yx 0) (fun _ _ _ _ _=>ZA) (fun _ _ _ _ _=>Zk Yv (Zk J4 Zi (Zk Yh (Zk Yv (Zk YF (pv 1) Zi) (Zk YF (pv 0) Zi)) Zi)) (Zk Yh (Zk Yv (pv 1) (pv 0)) Zi)))
  case r2=>exact ZfW "_law_i" ["_law_i","_law_n"] [none,some 0] rfl rfl (Zp rfl T.range (Za (pv 0) Zc)) (fun _ _ _ _ _=>ZfU 0) (fun _ _ _ _ _=>ZA) (fun _ _ _ _ _=>Yr ["_law_j","_law_i","_law_n"] [none,some 0,some 1] rfl rfl (Zp rfl T.range (Za (pv 1) Zc)) (fun _ _ _ _ _=>Yx 0) (fun _ _ _ _ _=>ZA) (fun _ _ _ _ _=>Zk Yh (Zk Yv (pv 1) (pv 0)) (pv 2)))
  case rd =>
   refine ⟨_,rfl,rfl,_,rfl,?_⟩
   refine Zal (fun hd=>?_) (fun hd=>ZaE ?_)
   ·have e4:n=4:=by
     have e:=of_decide_eq_true hd
     injection e with e
     omega
    refine ⟨_,rfl,_,_,rfl,rfl,(by show (0:Int)<3; decide),rfl,_,rfl,Zal (fun _=>?_) (fun _=>?_)⟩
    ·subst e4
     refine ⟨4,rfl,by decide,by decide,fun l hl=>?_⟩
     refine ZZ (ZI (n:=4)) (Zfx H l)
      ⟨none,[],rfl,rfl,Same.new hl,Zb,.nil,QBr,by simp,fun p hp=>by cases hp⟩ (fun i ys σ H2 zz0=> by obtain ⟨_,_,_,_,_,h2,_,_,_,_⟩ := zz0; exact ⟨trivial,h2⟩) ?_ ?_
     ·rintro i x ys σ H2 hx ⟨v,qs,rfl,rfl,s2,h2,hQ,hnd,hap,hfr⟩
      obtain ⟨hi,rfl⟩:=Z3 hx
      refine ⟨4,rfl,by decide,by decide,fun l2 hl2=>?_⟩
      skip
      refine ZD (fun j=>some (.int (fX i j))) (fun σ=>∃ v,σ=[v,some (.int (i:Int))]) (ZI (n:=4)) (by rw [Zr]; exact Zq (by decide)) hl2 (fun _ _=>trivial) ⟨none,rfl⟩ ?_ ?_
      ·rintro j y σ H3 R' hj ⟨v,rfl⟩ sm kk
       obtain ⟨hjn,rfl⟩:=Z3 hj
       have kk':=kk [some (.int (j:Int)),some (.int (i:Int))] H3 ⟨_,rfl⟩ (Same.refl _)
       exact ⟨_,rfl,_,rfl,_,_,rfl,rfl,kk'⟩
      ·intro H3 s3 h3
       rw [YH,Zr] at h3
       have h23:=s3 _ _ h2
       have e3:H3 l2=some (.lst (((List.range 4).map fun c=>fX i c).map V.int)):=by rw [h3,QBb]; rfl
       have hne:l2≠l:=fun z=>by rw [z,h2] at hl2; cases hl2
       have hnq:l2∉qs:=fun z=>by
        obtain ⟨k,hk,e⟩:=QBd z
        obtain ⟨r,_,hp⟩:=Paired.getL hQ (QAb hk)
        rw [e,hl2] at hp
        cases hp
       have hql:qs.length=i:=by rw [hQ.length,QAt,ZT]; exact Om.m1 ‹_›
       have hib:i<(mkI 4 fX).length:=by rw [ZT]; exact hi
       have eb:(mkI 4 fX)[i]=(List.range 4).map fun c=>fX i c:=by
        have:=Zcf (n:=4) fX hi
        rw [QAb hib] at this
        exact Option.some.inj this
       have up:∀ b,b≠l->(upd H3 l (.lst (qs.map V.ref++[.ref l2]))) b=H3 b:=fun b hb=>Zf hb
       have ap:∀ p∈qs,p≠l:=fun p hp z=>hap (z ▸ hp)
       refine ⟨h23,by rw [QAa,hql]; exact Zw (by exact Om.k403 hi hql),_,qs++[l2],rfl,by rw [QAm]; rfl,fun b u e=>?_,Zb,?_,List.nodup_append.mpr ⟨hnd,by simp,fun a ha b hb e=>hnq (by rw [<- List.mem_singleton.mp hb,<- e]; exact ha)⟩,?_,?_⟩
       ·rw [up _ (Zh e hl)]
        exact s3 _ _ (s2 _ _ e)
       ·rw [Yo _ hib,eb]
        refine Paired.snoc ?_ (by rw [up _ hne]; exact e3)
        exact Y1 hQ fun p hp r e=>by rw [up _ (ap p hp)]; exact s3 _ _ e
       ·intro z
        rcases List.mem_append.mp z with z | z
        ·exact hap z
        ·exact hne (List.mem_singleton.mp z).symm
       ·intro p hp
        rcases List.mem_append.mp hp with hp | hp
        ·exact hfr p hp
        ·rw [List.mem_singleton.mp hp]
         exact s2.free hl2
     ·rintro ys σ H2 ⟨v,qs,rfl,rfl,s2,h2,hQ,hnd,hap,hfr⟩
      rw [Zr,QBc (by rw [ZT]; exact QAc _)] at hQ
      exact q l qs _ H2 s2 hl hfr ⟨h2,hQ,hnd,hap⟩ (Zly) (ZT _ _)
    ·refine ⟨_,rfl,rfl,_,rfl,?_⟩
     refine Zal (fun hd2=>?_) (fun hd2=>ZaE ?_)
     ·have e:=of_decide_eq_true hd2
      injection e with e
      exact (Om.k402 e4 e).elim
     refine ⟨_,rfl,(n:Int),rfl,by exact Om.c2,by exact Om.c1 ‹_› rfl,fun l hl=>?_⟩
     rw [QAf]
     refine ZZ (ZI (n:=n)) (Zfw H n l)
      ⟨none,[],rfl,rfl,Same.new hl,Zb,.nil,QBr,by simp,fun p hp=>by cases hp⟩ (fun i ys σ H2 zz0=> by obtain ⟨_,_,_,_,_,h2,_,_,_,_⟩ := zz0; exact ⟨trivial,h2⟩) ?_ ?_
     ·rintro i x ys σ H2 hx ⟨v,qs,rfl,rfl,s2,h2,hQ,hnd,hap,hfr⟩
      obtain ⟨hi,rfl⟩:=Z3 hx
      refine ⟨_,rfl,(n:Int),rfl,by exact Om.c2,by exact Om.c1 ‹_› rfl,fun l2 hl2=>?_⟩
      rw [QAf]
      refine ZD (fun j=>some (.int ((fC n) i j))) (fun σ=>∃ v,σ=[v,some (.int (i:Int)),some (.int (n:Int))]) (ZI (n:=n)) (by rw [Zr]; exact Zq (by exact Om.b1 ‹_› rfl)) hl2 (fun _ _=>trivial) ⟨none,rfl⟩ ?_ ?_
      ·rintro j y σ H3 R' hj ⟨v,rfl⟩ sm kk
       obtain ⟨hjn,rfl⟩:=Z3 hj
       have kk':=kk [some (.int (j:Int)),some (.int (i:Int)),some (.int (n:Int))] H3 ⟨_,rfl⟩ (Same.refl _)
       exact ⟨_,rfl,_,rfl,_,_,rfl,rfl,_,rfl,_,_,rfl,rfl,(by show (0:Int)<(n:Int); exact Om.c3 ‹_›),kk'⟩
      ·intro H3 s3 h3
       rw [YH,Zr] at h3
       have h23:=s3 _ _ h2
       have e3:H3 l2=some (.lst (((List.range n).map fun c=>(fC n) i c).map V.int)):=by rw [h3,QBb]; rfl
       have hne:l2≠l:=fun z=>by rw [z,h2] at hl2; cases hl2
       have hnq:l2∉qs:=fun z=>by
        obtain ⟨k,hk,e⟩:=QBd z
        obtain ⟨r,_,hp⟩:=Paired.getL hQ (QAb hk)
        rw [e,hl2] at hp
        cases hp
       have hql:qs.length=i:=by rw [hQ.length,QAt,ZT]; exact Om.m1 ‹_›
       have hib:i<(mkI n (fC n)).length:=by rw [ZT]; exact hi
       have eb:(mkI n (fC n))[i]=(List.range n).map fun c=>(fC n) i c:=by
        have:=Zcf (n:=n) (fC n) hi
        rw [QAb hib] at this
        exact Option.some.inj this
       have up:∀ b,b≠l->(upd H3 l (.lst (qs.map V.ref++[.ref l2]))) b=H3 b:=fun b hb=>Zf hb
       have ap:∀ p∈qs,p≠l:=fun p hp z=>hap (z ▸ hp)
       refine ⟨h23,by rw [QAa,hql]; exact Zw (by exact Om.k401 e4 hi hql),_,qs++[l2],rfl,by rw [QAm]; rfl,fun b u e=>?_,Zb,?_,List.nodup_append.mpr ⟨hnd,by simp,fun a ha b hb e=>hnq (by rw [<- List.mem_singleton.mp hb,<- e]; exact ha)⟩,?_,?_⟩
       ·rw [up _ (Zh e hl)]
        exact s3 _ _ (s2 _ _ e)
       ·rw [Yo _ hib,eb]
        refine Paired.snoc ?_ (by rw [up _ hne]; exact e3)
        exact Y1 hQ fun p hp r e=>by rw [up _ (ap p hp)]; exact s3 _ _ e
       ·intro z
        rcases List.mem_append.mp z with z | z
        ·exact hap z
        ·exact hne (List.mem_singleton.mp z).symm
       ·intro p hp
        rcases List.mem_append.mp hp with hp | hp
        ·exact hfr p hp
        ·rw [List.mem_singleton.mp hp]
         exact s2.free hl2
     ·rintro ys σ H2 ⟨v,qs,rfl,rfl,s2,h2,hQ,hnd,hap,hfr⟩
      rw [Zr,QBc (by rw [ZT]; exact QAc _)] at hQ
      exact q l qs _ H2 s2 hl hfr ⟨h2,hQ,hnd,hap⟩ (Zid h8) (ZT _ _)
   ·refine ⟨_,rfl,rfl,_,rfl,?_⟩
    refine Zal (fun hd2=>?_) (fun hd2=>ZaE ?_)
    ·have e6:n=6:=by
      have e:=of_decide_eq_true hd2
      injection e with e
      omega
     refine ⟨_,rfl,_,_,rfl,rfl,(by show (0:Int)<3; decide),rfl,_,rfl,Zal (fun _=>?_) (fun _=>?_)⟩
     ·subst e6
      refine ⟨6,rfl,by decide,by decide,fun l hl=>?_⟩
      refine ZZ (ZI (n:=6)) (Zfv H l)
       ⟨none,[],rfl,rfl,Same.new hl,Zb,.nil,QBr,by simp,fun p hp=>by cases hp⟩ (fun i ys σ H2 zz0=> by obtain ⟨_,_,_,_,_,h2,_,_,_,_⟩ := zz0; exact ⟨trivial,h2⟩) ?_ ?_
      ·rintro i x ys σ H2 hx ⟨v,qs,rfl,rfl,s2,h2,hQ,hnd,hap,hfr⟩
       obtain ⟨hi,rfl⟩:=Z3 hx
       refine ⟨6,rfl,by decide,by decide,fun l2 hl2=>?_⟩
       skip
       refine ZD (fun j=>some (.int (fS i j))) (fun σ=>∃ v,σ=[v,some (.int (i:Int))]) (ZI (n:=6)) (by rw [Zr]; exact Zq (by decide)) hl2 (fun _ _=>trivial) ⟨none,rfl⟩ ?_ ?_
       ·rintro j y σ H3 R' hj ⟨v,rfl⟩ sm kk
        obtain ⟨hjn,rfl⟩:=Z3 hj
        have kk':=kk [some (.int (j:Int)),some (.int (i:Int))] H3 ⟨_,rfl⟩ (Same.refl _)
        exact ⟨_,rfl,_,_,rfl,rfl,⟨by decide,by decide⟩,_,rfl,_,_,rfl,rfl,⟨by decide,by decide⟩,_,_,rfl,rfl,_,_,rfl,rfl,(by show (0:Int)<3; decide),_,_,rfl,rfl,.inl ⟨by decide,by decide⟩,_,rfl,_,rfl,_,_,rfl,rfl,_,_,rfl,rfl,(by show (0:Int)<2; decide),_,_,rfl,rfl,kk'⟩
       ·intro H3 s3 h3
        rw [YH,Zr] at h3
        have h23:=s3 _ _ h2
        have e3:H3 l2=some (.lst (((List.range 6).map fun c=>fS i c).map V.int)):=by rw [h3,QBb]; rfl
        have hne:l2≠l:=fun z=>by rw [z,h2] at hl2; cases hl2
        have hnq:l2∉qs:=fun z=>by
         obtain ⟨k,hk,e⟩:=QBd z
         obtain ⟨r,_,hp⟩:=Paired.getL hQ (QAb hk)
         rw [e,hl2] at hp
         cases hp
        have hql:qs.length=i:=by rw [hQ.length,QAt,ZT]; exact Om.m1 ‹_›
        have hib:i<(mkI 6 fS).length:=by rw [ZT]; exact hi
        have eb:(mkI 6 fS)[i]=(List.range 6).map fun c=>fS i c:=by
         have:=Zcf (n:=6) fS hi
         rw [QAb hib] at this
         exact Option.some.inj this
        have up:∀ b,b≠l->(upd H3 l (.lst (qs.map V.ref++[.ref l2]))) b=H3 b:=fun b hb=>Zf hb
        have ap:∀ p∈qs,p≠l:=fun p hp z=>hap (z ▸ hp)
        refine ⟨h23,by rw [QAa,hql]; exact Zw (by exact Om.k400 hi hql),_,qs++[l2],rfl,by rw [QAm]; rfl,fun b u e=>?_,Zb,?_,List.nodup_append.mpr ⟨hnd,by simp,fun a ha b hb e=>hnq (by rw [<- List.mem_singleton.mp hb,<- e]; exact ha)⟩,?_,?_⟩
        ·rw [up _ (Zh e hl)]
         exact s3 _ _ (s2 _ _ e)
        ·rw [Yo _ hib,eb]
         refine Paired.snoc ?_ (by rw [up _ hne]; exact e3)
         exact Y1 hQ fun p hp r e=>by rw [up _ (ap p hp)]; exact s3 _ _ e
        ·intro z
         rcases List.mem_append.mp z with z | z
         ·exact hap z
         ·exact hne (List.mem_singleton.mp z).symm
        ·intro p hp
         rcases List.mem_append.mp hp with hp | hp
         ·exact hfr p hp
         ·rw [List.mem_singleton.mp hp]
          exact s2.free hl2
      ·rintro ys σ H2 ⟨v,qs,rfl,rfl,s2,h2,hQ,hnd,hap,hfr⟩
       rw [Zr,QBc (by rw [ZT]; exact QAc _)] at hQ
       exact q l qs _ H2 s2 hl hfr ⟨h2,hQ,hnd,hap⟩ (Zlz) (ZT _ _)
     ·refine ⟨_,rfl,(n:Int),rfl,by exact Om.c2,by exact Om.c1 ‹_› rfl,fun l hl=>?_⟩
      rw [QAf]
      refine ZZ (ZI (n:=n)) (Zfu H n l)
       ⟨none,[],rfl,rfl,Same.new hl,Zb,.nil,QBr,by simp,fun p hp=>by cases hp⟩ (fun i ys σ H2 zz0=> by obtain ⟨_,_,_,_,_,h2,_,_,_,_⟩ := zz0; exact ⟨trivial,h2⟩) ?_ ?_
      ·rintro i x ys σ H2 hx ⟨v,qs,rfl,rfl,s2,h2,hQ,hnd,hap,hfr⟩
       obtain ⟨hi,rfl⟩:=Z3 hx
       refine ⟨_,rfl,(n:Int),rfl,by exact Om.c2,by exact Om.c1 ‹_› rfl,fun l2 hl2=>?_⟩
       rw [QAf]
       refine ZD (fun j=>some (.int ((fC n) i j))) (fun σ=>∃ v,σ=[v,some (.int (i:Int)),some (.int (n:Int))]) (ZI (n:=n)) (by rw [Zr]; exact Zq (by exact Om.b1 ‹_› rfl)) hl2 (fun _ _=>trivial) ⟨none,rfl⟩ ?_ ?_
       ·rintro j y σ H3 R' hj ⟨v,rfl⟩ sm kk
        obtain ⟨hjn,rfl⟩:=Z3 hj
        have kk':=kk [some (.int (j:Int)),some (.int (i:Int)),some (.int (n:Int))] H3 ⟨_,rfl⟩ (Same.refl _)
        exact ⟨_,rfl,_,rfl,_,_,rfl,rfl,_,rfl,_,_,rfl,rfl,(by show (0:Int)<(n:Int); exact Om.c3 ‹_›),kk'⟩
       ·intro H3 s3 h3
        rw [YH,Zr] at h3
        have h23:=s3 _ _ h2
        have e3:H3 l2=some (.lst (((List.range n).map fun c=>(fC n) i c).map V.int)):=by rw [h3,QBb]; rfl
        have hne:l2≠l:=fun z=>by rw [z,h2] at hl2; cases hl2
        have hnq:l2∉qs:=fun z=>by
         obtain ⟨k,hk,e⟩:=QBd z
         obtain ⟨r,_,hp⟩:=Paired.getL hQ (QAb hk)
         rw [e,hl2] at hp
         cases hp
        have hql:qs.length=i:=by rw [hQ.length,QAt,ZT]; exact Om.m1 ‹_›
        have hib:i<(mkI n (fC n)).length:=by rw [ZT]; exact hi
        have eb:(mkI n (fC n))[i]=(List.range n).map fun c=>(fC n) i c:=by
         have:=Zcf (n:=n) (fC n) hi
         rw [QAb hib] at this
         exact Option.some.inj this
        have up:∀ b,b≠l->(upd H3 l (.lst (qs.map V.ref++[.ref l2]))) b=H3 b:=fun b hb=>Zf hb
        have ap:∀ p∈qs,p≠l:=fun p hp z=>hap (z ▸ hp)
        refine ⟨h23,by rw [QAa,hql]; exact Zw (by exact Om.k399 e6 hi hql),_,qs++[l2],rfl,by rw [QAm]; rfl,fun b u e=>?_,Zb,?_,List.nodup_append.mpr ⟨hnd,by simp,fun a ha b hb e=>hnq (by rw [<- List.mem_singleton.mp hb,<- e]; exact ha)⟩,?_,?_⟩
        ·rw [up _ (Zh e hl)]
         exact s3 _ _ (s2 _ _ e)
        ·rw [Yo _ hib,eb]
         refine Paired.snoc ?_ (by rw [up _ hne]; exact e3)
         exact Y1 hQ fun p hp r e=>by rw [up _ (ap p hp)]; exact s3 _ _ e
        ·intro z
         rcases List.mem_append.mp z with z | z
         ·exact hap z
         ·exact hne (List.mem_singleton.mp z).symm
        ·intro p hp
         rcases List.mem_append.mp hp with hp | hp
         ·exact hfr p hp
         ·rw [List.mem_singleton.mp hp]
          exact s2.free hl2
      ·rintro ys σ H2 ⟨v,qs,rfl,rfl,s2,h2,hQ,hnd,hap,hfr⟩
       rw [Zr,QBc (by rw [ZT]; exact QAc _)] at hQ
       exact q l qs _ H2 s2 hl hfr ⟨h2,hQ,hnd,hap⟩ (Zid h8) (ZT _ _)
    ·refine ⟨_,rfl,(n:Int),rfl,by exact Om.c2,by exact Om.c1 ‹_› rfl,fun l hl=>?_⟩
     rw [QAf]
     refine ZZ (ZI (n:=n)) (Zft H n l)
      ⟨none,[],rfl,rfl,Same.new hl,Zb,.nil,QBr,by simp,fun p hp=>by cases hp⟩ (fun i ys σ H2 zz0=> by obtain ⟨_,_,_,_,_,h2,_,_,_,_⟩ := zz0; exact ⟨trivial,h2⟩) ?_ ?_
     ·rintro i x ys σ H2 hx ⟨v,qs,rfl,rfl,s2,h2,hQ,hnd,hap,hfr⟩
      obtain ⟨hi,rfl⟩:=Z3 hx
      refine ⟨_,rfl,(n:Int),rfl,by exact Om.c2,by exact Om.c1 ‹_› rfl,fun l2 hl2=>?_⟩
      rw [QAf]
      refine ZD (fun j=>some (.int ((fC n) i j))) (fun σ=>∃ v,σ=[v,some (.int (i:Int)),some (.int (n:Int))]) (ZI (n:=n)) (by rw [Zr]; exact Zq (by exact Om.b1 ‹_› rfl)) hl2 (fun _ _=>trivial) ⟨none,rfl⟩ ?_ ?_
      ·rintro j y σ H3 R' hj ⟨v,rfl⟩ sm kk
       obtain ⟨hjn,rfl⟩:=Z3 hj
       have kk':=kk [some (.int (j:Int)),some (.int (i:Int)),some (.int (n:Int))] H3 ⟨_,rfl⟩ (Same.refl _)
       exact ⟨_,rfl,_,rfl,_,_,rfl,rfl,_,rfl,_,_,rfl,rfl,(by show (0:Int)<(n:Int); exact Om.c3 ‹_›),kk'⟩
      ·intro H3 s3 h3
       rw [YH,Zr] at h3
       have h23:=s3 _ _ h2
       have e3:H3 l2=some (.lst (((List.range n).map fun c=>(fC n) i c).map V.int)):=by rw [h3,QBb]; rfl
       have hne:l2≠l:=fun z=>by rw [z,h2] at hl2; cases hl2
       have hnq:l2∉qs:=fun z=>by
        obtain ⟨k,hk,e⟩:=QBd z
        obtain ⟨r,_,hp⟩:=Paired.getL hQ (QAb hk)
        rw [e,hl2] at hp
        cases hp
       have hql:qs.length=i:=by rw [hQ.length,QAt,ZT]; exact Om.m1 ‹_›
       have hib:i<(mkI n (fC n)).length:=by rw [ZT]; exact hi
       have eb:(mkI n (fC n))[i]=(List.range n).map fun c=>(fC n) i c:=by
        have:=Zcf (n:=n) (fC n) hi
        rw [QAb hib] at this
        exact Option.some.inj this
       have up:∀ b,b≠l->(upd H3 l (.lst (qs.map V.ref++[.ref l2]))) b=H3 b:=fun b hb=>Zf hb
       have ap:∀ p∈qs,p≠l:=fun p hp z=>hap (z ▸ hp)
       refine ⟨h23,by rw [QAa,hql]; exact Zw (by exact Om.k398 h1 h8 hi hql),_,qs++[l2],rfl,by rw [QAm]; rfl,fun b u e=>?_,Zb,?_,List.nodup_append.mpr ⟨hnd,by simp,fun a ha b hb e=>hnq (by rw [<- List.mem_singleton.mp hb,<- e]; exact ha)⟩,?_,?_⟩
       ·rw [up _ (Zh e hl)]
        exact s3 _ _ (s2 _ _ e)
       ·rw [Yo _ hib,eb]
        refine Paired.snoc ?_ (by rw [up _ hne]; exact e3)
        exact Y1 hQ fun p hp r e=>by rw [up _ (ap p hp)]; exact s3 _ _ e
       ·intro z
        rcases List.mem_append.mp z with z | z
        ·exact hap z
        ·exact hne (List.mem_singleton.mp z).symm
       ·intro p hp
        rcases List.mem_append.mp hp with hp | hp
        ·exact hfr p hp
        ·rw [List.mem_singleton.mp hp]
         exact s2.free hl2
     ·rintro ys σ H2 ⟨v,qs,rfl,rfl,s2,h2,hQ,hnd,hap,hfr⟩
      rw [Zr,QBc (by rw [ZT]; exact QAc _)] at hQ
      exact q l qs _ H2 s2 hl hfr ⟨h2,hQ,hnd,hap⟩ (Zid h8) (ZT _ _)
end
end My
namespace My
open PySem L2
structure Row (n:Nat) (r:List Int):Prop where
 len:r.length=n
 nd:r.Nodup
 rg:∀ x∈r,0<=x/\x<(n:Int)
theorem OkRows.rowAt {n:Nat} {R:List (List Int)} (ok:OkRows n R) {k:Nat} (hk:k<R.length):Row n (R.getD k []):=by
 have:R.getD k []=R[k]:=by simp [QAd,QAb hk]
 rw [this]
 obtain ⟨h1,h2,h3⟩:=ok.row _ (QAs hk)
 exact ⟨h1,h2,h3⟩
theorem Row.inj {n:Nat} {r:List Int} (t:Row n r) {i j:Nat} (hi:i<n) (hj:j<n) (e:r.getD i 0=r.getD j 0):i=j:=by
 have hi':i<r.length:=by rw [t.len]; exact hi
 have hj':j<r.length:=by rw [t.len]; exact hj
 rw [ZH hi',ZH hj'] at e
 by_cases h:i=j
 ·exact h
 ·have p:=List.pairwise_iff_getElem.mp (List.nodup_iff_pairwise_ne.mp t.nd)
  rcases Nat.lt_or_gt_of_ne h with z | z
  ·exact absurd e (p i j hi' hj' z)
  ·exact absurd e.symm (p j i hj' hi' z)
theorem Row.has {n:Nat} {r:List Int} (t:Row n r) {x:Int} (h:0<=x/\x<(n:Int)):r.idxOf x<n/\r.getD (r.idxOf x) 0=x:=by
 have hm:x∈r:=Ja t.len t.nd t.rg h
 have h1:=List.idxOf_lt_length_of_mem hm
 refine ⟨by rw [<- t.len]; exact h1,?_⟩
 rw [ZH h1]
 exact List.getElem_idxOf h1
theorem Row.val {n:Nat} {r:List Int} (t:Row n r) {i:Nat} (h:i<n):0<=r.getD i 0/\r.getD i 0<(n:Int):=by
 have hi:i<r.length:=by rw [t.len]; exact h
 rw [ZH hi]
 exact t.rg _ (QAs hi)
noncomputable def stp (a b:List Int) (c:Nat):Nat:=a.idxOf (b.getD c 0)
theorem ZaO {n:Nat} {a b:List Int} (ha:Row n a) (hb:Row n b):One n (stp a b):=by
 refine ⟨fun c hc=>(ha.has (hb.val hc)).1,fun c d hc hd e=>?_⟩
 have h1:=(ha.has (hb.val hc)).2
 have h2:=(ha.has (hb.val hd)).2
 unfold stp at e
 rw [e,h2] at h1
 exact (hb.inj hd hc h1).symm
noncomputable def toI (l:List Nat):List Int:=l.map fun (c:Nat)=>(c:Int)
theorem Zi3 (l:List Nat) (x:Nat):toI (l++[x])=toI l++[(x:Int)]:=by unfold toI; rw [QAm]; rfl
noncomputable def ent (R:List (List Int)) (k c:Nat):Int:=(R.getD k []).getD c 0
noncomputable def mk (n:Nat) (f:Nat->Nat->Int):List (List Int):=(List.range n).map fun k=>(List.range n).map fun c=>f k c
theorem ZkK {n:Nat} {f:Nat->Nat->Int} {k c:Nat} (hk:k<n) (hc:c<n):ent (mk n f) k c=f k c:=by
 unfold ent mk
 simp [QAd,QAe,QBk hk,QBk hc]
theorem Zc7 {α:Type} {f:Nat->α} {n:Nat} (h:∀ i j,i<n->j<n->f i=f j->i=j):((List.range n).map f).Nodup:=by
 refine List.nodup_iff_pairwise_ne.mpr (List.pairwise_map.mpr ?_)
 refine List.Pairwise.imp_of_mem ?_ (List.nodup_iff_pairwise_ne.mp QCd)
 intro a b ha hb hne e
 exact hne (h a b (List.mem_range.mp ha) (List.mem_range.mp hb) e)
theorem Zj4 {n:Nat} {f:Nat->Nat->Int} (hv:∀ k c,k<n->c<n->0<=f k c/\f k c<(n:Int)) (hr:∀ k c d,k<n->c<n->d<n->f k c=f k d->c=d) (hcol:∀ k l c,k<n->l<n->c<n->f k c=f l c->k=l):OkRows n (mk n f)/\(mk n f).length=n:=by
 have hl:(mk n f).length=n:=by unfold mk; rw [QAa,QAp]
 refine ⟨⟨Nat.le_of_eq hl,fun r h=>?_,fun c hc=>?_⟩,hl⟩
 ·obtain ⟨k,hk,rfl⟩:=List.mem_map.mp h
  have hk':=List.mem_range.mp hk
  refine ⟨by rw [QAa,QAp],Zc7 fun i j hi hj e=>hr k i j hk' hi hj e,fun x hx=>?_⟩
  obtain ⟨c,hc,rfl⟩:=List.mem_map.mp hx
  exact hv k c hk' (List.mem_range.mp hc)
 ·have e:Z6 (mk n f) c=(List.range n).map fun k=>f k c:=by
   unfold Z6 mk
   rw [QBb]
   refine QBq fun k hk=>?_
   show ((List.range n).map fun c=>f k c).getD c 0=f k c
   simp [QAd,QAe,QBk hc]
  rw [e]
  exact Zc7 fun i j hi hj e=>hcol i j c hi hj hc e
theorem Yw {n:Nat} {R:List (List Int)} (ok:OkRows n R) (hl:R.length=n) {k:Nat} (hk:k<n):Row n (R.getD k []):=ok.rowAt (by exact Om.a1 ‹_› ‹_›)
theorem ZaC {n:Nat} {R:List (List Int)} (ok:OkRows n R) (hl:R.length=n) {k l c:Nat} (hk:k<n) (hl':l<n) (hc:c<n) (e:ent R k c=ent R l c):k=l:=by
 have nd:=ok.col c hc
 have k1:k<(Z6 R c).length:=by unfold Z6; rw [QAa]; exact Om.a1 ‹_› ‹_›
 have k2:l<(Z6 R c).length:=by unfold Z6; rw [QAa]; exact Om.a1 ‹_› ‹_›
 by_cases h:k=l
 ·exact h
 ·have p:=List.pairwise_iff_getElem.mp (List.nodup_iff_pairwise_ne.mp nd)
  have e1:(Z6 R c)[k]=ent R k c:=by simp [Z6,ent,QAd,QAb (show k<R.length by exact Om.a1 ‹_› ‹_›)]
  have e2:(Z6 R c)[l]=ent R l c:=by simp [Z6,ent,QAd,QAb (show l<R.length by exact Om.a1 ‹_› ‹_›)]
  rcases Nat.lt_or_gt_of_ne h with z | z
  ·exact absurd (e1.trans (e.trans e2.symm)) (p k l k1 k2 z)
  ·exact absurd (e2.trans (e.symm.trans e1.symm)) (p l k k2 k1 z)
theorem ZlA {n:Nat} {R:List (List Int)} (ok:OkRows n R) (hl:R.length=n):mk n (ent R)=R:=by
 refine QBp (by unfold mk; rw [QAa,QAp,hl]) fun k h1 h2=>?_
 have hk:k<n:=by exact Om.a2 ‹_› ‹_›
 have e:(mk n (ent R))[k]=(List.range n).map fun c=>ent R k c:=by simp [mk]
 rw [e]
 have hr:=(ok.row _ (QAs h2)).1
 refine QBp (by rw [QAa,QAp,hr]) fun c h3 h4=>?_
 simp [ent,QAd,QAb h2,QAb h4]
noncomputable def other (o1 o2:Nat) (S:List Nat) (k c:Nat):Nat:=if c∈S/\(k=o1\/k=o2) then o1+o2 - k else k
noncomputable def Zgd (n:Nat) (R:List (List Int)) (o1 o2:Nat) (S:List Nat):List (List Int):=mk n fun k c=>ent R (other o1 o2 S k c) c
theorem Zca {n o1 o2:Nat} {S:List Nat} (h1:o1<n) (h2:o2<n) {k c:Nat} (hk:k<n):other o1 o2 S k c<n:=by
 unfold other
 split
 ·next h=>rcases h.2 with e | e <;> omega
 ·exact hk
theorem Zhn {o1 o2:Nat} {S:List Nat} {k l c:Nat} (e:other o1 o2 S k c=other o1 o2 S l c):k=l:=by
 unfold other at e
 split at e <;> split at e
 ·next h h'=>rcases h.2 with a | a <;> rcases h'.2 with b | b <;> omega
 ·next h h' =>
  exact absurd ⟨h.1,by rcases h.2 with a | a <;> omega⟩ h'
 ·next h h' =>
  exact absurd ⟨h'.1,by rcases h'.2 with a | a <;> omega⟩ h
 ·exact e
theorem Zbh {o1 o2:Nat} {S:List Nat} (c:Nat):other o1 o2 S o1 c=if c∈S then o2 else o1:=by
 unfold other
 by_cases h:c∈S
 ·rw [if_pos ⟨h,.inl rfl⟩,if_pos h]; exact Om.k276 
 ·rw [if_neg (fun z=>h z.1),if_neg h]
theorem Zbg {o1 o2:Nat} {S:List Nat} (c:Nat):other o1 o2 S o2 c=if c∈S then o1 else o2:=by
 unfold other
 by_cases h:c∈S
 ·rw [if_pos ⟨h,.inr rfl⟩,if_pos h]; exact Om.k397 
 ·rw [if_neg (fun z=>h z.1),if_neg h]
theorem ZaK {o1 o2:Nat} {S:List Nat} {k:Nat} (h1:k≠o1) (h2:k≠o2) (c:Nat):other o1 o2 S k c=k:=by
 unfold other
 rw [if_neg (fun z=>z.2.elim h1 h2)]
theorem ZdN {n:Nat} {a b:List Int} (ha:Row n a) (hb:Row n b) {c:Nat} (hc:c<n):a.getD (stp a b c) 0=b.getD c 0:=(ha.has (hb.val hc)).2
theorem ZlI {n:Nat} {R:List (List Int)} (ok:OkRows n R) (hl:R.length=n) {o1 o2 c0:Nat} (h1:o1<n) (h2:o2<n) (hc0:c0<n) :
  OkRows n (Zgd n R o1 o2 (Yn (stp (R.getD o1 []) (R.getD o2 [])) n c0))/\(Zgd n R o1 o2 (Yn (stp (R.getD o1 []) (R.getD o2 [])) n c0)).length=n:=by
 have ra:=Yw ok hl h1
 have rb:=Yw ok hl h2
 have so:=ZaO ra rb
 have cl:=fun {x} hx=>Zes (x:=x) so hc0 hx
 have hse:∀ c,c<n->ent R o1 (stp (R.getD o1 []) (R.getD o2 []) c)=ent R o2 c:=fun c hc=>ZdN ra rb hc
 generalize stp (R.getD o1 []) (R.getD o2 [])=s at so cl hse
 have hlt:∀ x∈Yn s n c0,x<n:=(J1 so hc0).1.lt so
 generalize Yn s n c0=S at cl hlt
 have x1:∀ c d,c∈S->d∉S->d<n->ent R o2 c≠ent R o1 d:=fun c d hc hd hdn e=>by
  have:=hse c (hlt c hc)
  have e2:stp (R.getD o1 []) (R.getD o2 []) c=stp (R.getD o1 []) (R.getD o2 []) c:=rfl
  have e3:=ra.inj (so.lt c (hlt c hc)) hdn (this.trans e)
  exact hd (e3 ▸ (cl hc).1)
 have x2:∀ c d,c∈S->d∉S->d<n->ent R o1 c≠ent R o2 d:=fun c d hc hd hdn e=>by
  have h3:=hse d hdn
  have e3:=ra.inj (hlt c hc) (so.lt d hdn) (e.trans h3.symm)
  obtain ⟨y,hy,e4⟩:=(cl hc).2
  have:=so.inj y d (hlt y hy) hdn (e4.trans e3)
  exact hd (this ▸ hy)
 refine Zj4 (fun k c hk hc=>(Yw ok hl (Zca h1 h2 hk)).val hc) (fun k c d hk hc hd e=>?_) fun k l c hk hl' hc e=>Zhn (ZaC ok hl (Zca h1 h2 hk) (Zca h1 h2 hl') hc e)
 by_cases k1:k=o1
 ·subst k1
  rw [Zbh,Zbh] at e
  by_cases hcS:c∈S <;> by_cases hdS:d∈S
  ·rw [if_pos hcS,if_pos hdS] at e; exact rb.inj hc hd e
  ·rw [if_pos hcS,if_neg hdS] at e; exact absurd e (x1 c d hcS hdS hd)
  ·rw [if_neg hcS,if_pos hdS] at e; exact absurd e.symm (x1 d c hdS hcS hc)
  ·rw [if_neg hcS,if_neg hdS] at e; exact ra.inj hc hd e
 ·by_cases k2:k=o2
  ·subst k2
   rw [Zbg,Zbg] at e
   by_cases hcS:c∈S <;> by_cases hdS:d∈S
   ·rw [if_pos hcS,if_pos hdS] at e; exact ra.inj hc hd e
   ·rw [if_pos hcS,if_neg hdS] at e; exact absurd e (x2 c d hcS hdS hd)
   ·rw [if_neg hcS,if_pos hdS] at e; exact absurd e.symm (x2 d c hdS hcS hc)
   ·rw [if_neg hcS,if_neg hdS] at e; exact rb.inj hc hd e
  ·rw [ZaK k1 k2,ZaK k1 k2] at e
   exact (Yw ok hl hk).inj hc hd e
theorem Zf9 {n i:Nat} (h:i<n):ixN n (i:Int)=some i:=by
 unfold ixN
 rw [if_pos (by exact Om.c6),if_pos (by exact Om.c5 ‹_›),QAf]
noncomputable def ZE (n:Nat) (x y:List Int) (S:List Nat):List Int:=(List.range n).map fun c=>if c∈S then y.getD c 0 else x.getD c 0
theorem Zkq {n:Nat} {R:List (List Int)} (ok:OkRows n R) (hl:R.length=n) {k:Nat} (hk:k<n):R[k]? = some ((List.range n).map fun c=>ent R k c):=by
 have e:(mk n (ent R))[k]? = R[k]?:=by rw [ZlA ok hl]
 rw [<- e]
 unfold mk
 rw [QAe,QBk hk]
 rfl
theorem ZkY {n:Nat} {R:List (List Int)} (ok:OkRows n R) (hl:R.length=n) {o1 o2:Nat} (h1:o1<n) (h2:o2<n) (S:List Nat) :
  (R.set o1 (ZE n (R.getD o1 []) (R.getD o2 []) S)).set o2 (ZE n (R.getD o2 []) (R.getD o1 []) S)=Zgd n R o1 o2 S:=by
 refine QDh fun k=>?_
 by_cases hk:k<n
 ·have er:(Zgd n R o1 o2 S)[k]? = some ((List.range n).map fun c=>ent R (other o1 o2 S k c) c):=by
   unfold Zgd mk
   rw [QAe,QBk hk]
   rfl
  rw [er,QCm,QCm]
  by_cases e2:o2=k
  ·subst e2
   rw [if_pos rfl,QCu,if_pos (by exact Om.a1 ‹_› ‹_›)]
   unfold ZE
   congr 1
   refine QBq fun c _=>?_
   rw [Zbg]
   by_cases hc:c∈S
   ·rw [if_pos hc,if_pos hc]; rfl
   ·rw [if_neg hc,if_neg hc]; rfl
  ·rw [if_neg e2]
   by_cases e1:o1=k
   ·subst e1
    rw [if_pos rfl,if_pos (by exact Om.a1 ‹_› ‹_›)]
    unfold ZE
    congr 1
    refine QBq fun c _=>?_
    rw [Zbh]
    by_cases hc:c∈S
    ·rw [if_pos hc,if_pos hc]; rfl
    ·rw [if_neg hc,if_neg hc]; rfl
   ·rw [if_neg e1,Zkq ok hl hk]
    congr 1
    refine QBq fun c _=>?_
    rw [ZaK (fun z=>e1 z.symm) (fun z=>e2 z.symm)]
 ·rw [QCr (by rw [QCu,QCu]; exact Om.k396 hl hk),QCr (by unfold Zgd mk; rw [QAa,QAp]; exact Om.k344 hk)]
end My
namespace My
open PySem L2
theorem ZcX {n:Nat} {x y:List Int} (h:x.length=n):ZE n x y []=x:=by
 unfold ZE
 refine QBp (by rw [QAa,QAp,h]) fun i h1 h2=>?_
 rw [QBu,QDg,if_neg (by simp),ZH h2]
theorem ZcW {n:Nat} {x y:List Int} {S:List Nat} {c:Nat} (hc:c<n):(ZE n x y S).set c (y.getD c 0)=ZE n x y (S++[c]):=by
 unfold ZE
 refine QBp (by rw [QCu,QAa,QAa]) fun i h1 h2=>?_
 rw [List.getElem_set,QBu,QDg,QBu,QDg]
 by_cases e:c=i
 ·subst e
  rw [if_pos rfl,if_pos (by simp)]
 ·rw [if_neg e]
  by_cases h:i∈S
  ·rw [if_pos h,if_pos (QBf _ h)]
  ·rw [if_neg h,if_neg (by
    intro z
    rcases List.mem_append.mp z with z | z
    ·exact h z
    ·exact e (List.mem_singleton.mp z).symm)]
theorem ZcY (n:Nat) (x y:List Int) (S:List Nat):(ZE n x y S).length=n:=by unfold ZE; rw [QAa,QAp]
inductive Zff (vs:List V) (H:Hp) (Q:VK):Prop where
 | mk (a:Addr) (ps:List Addr) (n o1 o2 c:Nat) (R:List (List Int)) (_:vs=[.ref a,.int (o1:Int),.int (o2:Int),.int (c:Int)]) (_:MG H a ps R) (_:OkRows n R) (_:R.length=n) (_:n<=8) (_:o1<n) (_:o2<n) (_:o1≠o2) (_:c<n) (_:∀ H',(∀ b o,b∉ps->H b=some o->H' b=some o)->MG H' a ps (Zgd n R o1 o2 (Yn (stp (R.getD o1 []) (R.getD o2 [])) n c))->Q (.ref a) H'):Zff vs H Q
noncomputable def ZgA:Sp:=fun vs H Q _=>Zff vs H Q
noncomputable def JZ (n:Nat) (R:List (List Int)) (o1 o2:Nat) (S:List Nat):List (List Int):=(R.set o1 (ZE n (R.getD o1 []) (R.getD o2 []) S)).set o2 (ZE n (R.getD o2 []) (R.getD o1 []) S)
noncomputable def WAl (H:Hp) (a:Addr) (ps:List Addr) (n o1 o2 c0:Nat) (R:List (List Int)) (l1 l2:Addr) (m:Nat) (σ:St) (H2:Hp):Prop :=
 ∃ (acc:List Nat) (c:Nat) (v7:Option V),σ=[some (.ref a),some (.int (o1:Int)),some (.int (o2:Int)),some (.int (c:Int)),some (.ref l1),some (.ref l2),some (.int ((R.getD o1 []).getD c0 0)),v7] /\
  (∀ b o,b∉ps->H b=some o->H2 b=some o)/\H2 l1=some (.lst ((R.getD o1 []).map V.int))/\H2 l2=some (.lst ((R.getD o2 []).map V.int))/\MG H2 a ps (JZ n R o1 o2 acc) /\
  Path n (stp (R.getD o1 []) (R.getD o2 [])) c0 (acc++[c])/\J7 (stp (R.getD o1 []) (R.getD o2 [])) c0 (n - acc.length) (acc++[c])=Yn (stp (R.getD o1 []) (R.getD o2 [])) n c0/\m=n - acc.length
theorem Zaj {H H':Hp} {q:Addr} {row:List Int}:∀ {ps:List Addr} {R:List (List Int)} {i:Nat},Paired (fun p (r:List Int)=>H p=some (.lst (r.map V.int))) ps R->ps.Nodup->ps[i]? = some q->(∀ b,b≠q->H' b=H b)->H' q=some (.lst (row.map V.int))->Paired (fun p (r:List Int)=>H' p=some (.lst (r.map V.int))) ps (R.set i row)
 | _,_,_,.nil,_,h,_,_=>by cases h
 | p::ps,r::R,0,.cons h t,nd,hi,ho,hq=>by
  rw [List.getElem?_cons_zero] at hi
  cases hi
  rw [List.nodup_cons] at nd
  exact .cons hq (Y1 t fun x hx y e=>by rw [ho x (fun z=>nd.1 (z ▸ hx))]; exact e)
 | p::ps,r::R,i+1,.cons h t,nd,hi,ho,hq=>by
  rw [List.getElem?_cons_succ] at hi
  rw [List.nodup_cons] at nd
  have hne:p≠q:=fun z=>nd.1 (z ▸ QAu hi)
  exact .cons (by rw [ho p hne]; exact h) (Zaj t nd.2 hi ho hq)
section
variable {P:Program} {w:World} {K:PySem.W.Frag} {mg:Str->Option Value} {base:Heap}
theorem scAlong:Zs ["_law_rows","_law_one","_law_other","_law_column","_law_first","_law_second","_law_start","_law_thing"] ["_law_rows","_law_one","_law_other","_law_column"] (Ze JY):=⟨rfl,rfl,rfl,by decide +kernel,rfl,by decide +kernel,by decide +kernel⟩
theorem Zif {f:Addr} {fd:FuncData} (F:Fun K "_law_along" "_law_along" JY f fd) (T:Blt mg):FnOk P w K mg base CX0 1 f fd ["_law_rows","_law_one","_law_other","_law_column"] ZgA:=by
 refine F.ok scAlong (fun vs H Q E h=>?_) (fun cdv A outer s H vs Q E hr h=>?_)
 ·obtain ⟨_,_,_,_,_,_,_,rfl,_⟩:=h
  rfl
 ·obtain ⟨a,ps,n,o1,o2,c0,R,rfl,hM,ok,hRl,h8,h1,h2,hne,hc0,q⟩:=h
  refine' ⟨_,Zd ?s0 (Zd ?s1 (Zd ?s2 (Zg (Zb5 PassesOwn.never (Zkw Zlx) (Zd ?b0 (Zd ?b1 (Zd ?b2 (Zd ?b3 (Zg ?b4))))))))),?rd⟩
  case s0=>exact Zj (i:=4) scAlong.nd rfl (Or.inl rfl) (Zx (ZcA K) rfl T.list Zec (Za (ZQ YG (pv 0) (pv 1) (fun _ _=>rfl)) Zc))
  case s1=>exact Zj (i:=5) scAlong.nd rfl (Or.inl rfl) (Zx (ZcA K) rfl T.list Zec (Za (ZQ YG (pv 0) (pv 2) (fun _ _=>rfl)) Zc))
  case s2=>exact Zj (i:=6) scAlong.nd rfl (Or.inl rfl) (ZQ YG (pv 4) (pv 3) (fun _ _=>rfl))
  case b0=>exact Zj (i:=7) scAlong.nd rfl (Or.inl rfl) (ZQ YG (pv 5) (pv 3) (fun _ _=>rfl))
  case b1=>exact ZdX (pv 7) (ZfT (ZQ YG (pv 0) (pv 1) (fun _ _=>rfl)) (pv 3) ZbW)
  case b2=>exact ZdX (ZQ YG (pv 4) (pv 3) (fun _ _=>rfl)) (ZfT (ZQ YG (pv 0) (pv 2) (fun _ _=>rfl)) (pv 3) ZbW)
  case b3=>exact Jg (ZR ZaG (pv 7) (pv 6) (Yp _)) (Zg (Zt (pv 0))) Yf
  case b4=>exact Zj (i:=3) scAlong.nd rfl (Or.inl rfl) (Jj PySem.F.plainAttrs_list PySem.F.slot_list_index PySem.F.type_list_index Zc9 (pv 4) (Za (pv 7) Zc))
  case rd =>
   have ra:Row n (R.getD o1 []):=ok.rowAt (by exact Om.a1 ‹_› ‹_›)
   have rb:Row n (R.getD o2 []):=ok.rowAt (by exact Om.a1 ‹_› ‹_›)
   have so:=ZaO ra rb
   have exS:=ZkY ok hRl h1 h2
   have rl1:R[o1]? = some (R.getD o1 []):=by rw [QAd,QAb (by exact Om.a1 ‹_› ‹_›)]; rfl
   have rl2:R[o2]? = some (R.getD o2 []):=by rw [QAd,QAb (by exact Om.a1 ‹_› ‹_›)]; rfl
   obtain ⟨p1,hp1,hr1⟩:=Paired.getR hM.rows rl1
   obtain ⟨p2,hp2,hr2⟩:=Paired.getR hM.rows rl2
   have hat1:atI (ps.map V.ref) (o1:Int)=some (.ref p1):=YU (by rw [QAe,hp1]; rfl)
   have hat2:atI (ps.map V.ref) (o2:Int)=some (.ref p2):=YU (by rw [QAe,hp2]; rfl)
   have m1:p1∈ps:=QAu hp1
   have m2:p2∈ps:=QAu hp2
   have hpne:p1≠p2:=fun e=>by
    have hi1:o1<ps.length:=(List.getElem?_eq_some_iff.mp hp1).1
    have hi2:o2<ps.length:=(List.getElem?_eq_some_iff.mp hp2).1
    have e1:ps[o1]=ps[o2]:=by
     rw [QAb hi1] at hp1
     rw [QAb hi2] at hp2
     rw [Option.some.inj hp1,Option.some.inj hp2,e]
    exact hne ((List.getElem_inj hM.nd).mp e1)
   have hrow0:JZ n R o1 o2 []=R:=by
    unfold JZ
    rw [ZcX ra.len,ZcX rb.len]
    have e1:R.set o1 (R.getD o1 [])=R:=by
     refine QDh fun i=>?_
     rw [QCm]
     by_cases e:o1=i
     ·subst e
      rw [if_pos rfl,if_pos (by exact Om.a1 ‹_› ‹_›),rl1]
     ·rw [if_neg e]
    rw [e1]
    refine QDh fun i=>?_
    rw [QCm]
    by_cases e:o2=i
    ·subst e
     rw [if_pos rfl,if_pos (by exact Om.a1 ‹_› ‹_›),rl2]
    ·rw [if_neg e]
   generalize hA:R.getD o1 []=A0 at ra so rl1 hr1 q exS
   generalize hB:R.getD o2 []=B0 at rb so rl2 hr2 q exS
   refine ⟨_,rfl,_,rfl,a,_,_,_,rfl,rfl,SqL.of hM.out,hat1,p1,_,rfl,.inl (SqL.of hr1),fun l1 hl1=>?_⟩
   have s1:Same H (upd H l1 (.lst (A0.map V.int))):=Same.new hl1
   refine ⟨_,rfl,_,rfl,a,_,_,_,rfl,rfl,SqL.of (s1 _ _ hM.out),hat2,p2,_,rfl,.inl (SqL.of (s1 _ _ hr2)),fun l2 hl2=>?_⟩
   have s2:Same (upd H l1 (.lst (A0.map V.int))) (upd (upd H l1 (.lst (A0.map V.int))) l2 (.lst (B0.map V.int))):=Same.new hl2
   have sH:=s1.trans s2
   have hl1':(upd (upd H l1 (.lst (A0.map V.int))) l2 (.lst (B0.map V.int))) l1=some (.lst (A0.map V.int)):=s2 _ _ Zb
   have hl2':(upd (upd H l1 (.lst (A0.map V.int))) l2 (.lst (B0.map V.int))) l2=some (.lst (B0.map V.int)):=Zb
   have psn:∀ b∈ps,∃ r:List Int,H b=some (.lst (r.map V.int)):=fun b hb=>by
    obtain ⟨i,hi,e⟩:=QBd hb
    obtain ⟨r,_,hr'⟩:=Paired.getL hM.rows (QAb hi)
    exact ⟨r,by rw [<- e]; exact hr'⟩
   have nl1:l1∉ps:=fun z=>by obtain ⟨r,e⟩:=psn _ z; rw [hl1] at e; cases e
   have nl2:l2∉ps:=fun z=>by obtain ⟨r,e⟩:=psn _ z; rw [s1.free hl2] at e; cases e
   generalize upd (upd H l1 (.lst (A0.map V.int))) l2 (.lst (B0.map V.int))=Hs at sH hl1' hl2' ⊢
   refine ⟨_,rfl,_,rfl,l1,_,_,_,rfl,rfl,SqL.of hl1',YQ (by rw [ra.len]; exact hc0),?_⟩
   refine ⟨WAl H a ps n o1 o2 c0 R l1 l2,⟨_,[],c0,none,by rw [hA]; rfl,fun b o _ e=>sH _ _ e,by rw [hA]; exact hl1',by rw [hB]; exact hl2',⟨sH _ _ hM.out,?_,hM.nd,hM.ap⟩,.one hc0,rfl,rfl⟩,?_⟩
   ·rw [hrow0]
    exact Paired.mapP hM.rows fun _ _ e=>sH _ _ e
   rintro m σ H2 ⟨acc,c,v7,rfl,keep,k1,k2,M2,pa,hrf,rfl⟩
   rw [hA,hB] at pa hrf
   rw [hA] at k1
   rw [hB] at k2
   rw [hA]
   have hcn:c<n:=pa.lt so _ (by simp)
   have hal:acc.length<n:=by
    have:=ZaV pa.nodup (pa.lt so)
    rw [QAn,QDm] at this
    exact Om.f5 ‹_›
   refine ⟨true,rfl,Zbn ⟨fun σ' H'=>∃ m',m'<n - acc.length/\WAl H a ps n o1 o2 c0 R l1 l2 m' σ' H',fun _ _ z=>z,?_⟩⟩
   have eR:JZ n R o1 o2 acc=(R.set o1 (ZE n A0 B0 acc)).set o2 (ZE n B0 A0 acc):=by unfold JZ; rw [hA,hB]
   have g1:(JZ n R o1 o2 acc)[o1]? = some (ZE n A0 B0 acc):=by
    rw [eR,QCm,if_neg (Ne.symm hne),QCm,if_pos rfl,if_pos (by exact Om.a1 ‹_› ‹_›)]
   obtain ⟨p1',hp1',hq1⟩:=Paired.getR M2.rows g1
   rw [hp1] at hp1'
   cases hp1'
   refine ⟨_,rfl,_,rfl,l2,_,_,_,rfl,rfl,SqL.of k2,YQ (by rw [rb.len]; exact hcn),?_⟩
   refine ⟨_,rfl,_,rfl,_,rfl,a,_,_,_,rfl,rfl,SqL.of M2.out,hat1,_,rfl,p1,_,_,c,rfl,rfl,hq1,Zf9 (by rw [QAa,ZcY]; exact hcn),?_⟩
   have c3:(upd H2 p1 (.lst (((ZE n A0 B0 acc).map V.int).set c (.int (B0.getD c 0))))) p1=some (.lst ((ZE n A0 B0 (acc++[c])).map V.int)):=by rw [Zb,<- ZcW hcn,List.map_set]
   have o3:∀ b,b≠p1->(upd H2 p1 (.lst (((ZE n A0 B0 acc).map V.int).set c (.int (B0.getD c 0))))) b=H2 b:=fun b hb=>Zf hb
   generalize upd H2 p1 (.lst (((ZE n A0 B0 acc).map V.int).set c (.int (B0.getD c 0))))=H3 at c3 o3 ⊢
   have na1:a≠p1:=fun z=>hM.ap (z ▸ m1)
   have na2:a≠p2:=fun z=>hM.ap (z ▸ m2)
   have P3:=Zaj (H':=H3) (row:=ZE n A0 B0 (acc++[c])) M2.rows hM.nd hp1 o3 c3
   have g2:((JZ n R o1 o2 acc).set o1 (ZE n A0 B0 (acc++[c])))[o2]? = some (ZE n B0 A0 acc):=by
    rw [QCm,if_neg hne,eR,QCm,if_pos rfl,if_pos (by rw [QCu]; exact Om.a1 ‹_› ‹_›)]
   obtain ⟨p2',hp2',hq2⟩:=Paired.getR P3 g2
   rw [hp2] at hp2'
   cases hp2'
   have nn1:l1≠p1:=fun z=>nl1 (z ▸ m1)
   have nn2:l1≠p2:=fun z=>nl1 (z ▸ m2)
   have nm1:l2≠p1:=fun z=>nl2 (z ▸ m1)
   have nm2:l2≠p2:=fun z=>nl2 (z ▸ m2)
   refine ⟨_,rfl,_,rfl,l1,_,_,_,rfl,rfl,SqL.of ((o3 _ nn1).trans k1),YQ (by rw [ra.len]; exact hcn),_,rfl,_,rfl,a,_,_,_,rfl,rfl,SqL.of ((o3 _ na1).trans M2.out),hat2,_,rfl,p2,_,_,c,rfl,rfl,hq2,Zf9 (by rw [QAa,ZcY]; exact hcn),?_⟩
   have c4:(upd H3 p2 (.lst (((ZE n B0 A0 acc).map V.int).set c (.int (A0.getD c 0))))) p2=some (.lst ((ZE n B0 A0 (acc++[c])).map V.int)):=by rw [Zb,<- ZcW hcn,List.map_set]
   have o4:∀ b,b≠p2->(upd H3 p2 (.lst (((ZE n B0 A0 acc).map V.int).set c (.int (A0.getD c 0))))) b=H3 b:=fun b hb=>Zf hb
   generalize upd H3 p2 (.lst (((ZE n B0 A0 acc).map V.int).set c (.int (A0.getD c 0))))=H4 at c4 o4 ⊢
   have P4:=Zaj (H':=H4) (row:=ZE n B0 A0 (acc++[c])) P3 hM.nd hp2 o4 c4
   have eS:((JZ n R o1 o2 acc).set o1 (ZE n A0 B0 (acc++[c]))).set o2 (ZE n B0 A0 (acc++[c]))=(R.set o1 (ZE n A0 B0 (acc++[c]))).set o2 (ZE n B0 A0 (acc++[c])):=by
    rw [eR,List.set_comm _ _ (Ne.symm hne),List.set_set,List.set_set]
   rw [eS] at P4
   have k14:H4 l1=some (.lst (A0.map V.int)):=(o4 _ nn2).trans ((o3 _ nn1).trans k1)
   have k24:H4 l2=some (.lst (B0.map V.int)):=(o4 _ nm2).trans ((o3 _ nm1).trans k2)
   have out4:H4 a=some (.lst (ps.map V.ref)):=(o4 _ na2).trans ((o3 _ na1).trans M2.out)
   have keep4:∀ b o,b∉ps->H b=some o->H4 b=some o:=fun b o hb e=>(o4 b (fun z=>hb (by rw [z]; exact m2))).trans ((o3 b (fun z=>hb (by rw [z]; exact m1))).trans (keep b o hb e))
   refine ⟨_,rfl,_,rfl,rfl,_,rfl,?_⟩
   have hlast:Z0 (acc++[c])=c:=Y4 _ _
   have estp:stp A0 B0 c=A0.idxOf (B0.getD c 0):=rfl
   have hst:=ZdN ra rb hcn
   refine Zal (fun hd=>?_) (fun hd=>?_)
   ·have e:=of_decide_eq_true hd
    injection e with e
    have e':stp A0 B0 (Z0 (acc++[c]))=c0:=by
     rw [hlast]
     exact ra.inj (so.lt _ hcn) hc0 (hst.trans e)
    have ringe:acc++[c]=Yn (stp A0 B0) n c0:=by
     rw [show n - acc.length=(n - acc.length - 1)+1 by exact Om.k395 hal,J7,if_pos e'] at hrf
     exact hrf
    refine ⟨_,rfl,q H4 keep4 ⟨out4,?_,hM.nd,hM.ap⟩⟩
    rw [<- ringe,<- exS]
    exact P4
   ·have e':stp A0 B0 (Z0 (acc++[c]))≠c0:=fun z=>hd (by
     rw [hlast] at z
     rw [z] at hst
     rw [hst]
     exact decide_eq_true rfl)
    obtain ⟨p',hlt⟩:=pa.next so e'
    rw [hlast] at p' e'
    rw [show n - acc.length=(n - acc.length - 1)+1 by exact Om.k395 hal,J7,if_neg (by rw [hlast]; exact e'),hlast] at hrf
    refine ⟨_,rfl,.inl ⟨rfl,_,SqL.of k14⟩,_,rfl,l1,A0,_,rfl,rfl,k14,Ja ra.len ra.nd ra.rg (rb.val hcn),?_⟩
    refine ⟨n - (acc++[c]).length,by rw [QAn,QDm]; exact Om.k394 hal,acc++[c],stp A0 B0 c,_,by rw [hA]; rfl,keep4,by rw [hA]; exact k14,by rw [hB]; exact k24,⟨out4,?_,hM.nd,hM.ap⟩,by rw [hA,hB]; exact p',?_,rfl⟩
    ·unfold JZ
     rw [hA,hB]
     exact P4
    ·rw [hA,hB,QAn,QDm,show n - (acc.length+1)=n - acc.length - 1 by exact Om.k393 ]
     exact hrf
end
end My
namespace My
open PySem L2
noncomputable def LLs (H:Hp) (a:Addr) (L:List (List Int)):Prop:=∃ ps:List Addr,H a=some (.lst (ps.map V.ref))/\Paired (fun p l=>H p=some (.lst (l.map V.int))) ps L
theorem LLs.same {c:Addr} {H H1:Hp} {L:List (List Int)} (g:LLs H c L) (x:Same H H1):LLs H1 c L :=
 let ⟨ps,h,r⟩:=g
 ⟨ps,x _ _ h,Paired.mapP r fun _ _ z=>x _ _ z⟩
theorem Za0 (t:Int):∀ xs:List Int,inV (.int t) (xs.map V.int)=decide (t∈xs)
 | []=>rfl
 | x::xs=>by
  have ih:=Za0 t xs
  unfold inV at ih ⊢
  rw [QAr,List.any_cons,ih]
  show ((x==t)||_)=_
  rw [QBi]
  simp only [QDn,beq_iff_eq,decide_eq_true_eq,QBs]
  exact ⟨fun h=>h.elim (fun e=>.inl e.symm) .inr,fun h=>h.elim (fun e=>.inl e.symm) .inr⟩
theorem Zk2 {R:List (List Int)} {c:Nat}:((List.range R.length).map fun i=>V.int ((R.getD i []).getD c 0))=(Z6 R c).map V.int:=by
 unfold Z6
 refine QDh fun i=>?_
 rw [QBb,QAe,QAe]
 by_cases h:i<R.length
 ·rw [QBk h,QAb h]
  simp [QAd,QAb h]
 ·rw [QCr (by simpa using h),QCr (by simpa using h)]
  rfl
theorem Zhx {r:List Int} {ps:List Addr} (h:r≠[]):r.map V.int≠ps.map V.ref:=by
 cases r with
 | nil=>exact absurd rfl h
 | cons x r=>cases ps <;> intro e <;> cases e
theorem LLs.push {a t:Addr} {H:Hp} {R:List (List Int)} {r:List Int} {ps:List Addr} (h:H a=some (.lst (ps.map V.ref))) (hp:Paired (fun p (r:List Int)=>H p=some (.lst (r.map V.int))) ps R) (hR:∀ r∈R,r≠[]) (hr:r≠[]) (ht:H t=some (.lst (r.map V.int))):LLs (upd H a (.lst (ps.map V.ref++[.ref t]))) a (R++[r]):=by
 have ne:∀ (b:Addr) (x:List Int),x≠[]->H b=some (.lst (x.map V.int))->b≠a:=fun b x hx e c=>by
  rw [c,h] at e
  injection e with e
  injection e with e
  exact Zhx hx e.symm
 refine ⟨ps++[t],by rw [Zb,QAm]; rfl,Paired.snoc ?_ ?_⟩
 ·have go:∀ (qs:List Addr) (S:List (List Int)),Paired (fun p (r:List Int)=>H p=some (.lst (r.map V.int))) qs S->(∀ r∈S,r≠[])->Paired (fun p (r:List Int)=>upd H a (.lst (ps.map V.ref++[.ref t])) p=some (.lst (r.map V.int))) qs S:=by
   intro qs S x
   induction x with
   | nil=>intro _; exact .nil
   | cons e _ ih =>
    intro hS
    refine .cons ?_ (ih fun r hr=>hS r (QAo _ hr))
    rw [Zf (ne _ _ (hS _ QAj) e)]
    exact e
  exact go _ _ hp hR
 ·rw [Zf (ne _ _ hr ht)]
  exact ht
theorem ZfQ (l:List Int):(List.range l.length).map (fun j=>l.getD j 0)=l:=by
 refine QBp (by rw [QAa,QAp]) fun i h1 h2=>?_
 rw [QBu,QDg,ZH h2]
theorem Zbo (p:Int->Bool):∀ l:List Int,l.filterMap (fun x=>if p x=true then some (V.int x) else none)=(l.filter p).map V.int
 | []=>rfl
 | x::l=>by
  rw [QDl,List.filter_cons,Zbo p l]
  cases h:p x with
  | true=>rw [if_pos rfl,if_pos rfl,QAr]
  | false=>rw [if_neg QAl,if_neg QAl]
theorem ZiE (p:Int->Bool) (l:List Int):(List.range l.length).filterMap (fun j=>if p (l.getD j 0)=true then some (V.int (l.getD j 0)) else none)=(l.filter p).map V.int:=by
 rw [<- Zbo p l]
 conv=>rhs; rw [<- ZfQ l]
 rw [List.filterMap_map]
 rfl
theorem ZjK (p:Int->Bool) (n:Nat):(List.range n).filterMap (fun j:Nat=>if p (j:Int)=true then some (V.int (j:Int)) else none)=((ZU n).filter p).map V.int:=by
 rw [<- Zbo p (ZU n)]
 unfold ZU
 rw [List.filterMap_map]
 rfl
theorem Zii (n:Nat) (A:List (List Int)) (row:List Int):((ZU n).filter fun t=>decide (t∉row)).filter (fun t=>decide (t∉Z6 A row.length))=ZS n A row:=by
 unfold ZS
 rw [List.filter_filter]
 congr 1
 funext t
 rw [Bool.and_comm]
inductive ZiY (k:Nat) (vs:List V) (H:Hp) (Q:VK):Prop where
 | mk (aA ar at_:Addr) (n:Nat) (A:List (List Int)) (row ts:List Int) (_:vs=[.ref aA,.ref ar,.ref at_]) (_:LLs H aA A) (_:(∀ o∈A,o.length=n)) (_:A.length<=8) (_:H ar=some (.lst (row.map V.int))) (_:PRow n A row) (_:n<=8) (_:H at_=some (.lst (ts.map V.int))) (_:ts.length=n) (_:n - row.length<k) (_:(∀ (p:Addr) (H':Hp) (r:List Int),Same H H'->H' p=some (.lst (r.map V.int))->OkRow n A r->row <+: r->Q (.ref p) H')) (_:(∀ H',Same H H'->(∀ r,OkRow n A r->row <+: r->False)->Q .non H')):ZiY k vs H Q
noncomputable def Zj0 (k:Nat):Sp:=fun vs H Q _=>ZiY k vs H Q
section
variable {P:Program} {w:World} {K:PySem.W.Frag} {mg:Str->Option Value} {base:Heap}
theorem scRow:Zs ["_law_rows","_law_made","_law_digits","_law_column","_law_pool","_law_turn_here","_law_thing","_law_found"] ["_law_rows","_law_made","_law_digits"] (Ze ZdQ):=⟨rfl,rfl,rfl,by decide +kernel,rfl,by decide +kernel,by decide +kernel⟩
inductive Zfs (aA:Addr) (ar:Addr) (at_:Addr) (n:Nat) (A:List (List Int)) (row:List Int) (l5:Addr) (m:Nat) (H9:Hp) (xs:List V) (i:Nat) (σ:St) (H7:Hp):Prop where
 | mk (v6 v7:Option V) (_:σ=[some (.ref aA),some (.ref ar),some (.ref at_),some (.int (row.length:Int)),some (.ref l5),some (.int (m:Int)),v6,v7]) (_:Same H9 H7) (_:∀ j:Nat,j<i->∀ x,xs[j]? = some (.int x)->∀ r,OkRow n A r->row++[x] <+: r->False):Zfs aA ar at_ n A row l5 m H9 xs i σ H7
theorem Zic {f:Addr} {fd:FuncData} (D:Dfn K mg "_law_row" ZdQ ["_law_rows","_law_made","_law_digits"] f fd) (T:Blt mg):∀ k:Nat,FnOk P w K mg base CX0 k f fd ["_law_rows","_law_made","_law_digits"] (Zj0 k)
 | 0=>⟨fun vs H Q E h=>by obtain ⟨_,_,_,_,_,_,_,rfl,_⟩:=h; rfl,fun A outer s H args us vs Q E _ _ _ _ h=>by obtain ⟨_,_,_,_,_,_,_,rfl,_,_,_,_,_,_,_,_,z,_⟩:=h; exact absurd z (QDr _)⟩
 | k+1=>by
  have G:=Zic D T k
  refine D.F.ok scRow (fun vs H Q E h=>?_) (fun cdv A0 outer s H vs Q E hr h=>?_)
  ·obtain ⟨_,_,_,_,_,_,_,rfl,_⟩:=h
   rfl
  ·obtain ⟨aA,ar,at_,n,A,row,ts,rfl,hA,hAn,hA8,hrow,pr,h8,hts,htl,hk,q1,q2⟩:=h
   refine' ⟨_,Zd ?s0 (Zd ?s1 (Zd ?s2 (Zd ?s3 (Zd ?s4 (Zd (Yu PassesOwn.never rfl ?i (ZG (i:=6) scRow.nd rfl (Or.inl rfl)) (Zd ?b0 (Zg ?b1))) (Zg (Zt Zb8))))))),?rd⟩
   case s0=>exact Zj (i:=3) scRow.nd rfl (Or.inr rfl) (Zu (ZJ K) rfl T.len PySem.boot_len (Za (pv 1) Zc))
   case s1=>exact Jg (ZR ZaG (pv 3) (Zu (ZJ K) rfl T.len PySem.boot_len (Za (pv 2) Zc)) (Yp _)) (Zg (Zt (pv 1))) Yf
   case s2=>exact Zez (i:=4) ["_law_thing","_law_made"] [none,some 1] scRow.nd rfl (Or.inl rfl) rfl rfl (Zp rfl T.range (Za (Zu (ZJ K) rfl T.len PySem.boot_len (Za (pv 2) Zc)) Zc)) (fun _ _ _ _ _=>Yx 0) (fun _ _ _ _ _=>ZaS (ZR (JQ K) (pv 0) (pv 1) rfl)) (fun _ _ _ _ _=>pv 0)
   case s3=>exact Zez (i:=4) ["_law_thing","_law_rows","_law_column"] [none,some 0,some 3] scRow.nd rfl (Or.inl rfl) rfl rfl (Z2 K (pv 4)) (fun _ _ _ _ _=>Yx 0) (fun _ _ _ _ _=>ZaS (ZR (JQ K) (pv 0) (Yr ["_law_row_here","_law_column"] [none,some 2] rfl rfl (Z2 K (pv 1)) (fun _ _ _ _ _=>Yx 0) (fun _ _ _ _ _=>ZA) (fun _ _ _ _ _=>ZQ (Zco K) (pv 0) (pv 1) (fun _ _=>rfl))) rfl)) (fun _ _ _ _ _=>pv 0)
   case s4=>exact Zj (i:=5) scRow.nd rfl (Or.inl rfl) (Zk Yh (ZQ YG (pv 2) (pv 3) (fun _ _=>rfl)) (Zu (Zbs rfl) rfl T.max PyProof.Rows.boot_max (Za Zi (Za (Zu (ZJ K) rfl T.len PySem.boot_len (Za (pv 4) Zc)) Zc))))
   case i=>exact Zaw (Zk Zcc (JO ZaP (pv 4) (Zau (pv 5)) Zav) (JO ZaP (pv 4) Zav (Zau (pv 5))))
   case b0=>exact Zj (i:=7) scRow.nd rfl (Or.inl rfl) (Zm G hr rfl D.m D.F.kp D.b .nil ZO (Za (pv 0) (Za (Zk Zcc (pv 1) (Yc (Za (pv 6) Zc))) (Za (pv 2) Zc))))
   case b1=>exact Jg (Zb4 (ZgJ (pv 7))) (Zg (Zt (pv 7))) Yf
   case rd =>
    have hrl:(row.map V.int).length=row.length:=QAa _
    have htl':(ts.map V.int).length=n:=by rw [QAa,htl]
    refine ⟨_,rfl,ar,_,rfl,.inl (SqL.of hrow),?_⟩
    show Jy 3 (V.int ((row.map V.int).length:Int)) _ _ _
    rw [hrl]
    refine ⟨_,rfl,_,rfl,at_,_,rfl,.inl (SqL.of hts),rfl,_,rfl,?_⟩
    rw [htl']
    refine Zal (fun hc=>?_) (fun hc=>?_)
    ·have e:row.length=n:=by
      have e:=of_decide_eq_true hc
      injection e with e
      exact Om.e1 ‹_›
     exact ⟨_,rfl,q1 ar H row (Same.refl H) hrow (pr.full e) (List.prefix_refl _)⟩
    have hlt:row.length<n:=by
     have h1:row.length≠n:=fun e=>hc (decide_eq_true (by rw [e]))
     have:=pr.len
     omega
    obtain ⟨ps,hps,hPs⟩:=id hA
    have hpl:(ps.map V.ref).length=A.length:=by rw [QAa,hPs.length]
    refine ⟨_,rfl,at_,_,rfl,.inl (SqL.of hts),_,rfl,by exact Om.c2,by rw [htl']; exact Om.c1 ‹_› rfl,fun l4 hl4=>?_⟩
    rw [htl',QAf]
    refine ZD (fun j=>if (fun t:Int=>decide (t∉row)) ((j:Nat):Int)=true then some (V.int ((j:Nat):Int)) else none) (fun σ=>∃ v,σ=[v,some (.ref ar)]) (ZI (n:=n)) (by rw [Zr]; exact Zq (by exact Om.b1 ‹_› rfl)) hl4 (fun _ _=>trivial) ⟨none,rfl⟩ ?_ ?_
    ·rintro i x σ H' R' hi ⟨v,rfl⟩ sm kk
     obtain ⟨hin,rfl⟩:=Z3 hi
     have kk':=fun v'=>kk [v',some (.ref ar)] H' ⟨v',rfl⟩ (Same.refl _)
     refine ⟨_,rfl,_,rfl,ar,row.map V.int,rfl,.inl (SqL.of (sm _ _ hrow)),rfl,ZM row,_,rfl,?_⟩
     have e1:(if true=true then !inV (.int (i:Int)) (row.map V.int) else inV (.int (i:Int)) (row.map V.int))=decide ((i:Int)∉row):=by rw [if_pos rfl,Za0]; simp
     rw [e1]
     refine Zal (fun hc3=>?_) (fun hc3=>?_)
     ·rw [if_pos hc3] at kk'
      exact ⟨_,rfl,kk' _⟩
     ·rw [if_neg hc3] at kk'
      exact kk' _
    intro H4 s4 h4
    rw [Zr] at h4
    replace h4:H4 l4=some (.lst (((ZU n).filter (fun t:Int=>decide (t∉row))).map V.int)):=by rw [h4]; exact congrArg (fun x=>some (HO.lst x)) (ZjK (fun t:Int=>decide (t∉row)) n)
    have hm1:∀ t∈(ZU n).filter (fun t:Int=>decide (t∉row)),0<=t/\t<(n:Int):=fun t ht=>mem_rngI.mp (List.mem_filter.mp ht).1
    have hln:((ZU n).filter (fun t:Int=>decide (t∉row))).length<=n:=QAq (QEb _ _) (by rw [Yg]; exact QAc _)
    generalize hpo:(ZU n).filter (fun t:Int=>decide (t∉row))=po at h4 hm1 hln
    have hps4:=s4 _ _ hps
    refine ⟨_,rfl,l4,rfl,⟨_,SqL.of h4⟩,fun l5 hl5=>?_⟩
    refine ZD (fun j=>if (fun t:Int=>decide (t∉Z6 A row.length)) (po.getD j 0)=true then some (V.int (po.getD j 0)) else none) (fun σ=>∃ v,σ=[v,some (.ref aA),some (.int (row.length:Int))]) (Z1 (xs:=po.map V.int)) (by rw [QAa]; exact Zq (by exact Om.b3 ‹_› ‹_› rfl)) hl5 (fun H' sm=>SqL.of (sm _ _ h4)) ⟨none,rfl⟩ ?_ ?_
    ·rintro i x σ H' R' hi ⟨v,rfl⟩ sm kk
     have hil:i<po.length:=by
      have:=(List.getElem?_eq_some_iff.mp hi).1
      rw [QAa] at this
      exact this
     have ex:x = .int (po.getD i 0):=by
      rw [QAe,QAb hil] at hi
      rw [ZH hil]
      cases hi
      rfl
     subst ex
     generalize po.getD i 0=t at kk ⊢
     have hps5:=sm _ _ hps4
     refine ⟨_,rfl,_,rfl,aA,rfl,⟨_,SqL.of hps5⟩,fun l6 hl6=>ZD (fun i=>some (V.int ((A.getD i []).getD row.length 0))) (fun σ=>∃ v,σ=[v,some (.int (row.length:Int))]) (Z1 (xs:=ps.map V.ref)) (by rw [hpl]; exact Zq (by exact Om.b1 ‹_› rfl)) hl6 (fun H' sm=>SqL.of (sm _ _ hps5)) ⟨none,rfl⟩ ?_ ?_⟩
     ·rintro i x σ H2 R2 hi ⟨v,rfl⟩ sm2 kk2
      rw [QAe] at hi
      cases hpi:ps[i]? with
      | none=>rw [hpi] at hi; cases hi
      | some p =>
       rw [hpi] at hi
       cases hi
       obtain ⟨o,ho,hp⟩:=Paired.getL hPs hpi
       have hol:o.length=n:=hAn o (QAu ho)
       have hat:(o.map V.int)[row.length]? = some (.int ((A.getD i []).getD row.length 0)):=by
        rw [QAe,QAb (by exact Om.a1 ‹_› ‹_›)]
        simp [QAd,ho,QAb (show row.length<o.length by exact Om.a1 ‹_› ‹_›)]
       exact ⟨_,rfl,_,rfl,p,o.map V.int,(row.length:Int),_,rfl,rfl,SqL.of (sm2 _ _ (sm _ _ (s4 _ _ hp))),YU hat,kk2 _ _ ⟨_,rfl⟩ (Same.refl _)⟩
     ·intro H2 s2 h2
      rw [YH,hpl,Zk2] at h2
      refine ⟨l6,_,rfl,.inl (SqL.of h2),rfl,ZM _,_,rfl,?_⟩
      have e2:(if true=true then !inV (.int t) ((Z6 A row.length).map V.int) else inV (.int t) ((Z6 A row.length).map V.int))=decide (t∉Z6 A row.length):=by rw [if_pos rfl,Za0]; simp
      rw [e2]
      have kk':=fun v'=>kk [v',some (.ref aA),some (.int (row.length:Int))] H2 ⟨v',rfl⟩ s2
      refine Zal (fun hc4=>?_) (fun hc4=>?_)
      ·rw [if_pos hc4] at kk'
       exact ⟨_,rfl,kk' _⟩
      ·rw [if_neg hc4] at kk'
       exact kk' _
    intro H5 s5 h5
    rw [QAa] at h5
    replace h5:H5 l5=some (.lst ((ZS n A row).map V.int)):=by
     rw [h5,<- Zii n A row,hpo]
     exact congrArg (fun x=>some (HO.lst x)) (ZiE (fun t:Int=>decide (t∉Z6 A row.length)) po)
    have s45:=s4.trans s5
    have hpl2:(ZS n A row).length<=n:=by
     unfold ZS
     refine QAq (QEb _ _) ?_
     rw [Yg]
     exact QAc _
    have hnl:((ZS n A row).map V.int).length=(ZS n A row).length:=QAa _
    have htat:(ts.map V.int)[row.length]? = some (.int (ts.getD row.length 0)):=by
     rw [QAe,QAb (by exact Om.a1 ‹_› ‹_›)]
     simp [QAd,QAb (show row.length<ts.length by exact Om.a1 ‹_› ‹_›)]
    generalize ts.getD row.length 0=t at htat
    obtain ⟨M,hM,hM1,hMl⟩:∃ M:Int,(if ((ZS n A row).length:Int)>1 then ((ZS n A row).length:Int) else 1)=M/\0<M/\M<=max 1 ((ZS n A row).length:Int):=by
     refine ⟨_,rfl,?_,?_⟩
     ·split <;> omega
     ·split <;> omega
    obtain ⟨m,hm,hml⟩:∃ m:Nat,t % M=(m:Int)/\m<=(ZS n A row).length:=by
     have e1:=QCx t (show M≠0 by exact Om.k392 hM1)
     have e2:=QEa t hM1
     exact ⟨(t % M).toNat,by exact Om.z1 ‹_›,by exact Om.k391 hnl hMl e2⟩
    refine ⟨_,rfl,_,rfl,at_,_,_,_,rfl,rfl,SqL.of (s45 _ _ hts),YU htat,_,rfl,l5,_,rfl,.inl (SqL.of h5),1,_,rfl,_,_,rfl,rfl,?_,?_⟩
    ·rw [hnl,hM]
     exact hM1
    show Jy 5 (V.int (t % (if (((ZS n A row).map V.int).length:Int)>1 then (((ZS n A row).map V.int).length:Int) else 1))) _ _ _
    rw [hnl,hM,hm]
    refine ⟨_,rfl,_,rfl,(m:Int),rfl,l5,_,rfl,SqL.of h5,fun l7 hl7=>?_⟩
    rw [Zcu _ (by rw [hnl]; exact hml)]
    have s7:Same H5 (upd H5 l7 (.lst (((ZS n A row).map V.int).drop m))):=Same.new hl7
    refine ⟨_,rfl,_,rfl,(m:Int),rfl,l5,_,rfl,SqL.of (s7 _ _ h5),fun l8 hl8=>?_⟩
    rw [Zgg _ (by rw [hnl]; exact hml)]
    have s8:Same (upd H5 l7 (.lst (((ZS n A row).map V.int).drop m))) (upd (upd H5 l7 (.lst (((ZS n A row).map V.int).drop m))) l8 (.lst (((ZS n A row).map V.int).take m))):=Same.new hl8
    refine ⟨l7,l8,_,_,rfl,rfl,s8 _ _ Zb,Zb,Zq (by rw [QBn,QAt,hnl]; exact Om.k390 h8 htl hrl htl' hlt hpl2 hnl hml),fun l9 hl9=>?_⟩
    have s9:=(s7.trans s8).trans (Same.new (o:=.lst (((ZS n A row).map V.int).drop m++((ZS n A row).map V.int).take m)) hl9)
    have h9:(upd (upd (upd H5 l7 (.lst (((ZS n A row).map V.int).drop m))) l8 (.lst (((ZS n A row).map V.int).take m))) l9 (.lst (((ZS n A row).map V.int).drop m++((ZS n A row).map V.int).take m))) l9=some (.lst (((ZS n A row).map V.int).drop m++((ZS n A row).map V.int).take m)):=Zb
    generalize upd (upd (upd H5 l7 (.lst (((ZS n A row).map V.int).drop m))) l8 (.lst (((ZS n A row).map V.int).take m))) l9 (.lst (((ZS n A row).map V.int).drop m++((ZS n A row).map V.int).take m))=H9 at s9 h9 ⊢
    have memx:∀ y:V,y∈((ZS n A row).map V.int).drop m++((ZS n A row).map V.int).take m↔y∈(ZS n A row).map V.int:=fun y=>by
     conv=>rhs; rw [<- QCl m ((ZS n A row).map V.int)]
     rw [QCv,QCv,or_comm]
    generalize ((ZS n A row).map V.int).drop m++((ZS n A row).map V.int).take m=xs at h9 memx ⊢
    have sH9:=s45.trans s9
    refine ⟨l9,rfl,⟨_,SqL.of h9⟩,Zam (xs:=xs) (Zfs aA ar at_ n A row l5 m H9 xs)
     ⟨none,none,rfl,Same.refl _,fun j h=>absurd h (QDr _)⟩ (fun i σ H7 _ zz0=> by obtain ⟨_,_,_,s7,_⟩ := zz0; exact SqL.of (s7 _ _ h9)) ?_ ?_⟩
    ·rintro i y σ H7 hy ⟨v6,v7,rfl,s7,hno⟩
     obtain ⟨x,hxm,rfl⟩:=List.mem_map.mp ((memx y).mp (QAu hy))
     have sH7:=sH9.trans s7
     refine ⟨_,rfl,_,rfl,_,rfl,(show 1<=sizeLine from Zq (by decide)),fun lA hlA=>?_⟩
     have sA:Same H7 (upd H7 lA (.lst [.int x])):=Same.new hlA
     refine ⟨ar,lA,_,_,rfl,rfl,sA _ _ (sH7 _ _ hrow),Zb,by rw [hrl]; exact Zq (by simp; exact Om.b2 ‹_› ‹_› rfl),fun lB hlB=>?_⟩
     have sB:Same (upd H7 lA (.lst [.int x])) (upd (upd H7 lA (.lst [.int x])) lB (.lst (row.map V.int++[.int x]))):=Same.new hlB
     have sAB:=sA.trans sB
     refine ⟨_,rfl,aA,lB,at_,n,A,row++[x],ts,rfl,hA.same (sH7.trans sAB),hAn,hA8,by rw [Zb,QAm]; rfl,pr.next hlt hxm,h8,sAB _ _ (sH7 _ _ hts),htl,by rw [QAn]; simp; exact Om.k389 htl hk htl' hlt hnl,fun p HC r sC hp o pf=>?_,fun HC sC hnone=>?_⟩
     ·refine ⟨_,rfl,_,rfl,Zbn ⟨_,rfl,?_⟩⟩
      exact q1 p HC r (sH7.trans (sAB.trans sC)) hp o (List.IsPrefix.trans (List.prefix_append _ _) pf)
     ·refine ⟨_,rfl,_,rfl,ZaE ⟨_,_,rfl,s7.trans (sAB.trans sC),fun j hj z hz r o pf=>?_⟩⟩
      by_cases e:j<i
      ·exact hno j e z hz r o pf
      ·have ej:j=i:=by exact Om.k388 hj e
       subst ej
       rw [hy] at hz
       cases hz
       exact hnone r o pf
    ·rintro σ H7 ⟨v6,v7,rfl,s7,hno⟩
     refine q2 H7 (sH9.trans s7) fun r o pf=>?_
     obtain ⟨x,hx,pf2⟩:=Zjs hlt o pf
     obtain ⟨j,hj,hje⟩:=QBd ((memx _).mpr (List.mem_map.mpr ⟨x,hx,rfl⟩))
     exact hno j hj x (by rw [QAb hj,hje]) r o pf2
end
end My
namespace My
open PySem L2
inductive Zkc (vs:List V) (H:Hp) (Q:VK):Prop where
 | mk (n:Nat) (z:Int) (_:vs=[.int (n:Int),.int z]) (_:1<=n) (_:n<=8) (_:∀ (l:Addr) (R:List (List Int)) (H':Hp),Same H H'->LLs H' l R->OkRows n R->R.length=n->Q (.ref l) H'):Zkc vs H Q
noncomputable def Zi5:Sp:=fun vs H Q _=>Zkc vs H Q
section
variable {P:Program} {w:World} {K:PySem.W.Frag} {mg:Str->Option Value} {base:Heap}
theorem scByRows:Zs ["_law_n","_law_number_here","_law_rows","_law_row_here","_law_digits","_law_column"] ["_law_n","_law_number_here"] (Ze JE):=⟨rfl,rfl,rfl,by decide +kernel,rfl,by decide +kernel,by decide +kernel⟩
inductive Zfr (H:Hp) (n:Nat) (lr:Addr) (i:Nat) (σ:St) (H2:Hp):Prop where
 | mk (z:Int) (v3 v4 v5:Option V) (R:List (List Int)) (_:σ=[some (.int (n:Int)),some (.int z),some (.ref lr),v3,v4,v5]) (_:Same H H2) (_:LLs H2 lr R) (_:OkRows n R) (_:R.length=i):Zfr H n lr i σ H2
inductive Zfq (n:Nat) (lr:Addr) (i:Nat) (H2:Hp) (ld:Addr) (j:Nat) (σ:St) (H3:Hp):Prop where
 | mk (z:Int) (v5:Option V) (ts:List Int) (_:σ=[some (.int (n:Int)),some (.int z),some (.ref lr),some (.int (i:Int)),some (.ref ld),v5]) (_:Same H2 H3) (_:H3 ld=some (.lst (ts.map V.int))) (_:ts.length=j):Zfq n lr i H2 ld j σ H3
theorem Zhs {f fR:Addr} {fd dR:FuncData} (F:Fun K "_law_by_rows" "_law_by_rows" JE f fd) (T:Blt mg) (DR:Dfn K mg "_law_row" ZdQ ["_law_rows","_law_made","_law_digits"] fR dR):FnOk P w K mg base CX0 10 f fd ["_law_n","_law_number_here"] Zi5:=by
 have GR:FnOk P w K mg base CX0 9 fR dR ["_law_rows","_law_made","_law_digits"] (Zj0 9):=Zic DR T 9
 refine F.ok scByRows (fun vs H Q E h=>?_) (fun cdv A outer s H vs Q E hr h=>?_)
 ·obtain ⟨_,_,rfl,_⟩:=h
  rfl
 ·obtain ⟨n,z,rfl,h1,h8,q⟩:=h
  refine' ⟨_,Zd (Zj (i:=2) scByRows.nd rfl (Or.inl rfl) (Yc Zc)) (Zd (Yu PassesOwn.never rfl (Zp rfl T.range (Za (pv 0) Zc)) (ZG (i:=3) scByRows.nd rfl (Or.inl rfl)) (Zd (Zj (i:=4) scByRows.nd rfl (Or.inl rfl) (Yc Zc)) (Zd (Yu PassesOwn.never rfl (Zp rfl T.range (Za (pv 0) Zc)) (ZG (i:=5) scByRows.nd rfl (Or.inl rfl)) (Zd ?c0 (Zg ?c1))) (Zg ?b2)))) (Zg (Zt (pv 2)))),?rd⟩
  case c0=>exact YA (Jj PySem.F.plainAttrs_list PySem.F.slot_list_append PySem.F.type_list_append Yt (pv 4) (Za (Zk Yh (pv 1) Zi) Zc))
  case c1=>exact Zj (i:=1) scByRows.nd rfl (Or.inl rfl) (Zk YF (pv 1) Zi)
  case b2=>exact YA (Jj PySem.F.plainAttrs_list PySem.F.slot_list_append PySem.F.type_list_append Yt (pv 2) (Za (Zm GR hr rfl DR.m DR.F.kp DR.b .nil ZO (Za (pv 2) (Za (Yc Zc) (Za (pv 4) Zc)))) Zc))
  case rd =>
   refine ⟨QAh _,fun lr hlr=>?_⟩
   refine ⟨_,rfl,(n:Int),rfl,by exact Om.c2,by exact Om.c1 ‹_› rfl,?_⟩
   rw [QAf]
   refine Yk (lo:=0) (n:=n) (Zfr H n lr)
    ⟨z,none,none,none,[],rfl,Same.new hlr,⟨[],Zb,.nil⟩,⟨QAh _,(fun r h=>by cases h),fun c _=>QBr⟩,rfl⟩ ?_ ?_
   ·rintro i σ H2 hi ⟨z,v3,v4,v5,R,rfl,s2,hL,ok,hRl⟩
    rw [QBx]
    refine ⟨QAh _,fun ld hld=>?_⟩
    refine ⟨_,rfl,(n:Int),rfl,by exact Om.c2,by exact Om.c1 ‹_› rfl,?_⟩
    rw [QAf]
    refine Yk (lo:=0) (n:=n) (Zfq n lr i H2 ld)
     ⟨z,_,[],rfl,Same.new hld,Zb,rfl⟩ ?_ ?_
    ·rintro j σ H3 hj ⟨z,v5,ts,rfl,s3,h3,htl⟩
     rw [QBx]
     refine ⟨_,rfl,.inl ⟨rfl,_,SqL.of h3⟩,_,rfl,_,_,rfl,rfl,(by show (0:Int)<6; decide),ld,_,_,rfl,rfl,h3,by rw [QAa]; exact Zw (by exact Om.b5 ‹_› ‹_› ‹_› rfl),?_⟩
     refine ⟨_,rfl,_,_,rfl,rfl,⟨by decide,by decide⟩,_,_,ts++[z % 6],rfl,fun b u e=>?_,by rw [Zb,QAm]; rfl,by rw [QAn,htl]; rfl⟩
     rw [Zf (Zh e hld)]
     exact s3 _ _ e
    ·rintro σ H3 ⟨z,v5,ts,rfl,s3,h3,htl⟩
     have hL3:=hL.same s3
     obtain ⟨ps,hps,hPs⟩:=id hL3
     have hpl:(ps.map V.ref).length=R.length:=by rw [QAa,hPs.length]
     refine ⟨_,rfl,.inl ⟨rfl,_,SqL.of hps⟩,_,rfl,QAh _,fun l5 hl5=>?_⟩
     have s5:Same H3 (upd H3 l5 (.lst [])):=Same.new hl5
     refine ⟨_,rfl,lr,l5,ld,n,R,[],ts,rfl,hL3.same s5,fun o ho=>(ok.row o ho).1,by exact Om.b5 ‹_› ‹_› ‹_› rfl,Zb,PRow.nil n R,h8,s5 _ _ h3,htl,by simp; exact Om.f3 ‹_›,fun p H7 r s7 hp o _=>?_,fun H7 s7 hno=>?_⟩
     ·have hR7:=hL3.same (s5.trans s7)
      obtain ⟨ps7,hps7,hPs7⟩:=hR7
      have e7:ps7.map V.ref=ps.map V.ref:=by
       have:=(s5.trans s7) _ _ hps
       rw [hps7] at this
       injection this with this
       injection this
      refine ⟨lr,_,_,rfl,rfl,hps7,by rw [e7,hpl]; exact Zw (by exact Om.b5 ‹_› ‹_› ‹_› rfl),_,_,_,_,R++[r],rfl,fun b u e=>?_,?_,o.more ok (by exact Om.x1 ‹_› ‹_›),by rw [QAn,hRl]; rfl⟩
      ·rw [Zf (Zh e hlr)]
       exact s7 _ _ (s5 _ _ (s3 _ _ (s2 _ _ e)))
      ·refine LLs.push hps7 hPs7 (fun x hx=>?_) ?_ hp
       ·have:=(ok.row x hx).1
        exact fun z=>by rw [z] at this; simp at this; exact Om.k387 h1 h8 htl this
       ·have:=o.len
        exact fun z=>by rw [z] at this; simp at this; exact Om.k387 h1 h8 htl this
     ·obtain ⟨r,hr'⟩:=ZfO ok (by exact Om.x1 ‹_› ‹_›)
      exact (hno r hr' List.nil_prefix).elim
   ·rintro σ H2 ⟨z,v3,v4,v5,R,rfl,s2,hL,ok,hRl⟩
    exact ⟨_,rfl,q lr R H2 s2 hL ok hRl⟩
theorem scByRings:Zs ["_law_n","_law_number_here","_law_rows","_law_turn_here","_law_one","_law_other"] ["_law_n","_law_number_here"] (Ze Jf):=⟨rfl,rfl,rfl,by decide +kernel,rfl,by decide +kernel,by decide +kernel⟩
inductive Zfp (H:Hp) (n:Nat) (l:Addr) (ps:List Addr) (i:Nat) (σ:St) (H2:Hp):Prop where
 | mk (z:Int) (v3 v4 v5:Option V) (R:List (List Int)) (_:σ=[some (.int (n:Int)),some (.int z),some (.ref l),v3,v4,v5]) (_:Same H H2) (_:MG H2 l ps R) (_:OkRows n R) (_:R.length=n):Zfp H n l ps i σ H2
theorem Zf2 {f fB fA:Addr} {fd dB dA:FuncData} (F:Fun K "_law_by_rings" "_law_by_rings" Jf f fd) (T:Blt mg) (DB:Dfn K mg "_law_base" ZaQ ["_law_n","_law_number_here"] fB dB) (DA:Dfn K mg "_law_along" JY ["_law_rows","_law_one","_law_other","_law_column"] fA dA):FnOk P w K mg base CX0 2 f fd ["_law_n","_law_number_here"] Zi5:=by
 have GB:FnOk P w K mg base CX0 1 fB dB ["_law_n","_law_number_here"] ZhT:=Zjq DB.F T
 have GA:FnOk P w K mg base CX0 1 fA dA ["_law_rows","_law_one","_law_other","_law_column"] ZgA:=Zif DA.F T
 refine F.ok scByRings (fun vs H Q E h=>?_) (fun cdv A outer s H vs Q E hr h=>?_)
 ·obtain ⟨_,_,rfl,_⟩:=h
  rfl
 ·obtain ⟨n,z,rfl,h1,h8,q⟩:=h
  refine' ⟨_,Zd ?s0 (Zd ?s1 (Zd (Yu PassesOwn.never rfl (Zp rfl T.range (Za (Zk Yh (pv 1) Zi) Zc)) (ZG (i:=3) scByRings.nd rfl (Or.inl rfl)) (Zd ?b0 (Zd ?b1 (Zd ?b2 (Zg (Jg ?c (Zg ?d) Yf)))))) (Zg (Zt (pv 2))))),?rd⟩
  case s0=>exact Zj (i:=2) scByRings.nd rfl (Or.inl rfl) (Zm GB hr rfl DB.m DB.F.kp DB.b .nil ZO (Za (pv 0) (Za (pv 1) Zc)))
  case s1=>exact Zj (i:=1) scByRings.nd rfl (Or.inl rfl) (Zk YF (pv 1) Zi)
  case b0=>exact Zj (i:=1) scByRings.nd rfl (Or.inl rfl) (Zk YF (pv 1) Zi)
  case b1=>exact Zj (i:=4) scByRings.nd rfl (Or.inl rfl) (Zk Yh (pv 1) (pv 0))
  case b2=>exact Zj (i:=5) scByRings.nd rfl (Or.inl rfl) (Zk Yh (Zk Yv (Zk Yv (pv 4) Zi) (Zk Yh (Zk YF (pv 1) (pv 0)) (Zu (Zbs rfl) rfl T.max PyProof.Rows.boot_max (Za Zi (Za (Zk Zh7 (pv 0) Zi) Zc))))) (pv 0))
  case c=>exact ZR Zh8 (pv 4) (pv 5) (Yp _)
  case d=>exact Zj (i:=2) scByRings.nd rfl (Or.inl rfl) (Zm GA hr rfl DA.m DA.F.kp DA.b .nil ZO (Za (pv 2) (Za (pv 4) (Za (pv 5) (Za (Zk Yh (Zk YF (Zk YF (pv 1) (pv 0)) (Zu (Zbs rfl) rfl T.max PyProof.Rows.boot_max (Za Zi (Za (Zk Zh7 (pv 0) Zi) Zc)))) (pv 0)) Zc)))))
  case rd =>
   refine ⟨_,rfl,_,rfl,n,z,rfl,h1,h8,fun l ps R H1 s1 hl hfr M1 ok hRl=>?_⟩
   refine ⟨_,rfl,_,_,rfl,rfl,⟨by decide,by decide⟩,?_⟩
   obtain ⟨m,hm,hm7⟩:∃ m:Nat,z / 3 % 7=(m:Int)/\m<7:=⟨(z / 3 % 7).toNat,by exact Om.k386 ,by exact Om.k385 ⟩
   refine ⟨_,rfl,_,_,rfl,rfl,(by show (0:Int)<7; decide),(m:Int),?_,by exact Om.c2,by exact Om.k384 hm,?_⟩
   ·show [V.int (z / 3 % 7)]=_
    rw [hm]
   rw [QAf]
   refine Yk (lo:=0) (n:=m) (Zfp H n l ps)
    ⟨_,none,none,none,R,rfl,s1,M1,ok,hRl⟩ ?_ ?_
   ·clear M1 ok hRl
    rintro i σ H2 hi ⟨z,v3,v4,v5,R,rfl,s2,M2,ok,hRl⟩
    rw [QBx]
    refine ⟨_,rfl,_,_,rfl,rfl,⟨by decide,by decide⟩,?_⟩
    generalize hz:z / 7=y
    obtain ⟨o1,e1,ho1⟩:∃ o1:Nat,y % (n:Int)=(o1:Int)/\o1<n:=⟨(y % (n:Int)).toNat,by have:=QCx y (show (n:Int)≠0 by exact Om.k383 h1 h8 hRl); exact Om.z1 ‹_›,by have:=QEa y (show (0:Int)<n by exact Om.c3 ‹_›); have:=QCx y (show (n:Int)≠0 by exact Om.k383 h1 h8 hRl); omega⟩
    obtain ⟨M,hM,hM1,hM2⟩:∃ M:Int,(if (n:Int) - 1>1 then (n:Int) - 1 else 1)=M/\0<M/\M<=8:=by
     refine ⟨_,rfl,?_,?_⟩
     ·split <;> omega
     ·split <;> omega
    refine ⟨_,rfl,_,rfl,_,_,rfl,rfl,(by show (0:Int)<(n:Int); exact Om.c3 ‹_›),?_⟩
    show Jy 4 (V.int (y % (n:Int))) _ _ _
    rw [e1]
    obtain ⟨o2,e2,ho2⟩:∃ o2:Nat,((o1:Int)+1+y / (n:Int) % M) % (n:Int)=(o2:Int)/\o2<n:=⟨(((o1:Int)+1+y / (n:Int) % M) % (n:Int)).toNat,by have:=QCx ((o1:Int)+1+y / (n:Int) % M) (show (n:Int)≠0 by exact Om.k383 h1 h8 hRl); exact Om.z1 ‹_›,by have:=QEa ((o1:Int)+1+y / (n:Int) % M) (show (0:Int)<n by exact Om.c3 ‹_›); have:=QCx ((o1:Int)+1+y / (n:Int) % M) (show (n:Int)≠0 by exact Om.k383 h1 h8 hRl); omega⟩
    refine ⟨_,rfl,_,_,rfl,rfl,_,rfl,_,rfl,_,_,rfl,rfl,⟨(by show (0:Int)<(n:Int); exact Om.c3 ‹_›),(by show (n:Int)<1073741824; exact Om.k382 h1 h8 hRl)⟩,_,rfl,_,_,rfl,rfl,1,_,rfl,_,_,rfl,rfl,(by rw [hM]; exact hM1),_,_,rfl,rfl,_,rfl,_,_,rfl,rfl,(by show (0:Int)<(n:Int); exact Om.c3 ‹_›),?_⟩
    show Jy 5 (V.int (((o1:Int)+1+y / (n:Int) % (if (n:Int) - 1>1 then (n:Int) - 1 else 1)) % (n:Int))) _ _ _
    rw [hM,e2]
    refine ⟨_,rfl,_,rfl,rfl,_,rfl,Zal (fun hd=>?_) (fun _=>⟨_,_,_,_,R,rfl,s2,M2,ok,hRl⟩)⟩
    have hne:o1≠o2:=fun e=>by
     rw [e,decide_eq_true rfl] at hd
     cases hd
    obtain ⟨c0,e3,hc0⟩:∃ c0:Nat,y / (n:Int) / M % (n:Int)=(c0:Int)/\c0<n:=⟨(y / (n:Int) / M % (n:Int)).toNat,by have:=QCx (y / (n:Int) / M) (show (n:Int)≠0 by exact Om.k383 h1 h8 hRl); exact Om.z1 ‹_›,by have:=QEa (y / (n:Int) / M) (show (0:Int)<n by exact Om.c3 ‹_›); have:=QCx (y / (n:Int) / M) (show (n:Int)≠0 by exact Om.k383 h1 h8 hRl); omega⟩
    refine ⟨_,rfl,_,rfl,_,rfl,_,rfl,_,rfl,_,_,rfl,rfl,⟨(by show (0:Int)<(n:Int); exact Om.c3 ‹_›),(by show (n:Int)<1073741824; exact Om.k382 h1 h8 hRl)⟩,_,rfl,_,_,rfl,rfl,1,_,rfl,_,_,rfl,rfl,⟨(by rw [hM]; exact hM1),(by rw [hM]; exact Om.k381 hM1 hM2)⟩,_,rfl,_,_,rfl,rfl,(by show (0:Int)<(n:Int); exact Om.c3 ‹_›),l,ps,n,o1,o2,c0,R,?_,M2,ok,hRl,h8,ho1,ho2,hne,hc0,fun H3 k3 M3=>?_⟩
    ·show [V.ref l,V.int (o1:Int),V.int (o2:Int),V.int (y / (n:Int) / (if (n:Int) - 1>1 then (n:Int) - 1 else 1) % (n:Int))]=_
     rw [hM,e3]
    ·obtain ⟨ok3,hl3⟩:=ZlI ok hRl ho1 ho2 hc0
     exact ⟨_,_,_,_,_,rfl,fun b u e=>k3 b u (fun z=>by rw [hfr b z] at e; cases e) (s2 _ _ e),M3,ok3,hl3⟩
   ·rintro σ H2 ⟨z,v3,v4,v5,R,rfl,s2,M2,ok,hRl⟩
    exact ⟨_,rfl,q l R H2 s2 ⟨ps,M2.out,M2.rows⟩ ok hRl⟩
end
end My
namespace My
open PySem L2
structure ZlL (n:Nat) (R:List (List Int)) (x:Nat->Nat):Prop where
 h0:x 0<n
 h1:x 1<n
 h2:x 2<n
 e:ent R (x 0) (x 1)=((x 2:Nat):Int)
noncomputable def e3 (R:List (List Int)) (i j:Nat):Nat->Nat
 | 0=>i
 | 1=>j
 | _=>(ent R i j).toNat
theorem ZbO {n:Nat} {R:List (List Int)} (ok:OkRows n R) (hl:R.length=n) {i j:Nat} (hi:i<n) (hj:j<n):0<=ent R i j/\ent R i j<(n:Int):=(Yw ok hl hi).val hj
theorem Zi1 {n:Nat} {R:List (List Int)} (ok:OkRows n R) (hl:R.length=n) {i j:Nat} (hi:i<n) (hj:j<n):ZlL n R (e3 R i j):=by
 have h:=ZbO ok hl hi hj
 exact ⟨hi,hj,show (ent R i j).toNat<n by exact Om.k368 hj h,show ent R i j=(((ent R i j).toNat:Nat):Int) by exact Om.k13 h⟩
theorem Zg1 {n:Nat} {R:List (List Int)} (ok:OkRows n R) (hl:R.length=n) {c b:Nat} (hc:c<n) (hb:b<n):∃ i,i<n/\ent R i c=(b:Int):=by
 have hm:(b:Int)∈Z6 R c:=Ja (by unfold Z6; rw [QAa,hl]) (ok.col c hc) (fun x hx=>by
  obtain ⟨r,hr,rfl⟩:=List.mem_map.mp hx
  obtain ⟨h1,_,h3⟩:=ok.row r hr
  rw [ZH (by exact Om.a1 ‹_› ‹_›)]
  exact h3 _ (QAs _)) ⟨by exact Om.c6,by exact Om.c5 ‹_›⟩
 unfold Z6 at hm
 obtain ⟨r,hr,e⟩:=List.mem_map.mp hm
 obtain ⟨i,hi,e'⟩:=QBd hr
 refine ⟨i,by exact Om.a2 ‹_› ‹_›,?_⟩
 unfold ent
 rw [QAd (l:=R),QAb hi,e']
 exact e
theorem Zin {n:Nat} {R:List (List Int)} (hl:R.length=n) (hr:∀ r∈R,r.length=n):mk n (ent R)=R:=by
 refine QBp (by unfold mk; rw [QAa,QAp,hl]) fun k h1 h2=>?_
 have e:(mk n (ent R))[k]=(List.range n).map fun c=>ent R k c:=by simp [mk]
 rw [e]
 have hr:=hr _ (QAs h2)
 refine QBp (by rw [QAa,QAp,hr]) fun c h3 h4=>?_
 simp [ent,QAd,QAb h2,QAb h4]
theorem ZjL {n:Nat} {R S:List (List Int)} (hl:R.length=n) (hr:∀ r∈R,r.length=n) (hl':S.length=n) (hr':∀ r∈S,r.length=n) (h:∀ a b,a<n->b<n->ent R a b=ent S a b):R=S:=by
 rw [<- Zin hl hr,<- Zin hl' hr']
 unfold mk
 refine QBq fun a ha=>QBq fun b hb=>?_
 exact h a b (List.mem_range.mp ha) (List.mem_range.mp hb)
section
variable {n:Nat} {R F G:List (List Int)} {rl rl':List Nat}
end
noncomputable def ZY (n:Nat) (R Rn:List (List Int)):List (List Int):=mk n fun i j=>(Rn.getD 2 []).getD (ent R (ixo (Rn.getD 0 []) i) (ixo (Rn.getD 1 []) j)).toNat 0
section
variable {n:Nat} {R Rn F:List (List Int)} {rl:List Nat}
theorem ZgP {r:List Int} (t:Turn n r) {i j:Nat} (hi:i<n) (hj:j<n) (e:ixo r i=ixo r j):i=j:=by
 have h1:=(YR t hi).2
 have h2:=(YR t hj).2
 unfold ixo at e
 rw [e,h2] at h1
 omega
theorem YN (ok:OkRows n R) (hl:R.length=n) (rn:Ren n Rn):OkRows n (ZY n R Rn)/\(ZY n R Rn).length=n:=by
 have t0:=rn.at (k:=0) (by decide)
 have t1:=rn.at (k:=1) (by decide)
 have t2:=rn.at (k:=2) (by decide)
 have rg:∀ i j,i<n->j<n->∃ x:Nat,ent R (ixo (Rn.getD 0 []) i) (ixo (Rn.getD 1 []) j)=(x:Int)/\x<n:=fun i j hi hj=>by
  have:=ZbO ok hl (ZW t0 hi) (ZW t1 hj)
  exact ⟨(ent R (ixo (Rn.getD 0 []) i) (ixo (Rn.getD 1 []) j)).toNat,by exact Om.k13 this,by exact Om.k368 hj this⟩
 refine Zj4 (fun i j hi hj=>?_) (fun i j k hi hj hk e=>?_) (fun i j k hi hj hk e=>?_)
 ·obtain ⟨x,ex,hx⟩:=rg i j hi hj
  rw [ex,QAf]
  obtain ⟨y,ey,hy⟩:=t2.val hx
  rw [ey]
  exact Om.k380 hy
 ·obtain ⟨x,ex,hx⟩:=rg i j hi hj
  obtain ⟨y,ey,hy⟩:=rg i k hi hk
  rw [ex,ey,QAf,QAf] at e
  have:=t2.inj hx hy e
  refine ZgP t1 hj hk ((Yw ok hl (ZW t0 hi)).inj (ZW t1 hj) (ZW t1 hk) ?_)
  show ent R _ _=ent R _ _
  rw [ex,ey,this]
 ·obtain ⟨x,ex,hx⟩:=rg i k hi hk
  obtain ⟨y,ey,hy⟩:=rg j k hj hk
  rw [ex,ey,QAf,QAf] at e
  have:=t2.inj hx hy e
  exact ZgP t0 hi hj (ZaC ok hl (ZW t0 hi) (ZW t0 hj) (ZW t1 hk) (by rw [ex,ey,this]))
noncomputable def rnE (Rn:List (List Int)) (x:Nat->Nat) (k:Nat):Nat:=((Rn.getD k []).getD (x k) 0).toNat
theorem ZfP (rn:Ren n Rn) {x:Nat->Nat} {k:Nat} (hk:k<3) (hx:x k<n):(Rn.getD k []).getD (x k) 0=((rnE Rn x k:Nat):Int)/\rnE Rn x k<n/\ixo (Rn.getD k []) (rnE Rn x k)=x k:=by
 obtain ⟨y,ey,hy⟩:=(rn.at hk).val hx
 have e:rnE Rn x k=y:=by
  unfold rnE
  rw [ey,QAf]
 rw [e]
 exact ⟨ey,hy,Y6 (rn.at hk) hx hy ey⟩
theorem Zhl (rn:Ren n Rn) (ok:OkRows n R) (hl:R.length=n) {x:Nat->Nat} (t:ZlL n R x):ent (ZY n R Rn) (rnE Rn x 0) (rnE Rn x 1)=((rnE Rn x 2:Nat):Int):=by
 obtain ⟨_,a1,a2⟩:=ZfP rn (x:=x) (k:=0) (by decide) t.h0
 obtain ⟨_,b1,b2⟩:=ZfP rn (x:=x) (k:=1) (by decide) t.h1
 obtain ⟨c0,_,_⟩:=ZfP rn (x:=x) (k:=2) (by decide) t.h2
 unfold ZY
 rw [ZkK a1 b1,a2,b2,t.e,QAf]
 exact c0
end
theorem ZaT {H:Hp}:∀ {ps:List Addr} {R:List (List Int)},Paired (fun p row=>H p=some (.tup row)) ps (R.map fun r=>r.map V.int)->Paired (fun p (r:List Int)=>H p=some (.tup (r.map V.int))) ps R
 | _,[],.nil=>.nil
 | _,_::_,.cons h t=>.cons h (ZaT t)
theorem Zb9 {H:Hp}:∀ {ps:List Addr} {R:List (List Int)},Paired (fun p (r:List Int)=>H p=some (.tup (r.map V.int))) ps R->Paired (fun p row=>H p=some (.tup row)) ps (R.map fun r=>r.map V.int)
 | _,_,.nil=>.nil
 | _,_,.cons h t=>.cons h (Zb9 t)
theorem GridT.tg {H:Hp} {a:Addr} {R:List (List Int)} (g:GridT H a (R.map fun r=>r.map V.int)):TG H a R :=
 let ⟨ps,h,r⟩:=g
 ⟨ps,h,ZaT r⟩
theorem TG.grid {H:Hp} {a:Addr} {R:List (List Int)} (g:TG H a R):GridT H a (R.map fun r=>r.map V.int) :=
 let ⟨ps,h,r⟩:=g
 ⟨ps,h,Zb9 r⟩
theorem Zk0 {n:Nat} {R:List (List Int)} (ok:OkRows n R) (hl:R.length=n) {i j:Nat} (hi:i<n) (hj:j<n):en (R.map fun r=>r.map V.int) i j=V.int (ent R i j):=by
 have h1:i<R.length:=by exact Om.a1 ‹_› ‹_›
 have h2:j<R[i].length:=by rw [(ok.row _ (QAs h1)).1]; exact hj
 unfold en ent
 rw [QAd (l:=R.map fun r=>r.map V.int),QAe,QAb h1,QAd (l:=R),QAb h1]
 show (R[i].map V.int).getD j .non=V.int (R[i].getD j 0)
 rw [QAd,QAe,QAb h2,QAd,QAb h2]
 rfl
theorem ZkJ {n:Nat} (f:Nat->Nat->Int):(mk n f).map (fun r=>r.map V.int)=mkB n fun i j=>V.int (f i j):=by
 unfold mk mkB
 rw [QBb]
 refine QBq fun i _=>?_
 show ((List.range n).map fun c=>f i c).map V.int=_
 rw [QBb]
 rfl
theorem Ju {n:Nat} {R Rn:List (List Int)} (ok:OkRows n R) (hl:R.length=n) (rn:Ren n Rn):YO n (R.map fun r=>r.map V.int) Rn=(ZY n R Rn).map fun r=>r.map V.int:=by
 unfold ZY
 rw [ZkJ]
 unfold YO
 refine Zbk fun i j hi hj=>?_
 rw [Zk0 ok hl (ZW (rn.at (by decide)) hi) (ZW (rn.at (by decide)) hj)]
 rfl
end My
namespace My
open PySem L2
theorem ZbM {n:Nat} {R:List (List Int)} (ok:OkRows n R) (hl:R.length=n):EG n (R.map fun r=>r.map V.int):=by
 have row:∀ i (h:i<R.length),(R.map fun r=>r.map V.int).getD i []=R[i].map V.int:=fun i h=>by
  rw [QAd,QAe,QAb h]
  rfl
 refine ⟨by rw [QAa,hl],fun i hi=>?_,fun i j hi hj=>?_⟩
 ·rw [row i (by exact Om.a1 ‹_› ‹_›),QAa]
  exact (ok.row _ (QAs _)).1
 ·obtain ⟨h1,h2,h3⟩:=ok.row (R[i]'(by exact Om.a1 ‹_› ‹_›)) (QAs _)
  unfold en
  rw [row i (by exact Om.a1 ‹_› ‹_›),QAd,QAe,QAb (by exact Om.a1 ‹_› ‹_›)]
  have:=h3 ((R[i]'(by exact Om.a1 ‹_› ‹_›))[j]'(by exact Om.a1 ‹_› ‹_›)) (QAs _)
  refine .inr ⟨((R[i]'(by exact Om.a1 ‹_› ‹_›))[j]'(by exact Om.a1 ‹_› ‹_›)).toNat,?_,by exact Om.k379 hl hi hj h1 this⟩
  show V.int _=V.int _
  congr 1
  exact Om.k378 hl hi hj h1 this
inductive Zdt (K:PySem.W.Frag) (vs:List V) (H:Hp) (Q:VK):Prop where
 | mk (a:Addr) (ns:List Int) (k n:Nat) (_:vs=[.ref a,.int (k:Int),.int (n:Int)]) (_:SqL K H a (ns.map V.int)) (_:1<=n) (_:n<=8) (_:∀ (t:Addr) (H':Hp) (R:List (List Int)),Same H H'->TG H' t R->OkRows n R->R.length=n->Q (.ref t) H'):Zdt K vs H Q
noncomputable def Zem (K:PySem.W.Frag):Sp:=fun vs H Q _=>Zdt K vs H Q
section
variable {P:Program} {w:World} {K:PySem.W.Frag} {mg:Str->Option Value} {base:Heap}
structure SqD (K:PySem.W.Frag) (mg:Str->Option Value) (fC fN fT fR fL fB fA fW fM fG:Addr) (dC dN dT dR dL dB dA dW dM dG:FuncData):Prop where
 C:Dfn K mg "_law_cell_at" Zah ["_law_script","_law_k"] fC dC
 N:Dfn K mg "_law_number" Jm ["_law_script","_law_k"] fN dN
 T:Dfn K mg "_law_turn" ZaF ["_law_n","_law_number_here"] fT dT
 R:Dfn K mg "_law_renaming" YK ["_law_script","_law_k","_law_n"] fR dR
 L:Dfn K mg "_law_renamed" Zbw ["_law_begun","_law_renaming_here"] fL dL
 B:Dfn K mg "_law_base" ZaQ ["_law_n","_law_number_here"] fB dB
 A:Dfn K mg "_law_along" JY ["_law_rows","_law_one","_law_other","_law_column"] fA dA
 W:Dfn K mg "_law_row" ZdQ ["_law_rows","_law_made","_law_digits"] fW dW
 M:Dfn K mg "_law_by_rows" JE ["_law_n","_law_number_here"] fM dM
 G:Dfn K mg "_law_by_rings" Jf ["_law_n","_law_number_here"] fG dG
variable {fC fN fT fR fL fB fA fW fM fG:Addr} {dC dN dT dR dL dB dA dW dM dG:FuncData}
theorem scSquare:Zs ["_law_script","_law_k","_law_n","_law_number_here","_law_rows"] ["_law_script","_law_k","_law_n"] (Ze JC):=⟨rfl,rfl,rfl,by decide +kernel,rfl,by decide +kernel,by decide +kernel⟩
inductive Zfo (R:List (List Int)) (H2:Hp) (lk:Addr) (i:Nat) (ys:List V) (σ:St) (H':Hp):Prop where
 | mk (v:Option V) (qs:List Addr) (_:σ=[v]) (_:ys=qs.map V.ref) (_:Same H2 H') (_:H' lk=some (.lst ys)) (_:Paired (fun p row=>H' p=some (.tup row)) qs ((R.map fun r=>r.map V.int).take i)):Zfo R H2 lk i ys σ H'
theorem Zhq {f:Addr} {fd:FuncData} (F:Fun K "_law_square" "_law_square" JC f fd) (T:Blt mg) (Z:SqD K mg fC fN fT fR fL fB fA fW fM fG dC dN dT dR dL dB dA dW dM dG):FnOk P w K mg base CX0 11 f fd ["_law_script","_law_k","_law_n"] (Zem K):=by
 have GN:FnOk P w K mg base CX0 10 fN dN ["_law_script","_law_k"] (Zbd K):=(Zc5 Z.N.F T Z.C).mono (by decide)
 have GM:FnOk P w K mg base CX0 10 fM dM ["_law_n","_law_number_here"] Zi5:=Zhs Z.M.F T Z.W
 have GG:FnOk P w K mg base CX0 10 fG dG ["_law_n","_law_number_here"] Zi5:=(Zf2 Z.G.F T Z.B Z.A).mono (by decide)
 have GR:FnOk P w K mg base CX0 10 fR dR ["_law_script","_law_k","_law_n"] (ZbV K):=(ZeD Z.R.F T Z.C Z.N Z.T).mono (by decide)
 have GL:FnOk P w K mg base CX0 10 fL dL ["_law_begun","_law_renaming_here"] Zar:=(Zjn Z.L.F T).mono (by decide)
 refine F.ok scSquare (fun vs H Q E h=>?_) (fun cdv A outer s H vs Q E hr h=>?_)
 ·obtain ⟨_,_,_,_,rfl,_⟩:=h
  rfl
 ·obtain ⟨a,ns,k,n,rfl,hS,h1,h8,q⟩:=h
  refine' ⟨_,Zd ?s0 (Zd (Jg ?c (Zg ?d0) (Zg ?d1)) (Zg (Zt ?r))),?rd⟩
  case s0=>exact Zj (i:=3) scSquare.nd rfl (Or.inl rfl) (Zm GN hr rfl Z.N.m Z.N.F.kp Z.N.b .nil ZO (Za (pv 0) (Za (pv 1) Zc)))
  case c=>exact ZR ZaG (Zk Yh (pv 3) Zi) Zi (Yp _)
  case d0=>exact Zj (i:=4) scSquare.nd rfl (Or.inl rfl) (Zm GM hr rfl Z.M.m Z.M.F.kp Z.M.b .nil ZO (Za (pv 2) (Za (Zk YF (pv 3) Zi) Zc)))
  case d1=>exact Zj (i:=4) scSquare.nd rfl (Or.inl rfl) (Zm GG hr rfl Z.G.m Z.G.F.kp Z.G.b .nil ZO (Za (pv 2) (Za (Zk YF (pv 3) Zi) Zc)))
  case r=>exact Zm GL hr rfl Z.L.m Z.L.F.kp Z.L.b .nil ZO (Za (Zx (ZB K) rfl T.tuple ZX (Za (Yr ["_law_row_here"] [none] rfl rfl (Z2 K (pv 4)) (fun _ _ _ _ _=>Yx 0) (fun _ _ _ _ _=>ZA) (fun _ _ _ _ _=>Zx (ZB K) rfl T.tuple ZX (Za (pv 0) Zc))) Zc)) (Za (Zm GR hr rfl Z.R.m Z.R.F.kp Z.R.b .nil ZO (Za (pv 0) (Za (Zk Yv (pv 1) Zi) (Za (pv 2) Zc)))) Zc))
  case rd =>
   refine ⟨_,rfl,_,rfl,a,ns,k,rfl,hS,fun z=>?_⟩
   refine ⟨_,rfl,_,_,rfl,rfl,(by show (0:Int)<2; decide),rfl,_,rfl,?_⟩
   refine Zal (fun _=>?_) (fun _=>?_)
   all_goals
    refine ⟨_,rfl,_,rfl,_,_,rfl,rfl,⟨by decide,by decide⟩,n,_,rfl,h1,h8,fun lr R H2 sH2 hL ok hRl=>?_⟩
    obtain ⟨ps,hps,hPs⟩:=id hL
    have hpl:(ps.map V.ref).length=R.length:=by rw [QAa,hPs.length]
    refine ⟨_,rfl,lr,rfl,⟨_,SqL.of hps⟩,fun lk hlk=>ZZ (Z1 (xs:=ps.map V.ref)) (Zfo R H2 lk)
     ⟨none,[],rfl,rfl,Same.new hlk,Zb,.nil⟩ (fun i ys σ H' zz0=> by obtain ⟨v,qs,_,_,sm,hl,_⟩ := zz0; exact ⟨SqL.of (sm _ _ hps),hl⟩) ?_ ?_⟩
    ·rintro j x ys σ H7 hj ⟨v,qs,rfl,rfl,sm7,hl7,hP7⟩
     rw [QAe] at hj
     cases hpj:ps[j]? with
     | none=>rw [hpj] at hj; cases hj
     | some p =>
      rw [hpj] at hj
      cases hj
      obtain ⟨r,hrj,hp⟩:=Paired.getL hPs hpj
      refine ⟨_,rfl,p,r.map V.int,rfl,.inl ⟨SqL.of (sm7 _ _ hp),fun tp htp=>?_⟩⟩
      have sm8:Same H7 (upd H7 tp (.tup (r.map V.int))):=Same.new htp
      have hl9:=sm8 _ _ hl7
      have hjl:j<R.length:=(List.getElem?_eq_some_iff.mp hrj).1
      have hql:qs.length=j:=by rw [hP7.length,QAt,QAa]; omega
      refine ⟨hl9,by rw [QAa,hql]; exact Zw (by omega),_,qs++[tp],rfl,by rw [QAm]; rfl,fun b o e=>?_,Zb,?_⟩
      ·rw [Zf (Zh e hlk)]
       exact sm8 _ _ (sm7 _ _ e)
      ·have up:∀ b row,(upd H7 tp (.tup (r.map V.int))) b=some (.tup row)->(upd (upd H7 tp (.tup (r.map V.int))) lk (.lst (qs.map V.ref++[.ref tp]))) b=some (.tup row):=fun b row e=>by
        rw [Zf (YV e hl9 (by intro z; cases z))]
        exact e
       have et:(R.map fun r=>r.map V.int).take (j+1)=(R.map fun r=>r.map V.int).take j++[r.map V.int]:=by rw [QBy,QAe,hrj]; rfl
       rw [et]
       exact Paired.snoc (Paired.mapP hP7 fun q row e=>up q row (sm8 _ _ e)) (up tp _ Zb)
    ·rintro ys σ H7 ⟨v,qs,rfl,rfl,sm7,hl7,hP7⟩
     rw [hpl,QBc (by rw [QAa]; exact QAc _)] at hP7
     refine ⟨lk,_,rfl,.inl ⟨SqL.of hl7,fun tk htk=>?_⟩⟩
     have sm8:Same H7 (upd H7 tk (.tup (qs.map V.ref))):=Same.new htk
     have hG8:GridT (upd H7 tk (.tup (qs.map V.ref))) tk (R.map fun r=>r.map V.int):=⟨qs,Zb,Paired.mapP hP7 fun _ _ z=>sm8 _ _ z⟩
     have s28:=sH2.trans (sm7.trans sm8)
     generalize upd H7 tk (.tup (qs.map V.ref))=H8 at hG8 s28 ⊢
     refine ⟨_,rfl,_,rfl,_,_,rfl,rfl,_,rfl,a,ns,k+1,n,rfl,s28.seq hS,h8,fun tr H9 Rn s9 _ hT9 rn=>?_⟩
     have eg:=ZbM ok hRl
     exact ⟨tk,tr,n,_,Rn,rfl,hG8.same s9,eg,hT9,rn,h1,h8,fun t HA sA hGA=>by
      rw [Ju ok hRl rn] at hGA
      exact q t HA _ (s28.trans (s9.trans sA)) (GridT.tg hGA) (YN ok hRl rn).1 (YN ok hRl rn).2⟩
end
end My
namespace My
open PySem L2
inductive Zg6 (vs:List V) (H:Hp) (Q:VK):Prop where
 | mk (g:Addr) (n o1 o2 c:Nat) (R:List (List Int)) (_:vs=[.ref g,.int (o1:Int),.int (o2:Int),.int (c:Int)]) (_:TG H g R) (_:OkRows n R) (_:R.length=n) (_:n<=8) (_:o1<n) (_:o2<n) (_:c<n) (_:∀ l H',Same H H'->H l=none->H' l=some (.lst ((toI (Yn (stp (R.getD o1 []) (R.getD o2 [])) n c)).map V.int))->Q (.ref l) H'):Zg6 vs H Q
noncomputable def ZhQ:Sp:=fun vs H Q _=>Zg6 vs H Q
noncomputable def LLn (H0 H:Hp) (a:Addr) (L:List (List Nat)):Prop:=∃ ps:List Addr,H a=some (.lst (ps.map V.ref))/\Paired (fun p (r:List Nat)=>H p=some (.lst ((toI r).map V.int))/\p≠a/\H0 p=none) ps L
theorem Zd4 (i:Nat) (r:List Nat):inV (.int (i:Int)) ((toI r).map V.int)=decide (i∈r):=by
 rw [Za0]
 congr 1
 unfold toI
 rw [eq_iff_iff]
 constructor
 ·intro h
  obtain ⟨c,hc,e⟩:=List.mem_map.mp h
  have:c=i:=by exact Om.e1 ‹_›
  rw [<- this]
  exact hc
 ·intro h
  exact List.mem_map.mpr ⟨i,h,rfl⟩
inductive Zfd (vs:List V) (H:Hp) (Q:VK):Prop where
 | mk (g:Addr) (n o1 o2:Nat) (R:List (List Int)) (_:vs=[.ref g,.int (o1:Int),.int (o2:Int)]) (_:TG H g R) (_:OkRows n R) (_:R.length=n) (_:n<=8) (_:o1<n) (_:o2<n) (_:o1≠o2) (_:∀ l H',Same H H'->H l=none->LLn H H' l (Zz (stp (R.getD o1 []) (R.getD o2 [])) n n)->Q (.ref l) H'):Zfd vs H Q
noncomputable def Zgx:Sp:=fun vs H Q _=>Zfd vs H Q
theorem Zer {n:Nat} {s:Nat->Nat} (o:One n s) {c:Nat} (hc:c<n):(Yn s n c).length<=n:=ZaV (J1 o hc).1.nodup ((J1 o hc).1.lt o)
theorem YL (s:Nat->Nat) (n:Nat):∀ j,(Zz s n j).length<=j
 | 0=>QAc _
 | j+1=>by
  have ih:=YL s n j
  rw [Zz]
  split
  ·rw [QAn]; exact Nat.succ_le_succ ih
  ·omega
theorem ZeW {n:Nat} {s:Nat->Nat} (o:One n s):∀ j,j<=n->(Zz s n j).flatten.length<=j*n
 | 0,_=>QAh _
 | j+1,h=>by
  have ih:=ZeW o j (by exact Om.f4 ‹_›)
  rw [Zz]
  have e:(j+1)*n=j*n+n:=QCp j n
  split
  ·have:=Zer o (c:=j) (by exact Om.f5 ‹_›)
   rw [List.flatten_append,QAn,List.flatten_singleton]
   omega
  ·omega
theorem ZiV (L:List (List Nat)) (i:Nat):L.all (fun r=>decide (i∉r)) = !decide (i∈L.flatten):=by
 rw [QBi,QBe]
 simp
theorem JV (a b:List Nat):toI (a++b)=toI a++toI b:=QAm
noncomputable def WRf (H:Hp) (g:Addr) (n o1 o2 c:Nat) (s:Nat->Nat) (l:Addr) (m:Nat) (σ:St) (H2:Hp):Prop :=
 ∃ (acc:List Nat) (x:Nat),σ=[some (.ref g),some (.int (o1:Int)),some (.int (o2:Int)),some (.int (c:Int)),some (.ref l),some (.int (x:Int))]/\Same H H2/\H2 l=some (.lst ((toI acc).map V.int))/\((acc=[]/\x=c)\/(Path n s c acc/\x=s (Z0 acc)/\J7 s c (n+1 - acc.length) acc=Yn s n c))/\m=n+1 - acc.length
section
variable {P:Program} {w:World} {K:PySem.W.Frag} {mg:Str->Option Value} {base:Heap}
theorem scRf:Zs ["square","one","other","column","ring","here"] ["square","one","other","column"] (Ze Yz):=⟨rfl,rfl,rfl,by decide +kernel,rfl,by decide +kernel,by decide +kernel⟩
theorem ZeC {f:Addr} {fd:FuncData} (F:Fun K "ring_from" "ring_from" Yz f fd):FnOk P w K mg base CX0 1 f fd ["square","one","other","column"] ZhQ:=by
 refine F.ok scRf (fun vs H Q E h=>?_) (fun cdv A outer s H vs Q E hr h=>?_)
 ·obtain ⟨_,_,_,_,_,_,rfl,_⟩:=h
  rfl
 ·obtain ⟨g,n,o1,o2,c,R,rfl,hT,ok,hRl,h8,h1,h2,hc,q⟩:=h
  refine' ⟨_,Zd (Zj (i:=4) scRf.nd rfl (Or.inl rfl) (Yc Zc)) (Zd (Zj (i:=5) scRf.nd rfl (Or.inl rfl) (pv 3)) (Zd (Zb5 PassesOwn.never (ZR (JQ K) (pv 5) (pv 4) rfl) (Zd ?b0 (Zg ?b1))) (Zg (Zt (pv 4))))),?rd⟩
  case b0=>exact YA (Jj PySem.F.plainAttrs_list PySem.F.slot_list_append PySem.F.type_list_append Yt (pv 4) (Za (pv 5) Zc))
  case b1=>exact Zj (i:=5) scRf.nd rfl (Or.inl rfl) (Zay (ZQ Zak (pv 0) (pv 1) (fun _ _=>rfl)) (Za (ZQ Zak (ZQ Zak (pv 0) (pv 2) (fun _ _=>rfl)) (pv 5) (fun _ _=>rfl)) Zc))
  case rd =>
   have ra:Row n (R.getD o1 []):=ok.rowAt (by exact Om.a1 ‹_› ‹_›)
   have rb:Row n (R.getD o2 []):=ok.rowAt (by exact Om.a1 ‹_› ‹_›)
   have so:=ZaO ra rb
   refine ⟨QAh _,fun l hl=>⟨_,rfl,?_⟩⟩
   refine ⟨WRf H g n o1 o2 c (stp (R.getD o1 []) (R.getD o2 [])) l,⟨_,[],c,rfl,Same.new hl,Zb,.inl ⟨rfl,rfl⟩,rfl⟩,?_⟩
   rintro m σ H2 ⟨acc,x,rfl,sH,hl2,hcase,rfl⟩
   have hxn:x<n:=by
    rcases hcase with ⟨_,z⟩ | ⟨pa,z,_⟩
    ·exact Om.x1 ‹_› ‹_›
    ·rw [z]
     exact so.lt _ (pa.lt so _ pa.last_mem)
   have hal:acc.length<=n:=by
    rcases hcase with ⟨z,_⟩ | ⟨pa,_,_⟩
    ·rw [z]; exact QAh _
    ·exact ZaV pa.nodup (pa.lt so)
   refine ⟨_,rfl,_,rfl,l,_,rfl,.inl (SqL.of hl2),rfl,ZM _,_,rfl,?_⟩
   have e3:(if true=true then !inV (.int (x:Int)) ((toI acc).map V.int) else inV (.int (x:Int)) ((toI acc).map V.int)) = !decide (x∈acc):=by rw [if_pos rfl,Zd4]
   rw [e3]
   refine Zal (fun hd=>?_) (fun hd=>?_)
   ·have hni:x∉acc:=by simpa using hd
    refine ⟨fun σ' H'=>∃ m',m'<n+1 - acc.length/\WRf H g n o1 o2 c (stp (R.getD o1 []) (R.getD o2 [])) l m' σ' H',fun _ _ z=>z,?_⟩
    refine ⟨_,rfl,.inl ⟨rfl,_,SqL.of hl2⟩,_,rfl,l,_,_,rfl,rfl,hl2,by rw [QAa,toI,QAa]; exact Zw (by exact Om.b3 ‹_› ‹_› rfl),?_⟩
    have s3:Same H (upd H2 l (.lst ((toI acc).map V.int++[.int (x:Int)]))):=fun b u e=>by
     rw [Zf (Zh e hl)]
     exact sH _ _ e
    have hl3:(upd H2 l (.lst ((toI acc).map V.int++[.int (x:Int)]))) l=some (.lst ((toI (acc++[x])).map V.int)):=by rw [Zb,Zi3,QAm]; rfl
    generalize upd H2 l (.lst ((toI acc).map V.int++[.int (x:Int)]))=H3 at s3 hl3 ⊢
    have hT3:=hT.same s3
    obtain ⟨xA,pA,a1,a2,a3,a4⟩:=hT3.at (k:=o1) (by exact Om.a1 ‹_› ‹_›)
    obtain ⟨xB,pB,b1,b2,b3,b4⟩:=hT3.at (k:=o2) (by exact Om.a1 ‹_› ‹_›)
    refine ⟨_,rfl,_,rfl,g,_,_,_,rfl,rfl,SqT.of a1,a3,pA,_,rfl,a4,_,rfl,_,rfl,g,_,_,_,rfl,rfl,SqT.of b1,b3,_,rfl,pB,_,_,_,rfl,rfl,SqT.of b4,YQ (by rw [rb.len]; exact hxn),_,rfl,a4,Ja ra.len ra.nd ra.rg (rb.val hxn),?_⟩
    have hlast:Z0 (acc++[x])=x:=Y4 _ _
    have hpath:Path n (stp (R.getD o1 []) (R.getD o2 [])) c (acc++[x])/\J7 (stp (R.getD o1 []) (R.getD o2 [])) c (n+1 - (acc++[x]).length) (acc++[x])=Yn (stp (R.getD o1 []) (R.getD o2 [])) n c:=by
     rcases hcase with ⟨z1,z2⟩ | ⟨pa,z,hrf⟩
     ·subst z1
      subst z2
      exact ⟨.one hc,rfl⟩
     ·subst z
      have e':stp (R.getD o1 []) (R.getD o2 []) (Z0 acc)≠c:=fun e=>hni (by rw [e]; exact pa.head_mem)
      refine ⟨.more pa hni,?_⟩
      rw [show n+1 - acc.length=(n - acc.length)+1 by exact Om.k377 hRl hal a2 b2] at hrf
      rw [J7,if_neg e'] at hrf
      rw [QAn,show n+1 - (acc.length+[stp (R.getD o1 []) (R.getD o2 []) (Z0 acc)].length)=n - acc.length by simp]
      exact hrf
    refine ⟨n+1 - (acc++[x]).length,by rw [QAn,QDm]; exact Om.k376 hRl hal a2 b2,acc++[x],stp (R.getD o1 []) (R.getD o2 []) x,rfl,s3,hl3,.inr ⟨hpath.1,by rw [hlast],hpath.2⟩,rfl⟩
   ·have hin:x∈acc:=by simpa using hd
    rcases hcase with ⟨z,_⟩ | ⟨pa,z,hrf⟩
    ·rw [z] at hin
     cases hin
    ·subst z
     have e':=pa.back so hin
     rw [show n+1 - acc.length=(n - acc.length)+1 by exact Om.k375 hal,J7,if_pos e'] at hrf
     refine ⟨_,rfl,q l H2 sH hl ?_⟩
     rw [hl2,hrf]
theorem scRingsP:Zs ["square","one","other","found","passed","column","ring"] ["square","one","other"] (Ze JD):=⟨rfl,rfl,rfl,by decide +kernel,rfl,by decide +kernel,by decide +kernel⟩
inductive Zfy (H:Hp) (g:Addr) (n:Nat) (o1:Nat) (o2:Nat) (lf:Addr) (lp:Addr) (sp:Nat->Nat) (i:Nat) (σ:St) (H2:Hp):Prop where
 | mk (v5 v6:Option V) (ps:List Addr) (_:σ=[some (.ref g),some (.int (o1:Int)),some (.int (o2:Int)),some (.ref lf),some (.ref lp),v5,v6]) (_:Same H H2) (_:H2 lf=some (.lst (ps.map V.ref))) (_:H2 lp=some (.lst ((toI (Zz sp n i).flatten).map V.int))) (_:Paired (fun p (r:List Nat)=>H2 p=some (.lst ((toI r).map V.int))/\p≠lf/\p≠lp/\H p=none) ps (Zz sp n i)):Zfy H g n o1 o2 lf lp sp i σ H2
theorem Zhr {f fR:Addr} {fd dR:FuncData} (F:Fun K "rings" "rings" JD f fd) (T:Blt mg) (DR:Dfn K mg "ring_from" Yz ["square","one","other","column"] fR dR):FnOk P w K mg base CX0 2 f fd ["square","one","other"] Zgx:=by
 have GR:FnOk P w K mg base CX0 1 fR dR ["square","one","other","column"] ZhQ:=ZeC DR.F
 refine F.ok scRingsP (fun vs H Q E h=>?_) (fun cdv A outer s H vs Q E hr h=>?_)
 ·obtain ⟨_,_,_,_,_,rfl,_⟩:=h
  rfl
 ·obtain ⟨g,n,o1,o2,R,rfl,hT,ok,hRl,h8,h1,h2,hne,q⟩:=h
  refine' ⟨_,Zd (Zj (i:=3) scRingsP.nd rfl (Or.inl rfl) (Yc Zc)) (Zd (Zj (i:=4) scRingsP.nd rfl (Or.inl rfl) (Yc Zc)) (Zd (Yu PassesOwn.never rfl (Zp rfl T.range (Za (Zu (ZJ K) rfl T.len PySem.boot_len (Za (pv 0) Zc)) Zc)) (ZG (i:=5) scRingsP.nd rfl (Or.inl rfl)) (Zg (Jg ?c (Zd ?b0 (Zd ?b1 (Zg ?b2))) Yf))) (Zg (Zt (pv 3))))),?rd⟩
  case c=>exact ZR (JQ K) (pv 5) (pv 4) rfl
  case b0=>exact Zj (i:=6) scRingsP.nd rfl (Or.inl rfl) (Zm GR hr rfl DR.m DR.F.kp DR.b .nil ZO (Za (pv 0) (Za (pv 1) (Za (pv 2) (Za (pv 5) Zc)))))
  case b1=>exact YA (Jj PySem.F.plainAttrs_list PySem.F.slot_list_append PySem.F.type_list_append Yt (pv 3) (Za (pv 6) Zc))
  case b2=>exact YA (Jj PySem.F.plainAttrs_list PySem.F.slot_list_extend PySem.F.type_list_extend JR (pv 4) (Za (pv 6) Zc))
  case rd =>
   refine ⟨QAh _,fun lf hlf=>⟨QAh _,fun lp hlp=>?_⟩⟩
   have s0:Same H (upd H lf (.lst [])):=Same.new hlf
   have s1:Same (upd H lf (.lst [])) (upd (upd H lf (.lst [])) lp (.lst [])):=Same.new hlp
   have hlp0:H lp=none:=s0.free hlp
   have hfp:lf≠lp:=fun e=>by rw [<- e,Zb] at hlp; cases hlp
   obtain ⟨gs,hgs,hGs⟩:=id hT
   have hgl:(gs.map V.ref).length=n:=by rw [QAa,hGs.length,hRl]
   refine ⟨_,rfl,g,_,rfl,.inr (SqT.of ((s0.trans s1) _ _ hgs)),_,rfl,by exact Om.c2,by exact Om.k374 hRl h8 hgl,?_⟩
   rw [hgl,QAf]
   generalize hs:stp (R.getD o1 []) (R.getD o2 [])=sp at q
   have so:One n sp:=by rw [<- hs]; exact ZaO (ok.rowAt (by exact Om.a1 ‹_› ‹_›)) (ok.rowAt (by exact Om.a1 ‹_› ‹_›))
   refine Yk (lo:=0) (n:=n) (Zfy H g n o1 o2 lf lp sp)
    ⟨none,none,[],rfl,s0.trans s1,s1 _ _ Zb,Zb,.nil⟩ ?_ ?_
   ·rintro i σ H2 hi ⟨v5,v6,ps,rfl,s2,hf,hp,hPs⟩
    rw [QBx]
    have hpl:ps.length=(Zz sp n i).length:=hPs.length
    have hfi:=YL sp n i
    have hfl:=ZeW so i (by exact Om.d1 ‹_›)
    have hii:i*n<=8*8:=QCf (by exact Om.b2 ‹_› ‹_› rfl) h8
    refine ⟨_,rfl,_,rfl,lp,_,rfl,.inl (SqL.of hp),rfl,ZM _,_,rfl,?_⟩
    have e3:(if true=true then !inV (.int (i:Int)) ((toI (Zz sp n i).flatten).map V.int) else inV (.int (i:Int)) ((toI (Zz sp n i).flatten).map V.int))=(Zz sp n i).all fun r=>decide (i∉r):=by rw [if_pos rfl,Zd4,ZiV]
    rw [e3]
    refine Zal (fun hd=>?_) (fun hd=>?_)
    ·have er:Zz sp n (i+1)=Zz sp n i++[Yn sp n i]:=by rw [Zz,if_pos hd]
     refine ⟨_,rfl,_,rfl,_,rfl,_,rfl,g,n,o1,o2,i,R,rfl,hT.same s2,ok,hRl,h8,h1,h2,hi,fun p H3 s3 hp0 hp3=>?_⟩
     rw [hs] at hp3
     have hf3:=s3 _ _ hf
     have hlp3:=s3 _ _ hp
     have hpf:p≠lf:=fun z=>by rw [z,hf] at hp0; cases hp0
     have hpp:p≠lp:=fun z=>by rw [z,hp] at hp0; cases hp0
     refine ⟨_,rfl,.inl ⟨rfl,_,SqL.of hf3⟩,_,rfl,lf,_,_,rfl,rfl,hf3,by rw [QAa]; exact Zw (by exact Om.k373 hRl h8 h1 hgl hi hpl hfi),?_⟩
     have g1:∀ b,b≠lf->(upd H3 lf (.lst (ps.map V.ref++[.ref p]))) b=H3 b:=fun b hb=>Zf hb
     have g0:(upd H3 lf (.lst (ps.map V.ref++[.ref p]))) lf=some (.lst ((ps++[p]).map V.ref)):=by rw [Zb,QAm]; rfl
     generalize upd H3 lf (.lst (ps.map V.ref++[.ref p]))=H4 at g1 g0 ⊢
     have hp4:H4 p=some (.lst ((toI (Yn sp n i)).map V.int)):=by rw [g1 _ hpf]; exact hp3
     have hlp4:H4 lp=some (.lst ((toI (Zz sp n i).flatten).map V.int)):=by rw [g1 _ (Ne.symm hfp)]; exact hlp3
     have hrl:=Zer so hi
     refine ⟨_,rfl,.inl ⟨rfl,_,SqL.of hlp4⟩,_,rfl,lp,p,_,_,rfl,rfl,hlp4,hp4,?_,?_⟩
     ·refine QBw (Zw ?_)
      rw [QAa,QAa,toI,toI,QAa,QAa]
      exact Om.k372 hRl h8 h1 hgl hfl hii hrl
     ·refine ⟨_,_,ps++[p],rfl,fun b u e=>?_,?_,?_,?_⟩
      ·rw [Zf (Zh e hlp0),g1 _ (Zh e hlf)]
       exact s3 _ _ (s2 _ _ e)
      ·rw [Zf hfp]
       exact g0
      ·rw [Zb,er,List.flatten_append,List.flatten_singleton,JV,QAm]
      ·rw [er]
       refine Paired.snoc (Paired.mapP hPs fun b r z=>⟨?_,z.2⟩) ⟨?_,hpf,hpp,s2.free hp0⟩
       ·rw [Zf z.2.2.1,g1 _ z.2.1]
        exact s3 _ _ z.1
       ·rw [Zf hpp]
        exact hp4
    ·have er:Zz sp n (i+1)=Zz sp n i:=by rw [Zz,if_neg hd]
     refine ⟨_,_,ps,rfl,s2,hf,?_,?_⟩
     ·rw [er]; exact hp
     ·rw [er]; exact hPs
   ·rintro σ H2 ⟨v5,v6,ps,rfl,s2,hf,hp,hPs⟩
    exact ⟨_,rfl,q lf H2 s2 hlf ⟨ps,hf,Paired.mapP hPs fun _ _ z=>⟨z.1,z.2.1,z.2.2.2⟩⟩⟩
end
end My
namespace My
open PySem L2
noncomputable def lexo {α:Type} [DecidableEq α] (lt:α->α->Bool):List α->List α->Bool
 | [],[]=>false
 | [],_::_=>true
 | _::_,[]=>false
 | x::xs,y::ys=>if x=y then lexo lt xs ys else lt x y
structure Ord {α:Type} (lt:α->α->Bool):Prop where
 irr:∀ x,lt x x=false
 tr:∀ x y z,lt x y=true->lt y z=true->lt x z=true
 tot:∀ x y,lt x y=false->lt y x=false->x=y
section
variable {α:Type} [DecidableEq α] {lt:α->α->Bool}
theorem Jr (x y:α) (xs ys:List α):lexo lt (x::xs) (y::ys)=if x=y then lexo lt xs ys else lt x y:=by rw [lexo]
theorem ZeM:∀ xs:List α,lexo lt xs xs=false
 | []=>rfl
 | x::xs=>by rw [Jr,if_pos rfl,ZeM xs]
theorem ZgO (o:Ord lt):∀ xs ys zs:List α,lexo lt xs ys=true->lexo lt ys zs=true->lexo lt xs zs=true
 | [],[],zs,h,_=>by cases h
 | [],_::_,[],_,h=>by cases h
 | [],_::_,_::_,_,_=>rfl
 | _::_,[],_,h,_=>by cases h
 | _::_,_::_,[],_,h=>by cases h
 | x::xs,y::ys,z::zs,h1,h2=>by
  rw [Jr] at h1 h2 ⊢
  by_cases e1:x=y
  ·subst e1
   rw [if_pos rfl] at h1
   by_cases e2:x=z
   ·rw [if_pos e2] at h2 ⊢
    exact ZgO o xs ys zs h1 h2
   ·rw [if_neg e2] at h2 ⊢
    exact h2
  ·rw [if_neg e1] at h1
   by_cases e2:y=z
   ·subst e2
    rw [if_neg e1]
    exact h1
   ·rw [if_neg e2] at h2
    by_cases e3:x=z
    ·subst e3
     have:=o.tr _ _ _ h1 h2
     rw [o.irr] at this
     cases this
    ·rw [if_neg e3]
     exact o.tr _ _ _ h1 h2
theorem ZeL (o:Ord lt):∀ xs ys:List α,lexo lt xs ys=false->lexo lt ys xs=false->xs=ys
 | [],[],_,_=>rfl
 | [],_::_,h,_=>by cases h
 | _::_,[],_,h=>by cases h
 | x::xs,y::ys,h1,h2=>by
  rw [Jr] at h1 h2
  by_cases e1:x=y
  ·subst e1
   rw [if_pos rfl] at h1 h2
   rw [ZeL o xs ys h1 h2]
  ·rw [if_neg e1] at h1
   rw [if_neg (Ne.symm e1)] at h2
   exact absurd (o.tot x y h1 h2) e1
theorem Ord.lexo (o:Ord lt):Ord (lexo lt):=⟨ZeM,ZgO o,ZeL o⟩
end
noncomputable def ltI (x y:Int):Bool:=decide (x<y)
theorem ord_int:Ord ltI:=⟨fun x=>decide_eq_false (by exact Om.k371 ),fun x y z h1 h2=>decide_eq_true (by have:=of_decide_eq_true h1; have:=of_decide_eq_true h2; omega),fun x y h1 h2=>by have:=of_decide_eq_false h1; have:=of_decide_eq_false h2; omega⟩
noncomputable def ZbD:List Int->List Int->Bool:=lexo ltI
noncomputable def ZbE:List (List Int)->List (List Int)->Bool:=lexo ZbD
theorem ord_lexI:Ord ZbD:=ord_int.lexo
theorem Zh6:Ord ZbE:=ord_lexI.lexo
theorem ZeP:∀ xs ys:List Int,HT.lexLt xs ys=ZbD xs ys
 | [],[]=>rfl
 | [],_::_=>rfl
 | _::_,[]=>rfl
 | x::xs,y::ys=>by
  unfold ZbD
  rw [HT.lexLt,Jr,ZeP xs ys]
  rfl
theorem ZeX:∀ (F G:List (List Int)) (k i:Nat),F.length=G.length->F.length - i=k->i<=F.length->Y7 (fun j=>decide (F.getD j []=G.getD j [])) (fun j=>ZbD (F.getD j []) (G.getD j [])) k i=ZbE (F.drop i) (G.drop i)
 | F,G,0,i,hl,hk,hi=>by
  rw [QCe (by exact Om.k332 hl hk),QCe (by exact Om.k331 hl hk)]
  rfl
 | F,G,k+1,i,hl,hk,hi=>by
  have h1:i<F.length:=by exact Om.k330 hl hk hi
  have h2:i<G.length:=by exact Om.a2 ‹_› ‹_›
  have g1:F.getD i []=F[i]:=by rw [QAd,QAb h1]; rfl
  have g2:G.getD i []=G[i]:=by rw [QAd,QAb h2]; rfl
  rw [Y7,QBl h1,QBl h2]
  unfold ZbE
  rw [Jr,g1,g2]
  by_cases e:F[i]=G[i]
  ·rw [if_pos (decide_eq_true e),if_pos e]
   exact ZeX F G k (i+1) hl (by exact Om.k370 hl hk h1) h1
  ·rw [if_neg (by rw [decide_eq_true_eq]; exact e),if_neg e]
theorem ZcC {α:Type} {lt:α->α->Bool} (o:Ord lt) (v:Nat->α):∀ k,argBest (fun i j=>lt (v i) (v j)) k<=k/\∀ j,j<=k->lt (v j) (v (argBest (fun i j=>lt (v i) (v j)) k))=false
 | 0=>⟨QAc _,fun j hj=>by
   have:j=0:=by exact Om.k363 hj
   subst this
   exact o.irr _⟩
 | k+1=>by
  obtain ⟨h1,h2⟩:=ZcC o v k
  have e:argBest (fun i j=>lt (v i) (v j)) (k+1)=if lt (v (k+1)) (v (argBest (fun i j=>lt (v i) (v j)) k))=true then k+1 else argBest (fun i j=>lt (v i) (v j)) k:=rfl
  rw [e]
  cases hb:lt (v (k+1)) (v (argBest (fun i j=>lt (v i) (v j)) k)) with
  | true =>
   rw [if_pos rfl]
   refine ⟨QAc _,fun j hj=>?_⟩
   by_cases q:j=k+1
   ·subst q
    exact o.irr _
   ·have h3:=h2 j (by exact Om.q1 ‹_› ‹_›)
    cases hj2:lt (v j) (v (k+1)) with
    | false=>rfl
    | true=>rw [o.tr _ _ _ hj2 hb] at h3; cases h3
  | false =>
   rw [if_neg QAl]
   refine ⟨by exact Om.k323 h1,fun j hj=>?_⟩
   by_cases q:j=k+1
   ·subst q
    exact hb
   ·exact h2 j (by exact Om.q1 ‹_› ‹_›)
noncomputable def sF (R:List (List Int)) (a b:Nat):Nat->Nat:=stp (R.getD a []) (R.getD b [])
noncomputable def rgs (n:Nat) (R:List (List Int)) (a b:Nat):List (List Nat):=Zz (sF R a b) n n
noncomputable def leN (x y:Nat):Bool:=decide (x<=y)
noncomputable def sl (n:Nat) (R:List (List Int)) (a b:Nat):List Int:=toI (((rgs n R a b).map List.length).mergeSort leN)
noncomputable def thg (R:List (List Int)) (a:Nat) (w:List Nat):List Int:=inv (w.map fun c=>ent R a c)
noncomputable def Zy (n:Nat) (R:List (List Int)) (a:Nat) (w:List Nat):List (List Int):=[(List.range n).map fun r=>(thg R a w).getD (ent R r (w.getD 0 0)).toNat 0,inv (toI w),thg R a w]
structure Hop (n:Nat) (R:List (List Int)) (a b:Nat) (w:List Nat):Prop where
 ha:a<n
 hb:b<n
 hne:a≠b
 hw:w∈Zo n (rgs n R a b)
 hm:∀ c d,c<n->d<n->c≠d->ZbD (sl n R c d) (sl n R a b)=false
theorem JW:∀ {a b:List Nat},a.Perm b->a.Pairwise (· <= ·)->b.Pairwise (· <= ·)->a=b
 | [],b,p,_,_=>List.Perm.nil_eq p
 | x::a,[],p,_,_=>by have:=p.length_eq; cases this
 | x::a,y::b,p,ha,hb=>by
  have hxy:x=y:=by
   have h1:y∈x::a:=p.mem_iff.mpr QAj
   have h2:x∈y::b:=p.mem_iff.mp QAj
   have l1:x<=y:=by
    rcases List.mem_cons.mp h1 with z | z
    ·exact Om.k369 z
    ·exact (List.pairwise_cons.mp ha).1 y z
   have l2:y<=x:=by
    rcases List.mem_cons.mp h2 with z | z
    ·exact Om.k369 z
    ·exact (List.pairwise_cons.mp hb).1 x z
   omega
  subst hxy
  rw [JW (List.Perm.cons_inv p) (List.pairwise_cons.mp ha).2 (List.pairwise_cons.mp hb).2]
theorem Zbj (l:List Nat):(l.mergeSort leN).Pairwise (· <= ·):=by
 have h:=List.pairwise_mergeSort (le:=leN) (fun a b c h1 h2=>decide_eq_true (QAq (of_decide_eq_true h1) (of_decide_eq_true h2))) (fun a b=>by unfold leN; rw [QDn,decide_eq_true_eq,decide_eq_true_eq]; exact Nat.le_total a b) l
 exact h.imp fun z=>of_decide_eq_true z
section
variable {n:Nat} {R Rn:List (List Int)}
theorem YZ (ok:OkRows n R) (hl:R.length=n) {a b:Nat} (ha:a<n) (hb:b<n):One n (sF R a b):=ZaO (Yw ok hl ha) (Yw ok hl hb)
theorem ZbY (ok:OkRows n R) (hl:R.length=n) {a b x:Nat} (ha:a<n) (hb:b<n) (hx:x<n):ent R a (sF R a b x)=ent R b x:=ZdN (Yw ok hl ha) (Yw ok hl hb) hx
theorem Zlp (ok:OkRows n R) (hl:R.length=n) {a b x y:Nat} (ha:a<n) (hb:b<n) (hx:x<n) (hy:y<n) (e:ent R a y=ent R b x):sF R a b x=y :=
 (Yw ok hl ha).inj ((YZ ok hl ha hb).lt x hx) hy ((ZbY ok hl ha hb hx).trans e.symm)
noncomputable def rw_ (Rn:List (List Int)) (k x:Nat):Nat:=((Rn.getD k []).getD x 0).toNat
theorem JM (rn:Ren n Rn) {k x:Nat} (hk:k<3) (hx:x<n):rw_ Rn k x<n:=by
 obtain ⟨y,e,hy⟩:=(rn.at hk).val hx
 unfold rw_
 rw [e,QAf]
 exact hy
theorem ZbZ (rn:Ren n Rn) {k x:Nat} (hk:k<3) (hx:x<n):(Rn.getD k []).getD x 0=((rw_ Rn k x:Nat):Int):=by
 obtain ⟨y,e,hy⟩:=(rn.at hk).val hx
 unfold rw_
 rw [e,QAf]
theorem ZhW (rn:Ren n Rn) {k x:Nat} (hk:k<3) (hx:x<n):ixo (Rn.getD k []) (rw_ Rn k x)=x:=Y6 (rn.at hk) hx (JM rn hk hx) (ZbZ rn hk hx)
theorem Zby (rn:Ren n Rn) {k x:Nat} (hk:k<3) (hx:x<n):rw_ Rn k (ixo (Rn.getD k []) x)=x:=by
 unfold rw_ ixo
 rw [(YR (rn.at hk) hx).2,QAf]
theorem ZdS (rn:Ren n Rn) {k x y:Nat} (hk:k<3) (hx:x<n) (hy:y<n) (e:rw_ Rn k x=rw_ Rn k y):x=y:=by rw [<- ZhW rn hk hx,e,ZhW rn hk hy]
theorem Jn (rn:Ren n Rn) (ok:OkRows n R) (hl:R.length=n) {a x:Nat} (ha:a<n) (hx:x<n):ent (ZY n R Rn) (rw_ Rn 0 a) (rw_ Rn 1 x)=((rw_ Rn 2 (ent R a x).toNat:Nat):Int):=Zhl rn ok hl (Zi1 ok hl ha hx)
noncomputable def thO (n:Nat) (Rn:List (List Int)) (x:Nat):Nat:=if x<n then rw_ Rn 1 x else x
noncomputable def thI (n:Nat) (Rn:List (List Int)) (x:Nat):Nat:=if x<n then ixo (Rn.getD 1 []) x else x
theorem Ze1 (rn:Ren n Rn) (ok:OkRows n R) (hl:R.length=n) {a b:Nat} (ha:a<n) (hb:b<n):Conj n (sF R a b) (sF (ZY n R Rn) (rw_ Rn 0 a) (rw_ Rn 0 b)) (thO n Rn) (thI n Rn):=by
 have l1:∀ x,x<n->thO n Rn x<n:=fun x hx=>by unfold thO; rw [if_pos hx]; exact JM rn (by decide) hx
 have l2:∀ x,x<n->thI n Rn x<n:=fun x hx=>by unfold thI; rw [if_pos hx]; exact ZW (rn.at (by decide)) hx
 obtain ⟨ok',hl'⟩:=YN ok hl rn
 refine ⟨fun x=>?_,fun x=>?_,l1,l2,fun x hx=>?_,(YZ ok hl ha hb).lt⟩
 ·by_cases hx:x<n
  ·unfold thI
   rw [if_pos (l1 x hx)]
   unfold thO
   rw [if_pos hx]
   exact ZhW rn (by decide) hx
  ·unfold thI thO
   rw [if_neg hx,if_neg hx]
 ·by_cases hx:x<n
  ·unfold thO
   rw [if_pos (l2 x hx)]
   unfold thI
   rw [if_pos hx]
   exact Zby rn (by decide) hx
  ·unfold thI thO
   rw [if_neg hx,if_neg hx]
 ·have hs:=(YZ ok hl ha hb).lt x hx
  refine Zlp ok' hl' (JM rn (by decide) ha) (JM rn (by decide) hb) (l1 x hx) (l1 _ hs) ?_
  unfold thO
  rw [if_pos hx,if_pos hs,Jn rn ok hl ha hs,Jn rn ok hl hb hx,ZbY ok hl ha hb hx]
theorem ZgB (rn:Ren n Rn) (ok:OkRows n R) (hl:R.length=n) {a b:Nat} (ha:a<n) (hb:b<n):sl n (ZY n R Rn) (rw_ Rn 0 a) (rw_ Rn 0 b)=sl n R a b:=by
 obtain ⟨ok',hl'⟩:=YN ok hl rn
 obtain ⟨ls,p1,p2,pw⟩:=ZhB (Ze1 rn ok hl ha hb) (Ys (YZ ok hl ha hb)) (Ys (YZ ok' hl' (JM rn (by decide) ha) (JM rn (by decide) hb)))
 have e1:=JW (p1.trans (List.mergeSort_perm _ leN).symm) pw (Zbj _)
 have e2:=JW (p2.trans (List.mergeSort_perm _ leN).symm) pw (Zbj _)
 unfold sl rgs
 rw [<- e1,<- e2]
theorem ZcT (ok:OkRows n R) (hl:R.length=n) {a b:Nat} (ha:a<n) (hb:b<n) {w:List Nat} (hw:w∈Zo n (rgs n R a b)):w.Nodup/\∀ x,x∈w↔x<n:=by
 obtain ⟨ls,al⟩:=(YJ (Ys (YZ ok hl ha hb)) (YL _ _ _)).mp hw
 have go:∀ {U:Nat->Prop} {w ls:List Nat},Alg (sF R a b) U w ls->w.Nodup/\∀ x,x∈w↔U x:=by
  intro U w ls al
  induction al with
  | nil h=>exact ⟨QBr,fun x=>⟨fun z=>(by cases z),fun z=>absurd z (h x)⟩⟩
  | @step U c w ls hc hU _ _ ih =>
   refine ⟨List.nodup_append.mpr ⟨hc.nd,ih.1,fun x hx y hy e=>?_⟩,fun x=>?_⟩
   ·subst e
    exact ((ih.2 x).mp hy).2 hx
   ·rw [QCv,ih.2 x]
    by_cases q:x∈c
    ·exact ⟨fun _=>hU x q,fun _=>.inl q⟩
    ·exact ⟨fun z=>(z.resolve_left q).1,fun z=>.inr ⟨z,q⟩⟩
 exact go al
end
end My
namespace My
open PySem L2
structure Cols (n:Nat) (w:List Nat):Prop where
 nd:w.Nodup
 all:∀ x,x∈w↔x<n
theorem Cols.len {n:Nat} {w:List Nat} (c:Cols n w):w.length=n:=by
 have p:w.Perm (List.range n):=(List.perm_ext_iff_of_nodup c.nd QCd).mpr fun x=>by rw [c.all x,List.mem_range]
 rw [p.length_eq,QAp]
theorem Cols.turn {n:Nat} {w:List Nat} (c:Cols n w):Turn n (toI w):=by
 refine ⟨by unfold toI; rw [QAa]; exact c.len,?_,fun x hx=>?_⟩
 ·unfold toI
  exact List.nodup_iff_pairwise_ne.mpr (List.pairwise_map.mpr ((List.nodup_iff_pairwise_ne.mp c.nd).imp fun q e=>q (by exact Om.e1 ‹_›)))
 ·unfold toI at hx
  obtain ⟨y,hy,rfl⟩:=List.mem_map.mp hx
  have:=(c.all y).mp hy
  omega
section
variable {n:Nat} {R:List (List Int)} {w:List Nat} {a:Nat}
theorem Js (ok:OkRows n R) (hl:R.length=n) (c:Cols n w) (ha:a<n):Turn n (w.map fun x=>ent R a x):=by
 refine ⟨by rw [QAa]; exact c.len,?_,fun x hx=>?_⟩
 ·refine List.nodup_iff_pairwise_ne.mpr (List.pairwise_map.mpr (List.Pairwise.imp_of_mem ?_ (List.nodup_iff_pairwise_ne.mp c.nd)))
  intro x y hx hy q e
  exact q ((Yw ok hl ha).inj ((c.all x).mp hx) ((c.all y).mp hy) e)
 ·obtain ⟨y,hy,rfl⟩:=List.mem_map.mp hx
  exact ZbO ok hl ha ((c.all y).mp hy)
theorem Cols.zero (c:Cols n w) (h1:1<=n):w.getD 0 0<n:=by
 have hp:0<w.length:=by rw [c.len]; exact h1
 rw [gDN hp]
 exact (c.all _).mp (QAs _)
theorem Z4 (ok:OkRows n R) (hl:R.length=n) {i j:Nat} (hi:i<n) (hj:j<n):ent R i j=(((ent R i j).toNat:Nat):Int)/\(ent R i j).toNat<n:=by
 have:=ZbO ok hl hi hj
 exact ⟨by exact Om.k13 this,by exact Om.k368 hj this⟩
theorem al0 (ok:OkRows n R) (hl:R.length=n) (c:Cols n w) (h1:1<=n) (ha:a<n) {r:Nat} (hr:r<n):((Zy n R a w).getD 0 []).getD r 0=(((w.map fun x=>ent R a x).idxOf (ent R r (w.getD 0 0)):Nat):Int):=by
 have t:=Js ok hl c ha
 obtain ⟨e1,e2⟩:=Z4 ok hl hr (c.zero h1)
 show ((List.range n).map fun r=>(thg R a w).getD (ent R r (w.getD 0 0)).toNat 0).getD r 0=_
 rw [QAd,QAe,QBk hr]
 show (thg R a w).getD (ent R r (w.getD 0 0)).toNat 0=_
 unfold thg
 rw [Jx t e2,<- e1]
theorem al1 (c:Cols n w) {x:Nat} (hx:x<n):((Zy n R a w).getD 1 []).getD x 0=(((toI w).idxOf (x:Int):Nat):Int):=Jx c.turn hx
theorem al2 (ok:OkRows n R) (hl:R.length=n) (c:Cols n w) (ha:a<n) {t:Nat} (ht:t<n):((Zy n R a w).getD 2 []).getD t 0=(((w.map fun x=>ent R a x).idxOf (t:Int):Nat):Int):=Jx (Js ok hl c ha) ht
theorem JT (ok:OkRows n R) (hl:R.length=n) (c:Cols n w) (h1:1<=n) (ha:a<n):Ren n (Zy n R a w):=by
 have t:=Js ok hl c ha
 refine Ren.of3 (Turn.of (by rw [QAa,QAp]) (fun i hi=>?_) fun i j hi hj e=>?_) c.turn.inv t.inv
 ·have h:=al0 ok hl c h1 ha hi
  obtain ⟨e1,e2⟩:=Z4 ok hl hi (c.zero h1)
  exact ⟨_,h,by rw [e1]; exact (YR t e2).1⟩
 ·have hi':=al0 ok hl c h1 ha hi
  have hj':=al0 ok hl c h1 ha hj
  obtain ⟨e1,e2⟩:=Z4 ok hl hi (c.zero h1)
  obtain ⟨e3,e4⟩:=Z4 ok hl hj (c.zero h1)
  have e5:((Zy n R a w).getD 0 []).getD i 0=((Zy n R a w).getD 0 []).getD j 0:=e
  rw [hi',hj'] at e5
  have k1:=(YR t e2).2
  have k2:=(YR t e4).2
  rw [<- e1] at k1
  rw [<- e3] at k2
  have:(w.map fun x=>ent R a x).idxOf (ent R i (w.getD 0 0))=(w.map fun x=>ent R a x).idxOf (ent R j (w.getD 0 0)):=by exact Om.e1 ‹_›
  rw [this,k2] at k1
  exact ZaC ok hl hi hj (c.zero h1) k1.symm
theorem Yy (ok:OkRows n R) (hl:R.length=n) {b:Nat} (ha:a<n) (hb:b<n) (hw:w∈Zo n (rgs n R a b)):Cols n w:=⟨(ZcT ok hl ha hb hw).1,(ZcT ok hl ha hb hw).2⟩
theorem Ze9 (ok:OkRows n R) (hl:R.length=n) (c:Cols n w) (h1:1<=n) (ha:a<n) {j:Nat} (hj:j<n):ent (ZY n R (Zy n R a w)) 0 j=(j:Int)/\ent (ZY n R (Zy n R a w)) j 0=(j:Int):=by
 have rn:=JT ok hl c h1 ha
 have t:=Js ok hl c ha
 have hwl:w.length=n:=c.len
 have wj:w.getD j 0<n:=by rw [gDN (by exact Om.a1 ‹_› ‹_›)]; exact (c.all _).mp (QAs _)
 have ixw:∀ k,k<n->(toI w).idxOf ((w.getD k 0:Nat):Int)=k:=fun k hk=>by
  refine Y6 c.turn hk (by rw [gDN (by exact Om.a1 ‹_› ‹_›)]; exact (c.all _).mp (QAs _)) ?_
  unfold toI
  rw [QAd,QAe,QAb (by exact Om.a1 ‹_› ‹_›),gDN (by exact Om.a1 ‹_› ‹_›)]
  rfl
 have ixt:∀ k,k<n->(w.map fun x=>ent R a x).idxOf (ent R a (w.getD k 0))=k:=fun k hk=>by
  have wk:w.getD k 0<n:=by rw [gDN (by exact Om.a1 ‹_› ‹_›)]; exact (c.all _).mp (QAs _)
  obtain ⟨e1,e2⟩:=Z4 ok hl ha wk
  rw [e1]
  refine Y6 t hk e2 ?_
  rw [<- e1,QAd,QAe,QAb (by exact Om.a1 ‹_› ‹_›),gDN (by exact Om.a1 ‹_› ‹_›)]
  rfl
 have cell:∀ r k,r<n->k<n->ent (ZY n R (Zy n R a w)) (rw_ (Zy n R a w) 0 r) (rw_ (Zy n R a w) 1 (w.getD k 0))=((rw_ (Zy n R a w) 2 (ent R r (w.getD k 0)).toNat:Nat):Int):=fun r k hr hk=>Jn rn ok hl hr (by rw [gDN (by exact Om.a1 ‹_› ‹_›)]; exact (c.all _).mp (QAs _))
 have c1:∀ k,k<n->rw_ (Zy n R a w) 1 (w.getD k 0)=k:=fun k hk=>by
  unfold rw_
  rw [al1 c (by rw [gDN (by exact Om.a1 ‹_› ‹_›)]; exact (c.all _).mp (QAs _)),ixw k hk,QAf]
 have r0:∀ r,r<n->rw_ (Zy n R a w) 0 r=rw_ (Zy n R a w) 2 (ent R r (w.getD 0 0)).toNat:=fun r hr=>by
  obtain ⟨e1,e2⟩:=Z4 ok hl hr (c.zero h1)
  unfold rw_
  rw [al0 ok hl c h1 ha hr,al2 ok hl c ha e2,<- e1]
 constructor
 ·have h:=cell a j ha hj
  obtain ⟨e1,e2⟩:=Z4 ok hl ha (c.zero h1)
  obtain ⟨e3,e4⟩:=Z4 ok hl ha wj
  have z0:rw_ (Zy n R a w) 0 a=0:=by
   unfold rw_
   rw [al0 ok hl c h1 ha ha,ixt 0 (by exact Om.f5 ‹_›)]
   rfl
  have z2:rw_ (Zy n R a w) 2 (ent R a (w.getD j 0)).toNat=j:=by
   unfold rw_
   rw [al2 ok hl c ha e4,<- e3,ixt j hj,QAf]
  rw [z0,c1 j hj,z2] at h
  exact h
 ·have hr:=ZW (rn.at (k:=0) (by decide)) hj
  have h:=cell _ 0 hr (by exact Om.f5 ‹_›)
  rw [<- r0 _ hr,Zby rn (by decide) hj,c1 0 (by exact Om.f5 ‹_›)] at h
  exact h
end
section
variable {n:Nat} {R Rn:List (List Int)}
theorem ZhK {x:Nat} (hx:x<n):thO n Rn x=rw_ Rn 1 x:=by unfold thO; rw [if_pos hx]
theorem Hop.cols {a b:Nat} {w:List Nat} (h:Hop n R a b w) (ok:OkRows n R) (hl:R.length=n):Cols n w:=Yy ok hl h.ha h.hb h.hw
theorem Zev (ok:OkRows n R) (hl:R.length=n) (rn:Ren n Rn):ZY n (ZY n R Rn) (Ji Rn)=R:=by
 obtain ⟨ok',hl'⟩:=YN ok hl rn
 have h:=Zi8 (ZbM ok hl) rn
 rw [Ju ok hl rn,Ju ok' hl' rn.und] at h
 have inj:∀ {A B:List (List Int)},(A.map fun r=>r.map V.int)=(B.map fun r=>r.map V.int)->A=B:=by
  intro A
  induction A with
  | nil=>intro B e; cases B with
   | nil=>rfl
   | cons _ _=>cases e
  | cons x A ih=>intro B e; cases B with
   | nil=>cases e
   | cons y B =>
    rw [QAr,QAr,List.cons.injEq] at e
    rw [ih e.2]
    have h2:∀ {p q:List Int},p.map V.int=q.map V.int->p=q:=by
     intro p
     induction p with
     | nil=>intro q e; cases q with
      | nil=>rfl
      | cons _ _=>cases e
     | cons u p ih=>intro q e; cases q with
      | nil=>cases e
      | cons v q =>
       rw [QAr,QAr,List.cons.injEq,V.int.injEq] at e
       rw [e.1,ih e.2]
    rw [h2 e.1]
 exact inj h
end
end My
namespace My
open PySem L2
theorem ZaI:∀ (f g:Nat) (C:List (List Nat)),C.length<=f->C.length<=g->Zo f C=Zo g C
 | f,g,[],_,_=>by cases f <;> cases g <;> rfl
 | 0,_,_::_,h,_=>by simp at h
 | _,0,_::_,_,h=>by simp at h
 | f+1,g+1,c::C,hf,hg=>by
  rw [YX,YX]
  have h:∀ i∈List.range (c::C).length,Zo f ((c::C).take i++(c::C).drop (i+1))=Zo g ((c::C).take i++(c::C).drop (i+1)):=fun i hi=>by
   have hi:=List.mem_range.mp hi
   have e:((c::C).take i++(c::C).drop (i+1)).length=C.length:=by
    rw [QAn,QAt,QBn]
    simp only [QAy] at hi ⊢
    exact Om.k367 hi
   simp only [QAy] at hf hg
   exact ZaI f g _ (by exact Om.k366 hf e) (by exact Om.k366 hg e)
  rw [List.flatMap_def,List.flatMap_def]
  congr 1
  refine QBq fun i hi=>?_
  rw [h i hi]
termination_by f=>f
noncomputable def LL (H:Hp) (l:Addr) (C:List (List Nat)):Prop:=∃ ps:List Addr,H l=some (.lst (ps.map V.ref))/\Paired (fun p (r:List Nat)=>H p=some (.lst ((toI r).map V.int))) ps C
theorem LL.same {H H1:Hp} {l:Addr} {C:List (List Nat)} (g:LL H l C) (x:Same H H1):LL H1 l C :=
 let ⟨ps,h,r⟩:=g
 ⟨ps,x _ _ h,Paired.mapP r fun _ _ z=>x _ _ z⟩
theorem Ye (l:List Nat):(toI l).length=l.length:=QAa _
theorem ZiF {C:List (List Nat)} {m:Nat} (h:m=C.length):(List.range m).filterMap (fun j=>some (V.int (((C.getD j []).length:Nat):Int)))=(toI (C.map List.length)).map V.int:=by
 subst h
 rw [Jz]
 unfold toI
 rw [QBb,QBb]
 refine QDh fun j=>?_
 rw [QAe,QAe]
 by_cases hj:j<C.length
 ·rw [QBk hj,QAb hj]
  show some (V.int (((C.getD j []).length:Nat):Int))=some (V.int ((C[j].length:Nat):Int))
  rw [gDL hj]
 ·rw [QCr (by rw [QAp]; exact Om.k344 hj),QCr (by exact Om.k344 hj)]
  rfl
theorem ZeR {l:List Nat} {ns:List Int} (p:ns.Perm (toI l)) (h:ns.Pairwise (· <= ·)):ns=toI (l.mergeSort leN):=by
 refine Zad (p.trans ?_) h ?_
 ·unfold toI
  exact ((List.mergeSort_perm l leN).map _).symm
 ·unfold toI
  rw [List.pairwise_map]
  exact (Zbj l).imp fun z=>by exact Om.k365 z
inductive ZcG (vs:List V) (H:Hp) (Q:VK):Prop where
 | mk (l:Addr) (C:List (List Nat)) (_:vs=[.ref l]) (_:LL H l C) (_:C.length<=8) (_:∀ t H',H t=none->Same H H'->H' t=some (.lst ((toI ((C.map List.length).mergeSort leN)).map V.int))->Q (.ref t) H'):ZcG vs H Q
noncomputable def Zc1:Sp:=fun vs H Q _=>ZcG vs H Q
section
variable {P:Program} {w:World} {K:PySem.W.Frag} {mg:Str->Option Value} {base:Heap}
theorem Zhj:Zs ["circles"] ["circles"] (Ze Je):=⟨rfl,rfl,rfl,by decide +kernel,rfl,by decide +kernel,by decide +kernel⟩
theorem Zf1 {f:Addr} {fd:FuncData} (F:Fun K "lengths_of" "lengths_of" Je f fd) (T:Blt mg):FnOk P w K mg base CX0 1 f fd ["circles"] Zc1:=by
 refine F.ok Zhj (fun vs H Q E h=>?_) (fun cdv A outer s H vs Q E hr h=>?_)
 ·obtain ⟨_,_,rfl,_⟩:=h
  rfl
 ·obtain ⟨l,C,rfl,hL,h8,q⟩:=h
  refine' ⟨_,Zg (Zt (Zu (Ze5 K) rfl T.sorted PyProof.Rows.boot_sorted (Za (Yr ["circle"] [none] rfl rfl (Z2 K (pv 0)) (fun _ _ _ _ _=>Yx 0) (fun _ _ _ _ _=>ZA) (fun _ _ _ _ _=>Zu (ZJ K) rfl T.len PySem.boot_len (Za (pv 0) Zc))) Zc))),?rd⟩
  case rd =>
   obtain ⟨ps,hps,hP⟩:=hL
   have hpl:(ps.map V.ref).length=C.length:=by rw [QAa,hP.length]
   refine ⟨_,rfl,l,rfl,⟨_,SqL.of hps⟩,fun lc hlc=>?_⟩
   refine ZD (fun j=>some (V.int (((C.getD j []).length:Nat):Int))) (fun σ=>∃ v,σ=[v]) (Z1 (xs:=ps.map V.ref)) (by rw [hpl]; exact Zq (by exact Om.b1 ‹_› rfl)) hlc (fun H' sm=>SqL.of (sm _ _ hps)) ⟨none,rfl⟩ ?_ ?_
   ·rintro j y σ H' R' hy ⟨v,rfl⟩ sm kk
    rw [QAe] at hy
    cases hpj:ps[j]? with
    | none=>rw [hpj] at hy; cases hy
    | some p =>
    rw [hpj] at hy
    cases hy
    obtain ⟨c,hc,hp⟩:=Paired.getL hP hpj
    have hcj:C.getD j []=c:=by rw [QAd,hc]; rfl
    have kk':=kk _ H' ⟨some (.ref p),rfl⟩ (Same.refl _)
    refine ⟨_,rfl,p,_,rfl,.inl (SqL.of (sm _ _ hp)),?_⟩
    rw [QAa,Ye,<- hcj]
    exact kk'
   intro H2 s2 h2
   rw [ZiF hpl] at h2
   refine ⟨lc,toI (C.map List.length),rfl,SqL.of h2,by rw [Ye,QAa]; exact Om.k364 h8 hpl,fun t ns ht p pw=>?_⟩
   rw [ZeR p pw]
   exact q t _ (s2.free ht) (s2.trans (Same.new ht)) Zb
end
end My
namespace L2
open PySem PySem.Spec PyProof.Rows PySem.W SeqAt
theorem Ze8 (v:Nat->Int):∀ k,argBest (fun i j=>decide (v i<v j)) k<=k/\∀ j,j<=k->v (argBest (fun i j=>decide (v i<v j)) k)<=v j
 | 0=>⟨QAc _,fun j hj=>by
   have:j=0:=by exact Om.k363 hj
   subst this
   exact QCn _⟩
 | k+1=>by
  obtain ⟨h1,h2⟩:=Ze8 v k
  have e:argBest (fun i j=>decide (v i<v j)) (k+1)=if decide (v (k+1)<v (argBest (fun i j=>decide (v i<v j)) k))=true then k+1 else argBest (fun i j=>decide (v i<v j)) k:=rfl
  rw [e]
  by_cases hb:v (k+1)<v (argBest (fun i j=>decide (v i<v j)) k)
  ·rw [if_pos (decide_eq_true hb)]
   refine ⟨QAc _,fun j hj=>?_⟩
   by_cases q:j=k+1
   ·subst q
    exact QCn _
   ·have:=h2 j (by exact Om.q1 ‹_› ‹_›)
    omega
  ·rw [if_neg (by rw [decide_eq_true_eq]; exact hb)]
   refine ⟨by exact Om.k323 h1,fun j hj=>?_⟩
   by_cases q:j=k+1
   ·subst q
    exact Om.k362 hb
   ·exact h2 j (by exact Om.q1 ‹_› ‹_›)
noncomputable def Zlt (K:PySem.W.Frag):List V->Hp->VK->Prop:=fun xs H Q=>∃ (l:Addr) (ns:List Int),xs=[.ref l]/\SqL K H l (ns.map V.int)/\0<ns.length/\∀ m:Int,m∈ns->(∀ x∈ns,m<=x)->Q (.int m) H
theorem ZhE {X:Cx} (K:PySem.W.Frag) (hc:X.calm=true) (hK:X.K=K:=by rfl):Jh X (.builtin "min") (Zlt K):=by
 subst hK
 intro pins s σ H xs us Q I r h
 obtain ⟨l,ns,rfl,hl,hn,q⟩:=h
 obtain ⟨u,rfl,ru⟩:=J5 r
 cases ru
 obtain ⟨its,rv,pl,_⟩:=I.list hl
 have hlen:its.length=ns.length:=by rw [<- rv.length,QAa]
 have itv:∀ (i:Nat) (v:Value),its[i]? = some v->∃ t,v = .int (ns.getD i 0) t:=fun i v e=>by
  have hi:i<ns.length:=by rw [<- hlen]; exact (List.getElem?_eq_some_iff.mp e).1
  obtain ⟨w,g,rw'⟩:=rv.get (show (ns.map V.int)[i]? = some (V.int ns[i]) by rw [QAe,QAb hi]; rfl)
  rw [e] at g
  cases g
  obtain ⟨t,rfl⟩:=rw'
  exact ⟨t,by rw [QAd,QAb hi]; rfl⟩
 have ext:∀ {h':Heap} {tk:Nat},(∀ b o,s.heap.get? b=some o->h'.get? b=some o)->Inv X pins σ H { s with heap:=h',toks:=tk }:=fun k=>I.kept k
 refine ZgM (lt:=fun i j=>decide (ns.getD i 0<ns.getD j 0)) (I.ok.hd hc) pl.isList (by simp; exact Om.a1 ‹_› ‹_›) (fun i j u v h' tk Q E k hu1 hv1 z=>?_) (fun v h' tk hv k=>?_)
 ·obtain ⟨t1,rfl⟩:=itv i u (by simpa using hu1)
  obtain ⟨t2,rfl⟩:=itv j v (by simpa using hv1)
  exact PyProof.Rows.lt_int (a:=ns.getD i 0) (b:=ns.getD j 0) z
 ·obtain ⟨t,rfl⟩:=itv _ v (by rw [<- List.getElem?_toArray]; exact hv)
  obtain ⟨b1,b2⟩:=Ze8 (fun i=>ns.getD i 0) (its.toArray.size - 1)
  have hsz:its.toArray.size=ns.length:=by simp; exact hlen
  refine ⟨.int _,H,ext k,⟨t,rfl⟩,q _ ?_ fun x hx=>?_⟩
  ·have hb:argBest (fun i j=>decide (ns.getD i 0<ns.getD j 0)) (its.toArray.size - 1)<ns.length:=by exact Om.k361 hn hlen b1 hsz
   rw [QAd,QAb hb]
   exact QAs _
  ·obtain ⟨j,hj,rfl⟩:=QBd hx
   have:=b2 j (by exact Om.k360 hn hlen hsz hj)
   have e:ns.getD j 0=ns[j]:=by rw [QAd,QAb hj]; rfl
   rw [<- e]
   exact this
end L2
namespace My
open PySem L2
theorem Zep {X:Cx} (K:PySem.W.Frag) (h:X.K=K:=by rfl):SlR X (Zlr K):=by subst h; exact ZaP
noncomputable def bnd:Nat->Nat
 | 0=>1
 | k+1=>(k+1)*(6*bnd k)
theorem Yq {α β:Type} {g:α->List β} {m:Nat}:∀ (l:List α),(∀ x∈l,(g x).length<=m)->(l.flatMap g).length<=l.length*m
 | [],_=>by simp
 | x::l,h=>by
  rw [QCs,QAn,QAy,QCp]
  have:=Yq l fun y hy=>h y (QAo _ hy)
  have:=h x QAj
  omega
theorem Zaq:∀ (f:Nat) (C:List (List Nat)),C.length=f->(∀ c∈C,c.length<=6)->(Zo f C).length<=bnd f
 | 0,[],_,_=>by simp [Zo,bnd]
 | 0,_::_,h,_=>by simp at h
 | f+1,[],h,_=>by simp at h
 | f+1,c::C,hf,h6=>by
  rw [YX]
  have hm:mnl (c::C)<=6:=by
   obtain ⟨⟨d,hd,e⟩,_⟩:=Zaz c C
   rw [<- e]
   exact h6 d hd
  have h:=Yq (m:=6*bnd f) (g:=fun i=>if ((c::C).getD i []).length=mnl (c::C) then (List.range (mnl (c::C))).flatMap fun st=>(Zo f ((c::C).take i++(c::C).drop (i+1))).map fun w=>rot ((c::C).getD i []) st++w else []) (List.range (c::C).length) fun i hi=>by
   have hi:=List.mem_range.mp hi
   show (if ((c::C).getD i []).length=mnl (c::C) then (List.range (mnl (c::C))).flatMap fun st=>(Zo f ((c::C).take i++(c::C).drop (i+1))).map fun w=>rot ((c::C).getD i []) st++w else []).length<=_
   split
   ·have e:((c::C).take i++(c::C).drop (i+1)).length=f:=by
     rw [QAn,QAt,QBn]
     simp only [QAy] at hi hf ⊢
     exact Om.k359 hf hi
    have ih:=Zaq f _ e fun d hd=>by
     rw [<- QCw] at hd
     exact h6 d ((YB hi).mpr (.inr hd))
    have:=Yq (m:=bnd f) (g:=fun st=>(Zo f ((c::C).take i++(c::C).drop (i+1))).map fun w=>rot ((c::C).getD i []) st++w) (List.range (mnl (c::C))) fun st _=>by rw [QAa]; exact ih
    rw [QAp] at this
    exact QAq this (QCf hm (QAc _))
   ·exact QAh _
  rw [QAp] at h
  rw [hf] at h ⊢
  exact h
theorem ZiS:∀ k,k<=3->bnd k<=1296:=by decide
theorem Jl {n:Nat} (h:n<=1000000):n<sizeLine:=Nat.lt_of_le_of_lt h (by decide)
theorem Zjt {C:List (List Nat)} (h:0<C.length):Zf8 C (mnl C):=by
 cases C with
 | nil=>cases h
 | cons c C=>exact Zaz c C
noncomputable def ZdT (f:Nat) (C:List (List Nat)) (i:Nat):List (List Nat):=if (C.getD i []).length=mnl C then (List.range (mnl C)).flatMap fun st=>(Zo f (C.take i++C.drop (i+1))).map fun w=>rot (C.getD i []) st++w else []
noncomputable def stW (W:List (List Nat)) (c:List Nat) (st:Nat):List (List Nat):=W.map fun w=>rot c st++w
theorem ZfG {C:List (List Nat)} (h:0<C.length):Zo C.length C=(List.range C.length).flatMap (ZdT (C.length - 1) C):=by
 cases C with
 | nil=>cases h
 | cons c C=>exact YX C.length c C
theorem ZbQ:∀ (f:Nat) (C:List (List Nat)),(∀ c∈C,c.length<=6)->∀ w∈Zo f C,w.length<=6*f
 | f,[],_,w,h=>by
  have e:Zo f []=[[]]:=by cases f <;> rfl
  rw [e,QDd] at h
  rw [h]
  exact QAh _
 | 0,_::_,_,w,h=>by simp [Zo] at h
 | f+1,c::C,h6,w,h=>by
  obtain ⟨i,hi,st,w',_,_,hw',rfl⟩:=mem_walks.mp h
  have:=ZbQ f _ (fun d hd=>h6 d ((YB hi).mpr (.inr hd))) w' hw'
  have:=h6 _ (QAs hi)
  rw [QAn,YM]
  omega
inductive Zfa (k:Nat) (vs:List V) (H:Hp) (Q:VK):Prop where
 | mk (l:Addr) (C:List (List Nat)) (_:vs=[.ref l]) (_:LL H l C) (_:C.length+1<=k) (_:C.length<=3) (_:(∀ c∈C,0<c.length/\c.length<=6)) (_:∀ t H',H t=none->Same H H'->LLn H H' t (Zo C.length C)->Q (.ref t) H'):Zfa k vs H Q
noncomputable def ZdO (k:Nat):Sp:=fun vs H Q _=>Zfa k vs H Q
theorem ZhL {c:List Nat} (k:Nat):((toI c).map V.int).take k=(toI (c.take k)).map V.int:=by
 unfold toI
 rw [List.map_take,List.map_take]
theorem ZiM {c:List Nat} (k:Nat):((toI c).map V.int).drop k=(toI (c.drop k)).map V.int:=by
 unfold toI
 rw [List.map_drop,List.map_drop]
theorem Paired.take5 {α β:Type} {F:α->β->Prop}:∀ {l₁:List α} {l₂:List β} (k:Nat),Paired F l₁ l₂->Paired F (l₁.take k) (l₂.take k)
 | _,_,0,_=>.nil
 | _,_,_+1,.nil=>.nil
 | _,_,k+1,.cons r t=>.cons r (Paired.take5 k t)
theorem Paired.drop5 {α β:Type} {F:α->β->Prop}:∀ {l₁:List α} {l₂:List β} (k:Nat),Paired F l₁ l₂->Paired F (l₁.drop k) (l₂.drop k)
 | _,_,0,r=>r
 | _,_,_+1,.nil=>.nil
 | _,_,k+1,.cons _ t=>Paired.drop5 k t
theorem Zgl:bootBuiltins "min" = some (Value.builtin "min"):=by decide +kernel
section
variable {P:Program} {w:World} {K:PySem.W.Frag} {mg:Str->Option Value} {base:Heap}
theorem scWalks:Zs ["circles","shortest","found","place","circle","onward","start"] ["circles"] (Ze Zae):=⟨rfl,rfl,rfl,by decide +kernel,rfl,by decide +kernel,by decide +kernel⟩
inductive Zfm (H:Hp) (l:Addr) (C:List (List Nat)) (lf:Addr) (i:Nat) (σ:St) (H3:Hp):Prop where
 | mk (v3 v4 v5 v6:Option V) (zs:List Addr) (_:σ=[some (.ref l),some (.int ((mnl C:Nat):Int)),some (.ref lf),v3,v4,v5,v6]) (_:Same H H3) (_:H3 lf=some (.lst (zs.map V.ref))) (_:Paired (fun p (r:List Nat)=>H3 p=some (.lst ((toI r).map V.int))/\p≠lf/\H p=none) zs ((List.range i).flatMap (ZdT (C.length - 1) C))):Zfm H l C lf i σ H3
inductive Zfl (H:Hp) (l:Addr) (C:List (List Nat)) (lf:Addr) (i:Nat) (zs:List Addr) (p:Addr) (c:List Nat) (lo:Addr) (HO:Hp) (W:List (List Nat)) (st:Nat) (σ:St) (H6:Hp):Prop where
 | mk (v6:Option V) (us:List Addr) (_:σ=[some (.ref l),some (.int ((mnl C:Nat):Int)),some (.ref lf),some (.int (i:Int)),some (.ref p),some (.ref lo),v6]) (_:Same H H6) (_:(∀ b o,b≠lf->HO b=some o->H6 b=some o)) (_:H6 lf=some (.lst ((zs++us).map V.ref))) (_:Paired (fun p (r:List Nat)=>H6 p=some (.lst ((toI r).map V.int))/\p≠lf/\H p=none) us ((List.range st).flatMap (stW W c))):Zfl H l C lf i zs p c lo HO W st σ H6
inductive Zfk (H:Hp) (lf:Addr) (p:Addr) (c:List Nat) (W:List (List Nat)) (st:Nat) (H6:Hp) (lc2:Addr) (j:Nat) (ys:List V) (σ:St) (H7:Hp):Prop where
 | mk (v0:Option V) (ts:List Addr) (_:σ=[v0,some (.ref p),some (.int (st:Int))]) (_:ys=ts.map V.ref) (_:Same H6 H7) (_:H7 lc2=some (.lst ys)) (_:Paired (fun p (r:List Nat)=>H7 p=some (.lst ((toI r).map V.int))/\p≠lf/\p≠lc2/\H p=none) ts ((stW W c st).take j)):Zfk H lf p c W st H6 lc2 j ys σ H7
set_option maxHeartbeats 1000000 in
theorem ZeB {f:Addr} {fd:FuncData} (D:Dfn K mg "walks" Zae ["circles"] f fd) (T:Blt mg):∀ k:Nat,FnOk P w K mg base CX0 k f fd ["circles"] (ZdO k)
 | 0=>⟨fun vs H Q E h=>by obtain ⟨_,_,rfl,_⟩:=h; rfl,fun A outer s H args us vs Q E _ _ _ _ h=>by obtain ⟨_,_,rfl,_,z,_⟩:=h; exact absurd z (Nat.not_succ_le_zero _)⟩
 | k+1=>by
  have GW:FnOk P w K mg base CX0 k f fd ["circles"] (ZdO k):=ZeB D T k
  refine D.F.ok scWalks (fun vs H Q E h=>?_) (fun cdv A outer s H vs Q E hr h=>?_)
  ·obtain ⟨_,_,rfl,_⟩:=h
   rfl
  ·obtain ⟨l,C,rfl,hL,hk,h3,h6,q⟩:=h
   refine' ⟨_,Zd (Jg (Zkx (Zh2 (pv 0) (fun _=>rfl))) (Zg (Zt (Yc (Za (Yc Zc) Zc)))) Yf) (Zd ?s1 (Zd (Zj (i:=2) scWalks.nd rfl (Or.inl rfl) (Yc Zc)) (Zd (Yu PassesOwn.never rfl (Zh4 K rfl T.enum (Za (pv 0) Zc)) (ZfS rfl (ZV (ZG (i:=3) scWalks.nd rfl (Or.inl rfl)) (ZV (ZG (i:=4) scWalks.nd rfl (Or.inr rfl)) JH))) (Zg (Jg ?c (Zd ?d0 (Zg (Yu PassesOwn.never rfl (Zp rfl T.range (Za (pv 1) Zc)) (ZG (i:=6) scWalks.nd rfl (Or.inr rfl)) (Zg ?e)))) Yf))) (Zg (Zt (pv 2)))))),?rd⟩
   case s1=>exact Zj (i:=1) scWalks.nd rfl (Or.inl rfl) (Zu (ZhE K rfl) rfl T.min Zgl (Za (Yr ["circle"] [none] rfl rfl (Z2 K (pv 0)) (fun _ _ _ _ _=>Yx 0) (fun _ _ _ _ _=>ZA) (fun _ _ _ _ _=>Zu (ZJ K) rfl T.len PySem.boot_len (Za (pv 0) Zc))) Zc))
   case c=>exact ZR ZaG (Zu (ZJ K) rfl T.len PySem.boot_len (Za (pv 4) Zc)) (pv 1) (Yp _)
   case d0=>exact Zj (i:=5) scWalks.nd rfl (Or.inl rfl) (Zm GW hr rfl D.m D.F.kp D.b .nil ZO (Za (Zk Zcc (JO ZaP (pv 0) Zav (Zau (pv 3))) (JO ZaP (pv 0) (Zau (Zk Yv (pv 3) Zi)) Zav)) Zc))
   case e=>exact YA (Jj PySem.F.plainAttrs_list PySem.F.slot_list_extend PySem.F.type_list_extend JR (pv 2) (Za (Yr ["walk","circle","start"] [none,some 4,some 6] rfl rfl (Z2 K (pv 5)) (fun _ _ _ _ _=>Yx 0) (fun _ _ _ _ _=>ZA) (fun _ _ _ _ _=>Zk Zcc (Zk Zcc (JO (Zep K) (pv 1) (Zau (pv 2)) Zav) (JO (Zep K) (pv 1) Zav (Zau (pv 2)))) (pv 0))) Zc))
   case rd =>
    obtain ⟨ps,hps,hP⟩:=hL
    have hpl:(ps.map V.ref).length=C.length:=by rw [QAa,hP.length]
    refine ⟨_,rfl,_,.inl ⟨_,SqL.of hps,rfl⟩,?_⟩
    by_cases hC:C=[]
    ·subst hC
     have hp0:ps=[]:=by
      cases ps with
      | nil=>rfl
      | cons _ _=>cases hP
     subst hp0
     refine Zbn ⟨QAh _,fun l0 hl0=>⟨(show 1<=sizeLine from Zq (by decide)),fun l1 hl1=>?_⟩⟩
     exact q l1 _ ((Same.new hl0).free hl1) ((Same.new hl0).trans (Same.new hl1)) ⟨[l0],Zb,.cons ⟨(Same.new hl1) _ _ Zb,(fun e=>by rw [<- e,Zb] at hl1; cases hl1),hl0⟩ .nil⟩
    have hpos:0<C.length:=List.length_pos_iff.mpr hC
    have hne:(ps.map V.ref).isEmpty=false:=by
     cases ps with
     | nil=>simp at hpl; exact (Om.k358 h3 hpos hpl).elim
     | cons _ _=>rfl
    rw [hne]
    refine ZaE ?_
    obtain ⟨⟨dm,hdm,edm⟩,lem⟩:Zf8 C (mnl C):=Zjt hpos
    refine ⟨_,rfl,l,rfl,⟨_,SqL.of hps⟩,fun lc hlc=>?_⟩
    refine ZD (fun j=>some (V.int (((C.getD j []).length:Nat):Int))) (fun σ=>∃ v,σ=[v]) (Z1 (xs:=ps.map V.ref)) (by rw [hpl]; exact Zq (by exact Om.b1 ‹_› rfl)) hlc (fun H' sm=>SqL.of (sm _ _ hps)) ⟨none,rfl⟩ ?_ ?_
    ·rintro j y σ H' R' hy ⟨v,rfl⟩ sm kk
     rw [QAe] at hy
     cases hpj:ps[j]? with
     | none=>rw [hpj] at hy; cases hy
     | some p =>
     rw [hpj] at hy
     cases hy
     obtain ⟨c,hc,hp⟩:=Paired.getL hP hpj
     have hcj:C.getD j []=c:=by rw [QAd,hc]; rfl
     have kk':=kk _ H' ⟨some (.ref p),rfl⟩ (Same.refl _)
     refine ⟨_,rfl,p,_,rfl,.inl (SqL.of (sm _ _ hp)),?_⟩
     rw [QAa,Ye,<- hcj]
     exact kk'
    intro H2 s2 h2
    rw [ZiF hpl] at h2
    refine ⟨lc,toI (C.map List.length),rfl,SqL.of h2,by rw [Ye,QAa]; exact hpos,fun m hm hle=>?_⟩
    have em:m=((mnl C:Nat):Int):=by
     unfold toI at hm hle
     obtain ⟨x,hx,rfl⟩:=List.mem_map.mp hm
     obtain ⟨c,hc,rfl⟩:=List.mem_map.mp hx
     have h1:=lem c hc
     have h2:=hle _ (List.mem_map.mpr ⟨dm.length,List.mem_map.mpr ⟨dm,hdm,rfl⟩,rfl⟩)
     omega
    subst em
    have hm6:mnl C<=6:=by rw [<- edm]; exact (h6 dm hdm).2
    refine ⟨QAh _,fun lf hlf=>?_⟩
    have hlf0:H lf=none:=s2.free hlf
    have s3:Same H (upd H2 lf (.lst [])):=s2.trans (Same.new hlf)
    refine ⟨_,rfl,l,_,rfl,SqL.of (s3 _ _ hps),?_⟩
    refine ZjJ (n:=C.length) (Y:=fun i H v H'=>∃ q x,v = .ref q/\H q=none/\(ps.map V.ref)[i]? = some x/\H'=upd H q (.tup [.int (i:Int),x])) (P:=fun H'=>SqL K H' l (ps.map V.ref))
     (fun i H' h hi=>⟨_,(ps.map V.ref)[i]'(by exact Om.a1 ‹_› ‹_›),h,QAb _⟩)
     (fun i H' v H'' h zz0 _=> by obtain ⟨q,x,e1,e2,e3,e4⟩ := zz0; exact ⟨q,x,e1,e2,e3 _ h,e4⟩) (fun i H' h hi=>⟨_,h,by exact Om.l4 ‹_› ‹_›⟩)
     (Zfm H l C lf)
     ⟨none,none,none,none,[],rfl,s3,Zb,.nil⟩ (fun j σ H3 zz0=> by obtain ⟨_,_,_,_,_,_,s4,_,_⟩ := zz0; exact SqL.of (s4 _ _ hps)) ?_ ?_
    ·rintro i x σ H3 H4 hi ⟨v3,v4,v5,v6,zs,rfl,s4,hf4,hZ⟩ ⟨z,y,rfl,hz,hy,rfl⟩
     rw [QAe] at hy
     cases hpi:ps[i]? with
     | none=>rw [hpi] at hy; cases hy
     | some p =>
     rw [hpi] at hy
     cases hy
     obtain ⟨c,hci,hp⟩:=Paired.getL hP hpi
     have hcg:C.getD i []=c:=by rw [QAd,hci]; rfl
     have hcm:c∈C:=QAu hci
     have s5:Same H3 (upd H3 z (.tup [.int (i:Int),.ref p])):=Same.new hz
     refine ⟨z,_,rfl,SqT.of Zb,rfl,_,_,rfl,_,_,rfl,rfl,?_⟩
     generalize upd H3 z (.tup [.int (i:Int),.ref p])=H4 at s5 ⊢
     have s45:=s4.trans s5
     have hf5:=s5 _ _ hf4
     have hZ5:Paired (fun p (r:List Nat)=>H4 p=some (.lst ((toI r).map V.int))/\p≠lf/\H p=none) zs ((List.range i).flatMap (ZdT (C.length - 1) C)):=Paired.mapP hZ fun _ _ e=>⟨s5 _ _ e.1,e.2⟩
     have hp4:=s45 _ _ hp
     refine ⟨_,rfl,p,_,rfl,.inl (SqL.of hp4),_,rfl,rfl,_,rfl,?_⟩
     rw [QAa,Ye]
     by_cases hcl:c.length=mnl C
     rotate_left
     ·rw [show decide (V.int ((c.length:Nat):Int)=V.int ((mnl C:Nat):Int))=false from decide_eq_false fun e=>hcl (by rw [V.int.injEq] at e; exact Om.e1 ‹_›)]
      refine ZaE ⟨_,_,_,_,zs,rfl,s45,hf5,?_⟩
      have er:ZdT (C.length - 1) C i=[]:=by unfold ZdT; rw [hcg,if_neg hcl]
      rw [QDc,QDi,QCs,QDj,er,QBh,QBh]
      exact hZ5
     rw [show decide (V.int ((c.length:Nat):Int)=V.int ((mnl C:Nat):Int))=true from decide_eq_true (by rw [hcl])]
     refine Zbn ?_
     have hpsl:ps.length=C.length:=by rw [QAa] at hpl; exact hpl
     refine ⟨_,rfl,_,rfl,_,rfl,l,_,rfl,SqL.of (s45 _ _ hps),fun l1 hl1=>?_⟩
     rw [Zgg _ (by rw [hpl]; exact Om.d1 ‹_›)]
     have t1:Same H4 (upd H4 l1 (.lst ((ps.map V.ref).take i))):=Same.new hl1
     refine ⟨_,rfl,_,rfl,_,_,rfl,rfl,_,rfl,l,_,rfl,SqL.of (t1 _ _ (s45 _ _ hps)),fun l2 hl2=>?_⟩
     rw [show ((i:Int)+1)=((i+1:Nat):Int) from rfl,Zcu _ (by rw [hpl]; exact Om.f1 ‹_›)]
     have t2:Same (upd H4 l1 (.lst ((ps.map V.ref).take i))) (upd (upd H4 l1 (.lst ((ps.map V.ref).take i))) l2 (.lst ((ps.map V.ref).drop (i+1)))):=Same.new hl2
     refine ⟨l1,l2,_,_,rfl,rfl,t2 _ _ Zb,Zb,?_,fun l3 hl3=>?_⟩
     ·rw [QAt,QBn,hpl]
      exact Zq (by exact Om.k357 h3 hpl hpos hi hpsl)
     have t3:=(t1.trans t2).trans (Same.new (o:=.lst ((ps.map V.ref).take i++(ps.map V.ref).drop (i+1))) hl3)
     have hl3':(upd (upd (upd H4 l1 (.lst ((ps.map V.ref).take i))) l2 (.lst ((ps.map V.ref).drop (i+1)))) l3 (.lst ((ps.map V.ref).take i++(ps.map V.ref).drop (i+1)))) l3=some (.lst ((ps.take i++ps.drop (i+1)).map V.ref)):=by rw [Zb,QAm,List.map_take,List.map_drop]
     generalize upd (upd (upd H4 l1 (.lst ((ps.map V.ref).take i))) l2 (.lst ((ps.map V.ref).drop (i+1)))) l3 (.lst ((ps.map V.ref).take i++(ps.map V.ref).drop (i+1)))=H5 at t3 hl3' ⊢
     have hCl:(C.take i++C.drop (i+1)).length=C.length - 1:=by
      rw [QAn,QAt,QBn]
      exact Om.k356 h3 hpl hpos hi hpsl
     have hCm:∀ d∈C.take i++C.drop (i+1),d∈C:=fun d hd=>by
      rw [<- QCw] at hd
      exact (YB hi).mpr (.inr hd)
     have sH5:=s45.trans t3
     refine ⟨l3,C.take i++C.drop (i+1),rfl,⟨_,hl3',Paired.append (Paired.mapP (Paired.take5 i hP) fun _ _ e=>sH5 _ _ e) (Paired.mapP (Paired.drop5 (i+1) hP) fun _ _ e=>sH5 _ _ e)⟩,by exact Om.k355 hk h3 hpl hpos hpsl hCl,by exact Om.k354 h3 hpl hpos hpsl hCl,fun d hd=>h6 d (hCm d hd),fun lo HO hlo sO hLO=>?_⟩
     rw [hCl] at hLO
     obtain ⟨os,hos,hO⟩:=hLO
     have hO:Paired (fun p (r:List Nat)=>HO p=some (.lst ((toI r).map V.int))/\p≠lo/\H5 p=none) os (Zo (C.length - 1) (C.take i++C.drop (i+1))):=hO
     have t3O:=t3.trans sO
     have sHO:=s45.trans t3O
     have hfO:=t3O _ _ hf5
     have hpO:=t3O _ _ hp4
     have hZO:Paired (fun p (r:List Nat)=>HO p=some (.lst ((toI r).map V.int))/\p≠lf/\H p=none) zs ((List.range i).flatMap (ZdT (C.length - 1) C)):=Paired.mapP hZ5 fun _ _ e=>⟨t3O _ _ e.1,e.2⟩
     have hlolf:lo≠lf:=fun e=>by rw [e] at hlo; rw [t3 _ _ hf5] at hlo; cases hlo
     have hplf:p≠lf:=fun e=>by rw [e,hlf0] at hp; cases hp
     have wfew:=Zaq (C.length - 1) (C.take i++C.drop (i+1)) hCl fun d hd=>(h6 d (hCm d hd)).2
     have hb1:=ZiS (C.length - 1) (by exact Om.k353 h3 hpl hpos hpsl)
     generalize hW:Zo (C.length - 1) (C.take i++C.drop (i+1))=W at hO wfew
     have hosl:os.length=W.length:=hO.length
     have erow:ZdT (C.length - 1) C i=(List.range (mnl C)).flatMap (stW W c):=by
      unfold ZdT stW
      rw [hcg,if_pos hcl,hW]
     have hzfew:zs.length<=3*(6*1296):=by
      rw [hZ.length]
      refine QAq (Yq (m:=6*1296) (List.range i) fun j hj=>?_) (by rw [QAp]; exact QCf (by exact Om.b2 ‹_› ‹_› rfl) (QAc _))
      have hj:=List.mem_range.mp hj
      unfold ZdT
      split
      ·have hj2:j<C.length:=by exact Om.k352 hpl hi hpsl hj
       have e:(C.take j++C.drop (j+1)).length=C.length - 1:=by
        rw [QAn,QAt,QBn]
        exact Om.k351 h3 hpl hpos hpsl hj2
       have:=Zaq (C.length - 1) (C.take j++C.drop (j+1)) e fun d hd=>by
        rw [<- QCw] at hd
        exact (h6 d ((YB hj2).mpr (.inr hd))).2
       have h2:=Yq (m:=1296) (g:=fun st=>(Zo (C.length - 1) (C.take j++C.drop (j+1))).map fun w=>rot (C.getD j []) st++w) (List.range (mnl C)) fun st _=>by rw [QAa]; exact Om.b3 ‹_› ‹_› rfl
       rw [QAp] at h2
       exact QAq h2 (QCf hm6 (QAc _))
      ·exact QAh _
     refine ⟨_,rfl,((mnl C:Nat):Int),rfl,by exact Om.c2,by exact Om.c1 ‹_› rfl,?_⟩
     rw [QAf]
     refine Yk (lo:=0) (n:=mnl C) (Zfl H l C lf i zs p c lo HO W)
      ⟨_,[],rfl,sHO,fun b o _ e=>e,by rw [QBh]; exact hfO,.nil⟩ ?_ ?_
     ·rintro st σ H6 hst ⟨v6',us,rfl,s6,kp6,hf6,hU⟩
      rw [QBx]
      have hos6:=kp6 _ _ hlolf hos
      have hp6:=kp6 _ _ hplf hpO
      refine ⟨_,rfl,.inl ⟨rfl,_,SqL.of hf6⟩,_,rfl,lo,rfl,⟨_,SqL.of hos6⟩,fun lc2 hlc2=>?_⟩
      have hlc2f:lc2≠lf:=fun e=>by rw [e,hf6] at hlc2; cases hlc2
      refine ZZ (Z1 (xs:=os.map V.ref)) (Zfk H lf p c W st H6 lc2)
       ⟨none,[],rfl,rfl,Same.new hlc2,Zb,.nil⟩ (fun j ys σ H7 zz0=> by obtain ⟨_,_,_,_,s7,hl,_⟩ := zz0; exact ⟨SqL.of (s7 _ _ hos6),hl⟩) ?_ ?_
      ·rintro j y ys σ H7 hj ⟨v0,ts,rfl,rfl,s7,hl7,hT7⟩
       rw [QAe] at hj
       cases hpj:os[j]? with
       | none=>rw [hpj] at hj; cases hj
       | some ow =>
       rw [hpj] at hj
       cases hj
       obtain ⟨wj,hwj,how⟩:=Paired.getL hO hpj
       have hjW:j<W.length:=(List.getElem?_eq_some_iff.mp hwj).1
       have howlf:ow≠lf:=fun e=>by
        have:=how.2.2
        rw [e,t3 _ _ hf5] at this
        cases this
       have how7:=s7 _ _ (kp6 _ _ howlf how.1)
       have hp7:=s7 _ _ hp6
       have hcl6:=(h6 c hcm).2
       have hstc:st<c.length:=by exact Om.a1 ‹_› ‹_›
       have hwl:=ZbQ (C.length - 1) (C.take i++C.drop (i+1)) (fun d hd=>(h6 d (hCm d hd)).2) wj (by rw [hW]; exact QAu hwj)
       refine ⟨_,rfl,_,rfl,_,rfl,p,_,rfl,SqL.of hp7,fun a1 ha1=>?_⟩
       rw [Zcu _ (by rw [QAa,Ye]; exact Om.d1 ‹_›),ZiM]
       have u1:Same H7 (upd H7 a1 (.lst ((toI (c.drop st)).map V.int))):=Same.new ha1
       refine ⟨_,rfl,_,rfl,_,rfl,p,_,rfl,SqL.of (u1 _ _ hp7),fun a2 ha2=>?_⟩
       rw [Zgg _ (by rw [QAa,Ye]; exact Om.d1 ‹_›),ZhL]
       have u2:Same (upd H7 a1 (.lst ((toI (c.drop st)).map V.int))) (upd (upd H7 a1 (.lst ((toI (c.drop st)).map V.int))) a2 (.lst ((toI (c.take st)).map V.int))):=Same.new ha2
       refine ⟨a1,a2,_,_,rfl,rfl,u2 _ _ Zb,Zb,?_,fun a3 ha3=>?_⟩
       ·rw [QAa,QAa,Ye,Ye,QBn,QAt]
        exact Zq (by exact Om.k350 edm hm6 hcl hst)
       have u3:=(u1.trans u2).trans (Same.new (o:=.lst ((toI (c.drop st)).map V.int++(toI (c.take st)).map V.int)) ha3)
       have g3:(upd (upd (upd H7 a1 (.lst ((toI (c.drop st)).map V.int))) a2 (.lst ((toI (c.take st)).map V.int))) a3 (.lst ((toI (c.drop st)).map V.int++(toI (c.take st)).map V.int))) a3=some (.lst ((toI (rot c st)).map V.int)):=by
        rw [Zb]
        unfold rot
        rw [JV,QAm]
       generalize upd (upd (upd H7 a1 (.lst ((toI (c.drop st)).map V.int))) a2 (.lst ((toI (c.take st)).map V.int))) a3 (.lst ((toI (c.drop st)).map V.int++(toI (c.take st)).map V.int))=H8 at u3 g3 ⊢
       refine ⟨_,rfl,a3,ow,_,_,rfl,rfl,g3,u3 _ _ how7,?_,fun a4 ha4=>?_⟩
       ·rw [QAa,QAa,Ye,Ye,YM]
        exact Zq (by exact Om.k349 h3 hpl hpos edm hm6 hcl hpsl hwl)
       have u4:Same H8 (upd H8 a4 (.lst ((toI (rot c st)).map V.int++(toI wj).map V.int))):=Same.new ha4
       have g4:(upd H8 a4 (.lst ((toI (rot c st)).map V.int++(toI wj).map V.int))) a4=some (.lst ((toI (rot c st++wj)).map V.int)):=by rw [Zb,JV,QAm]
       generalize upd H8 a4 (.lst ((toI (rot c st)).map V.int++(toI wj).map V.int))=H9 at u4 g4 ⊢
       have u34:=u3.trans u4
       have hl9:=u34 _ _ hl7
       have ha4l:a4≠lc2:=fun e=>by rw [e,u3 _ _ hl7] at ha4; cases ha4
       have ha4f:a4≠lf:=fun e=>by rw [e,u3 _ _ (s7 _ _ hf6)] at ha4; cases ha4
       have ha40:H a4=none:=(s6.trans (s7.trans u3)).free ha4
       have htl:ts.length=j:=by
        rw [hT7.length,QAt]
        unfold stW
        rw [QAa]
        exact Om.m1 ‹_›
       have et:(stW W c st).take (j+1)=(stW W c st).take j++[rot c st++wj]:=by
        unfold stW
        rw [QBy,QAe,hwj]
        rfl
       refine ⟨hl9,by rw [QAa,htl]; exact Jl (by exact Om.k348 hb1 wfew hosl hjW htl),_,ts++[a4],rfl,by rw [QAm]; rfl,fun b u e=>?_,Zb,?_⟩
       ·rw [Zf (Zh e hlc2)]
        exact u34 _ _ (s7 _ _ e)
       ·rw [et]
        exact Paired.snoc (Paired.mapP hT7 fun x _ e=>⟨by rw [Zf e.2.2.1]; exact u34 _ _ e.1,e.2⟩) ⟨by rw [Zf ha4l]; exact g4,ha4f,ha4l,ha40⟩
      ·rintro ys σ H7 ⟨v0,ts,rfl,rfl,s7,hl7,hT7⟩
       rw [QAa,hosl,QBc (by unfold stW; rw [QAa]; exact QAc _)] at hT7
       have hf7:=s7 _ _ hf6
       have htl:ts.length<=1296:=by
        rw [hT7.length]
        unfold stW
        rw [QAa]
        exact Om.b3 ‹_› ‹_› rfl
       have hul:us.length<=6*1296:=by
        rw [hU.length]
        refine QAq (Yq (m:=1296) (List.range st) fun j _=>?_) (by rw [QAp]; exact QCf (by exact Om.b2 ‹_› ‹_› rfl) (QAc _))
        unfold stW
        rw [QAa]
        exact Om.b3 ‹_› ‹_› rfl
       refine ⟨lf,lc2,_,_,rfl,rfl,hf7,hl7,QBw (Jl (by rw [QAa,QAa,QAn]; exact Om.k347 hzfew htl hul)),_,us++ts,rfl,fun b u e=>?_,fun b o hb e=>?_,?_,?_⟩
       ·rw [Zf (Zh e hlf0)]
        exact s7 _ _ (s6 _ _ e)
       ·rw [Zf hb]
        exact s7 _ _ (kp6 b o hb e)
       ·rw [Zb,<- QAm,QBo]
       ·rw [QDc,QDi,QCs,QDj,QBh]
        exact Paired.append (Paired.mapP hU fun x _ e=>⟨by rw [Zf e.2.1]; exact s7 _ _ e.1,e.2⟩) (Paired.mapP hT7 fun x _ e=>⟨by rw [Zf e.2.1]; exact e.1,e.2.1,e.2.2.2⟩)
     ·rintro σ H6 ⟨v6',us,rfl,s6,kp6,hf6,hU⟩
      refine ⟨_,_,_,_,zs++us,rfl,s6,hf6,?_⟩
      rw [QDc,QDi,QCs,QDj,QBh,erow]
      exact Paired.append (Paired.mapP hZO fun x _ e=>⟨kp6 _ _ e.2.1 e.1,e.2⟩) hU
    ·rintro σ H3 ⟨v3,v4,v5,v6,zs,rfl,s4,hf4,hZ⟩
     rw [<- ZfG hpos] at hZ
     exact ⟨_,rfl,q lf H3 hlf0 s4 ⟨zs,hf4,hZ⟩⟩
end
end My
namespace My
open PySem L2
theorem Zkz {X:Cx} {o e:Expr} {es:List Expr} {to:TE} {t:TA} {name:Str} {apos cpos:Pos} {T id:String} {r:V->List V->Hp->VK->Prop} (K:PySem.W.Frag) (pa:PlainAttrs T) (slot:Slot T name id) (hty:typeOf (.builtin id)=pure (.type "method_descriptor")) (hm:MtR X id r) (ho:PE X o to) (ha:PA X (e::es) t) (hK:X.K=K:=by rfl)
  (hbase:attributeBase o name X.env (eval o X.env)=eval o X.env:=by rfl)
  (hfew:((backTo cpos (starEach (e::es) X.env)).all (fun x=>!x.1)&&(backToKw cpos (keywordEach [] X.env)).all (fun x=>x.1.isSome)&&decide ((e::es).length+([]:List Keyword).length+(if ([]:List Keyword).isEmpty then 0 else 1)<30))=true:=by rfl)
  (hline:(apos.endLine==cpos.line)=true:=by rfl) (hs:starEach (e::es) X.env=(false,eval e X.env)::starEach es X.env:=by rfl) (hplain:(backTo cpos (starEach es X.env)).any (·.1)=false:=by rfl) :
  PE X (.Call (.Attribute o name apos) (e::es) [] cpos) (tBM K T r to t):=by
 subst hK
 exact Jj pa slot hty hm ho ha hbase hfew hline hs hplain
noncomputable def JL (n a j:Nat):List (Nat × Nat):=((List.range j).filter fun b=>decide (b≠a)).map fun b=>(a,b)
noncomputable def YY (n:Nat):List (Nat × Nat):=(List.range n).flatMap fun a=>JL n a n
noncomputable def TL (H:Hp) (l:Addr) (L:List (Nat × Nat)):Prop:=∃ ps:List Addr,H l=some (.lst (ps.map V.ref))/\Paired (fun p (x:Nat × Nat)=>H p=some (.tup [.int (x.1:Int),.int (x.2:Int)])) ps L
theorem ZbR (n a j:Nat):JL n a (j+1)=if j=a then JL n a j else JL n a j++[(a,j)]:=by
 unfold JL
 rw [QDc,List.filter_append,QAm]
 by_cases e:j=a
 ·rw [if_pos e,List.filter_cons,if_neg (by simp [e])]
  simp
 ·rw [if_neg e,List.filter_cons,if_pos (by simp [e])]
  rfl
theorem Zba (n a j:Nat):(JL n a j).length<=j:=by
 unfold JL
 rw [QAa]
 have:=QEb (fun b=>decide (b≠a)) (List.range j)
 rw [QAp] at this
 exact this
inductive ZiW (vs:List V) (H:Hp) (Q:VK):Prop where
 | mk (n:Nat) (_:vs=[.int (n:Int)]) (_:n<=6) (_:∀ l H',H l=none->Same H H'->TL H' l (YY n)->Q (.ref l) H'):ZiW vs H Q
noncomputable def ZjY:Sp:=fun vs H Q _=>ZiW vs H Q
inductive ZiX (vs:List V) (H:Hp) (Q:VK):Prop where
 | mk (a:Addr) (n:Nat) (r:List Int) (_:vs=[.ref a]) (_:H a=some (.lst (r.map V.int))) (_:Turn n r) (_:n<=8) (_:∀ t H',Same H H'->H t=none->H' t=some (.tup ((inv r).map V.int))->Q (.ref t) H'):ZiX vs H Q
noncomputable def ZjZ:Sp:=fun vs H Q _=>ZiX vs H Q
inductive Zdv (vs:List V) (H:Hp) (Q:VK):Prop where
 | mk (g l:Addr) (n a:Nat) (R:List (List Int)) (w:List Nat) (_:vs=[.ref g,.int (a:Int),.ref l]) (_:TG H g R) (_:OkRows n R) (_:R.length=n) (_:1<=n) (_:n<=6) (_:a<n) (_:H l=some (.lst ((toI w).map V.int))) (_:Cols n w) (_:∀ t H',H t=none->Same H H'->TG H' t (Zy n R a w)->Q (.ref t) H'):Zdv vs H Q
noncomputable def Zeo:Sp:=fun vs H Q _=>Zdv vs H Q
section
variable {P:Program} {w:World} {K:PySem.W.Frag} {mg:Str->Option Value} {base:Heap}
theorem scTwo:Zs ["size","found","one"] ["size"] (Ze Jc):=⟨rfl,rfl,rfl,by decide +kernel,rfl,by decide +kernel,by decide +kernel⟩
inductive Zfj (H:Hp) (n:Nat) (lf:Addr) (a:Nat) (σ:St) (H2:Hp):Prop where
 | mk (v2:Option V) (zs:List Addr) (_:σ=[some (.int (n:Int)),some (.ref lf),v2]) (_:Same H H2) (_:H2 lf=some (.lst (zs.map V.ref))) (_:zs.length<=a*n) (_:Paired (fun p (x:Nat × Nat)=>H2 p=some (.tup [.int (x.1:Int),.int (x.2:Int)])) zs ((List.range a).flatMap fun a=>JL n a n)):Zfj H n lf a σ H2
inductive Zfi (n:Nat) (a:Nat) (H2:Hp) (lc:Addr) (j:Nat) (ys:List V) (σ:St) (H3:Hp):Prop where
 | mk (v0:Option V) (us:List Addr) (_:σ=[v0,some (.int (a:Int))]) (_:ys=us.map V.ref) (_:Same H2 H3) (_:H3 lc=some (.lst ys)) (_:Paired (fun p (x:Nat × Nat)=>H3 p=some (.tup [.int (x.1:Int),.int (x.2:Int)])) us (JL n a j)):Zfi n a H2 lc j ys σ H3
theorem ZkG {f:Addr} {fd:FuncData} (F:Fun K "two_rows" "two_rows" Jc f fd) (T:Blt mg):FnOk P w K mg base CX0 1 f fd ["size"] ZjY:=by
 refine F.ok scTwo (fun vs H Q E h=>?_) (fun cdv A outer s H vs Q E hr h=>?_)
 ·obtain ⟨_,rfl,_⟩:=h
  rfl
 ·obtain ⟨n,rfl,h6,q⟩:=h
  refine' ⟨_,Zd (Zj (i:=1) scTwo.nd rfl (Or.inl rfl) (Yc Zc)) (Zd (Yu PassesOwn.never rfl (Zp rfl T.range (Za (pv 0) Zc)) (ZG (i:=2) scTwo.nd rfl (Or.inr rfl)) (Zg ?b)) (Zg (Zt (pv 1)))),?rd⟩
  case b=>exact YA (Jj PySem.F.plainAttrs_list PySem.F.slot_list_extend PySem.F.type_list_extend JR (pv 1) (Za (Yr ["other","one"] [none,some 2] rfl rfl (Zp rfl T.range (Za (pv 0) Zc)) (fun _ _ _ _ _=>Yx 0) (fun _ _ _ _ _=>ZaS (ZR Zh8 (pv 0) (pv 1) (Yp _))) (fun _ _ _ _ _=>J3 (Za (pv 1) (Za (pv 0) Zc)))) Zc))
  case rd =>
   refine ⟨QAh _,fun lf hlf=>?_⟩
   refine ⟨_,rfl,(n:Int),rfl,by exact Om.c2,by exact Om.c1 ‹_› rfl,?_⟩
   rw [QAf]
   refine Yk (lo:=0) (n:=n) (Zfj H n lf)
    ⟨none,[],rfl,Same.new hlf,Zb,QAh _,.nil⟩ ?_ ?_
   ·rintro a σ H2 ha ⟨v2,zs,rfl,s2,h2,hzl,hZ⟩
    rw [QBx]
    refine ⟨_,rfl,.inl ⟨rfl,_,SqL.of h2⟩,_,rfl,(n:Int),rfl,by exact Om.c2,by exact Om.c1 ‹_› rfl,fun lc hlc=>?_⟩
    rw [QAf]
    refine ZZ (ZI (n:=n)) (Zfi n a H2 lc)
     ⟨none,[],rfl,rfl,Same.new hlc,Zb,.nil⟩ (fun j ys σ H3 zz0=> by obtain ⟨_,_,_,_,_,hl,_⟩ := zz0; exact ⟨trivial,hl⟩) ?_ ?_
    ·rintro j x ys σ H3 hj ⟨v0,us,rfl,rfl,s3,hl3,hU⟩
     obtain ⟨hjn,rfl⟩:=Z3 hj
     refine ⟨_,rfl,_,rfl,rfl,_,rfl,?_⟩
     by_cases e:j=a
     ·rw [show decide (V.int (j:Int)=V.int (a:Int))=true from decide_eq_true (by rw [e])]
      refine ZaE ⟨_,us,rfl,rfl,s3,hl3,?_⟩
      rw [ZbR,if_pos e]
      exact hU
     ·rw [show decide (V.int (j:Int)=V.int (a:Int))=false from decide_eq_false fun z=>e (by rw [V.int.injEq] at z; exact Om.e1 ‹_›)]
      refine Zbn ⟨_,rfl,_,rfl,(show 2<=sizeLine from Zq (by decide)),fun t ht=>?_⟩
      have s4:Same H3 (upd H3 t (.tup [.int (a:Int),.int (j:Int)])):=Same.new ht
      have hl4:=s4 _ _ hl3
      have hul:us.length<=j:=by rw [hU.length]; exact Zba n a j
      have up:∀ b row,(upd H3 t (.tup [.int (a:Int),.int (j:Int)])) b=some (.tup row)->(upd (upd H3 t (.tup [.int (a:Int),.int (j:Int)])) lc (.lst (us.map V.ref++[.ref t]))) b=some (.tup row):=fun b row e=>by
       rw [Zf (YV e hl4 (by intro z; cases z))]
       exact e
      refine ⟨hl4,by rw [QAa]; exact Zw (by exact Om.k346 h6 hjn hul),_,us++[t],rfl,by rw [QAm]; rfl,fun b u e=>?_,Zb,?_⟩
      ·rw [Zf (Zh e hlc)]
       exact s4 _ _ (s3 _ _ e)
      ·rw [ZbR,if_neg e]
       exact Paired.snoc (Paired.mapP hU fun _ _ z=>up _ _ (s4 _ _ z)) (up _ _ Zb)
    ·rintro ys σ H3 ⟨v0,us,rfl,rfl,s3,hl3,hU⟩
     rw [Zr] at hU
     have h3:=s3 _ _ h2
     have hul:us.length<=n:=by rw [hU.length]; exact Zba n a n
     have han:a*n<=6*6:=QCf (by exact Om.b2 ‹_› ‹_› rfl) h6
     have up:∀ b row,H3 b=some (.tup row)->(upd H3 lf (.lst (zs.map V.ref++us.map V.ref))) b=some (.tup row):=fun b row e=>by
      rw [Zf (YV e h3 (by intro z; cases z))]
      exact e
     refine ⟨lf,lc,_,_,rfl,rfl,h3,hl3,by rw [QAa,QAa]; exact Zq (by exact Om.k345 h6 hzl hul han),_,zs++us,rfl,fun b u e=>?_,?_,?_,?_⟩
     ·rw [Zf (Zh e hlf)]
      exact s3 _ _ (s2 _ _ e)
     ·rw [Zb,QAm]
     ·rw [QAn,QCp]
      exact Om.k312 hzl hul
     ·rw [QDc,QDi,QCs,QDj,QBh]
      exact Paired.append (Paired.mapP hZ fun _ _ z=>up _ _ (s3 _ _ z)) (Paired.mapP hU fun _ _ z=>up _ _ z)
   ·rintro σ H2 ⟨v2,zs,rfl,s2,h2,_,hZ⟩
    exact ⟨_,rfl,q lf H2 hlf s2 ⟨zs,h2,hZ⟩⟩
theorem Zcd {f:Addr} {fd:FuncData} (F:Fun K "turn_undone" "turn_undone" ZP f fd) (T:Blt mg):FnOk P w K mg base CX0 1 f fd ["turn"] ZjZ:=by
 refine F.ok Zlo (fun vs H Q E h=>?_) (fun cdv A outer s H vs Q E hr h=>?_)
 ·obtain ⟨_,_,_,rfl,_⟩:=h
  rfl
 ·obtain ⟨a,n,r,rfl,ha,tr,h8,q⟩:=h
  refine ⟨_,Zg (Zt (Zx (ZB K) rfl T.tuple ZX (Za (Yr ["number","turn"] [none,some 0] rfl rfl (Zp rfl T.range (Za (Zu (ZJ K) rfl T.len PySem.boot_len (Za (pv 0) Zc)) Zc)) (fun _ _ _ _ _=>Yx 0) (fun _ _ _ _ _=>ZA) (fun _ _ _ _ _=>Zkz K PySem.F.plainAttrs_list PySem.F.slot_list_index PySem.F.type_list_index Zc9 (pv 1) (Za (pv 0) Zc))) Zc))),?_⟩
  refine ⟨_,rfl,a,_,rfl,.inl (SqL.of ha),_,rfl,by exact Om.c2,by rw [QAa,tr.len]; exact Om.c1 ‹_› rfl,fun l hl=>?_⟩
  rw [QAa,tr.len,QAf]
  refine ZD (fun i=>some (.int ((r.idxOf (i:Int):Nat):Int))) (fun σ=>∃ v,σ=[v,some (.ref a)]) (ZI (n:=n)) (by rw [Zr]; exact Zq (by exact Om.b1 ‹_› rfl)) hl (fun H' sm=>trivial) ⟨none,rfl⟩ ?_ ?_
  ·rintro j x σ H' R' hj ⟨v,rfl⟩ sm kk
   obtain ⟨hjn,rfl⟩:=Z3 hj
   have ha':=sm _ _ ha
   refine ⟨_,rfl,.inl ⟨rfl,_,SqL.of ha'⟩,_,rfl,a,r,(j:Int),rfl,rfl,ha',Ja tr.len tr.nd tr.rg ⟨by exact Om.c6,by exact Om.c5 ‹_›⟩,?_⟩
   exact kk [some (.int (j:Int)),some (.ref a)] H' ⟨_,rfl⟩ (Same.refl _)
  ·intro H2 s2 h2
   have e0:(List.range (rng n).length).filterMap (fun i:Nat=>some (V.int ((r.idxOf (i:Int):Nat):Int)))=(inv r).map V.int:=by
    rw [YH,Zr]
    unfold inv
    rw [tr.len,QBb]
    rfl
   rw [e0] at h2
   exact ⟨l,_,rfl,.inl ⟨SqL.of h2,fun t ht=>q t _ (s2.trans (Same.new ht)) (s2.free ht) Zb⟩⟩
theorem scAlongP:Zs ["square","top","walk","things","rows"] ["square","top","walk"] (Ze JG):=⟨rfl,rfl,rfl,by decide +kernel,rfl,by decide +kernel,by decide +kernel⟩
theorem ZkX {R:List (List Int)} {a:Nat} {w:List Nat}:(List.range ((toI w).map V.int).length).filterMap (fun j=>some (V.int (ent R a (w.getD j 0))))=(w.map fun x=>ent R a x).map V.int:=by
 rw [Jz,QAa,Ye,QBb]
 refine QDh fun j=>?_
 rw [QAe,QAe]
 by_cases hj:j<w.length
 ·rw [QBk hj,QAb hj]
  show some (V.int (ent R a (w.getD j 0)))=some (V.int (ent R a w[j]))
  rw [gDN hj]
 ·rw [QCr (by rw [QAp]; exact Om.k344 hj),QCr (by exact Om.k344 hj)]
  rfl
theorem Zi2 {w:List Nat} {j:Nat} {y:V} (h:((toI w).map V.int)[j]? = some y):j<w.length/\y = .int ((w.getD j 0:Nat):Int):=by
 unfold toI at h
 rw [QAe,QAe] at h
 by_cases hj:j<w.length
 ·rw [QAb hj] at h
  cases h
  exact ⟨hj,by rw [gDN hj]⟩
 ·rw [QCr (by exact Om.k344 hj)] at h
  cases h
theorem Zhu {f fU:Addr} {fd dU:FuncData} (F:Fun K "renaming_along" "renaming_along" JG f fd) (T:Blt mg) (DU:Dfn K mg "turn_undone" ZP ["turn"] fU dU):FnOk P w K mg base CX0 2 f fd ["square","top","walk"] Zeo:=by
 have GU:FnOk P w K mg base CX0 1 fU dU ["turn"] ZjZ:=Zcd DU.F T
 refine F.ok scAlongP (fun vs H Q E h=>?_) (fun cdv A outer s H vs Q E hr h=>?_)
 ·obtain ⟨_,_,_,_,_,_,rfl,_⟩:=h
  rfl
 ·obtain ⟨g,l,n,a,R,w,rfl,hT,ok,hRl,h1,h6,ha,hl,hw,q⟩:=h
  refine' ⟨_,Zd ?s0 (Zd ?s1 (Zg (Zt (J3 (Za (pv 4) (Za (Zm GU hr rfl DU.m DU.F.kp DU.b .nil ZO (Za (pv 2) Zc)) (Za (pv 3) Zc))))))),?rd⟩
  case s0=>exact Zj (i:=3) scAlongP.nd rfl (Or.inr rfl) (Zm GU hr rfl DU.m DU.F.kp DU.b .nil ZO (Za (Yr ["column","square","top"] [none,some 0,some 1] rfl rfl (Z2 K (pv 2)) (fun _ _ _ _ _=>Yx 0) (fun _ _ _ _ _=>ZA) (fun _ _ _ _ _=>ZQ (Z9 K) (ZQ (Z9 K) (pv 1) (pv 2) (fun _ _=>rfl)) (pv 0) (fun _ _=>rfl))) Zc))
  case s1=>exact Zj (i:=4) scAlongP.nd rfl (Or.inl rfl) (Zx (ZB K) rfl T.tuple ZX (Za (Yr ["line","things","walk"] [none,some 3,some 2] rfl rfl (ZbJ K (pv 0)) (fun _ _ _ _ _=>Yx 0) (fun _ _ _ _ _=>ZA) (fun _ _ _ _ _=>ZQ (Z9 K) (pv 1) (ZQ (Z9 K) (pv 0) (ZQ (Zco K) (pv 2) Zi (fun _ _=>rfl)) (fun _ _=>rfl)) (fun _ _=>rfl))) Zc))
  case rd =>
   have tt:=Js ok hRl hw ha
   have hwl:w.length=n:=hw.len
   have hwi:((toI w).map V.int).length=n:=by rw [QAa,Ye,hwl]
   obtain ⟨xA,pA,a1,a2,a3,a4⟩:=hT.at (k:=a) (by exact Om.a1 ‹_› ‹_›)
   have hrowA:=Yw ok hRl ha
   refine ⟨_,rfl,l,rfl,⟨_,SqL.of hl⟩,fun lc hlc=>?_⟩
   refine ZD (fun j=>some (V.int (ent R a (w.getD j 0)))) (fun σ=>∃ v,σ=[v,some (.ref g),some (.int (a:Int))]) (Z1 (xs:=(toI w).map V.int)) (by rw [hwi]; exact Zq (by exact Om.b1 ‹_› rfl)) hlc (fun H' sm=>SqL.of (sm _ _ hl)) ⟨none,rfl⟩ ?_ ?_
   ·rintro j y σ H' R' hy ⟨v,rfl⟩ sm kk
    obtain ⟨hj,rfl⟩:=Zi2 hy
    have hc:w.getD j 0<n:=by rw [gDN hj]; exact (hw.all _).mp (QAs _)
    exact ⟨_,rfl,_,rfl,g,_,_,.ref pA,rfl,rfl,SqT.of (sm _ _ a1),a3,_,rfl,pA,_,_,.int (ent R a (w.getD j 0)),rfl,rfl,SqT.of (sm _ _ a4),YQ (by rw [hrowA.len]; exact hc),kk _ H' ⟨some (.int ((w.getD j 0:Nat):Int)),rfl⟩ (Same.refl _)⟩
   intro H2 s2 h2
   rw [ZkX] at h2
   refine ⟨lc,n,w.map fun x=>ent R a x,rfl,h2,tt,by exact Om.b1 ‹_› rfl,fun th H3 s3 hth0 hth=>?_⟩
   have s23:=s2.trans s3
   obtain ⟨gs,hg,hG⟩:=id hT
   have hgl:(gs.map V.ref).length=n:=by rw [QAa,hG.length,hRl]
   have hw0:w.getD 0 0<n:=hw.zero h1
   refine ⟨_,rfl,g,rfl,⟨_,SqT.of (s23 _ _ hg)⟩,fun lr hlr=>?_⟩
   refine ZD (fun r=>some (V.int ((thg R a w).getD (ent R r (w.getD 0 0)).toNat 0))) (fun σ=>∃ v,σ=[v,some (.ref th),some (.ref l)]) (ZbH (xs:=gs.map V.ref)) (by rw [hgl]; exact Zq (by exact Om.b1 ‹_› rfl)) hlr (fun H' sm=>SqT.of (sm _ _ (s23 _ _ hg))) ⟨none,rfl⟩ ?_ ?_
   ·rintro r y σ H' R' hy ⟨v,rfl⟩ sm kk
    rw [QAe] at hy
    cases hpr:gs[r]? with
    | none=>rw [hpr] at hy; cases hy
    | some p =>
    rw [hpr] at hy
    cases hy
    obtain ⟨Rr,hRr,hp⟩:=Paired.getL hG hpr
    have hrn:r<n:=by have:=(List.getElem?_eq_some_iff.mp hRr).1; exact Om.a2 ‹_› ‹_›
    have hRg:R.getD r []=Rr:=by rw [QAd,hRr]; rfl
    have hrow:=Yw ok hRl hrn
    obtain ⟨e1,e2⟩:=Z4 ok hRl hrn hw0
    have sm':=s23.trans sm
    have hthl:(thg R a w).length=n:=tt.inv.len
    rw [<- hRg] at hp
    have at1:atI ((toI w).map V.int) (0:Int)=some (.int ((w.getD 0 0:Nat):Int)):=YU (i:=0) (by
     unfold toI
     rw [QAe,QAe,QAb (by exact Om.k343 hRl h1 h6 hwl hwi a2 hgl hthl),gDN (by exact Om.k343 hRl h1 h6 hwl hwi a2 hgl hthl)]
     rfl)
    have at2:atI ((R.getD r []).map V.int) ((w.getD 0 0:Nat):Int)=some (.int (ent R r (w.getD 0 0))):=YQ (by rw [hrow.len]; exact hw0)
    have at3:atI ((thg R a w).map V.int) (ent R r (w.getD 0 0))=some (.int ((thg R a w).getD (ent R r (w.getD 0 0)).toNat 0)):=by
     rw [e1]
     rw [QAf]
     exact YQ (by exact Om.a1 ‹_› ‹_›)
    exact ⟨_,rfl,_,rfl,_,rfl,l,_,_,_,rfl,rfl,SqL.of (sm' _ _ hl),at1,p,_,_,_,rfl,rfl,SqT.of (sm' _ _ hp),at2,th,_,_,_,rfl,rfl,SqT.of (sm _ _ hth),at3,kk _ H' ⟨some (.ref p),rfl⟩ (Same.refl _)⟩
   intro H4 s4 h4
   have e4:(List.range (gs.map V.ref).length).filterMap (fun r=>some (V.int ((thg R a w).getD (ent R r (w.getD 0 0)).toNat 0)))=((List.range n).map fun r=>(thg R a w).getD (ent R r (w.getD 0 0)).toNat 0).map V.int:=by
    rw [Jz,hgl,QBb]
    rfl
   rw [e4] at h4
   refine ⟨lr,_,rfl,.inl ⟨SqL.of h4,fun tr htr=>?_⟩⟩
   have s5:Same H4 (upd H4 tr (.tup (((List.range n).map fun r=>(thg R a w).getD (ent R r (w.getD 0 0)).toNat 0).map V.int))):=Same.new htr
   have g5:(upd H4 tr (.tup (((List.range n).map fun r=>(thg R a w).getD (ent R r (w.getD 0 0)).toNat 0).map V.int))) tr=some (.tup (((List.range n).map fun r=>(thg R a w).getD (ent R r (w.getD 0 0)).toNat 0).map V.int)):=Zb
   generalize upd H4 tr (.tup (((List.range n).map fun r=>(thg R a w).getD (ent R r (w.getD 0 0)).toNat 0).map V.int))=H5 at s5 g5 ⊢
   have s35:=s4.trans s5
   have sH5:=s23.trans s35
   refine ⟨_,rfl,_,rfl,l,n,toI w,rfl,sH5 _ _ hl,hw.turn,by exact Om.b1 ‹_› rfl,fun tc H6 s6 _ htc=>?_⟩
   refine ⟨_,rfl,(show 3<=sizeLine from Zq (by decide)),fun t ht=>?_⟩
   have s7:Same H6 (upd H6 t (.tup [.ref tr,.ref tc,.ref th])):=Same.new ht
   have sH7:=(sH5.trans s6).trans s7
   exact q t _ ((sH5.trans s6).free ht) sH7 ⟨[tr,tc,th],Zb,.cons (s7 _ _ (s6 _ _ g5)) (.cons (s7 _ _ htc) (.cons (s7 _ _ (s6 _ _ (s35 _ _ hth))) .nil))⟩
end
end My
namespace My
open PySem L2
theorem ZjT {s:Nat->Nat} {U:Nat->Prop} {w ls:List Nat} (a:Alg s U w ls):w.length=ls.sum:=by
 induction a with
 | nil _=>rfl
 | step _ _ _ _ ih=>rw [QAn,QDe,ih]
theorem Zgt:∀ l:List Nat,(∀ x∈l,2<=x)->2*l.length<=l.sum
 | [],_=>QAc _
 | x::l,h=>by
  have:=Zgt l fun y hy=>h y (QAo _ hy)
  have:=h x QAj
  rw [QAy,QDe]
  omega
section
variable {n:Nat} {R:List (List Int)} {a b:Nat}
theorem ZdU (ok:OkRows n R) (hl:R.length=n) (ha:a<n) (hb:b<n) (hne:a≠b):∀ c∈rgs n R a b,2<=c.length/\c.length<=n:=by
 intro c hc
 have v:=Ys (YZ ok hl ha hb)
 have cy:=v.cy c hc
 have hlt:∀ x∈c,x<n:=fun x hx=>(v.all x).mpr ⟨c,hc,hx⟩
 refine ⟨?_,ZaV cy.nd hlt⟩
 have hp:=cy.pos
 by_cases e:c.length=1
 ·have h:=cy.nx 0 hp
  rw [e] at h
  have hx:=hlt _ cy.head
  have h2:=ZbY ok hl ha hb hx
  rw [h] at h2
  exact absurd (ZaC ok hl ha hb hx h2) hne
 ·omega
theorem ZdV (ok:OkRows n R) (hl:R.length=n) (ha:a<n) (hb:b<n) (hne:a≠b):2*(rgs n R a b).length<=n:=by
 have v:=Ys (YZ ok hl ha hb)
 obtain ⟨w,hw⟩:=Za7 (s:=sF R a b) (f:=(rgs n R a b).length) (C:=rgs n R a b) (fun c hc=>(v.cy c hc).pos) (QAc _)
 obtain ⟨ls,al⟩:=(YJ v (QAc _)).mp hw
 have hw':w∈Zo n (rgs n R a b):=by rw [show Zo n (rgs n R a b)=Zo (rgs n R a b).length (rgs n R a b) from ZaI _ _ _ (YL _ _ _) (QAc _)]; exact hw
 have hc:=(Yy ok hl ha hb hw').len
 obtain ⟨p,_⟩:=ZcE al v
 have h2:=Zgt ls fun x hx=>by
  obtain ⟨c,hc,rfl⟩:=List.mem_map.mp (p.mem_iff.mp hx)
  exact (ZdU ok hl ha hb hne c hc).1
 have e:=p.length_eq
 rw [QAa] at e
 have e2:(rgs n R a b).length=ls.length:=e.symm
 rw [<- ZjT al,hc] at h2
 omega
end
theorem Zai (n:Nat) (R:List (List Int)) (a b:Nat):Zo n (rgs n R a b)=Zo (rgs n R a b).length (rgs n R a b):=ZaI _ _ _ (YL _ _ _) (QAc _)
noncomputable def slL (n:Nat) (R:List (List Int)):List (List Int):=(YY n).map fun x=>sl n R x.1 x.2
noncomputable def Y3 (n:Nat) (R:List (List Int)):List Int:=(slL n R).getD (argBest (fun i j=>HT.lexLt ((slL n R).getD i []) ((slL n R).getD j [])) ((slL n R).length - 1)) []
noncomputable def Zab (n:Nat) (R:List (List Int)) (x:Nat × Nat):List (List (List Int)):=if sl n R x.1 x.2=Y3 n R then (Zo (rgs n R x.1 x.2).length (rgs n R x.1 x.2)).map (Zy n R x.1) else []
noncomputable def Zv (n:Nat) (R:List (List Int)):List (List (List Int)):=if n=1 then [Zac 1] else (YY n).flatMap (Zab n R)
theorem mem_two {n a b:Nat}:(a,b)∈YY n↔a<n/\b<n/\a≠b:=by
 unfold YY JL
 rw [List.mem_flatMap]
 constructor
 ·rintro ⟨x,hx,h⟩
  obtain ⟨y,hy,e⟩:=List.mem_map.mp h
  cases e
  obtain ⟨h1,h2⟩:=List.mem_filter.mp hy
  exact ⟨List.mem_range.mp hx,List.mem_range.mp h1,fun z=>of_decide_eq_true h2 z.symm⟩
 ·rintro ⟨h1,h2,h3⟩
  exact ⟨a,List.mem_range.mpr h1,List.mem_map.mpr ⟨b,List.mem_filter.mpr ⟨List.mem_range.mpr h2,decide_eq_true (Ne.symm h3)⟩,rfl⟩⟩
theorem Zgq (n:Nat):(YY n).length<=n*n:=by
 unfold YY
 have:=Yq (m:=n) (g:=fun a=>JL n a n) (List.range n) fun a _=>Zba n a n
 rw [QAp] at this
 exact this
theorem Zgp {n:Nat} (h:2<=n):0<(YY n).length:=List.length_pos_of_mem (mem_two.mpr ⟨show 0<n by exact Om.p1 ‹_›,show 1<n by exact Om.f5 ‹_›,by decide⟩)
theorem ZeS {n:Nat} {R:List (List Int)} (h:2<=n):Y3 n R∈slL n R/\∀ x∈slL n R,ZbD x (Y3 n R)=false:=by
 have hp:0<(slL n R).length:=by unfold slL; rw [QAa]; exact Zgp h
 have e:(fun i j=>HT.lexLt ((slL n R).getD i []) ((slL n R).getD j []))=fun i j=>ZbD ((slL n R).getD i []) ((slL n R).getD j []):=funext fun i=>funext fun j=>ZeP _ _
 unfold Y3
 rw [e]
 obtain ⟨h1,h2⟩:=ZcC ord_lexI (fun i=>(slL n R).getD i []) ((slL n R).length - 1)
 have g:∀ i,i<(slL n R).length->(slL n R).getD i []∈slL n R:=fun i hi=>by
  rw [QAd,QAb hi]
  exact QAs _
 refine ⟨g _ (by exact Om.k338 hp h1),fun x hx=>?_⟩
 obtain ⟨j,hj,rfl⟩:=QBd hx
 have:=h2 j (by exact Om.q2 ‹_›)
 rw [show (slL n R).getD j []=(slL n R)[j] by rw [QAd,QAb hj]; rfl] at this
 exact this
theorem Zcq {n:Nat} {R:List (List Int)} (h:2<=n) {r:List (List Int)}:r∈Zv n R↔∃ a b w,Hop n R a b w/\r=Zy n R a w:=by
 unfold Zv
 rw [if_neg (by exact Om.k342 h),List.mem_flatMap]
 obtain ⟨l1,l2⟩:=ZeS (R:=R) h
 constructor
 ·rintro ⟨⟨a,b⟩,hab,hr⟩
  obtain ⟨h1,h2,h3⟩:=mem_two.mp hab
  unfold Zab at hr
  split at hr
  ·next e =>
   obtain ⟨w,hw,rfl⟩:=List.mem_map.mp hr
   refine ⟨a,b,w,⟨h1,h2,h3,?_,fun c d hc hd hcd=>?_⟩,rfl⟩
   ·rw [Zai]
    exact hw
   ·have e':sl n R a b=Y3 n R:=e
    rw [e']
    exact l2 _ (List.mem_map.mpr ⟨(c,d),mem_two.mpr ⟨hc,hd,hcd⟩,rfl⟩)
  ·cases hr
 ·rintro ⟨a,b,w,hp,rfl⟩
  refine ⟨(a,b),mem_two.mpr ⟨hp.ha,hp.hb,hp.hne⟩,?_⟩
  have e:sl n R a b=Y3 n R:=by
   obtain ⟨⟨c,d⟩,hcd,e⟩:=List.mem_map.mp l1
   obtain ⟨h1,h2,h3⟩:=mem_two.mp hcd
   refine ord_lexI.tot _ _ (l2 _ (List.mem_map.mpr ⟨(a,b),mem_two.mpr ⟨hp.ha,hp.hb,hp.hne⟩,rfl⟩)) ?_
   rw [<- e]
   exact hp.hm c d h1 h2 h3
  unfold Zab
  rw [if_pos e]
  refine List.mem_map.mpr ⟨w,?_,rfl⟩
  have:=hp.hw
  rw [Zai] at this
  exact this
theorem TG.up {H H':Hp} {p:Addr} {R:List (List Int)} (g:TG H p R) (f:∀ b row,H b=some (.tup row)->H' b=some (.tup row)):TG H' p R :=
 let ⟨ps,h,r⟩:=g
 ⟨ps,f _ _ h,Paired.mapP r fun _ _ z=>f _ _ z⟩
noncomputable def RL (H:Hp) (l:Addr) (L:List (List (List Int))):Prop:=∃ ps:List Addr,H l=some (.lst (ps.map V.ref))/\Paired (fun p (r:List (List Int))=>TG H p r) ps L
theorem RL.same {H H1:Hp} {l:Addr} {L:List (List (List Int))} (g:RL H l L) (x:Same H H1):RL H1 l L :=
 let ⟨ps,h,r⟩:=g
 ⟨ps,x _ _ h,Paired.mapP r fun _ _ z=>z.same x⟩
noncomputable def CcR (H:Hp) (n:Nat) (R:List (List Int)) (p:Addr) (x:Nat × Nat):Prop:=∃ q:Addr,H p=some (.tup [.int (x.1:Int),.ref q])/\LL H q (rgs n R x.1 x.2)
noncomputable def CcX (lc:Addr) (H:Hp) (n:Nat) (R:List (List Int)) (p:Addr) (x:Nat × Nat):Prop:=∃ q:Addr,H p=some (.tup [.int (x.1:Int),.ref q])/\p≠lc/\q≠lc/\∃ rs:List Addr,H q=some (.lst (rs.map V.ref))/\Paired (fun p (r:List Nat)=>H p=some (.lst ((toI r).map V.int))/\p≠lc) rs (rgs n R x.1 x.2)
theorem CcX.up {lc:Addr} {H H':Hp} {n:Nat} {R:List (List Int)} {p:Addr} {x:Nat × Nat} (c:CcX lc H n R p x) (f:∀ b o,b≠lc->H b=some o->H' b=some o):CcX lc H' n R p x :=
 let ⟨q,h1,h2,h3,rs,h4,h5⟩:=c
 ⟨q,f _ _ h2 h1,h2,h3,rs,f _ _ h3 h4,Paired.mapP h5 fun _ _ z=>⟨f _ _ z.2 z.1,z.2⟩⟩
theorem CcX.cc {lc:Addr} {H:Hp} {n:Nat} {R:List (List Int)} {p:Addr} {x:Nat × Nat} (c:CcX lc H n R p x):CcR H n R p x :=
 let ⟨q,h1,_,_,rs,h4,h5⟩:=c
 ⟨q,h1,rs,h4,Paired.mapP h5 fun _ _ z=>z.1⟩
theorem Zg3 (lt:Nat->Nat->Bool):∀ k,argBest lt k<=k
 | 0=>QAc _
 | k+1=>by
  have:=Zg3 lt k
  show (if lt (k+1) (argBest lt k)=true then k+1 else argBest lt k)<=k+1
  split <;> omega
theorem ZaB:∀ l m:List Int,Jq (l.map V.int) (m.map V.int)=decide (l=m)
 | [],[]=>rfl
 | [],_::_=>by simp [Jq]
 | _::_,[]=>by simp [Jq]
 | x::l,y::m=>by
  have ih:=ZaB l m
  unfold Jq at ih ⊢
  rw [QAr,QAr,List.zip_cons_cons,List.all_cons,QAy,QAy]
  rw [QBi,QAw,decide_eq_true_eq,decide_eq_true_eq] at ih
  rw [QBi,QAw,QAw,decide_eq_true_eq,decide_eq_true_eq,List.cons.injEq]
  show (_/\(x==y)=true/\_)↔_
  rw [beq_iff_eq]
  exact ⟨fun h=>⟨h.2.1,ih.mp ⟨by omega,h.2.2⟩⟩,fun h=>⟨by have:=(ih.mpr h.2).1; omega,h.1,(ih.mpr h.2).2⟩⟩
theorem Zd5 {n:Nat} {R:List (List Int)} (ok:OkRows n R) (hl:R.length=n) (h6:n<=6) {x:Nat × Nat} (hx:x∈YY n):(Zab n R x).length<=1296:=by
 obtain ⟨a,b⟩:=x
 obtain ⟨ha,hb,hne⟩:=mem_two.mp hx
 unfold Zab
 split
 ·rw [QAa]
  have h1:=ZdV ok hl ha hb hne
  exact QAq (Zaq _ _ rfl fun c hc=>QAq (ZdU ok hl ha hb hne c hc).2 h6) (ZiS _ (by show (rgs n R a b).length<=3; exact Om.k341 hl h6 h1))
 ·exact QAh _
inductive Zg8 (vs:List V) (H:Hp) (Q:VK):Prop where
 | mk (g:Addr) (n:Nat) (R:List (List Int)) (_:vs=[.ref g]) (_:TG H g R) (_:OkRows n R) (_:R.length=n) (_:1<=n) (_:n<=6) (_:∀ l H',H l=none->Same H H'->RL H' l (Zv n R)->Q (.ref l) H'):Zg8 vs H Q
noncomputable def ZhS:Sp:=fun vs H Q _=>Zg8 vs H Q
section
variable {P:Program} {w:World} {K:PySem.W.Frag} {mg:Str->Option Value} {base:Heap}
structure HpD (K:PySem.W.Frag) (mg:Str->Option Value) (fS fU fF fR fL fW fT fA:Addr) (dS dU dF dR dL dW dT dA:FuncData):Prop where
 S:Dfn K mg "still" Zag ["n"] fS dS
 U:Dfn K mg "turn_undone" ZP ["turn"] fU dU
 F:Dfn K mg "ring_from" Yz ["square","one","other","column"] fF dF
 R:Dfn K mg "rings" JD ["square","one","other"] fR dR
 L:Dfn K mg "lengths_of" Je ["circles"] fL dL
 W:Dfn K mg "walks" Zae ["circles"] fW dW
 T:Dfn K mg "two_rows" Jc ["size"] fT dT
 A:Dfn K mg "renaming_along" JG ["square","top","walk"] fA dA
variable {fS fU fF fR fL fW fT fA:Addr} {dS dU dF dR dL dW dT dA:FuncData}
theorem scHope:Zs ["square","circles","least","found","top","told"] ["square"] (Ze YE):=⟨rfl,rfl,rfl,by decide +kernel,rfl,by decide +kernel,by decide +kernel⟩
inductive ZdC (g:Addr) (n:Nat) (R:List (List Int)) (H1:Hp) (lc:Addr) (j:Nat) (ys:List V) (σ:St) (H2:Hp):Prop where
 | mk (v0 v1:Option V) (us:List Addr) (_:σ=[v0,v1,some (.ref g)]) (_:ys=us.map V.ref) (_:Same H1 H2) (_:H2 lc=some (.lst ys)) (_:Paired (fun p x=>CcX lc H2 n R p x) us ((YY n).take j)):ZdC g n R H1 lc j ys σ H2
inductive ZdB (n:Nat) (R:List (List Int)) (HA:Hp) (lm:Addr) (j:Nat) (ys:List V) (σ:St) (H2:Hp):Prop where
 | mk (v0 v1:Option V) (ms:List Addr) (_:σ=[v0,v1]) (_:ys=ms.map V.ref) (_:Same HA H2) (_:H2 lm=some (.lst ys)) (_:Paired (fun p (x:List Int)=>H2 p=some (.lst (x.map V.int))/\p≠lm) ms ((slL n R).take j)):ZdB n R HA lm j ys σ H2
inductive ZdA (H:Hp) (g:Addr) (n:Nat) (R:List (List Int)) (lc:Addr) (pm:Addr) (lf:Addr) (HC:Hp) (i:Nat) (σ:St) (H5:Hp):Prop where
 | mk (v4 v5:Option V) (zs:List Addr) (_:σ=[some (.ref g),some (.ref lc),some (.ref pm),some (.ref lf),v4,v5]) (_:Same H H5) (_:(∀ b o,b≠lf->HC b=some o->H5 b=some o)) (_:H5 lf=some (.lst (zs.map V.ref))) (_:Paired (fun p (r:List (List Int))=>TG H5 p r) zs (((YY n).take i).flatMap (Zab n R))):ZdA H g n R lc pm lf HC i σ H5
inductive Zdz (g:Addr) (n:Nat) (R:List (List Int)) (a:Nat) (H7:Hp) (W:List (List Nat)) (l2:Addr) (j:Nat) (ys:List V) (σ:St) (H8:Hp):Prop where
 | mk (v0:Option V) (ks:List Addr) (_:σ=[v0,some (.ref g),some (.int (a:Int))]) (_:ys=ks.map V.ref) (_:Same H7 H8) (_:H8 l2=some (.lst ys)) (_:Paired (fun p (r:List (List Int))=>TG H8 p r) ks ((W.map (Zy n R a)).take j)):Zdz g n R a H7 W l2 j ys σ H8
set_option maxHeartbeats 1000000 in
theorem Zjp {f:Addr} {fd:FuncData} (F:Fun K "hopeful" "hopeful" YE f fd) (T:Blt mg) (Z:HpD K mg fS fU fF fR fL fW fT fA dS dU dF dR dL dW dT dA):FnOk P w K mg base CX0 5 f fd ["square"] ZhS:=by
 have GS:FnOk P w K mg base CX0 4 fS dS ["n"] Zgw:=(Zib Z.S.F T).mono (by decide)
 have GT:FnOk P w K mg base CX0 4 fT dT ["size"] ZjY:=(ZkG Z.T.F T).mono (by decide)
 have GR:FnOk P w K mg base CX0 4 fR dR ["square","one","other"] Zgx:=(Zhr Z.R.F T Z.F).mono (by decide)
 have GL:FnOk P w K mg base CX0 4 fL dL ["circles"] Zc1:=(Zf1 Z.L.F T).mono (by decide)
 have GW:FnOk P w K mg base CX0 4 fW dW ["circles"] (ZdO 4):=ZeB Z.W T 4
 have GA:FnOk P w K mg base CX0 4 fA dA ["square","top","walk"] Zeo:=(Zhu Z.A.F T Z.U).mono (by decide)
 refine F.ok scHope (fun vs H Q E h=>?_) (fun cdv A outer s H vs Q E hr h=>?_)
 ·obtain ⟨_,_,_,rfl,_⟩:=h
  rfl
 ·obtain ⟨g,n,R,rfl,hT,ok,hRl,h1,h6,q⟩:=h
  have hu0:((A.deeper (PyProof.Rows.envOfC "hopeful" (Ze YE) s.heap.objs.size f cdv))).units<cLine:=by have:=hr.un; omega
  have hu1:((A.deeper (PyProof.Rows.envOfC "hopeful" (Ze YE) s.heap.objs.size f cdv))).units+1+0<cLine:=by have:=hr.un; omega
  refine' ⟨_,Zd (Jg ?c0 (Zg (Zt ?r0)) Yf) (Zd ?s1 (Zd ?s2 (Zd (Zj (i:=3) scHope.nd rfl (Or.inl rfl) (Yc Zc)) (Zd (Yu PassesOwn.never rfl (Zaw (pv 1)) (ZfS rfl (ZV (ZG (i:=4) scHope.nd rfl (Or.inr rfl)) (ZV (ZG (i:=5) scHope.nd rfl (Or.inl rfl)) JH))) (Zg (Jg ?c1 (Zg ?e) Yf))) (Zg (Zt (pv 3))))))),?rd⟩
  case c0=>exact ZR ZaG (Zu (ZJ K) rfl T.len PySem.boot_len (Za (pv 0) Zc)) Zi (Yp _)
  case r0=>exact Yc (Za (Zm GS hr rfl Z.S.m Z.S.F.kp Z.S.b .nil ZO (Za Zi Zc)) Zc)
  case s1=>exact Zez (i:=1) ["one","other","square"] [none,none,some 0] scHope.nd rfl (Or.inl rfl) rfl rfl (Z2 K (Zm GT hr rfl Z.T.m Z.T.F.kp Z.T.b .nil ZO (Za (Zu (ZJ K) rfl T.len PySem.boot_len (Za (pv 0) Zc)) Zc))) (fun _ _ _ _ _=>Zax (n:=2) K rfl (ZV (Yx 0) (ZV (Yx 1) JH))) (fun _ _ _ _ _=>ZA) (fun _ _ _ _ _=>J3 (Za (pv 0) (Za (Zm GR hr rfl Z.R.m Z.R.F.kp Z.R.b .nil ZO (Za (pv 2) (Za (pv 0) (Za (pv 1) Zc)))) Zc)))
  case s2=>exact Zj (i:=2) scHope.nd rfl (Or.inl rfl) (Zu (Ze6 (d:=0) K rfl hu1) rfl T.min Zgl (Za (Yr ["top","told"] [none,none] rfl rfl (Z2 K (pv 1)) (fun _ _ _ _ _=>Zax (n:=2) K rfl (ZV (Yx 0) (ZV (Yx 1) JH))) (fun _ _ _ _ _=>ZA) (fun _ _ _ _ _=>Zm GL hr rfl Z.L.m Z.L.F.kp Z.L.b .nil ZO (Za (pv 1) Zc))) Zc))
  case c1=>exact ZR (ZkE hu0 K) (Zm GL hr rfl Z.L.m Z.L.F.kp Z.L.b .nil ZO (Za (pv 5) Zc)) (pv 2) (Yp _)
  case e=>exact YA (Jj PySem.F.plainAttrs_list PySem.F.slot_list_extend PySem.F.type_list_extend JR (pv 3) (Za (Yr ["walk","square","top"] [none,some 0,some 4] rfl rfl (Z2 K (Zm GW hr rfl Z.W.m Z.W.F.kp Z.W.b .nil ZO (Za (pv 5) Zc))) (fun _ _ _ _ _=>Yx 0) (fun _ _ _ _ _=>ZA) (fun _ _ _ _ _=>Zm GA hr rfl Z.A.m Z.A.F.kp Z.A.b .nil ZO (Za (pv 1) (Za (pv 2) (Za (pv 0) Zc))))) Zc))
  case rd =>
   obtain ⟨gs,hg,hG⟩:=id hT
   have hgl:(gs.map V.ref).length=n:=by rw [QAa,hG.length,hRl]
   refine ⟨_,rfl,g,_,rfl,.inr (SqT.of hg),rfl,_,rfl,?_⟩
   rw [hgl]
   by_cases e1:n=1
   ·rw [show decide (V.int (n:Int)=V.int 1)=true from decide_eq_true (by rw [e1]; rfl)]
    refine Zbn ⟨1,rfl,by decide,by decide,fun t H1 s1 hW=>⟨(show 1<=sizeLine from Zq (by decide)),fun l hl=>?_⟩⟩
    refine q l _ (s1.free hl) (s1.trans (Same.new hl)) ⟨[t],Zb,?_⟩
    unfold Zv
    rw [if_pos e1]
    exact .cons (hW.same (Same.new hl)) .nil
   rw [show decide (V.int (n:Int)=V.int 1)=false from decide_eq_false fun z=>e1 (by rw [V.int.injEq] at z; exact Om.k340 hgl z)]
   refine ZaE ?_
   have h2:2<=n:=by exact Om.k339 h1 h6 hgl e1
   have eH:Zv n R=(YY n).flatMap (Zab n R):=by unfold Zv; rw [if_neg e1]
   have htl:=Zgq n
   have hnn:n*n<=6*6:=QCf h6 h6
   refine ⟨_,rfl,g,_,rfl,.inr (SqT.of hg),n,congrArg (fun k:Nat=>[V.int (k:Int)]) hgl,h6,fun lt H1 hlt s1 hTL=>?_⟩
   obtain ⟨ts,hts,hTs⟩:=hTL
   have htsl:(ts.map V.ref).length=(YY n).length:=by rw [QAa,hTs.length]
   refine ⟨lt,rfl,⟨_,SqL.of hts⟩,fun lc hlc=>?_⟩
   refine ZZ (Z1 (xs:=ts.map V.ref)) (ZdC g n R H1 lc)
    ⟨none,none,[],rfl,rfl,Same.new hlc,Zb,.nil⟩ (fun j ys σ H2 zz0=> by obtain ⟨_,_,_,_,_,s2,hl,_⟩ := zz0; exact ⟨SqL.of (s2 _ _ hts),hl⟩) ?_ ?_
   ·rintro j x ys σ H2 hj ⟨v0,v1,us,rfl,rfl,s2,hl2,hU⟩
    rw [QAe] at hj
    cases hpj:ts[j]? with
    | none=>rw [hpj] at hj; cases hj
    | some pt =>
    rw [hpj] at hj
    cases hj
    obtain ⟨⟨a,b⟩,hab,hpt⟩:=Paired.getL hTs hpj
    obtain ⟨ha,hb,hne⟩:=mem_two.mp (QAu hab)
    have hpt:H1 pt=some (.tup [.int (a:Int),.int (b:Int)]):=hpt
    refine ⟨pt,_,rfl,SqT.of (s2 _ _ hpt),rfl,_,_,rfl,_,_,rfl,rfl,?_⟩
    refine ⟨_,rfl,_,rfl,_,rfl,_,rfl,g,n,a,b,R,rfl,hT.same (s1.trans s2),ok,hRl,by exact Om.b1 ‹_› rfl,ha,hb,hne,fun lr H3 s3 hlr hLL=>⟨(show 2<=sizeLine from Zq (by decide)),fun t ht=>?_⟩⟩
    have s4:Same H3 (upd H3 t (.tup [.int (a:Int),.ref lr])):=Same.new ht
    have g4:(upd H3 t (.tup [.int (a:Int),.ref lr])) t=some (.tup [.int (a:Int),.ref lr]):=Zb
    generalize upd H3 t (.tup [.int (a:Int),.ref lr])=H4 at s4 g4 ⊢
    have s34:=s3.trans s4
    have hl4:=s34 _ _ hl2
    have hlrc:lr≠lc:=fun z=>by rw [z,hl2] at hlr; cases hlr
    have htc:t≠lc:=fun z=>by rw [z,s3 _ _ hl2] at ht; cases ht
    have hul:us.length=j:=by
     rw [hU.length,QAt]
     have:=(List.getElem?_eq_some_iff.mp hab).1
     exact Om.m1 ‹_›
    have hj36:j<=36:=by have:=(List.getElem?_eq_some_iff.mp hab).1; omega
    obtain ⟨rs,hrs,hRs⟩:=hLL
    refine ⟨hl4,by rw [QAa,hul]; exact Zw (by exact Om.b1 ‹_› rfl),_,_,us++[t],rfl,by rw [QAm]; rfl,fun b u e=>?_,Zb,?_⟩
    ·rw [Zf (Zh e hlc)]
     exact s34 _ _ (s2 _ _ e)
    ·have et:(YY n).take (j+1)=(YY n).take j++[(a,b)]:=by rw [QBy,hab]; rfl
     rw [et]
     have up:∀ b o,b≠lc->H4 b=some o->(upd H4 lc (.lst (us.map V.ref++[.ref t]))) b=some o:=fun b o hb e=>by rw [Zf hb]; exact e
     refine Paired.snoc (Paired.mapP hU fun _ _ z=>z.up fun b o hb e=>up b o hb (s34 _ _ e)) (CcX.up (H:=H4) ⟨lr,g4,htc,hlrc,rs,s4 _ _ hrs,?_⟩ up)
     exact Paired.mapP hRs fun x _ z=>⟨s4 _ _ z.1,fun e=>by rw [e,hl2] at z; cases z.2.2⟩
   rintro ys σ HA ⟨v0,v1,us,rfl,rfl,sA,hlA,hUX⟩
   rw [htsl,QBc (QAc _)] at hUX
   have hUA:Paired (fun p x=>CcR HA n R p x) us (YY n):=Paired.mapP hUX fun _ _ z=>z.cc
   clear hUX
   have sHA:=s1.trans sA
   have husl:(us.map V.ref).length=(YY n).length:=by rw [QAa,hUA.length]
   refine ⟨_,rfl,lc,rfl,⟨_,SqL.of hlA⟩,fun lm hlm=>?_⟩
   refine ZZ (Z1 (xs:=us.map V.ref)) (ZdB n R HA lm)
    ⟨none,none,[],rfl,rfl,Same.new hlm,Zb,.nil⟩ (fun j ys σ H2 zz0=> by obtain ⟨_,_,_,_,_,s2,hl,_⟩ := zz0; exact ⟨SqL.of (s2 _ _ hlA),hl⟩) ?_ ?_
   ·rintro j x ys σ H2 hj ⟨v0,v1,ms,rfl,rfl,s2,hl2,hM⟩
    rw [QAe] at hj
    cases hpj:us[j]? with
    | none=>rw [hpj] at hj; cases hj
    | some p =>
    rw [hpj] at hj
    cases hj
    obtain ⟨⟨a,b⟩,hab,qq,hp,hLq⟩:=Paired.getL hUA hpj
    obtain ⟨ha,hb,hne⟩:=mem_two.mp (QAu hab)
    have hp:HA p=some (.tup [.int (a:Int),.ref qq]):=hp
    have hLq:LL HA qq (rgs n R a b):=hLq
    refine ⟨p,_,rfl,SqT.of (s2 _ _ hp),rfl,_,_,rfl,_,_,rfl,rfl,?_⟩
    have hfew:=ZdV ok hRl ha hb hne
    refine ⟨_,rfl,qq,_,rfl,hLq.same s2,by exact Om.k337 h1 h6 hgl h2 hfew,fun t H3 ht s3 h3=>?_⟩
    have h3:H3 t=some (.lst ((sl n R a b).map V.int)):=h3
    have htm:t≠lm:=fun z=>by rw [z,hl2] at ht; cases ht
    have hl3:=s3 _ _ hl2
    have hj36:j<=36:=by have:=(List.getElem?_eq_some_iff.mp hab).1; omega
    have hml:ms.length=j:=by
     rw [hM.length,QAt]
     unfold slL
     rw [QAa]
     have:=(List.getElem?_eq_some_iff.mp hab).1
     exact Om.m1 ‹_›
    refine ⟨hl3,by rw [QAa,hml]; exact Zw (by exact Om.b1 ‹_› rfl),_,_,ms++[t],rfl,by rw [QAm]; rfl,fun b u e=>?_,Zb,?_⟩
    ·rw [Zf (Zh e hlm)]
     exact s3 _ _ (s2 _ _ e)
    ·have et:(slL n R).take (j+1)=(slL n R).take j++[sl n R a b]:=by
      unfold slL
      rw [QBy,QAe,hab]
      rfl
     rw [et]
     exact Paired.snoc (Paired.mapP hM fun _ _ z=>⟨by rw [Zf z.2]; exact s3 _ _ z.1,z.2⟩) ⟨by rw [Zf htm]; exact h3,htm⟩
   rintro ys σ HB ⟨v0,v1,ms,rfl,rfl,sB,hlB,hM⟩
   rw [husl,show (YY n).length=(slL n R).length by unfold slL; rw [QAa],QBc (QAc _)] at hM
   have hml:ms.length=(slL n R).length:=hM.length
   have hmpos:0<(slL n R).length:=by unfold slL; rw [QAa]; exact Zgp h2
   have hbl:=Zg3 (fun i j=>HT.lexLt ((slL n R).getD i []) ((slL n R).getD j [])) ((slL n R).length - 1)
   have hbi:argBest (fun i j=>HT.lexLt ((slL n R).getD i []) ((slL n R).getD j [])) (ms.length - 1)<ms.length:=by rw [hml]; exact Om.k338 hmpos hbl
   obtain ⟨xm,hxm,hpm⟩:=Paired.getL hM (QAb hbi)
   have exm:xm=Y3 n R:=by
    unfold Y3
    rw [<- hml,QAd,hxm]
    rfl
   refine ⟨lm,ms,fun i j=>HT.lexLt ((slL n R).getD i []) ((slL n R).getD j []),_,rfl,SqL.of hlB,by exact Om.a1 ‹_› ‹_›,fun i j p p' hi hj=>?_,QAb hbi,?_⟩
   ·obtain ⟨x1,hx1,hq1⟩:=Paired.getL hM hi
    obtain ⟨x2,hx2,hq2⟩:=Paired.getL hM hj
    show LtD K HB 0 (.ref p) (.ref p') (HT.lexLt ((slL n R).getD i []) ((slL n R).getD j []))
    rw [QAd,hx1,QAd,hx2]
    exact LtD.lsts (SqL.of hq1.1) (SqL.of hq2.1)
   rw [exm] at hpm
   generalize ms[argBest (fun i j=>HT.lexLt ((slL n R).getD i []) ((slL n R).getD j [])) (ms.length - 1)]=pm at hpm
   refine ⟨QAh _,fun lf hlf=>?_⟩
   have sHB:=sHA.trans sB
   have hlf0:H lf=none:=sHB.free hlf
   have sC:Same HB (upd HB lf (.lst [])):=Same.new hlf
   have hfC:(upd HB lf (.lst [])) lf=some (.lst []):=Zb
   have hlfn:∀ b o,HB b=some o->b≠lf:=fun b o e z=>by rw [z,hlf] at e; cases e
   generalize upd HB lf (.lst [])=HC at sC hfC ⊢
   have sHC:=sHB.trans sC
   have hlC:=sC _ _ (sB _ _ hlA)
   have hlcf:lc≠lf:=hlfn _ _ (sB _ _ hlA)
   refine ⟨_,rfl,lc,rfl,⟨_,SqL.of hlC⟩,Zam (xs:=us.map V.ref) (ZdA H g n R lc pm lf HC)
    ⟨none,none,[],rfl,sHC,fun _ _ _ e=>e,hfC,.nil⟩ (fun i σ H5 _ zz0=> by obtain ⟨_,_,_,_,_,kp,_,_⟩ := zz0; exact SqL.of (kp _ _ hlcf hlC)) ?_ ?_⟩
   ·rintro i x σ H5 hx ⟨v4,v5,zs,rfl,s5,kp5,hf5,hZ⟩
    rw [QAe] at hx
    cases hpi:us[i]? with
    | none=>rw [hpi] at hx; cases hx
    | some p =>
    rw [hpi] at hx
    cases hx
    obtain ⟨⟨a,b⟩,hab,qq,hp,hLq⟩:=Paired.getL hUA hpi
    have hmem:=QAu hab
    obtain ⟨ha,hb,hne⟩:=mem_two.mp hmem
    have hp:HA p=some (.tup [.int (a:Int),.ref qq]):=hp
    have hLq:LL HA qq (rgs n R a b):=hLq
    have k5:∀ b o,HA b=some o->H5 b=some o:=fun b o e=>kp5 b o (hlfn _ _ (sB _ _ e)) (sC _ _ (sB _ _ e))
    have hLq5:LL H5 qq (rgs n R a b):=hLq.same k5
    have hfew:=ZdV ok hRl ha hb hne
    have hin:=ZdU ok hRl ha hb hne
    refine ⟨p,_,rfl,SqT.of (k5 _ _ hp),rfl,_,_,rfl,_,_,rfl,rfl,?_⟩
    refine ⟨_,rfl,qq,_,rfl,hLq5,by exact Om.k337 h1 h6 hgl h2 hfew,fun t H6 ht s6 h6'=>?_⟩
    have h6':H6 t=some (.lst ((sl n R a b).map V.int)):=h6'
    have hpm6:=s6 _ _ (kp5 _ _ (hlfn _ _ hpm.1) (sC _ _ hpm.1))
    refine ⟨_,rfl,t,pm,_,_,rfl,rfl,SqL.of h6',SqL.of hpm6,.inl ⟨ZM _,ZM _⟩,_,rfl,?_⟩
    have hf6:=s6 _ _ hf5
    have et:(YY n).take (i+1)=(YY n).take i++[(a,b)]:=by rw [QBy,hab]; rfl
    have ef:((YY n).take (i+1)).flatMap (Zab n R)=((YY n).take i).flatMap (Zab n R)++Zab n R (a,b):=by rw [et,QDi,QCs,QDj,QBh]
    by_cases hsl:sl n R a b=Y3 n R
    rotate_left
    ·rw [show (if false=true then !Jq ((sl n R a b).map V.int) ((Y3 n R).map V.int) else Jq ((sl n R a b).map V.int) ((Y3 n R).map V.int))=false by rw [if_neg QAl,ZaB]; exact decide_eq_false hsl]
     refine ZaE ⟨_,_,zs,rfl,s5.trans s6,fun b o hb e=>s6 _ _ (kp5 b o hb e),hf6,?_⟩
     have eh:Zab n R (a,b)=[]:=by unfold Zab; exact if_neg hsl
     rw [ef,eh,QBh]
     exact Paired.mapP hZ fun _ _ z=>z.same s6
    rw [show (if false=true then !Jq ((sl n R a b).map V.int) ((Y3 n R).map V.int) else Jq ((sl n R a b).map V.int) ((Y3 n R).map V.int))=true by rw [if_neg QAl,ZaB]; exact decide_eq_true hsl]
    refine Zbn ?_
    refine ⟨_,rfl,.inl ⟨rfl,_,SqL.of hf6⟩,_,rfl,qq,_,rfl,hLq5.same s6,by exact Om.k336 h1 h6 hgl h2 hfew,by exact Om.k335 h1 h6 hgl h2 hfew,fun c hc=>⟨by have:=(hin c hc).1; exact Om.p1 ‹_›,QAq (hin c hc).2 h6⟩,fun lw H7 hlw s7 hLW=>?_⟩
    obtain ⟨os,hos,hO⟩:=hLW
    have hO:Paired (fun p (r:List Nat)=>H7 p=some (.lst ((toI r).map V.int))/\p≠lw/\H6 p=none) os (Zo (rgs n R a b).length (rgs n R a b)):=hO
    have eh:Zab n R (a,b)=(Zo (rgs n R a b).length (rgs n R a b)).map (Zy n R a):=by unfold Zab; exact if_pos hsl
    have hcols:∀ w∈Zo (rgs n R a b).length (rgs n R a b),Cols n w:=fun w hw=>Yy ok hRl ha hb (by rw [Zai]; exact hw)
    have hWf:(Zo (rgs n R a b).length (rgs n R a b)).length<=1296:=by
     have:=Zd5 ok hRl h6 hmem
     rw [eh,QAa] at this
     exact this
    generalize Zo (rgs n R a b).length (rgs n R a b)=W at hO eh hcols hWf
    have hosl:(os.map V.ref).length=W.length:=by rw [QAa,hO.length]
    have s67:=s6.trans s7
    have hf7:=s7 _ _ hf6
    have hT7:TG H7 g R:=hT.same (s5.trans s67)
    refine ⟨lw,rfl,⟨_,SqL.of hos⟩,fun l2 hl2=>?_⟩
    refine ZZ (Z1 (xs:=os.map V.ref)) (Zdz g n R a H7 W l2)
     ⟨none,[],rfl,rfl,Same.new hl2,Zb,.nil⟩ (fun j ys σ H8 zz0=> by obtain ⟨_,_,_,_,s8,hl,_⟩ := zz0; exact ⟨SqL.of (s8 _ _ hos),hl⟩) ?_ ?_
    ·rintro j y ys σ H8 hj ⟨v0,ks,rfl,rfl,s8,hl8,hK⟩
     rw [QAe] at hj
     cases hpj:os[j]? with
     | none=>rw [hpj] at hj; cases hj
     | some ow =>
     rw [hpj] at hj
     cases hj
     obtain ⟨wj,hwj,how⟩:=Paired.getL hO hpj
     refine ⟨_,rfl,_,rfl,_,rfl,g,ow,n,a,R,wj,rfl,hT7.same s8,ok,hRl,h1,h6,ha,s8 _ _ how.1,hcols wj (QAu hwj),fun t2 H9 ht2 s9 hTG=>?_⟩
     have hl9:=s9 _ _ hl8
     have hjW:j<W.length:=(List.getElem?_eq_some_iff.mp hwj).1
     have hkl:ks.length=j:=by
      rw [hK.length,QAt,QAa]
      exact Om.m1 ‹_›
     have up:∀ b row,H9 b=some (.tup row)->(upd H9 l2 (.lst (ks.map V.ref++[.ref t2]))) b=some (.tup row):=fun b row e=>by
      rw [Zf (YV e hl9 (by intro z; cases z))]
      exact e
     refine ⟨hl9,by rw [QAa,hkl]; exact Jl (by exact Om.b2 ‹_› ‹_› rfl),_,ks++[t2],rfl,by rw [QAm]; rfl,fun b u e=>?_,Zb,?_⟩
     ·rw [Zf (Zh e hl2)]
      exact s9 _ _ (s8 _ _ e)
     ·have ek:(W.map (Zy n R a)).take (j+1)=(W.map (Zy n R a)).take j++[Zy n R a wj]:=by rw [QBy,QAe,hwj]; rfl
      rw [ek]
      exact Paired.snoc (Paired.mapP hK fun _ _ z=>(z.same s9).up up) (hTG.up up)
    ·rintro ys σ H8 ⟨v0,ks,rfl,rfl,s8,hl8,hK⟩
     rw [hosl,QBc (by rw [QAa]; exact QAc _)] at hK
     have hf8:=s8 _ _ hf7
     have hkl:ks.length<=1296:=by rw [hK.length,QAa]; exact hWf
     have hzl:zs.length<=36*1296:=by
      rw [hZ.length]
      refine QAq (Yq (m:=1296) ((YY n).take i) fun y hy=>Zd5 ok hRl h6 (List.mem_of_mem_take hy)) (QCf ?_ (QAc _))
      rw [QAt]
      exact Om.k334 htl hnn htsl husl
     have up:∀ b row,H8 b=some (.tup row)->(upd H8 lf (.lst (zs.map V.ref++ks.map V.ref))) b=some (.tup row):=fun b row e=>by
      rw [Zf (YV e hf8 (by intro z; cases z))]
      exact e
     have s58:=s67.trans s8
     refine ⟨lf,l2,_,_,rfl,rfl,hf8,hl8,QBw (Jl (by rw [QAa,QAa]; exact Om.k333 hkl hzl)),_,_,zs++ks,rfl,fun b u e=>?_,fun b o hb e=>?_,?_,?_⟩
     ·rw [Zf (Zh e hlf0)]
      exact s58 _ _ (s5 _ _ e)
     ·rw [Zf hb]
      exact s58 _ _ (kp5 b o hb e)
     ·rw [Zb,QAm]
     ·rw [ef,eh]
      exact Paired.append (Paired.mapP hZ fun _ _ z=>(z.same s58).up up) (Paired.mapP hK fun _ _ z=>z.up up)
   ·rintro σ H5 ⟨v4,v5,zs,rfl,s5,kp5,hf5,hZ⟩
    rw [husl,QBc (QAc _),<- eH] at hZ
    exact ⟨_,rfl,q lf H5 hlf0 s5 ⟨zs,hf5,hZ⟩⟩
end
end My
namespace My
open PySem L2
structure ZjU (n:Nat) (R F h:List (List Int)):Prop where
 mem:∃ i:Nat,(Zv n R)[i]? = some h/\∀ j g,j<i->(Zv n R)[j]? = some g->ZY n R g≠F
 is:ZY n R h=F
 least:∀ g∈Zv n R,ZbE (ZY n R g) F=false
theorem Za1 {n:Nat} {R:List (List Int)} (ok:OkRows n R) (hl:R.length=n) (h1:1<=n) {g:List (List Int)} (hg:g∈Zv n R):Ren n g:=by
 by_cases e:n=1
 ·subst e
  unfold Zv at hg
  rw [if_pos rfl,QDd] at hg
  rw [hg]
  exact Zhh 1
 ·obtain ⟨a,b,w,hp,rfl⟩:=(Zcq (by exact Om.k317 h1 e)).mp hg
  exact JT ok hl (hp.cols ok hl) h1 hp.ha
end My
namespace My
open PySem L2
theorem Zdi:∀ (F G:List Int) (k i:Nat),F.length=G.length->F.length - i=k->i<=F.length->Y7 (fun j=>decide (F.getD j 0=G.getD j 0)) (fun j=>decide (F.getD j 0<G.getD j 0)) k i=ZbD (F.drop i) (G.drop i)
 | F,G,0,i,hl,hk,hi=>by
  rw [QCe (by exact Om.k332 hl hk),QCe (by exact Om.k331 hl hk)]
  rfl
 | F,G,k+1,i,hl,hk,hi=>by
  have h1:i<F.length:=by exact Om.k330 hl hk hi
  have h2:i<G.length:=by exact Om.a2 ‹_› ‹_›
  have g1:F.getD i 0=F[i]:=by rw [QAd,QAb h1]; rfl
  have g2:G.getD i 0=G[i]:=by rw [QAd,QAb h2]; rfl
  rw [Y7,QBl h1,QBl h2]
  unfold ZbD
  rw [Jr,g1,g2]
  by_cases e:F[i]=G[i]
  ·rw [if_pos (decide_eq_true e),if_pos e]
   exact Zdi F G k (i+1) hl (by exact Om.k329 hl hk h1 h2) h1
  ·rw [if_neg (by rw [decide_eq_true_eq]; exact e),if_neg e]
   rfl
section
variable {K:PySem.W.Frag}
theorem _root_.L2.LtD.cast {H:Hp} {d:Nat} {x y:V} {b b':Bool} (h:LtD K H d x y b) (e:b=b'):LtD K H d x y b':=e ▸ h
theorem ZjN {H:Hp} {d:Nat} (x y:Int):EqD K H d (.int x) (.int y) (decide (x=y)) :=
 (EqD.flat (x:=.int x) (y:=.int y) rfl rfl).cast (by show (x==y)=decide (x=y); rw [QBi,beq_iff_eq,decide_eq_true_eq])
theorem ZgW {H:Hp} {d:Nat} {a c:Addr} {xs ys:List Int} (h1:SqT K H a (xs.map V.int)) (h2:SqT K H c (ys.map V.int)):EqD K H (d+1) (.ref a) (.ref c) (decide (xs=ys)) :=
 (ZjM h1 h2 (ZM _) (ZM _)).cast (ZaB xs ys)
theorem ZbN {xs:List Int} {i:Nat} {u:V} (h:(xs.map V.int)[i]? = some u):u = .int (xs.getD i 0):=by
 rw [QAe] at h
 cases e:xs[i]? with
 | none=>rw [e] at h; cases h
 | some x =>
  rw [e] at h
  cases h
  rw [QAd,e]
  rfl
theorem Zjx {H:Hp} {d:Nat} {a c:Addr} {xs ys:List Int} (h1:SqT K H a (xs.map V.int)) (h2:SqT K H c (ys.map V.int)) (hl:xs.length=ys.length):LtD K H (d+1) (.ref a) (.ref c) (ZbD xs ys):=by
 refine (LtD.tups (e:=fun j=>decide (xs.getD j 0=ys.getD j 0)) (r:=fun j=>decide (xs.getD j 0<ys.getD j 0)) h1 h2 (by rw [QAa,QAa,hl]) (fun i u v hu hv=>?_) (fun i u v hu hv _=>?_)).cast ?_
 ·rw [ZbN hu,ZbN hv]
  exact ZjN _ _
 ·rw [ZbN hu,ZbN hv]
  exact LtD.nums _ _
 ·rw [QAa]
  exact Zdi xs ys xs.length 0 hl (Nat.sub_zero _) (QAh _)
theorem Zat {H:Hp} {ps:List Addr} {F:List (List Int)} (r:Paired (fun p (r:List Int)=>H p=some (.tup (r.map V.int))) ps F) {i:Nat} {u:V} (h:(ps.map V.ref)[i]? = some u):∃ p,u = .ref p/\H p=some (.tup ((F.getD i []).map V.int))/\F[i]? = some (F.getD i []):=by
 rw [QAe] at h
 cases e:ps[i]? with
 | none=>rw [e] at h; cases h
 | some p =>
  rw [e] at h
  cases h
  obtain ⟨l,hl,hp⟩:=Paired.getL r e
  refine ⟨p,rfl,?_⟩
  rw [QAd,hl]
  exact ⟨hp,rfl⟩
theorem ZkN {H:Hp} {n:Nat} {a c:Addr} {F G:List (List Int)} (x:TG H a F) (y:TG H c G) (hF:OkRows n F) (hG:OkRows n G) (l1:F.length=n) (l2:G.length=n):LtD K H 2 (.ref a) (.ref c) (ZbE F G):=by
 obtain ⟨ps,h1,r1⟩:=x
 obtain ⟨qs,h2,r2⟩:=y
 have e1:(ps.map V.ref).length=F.length:=by rw [QAa,r1.length]
 have e2:(qs.map V.ref).length=G.length:=by rw [QAa,r2.length]
 refine (LtD.tups (d:=1) (e:=fun j=>decide (F.getD j []=G.getD j [])) (r:=fun j=>ZbD (F.getD j []) (G.getD j [])) (SqT.of h1) (SqT.of h2) (by exact Om.k328 l1 l2 e1 e2) (fun i u v hu hv=>?_) (fun i u v hu hv _=>?_)).cast ?_
 ·obtain ⟨p,rfl,hp,_⟩:=Zat r1 hu
  obtain ⟨q,rfl,hq,_⟩:=Zat r2 hv
  exact ZgW (SqT.of hp) (SqT.of hq)
 ·obtain ⟨p,rfl,hp,m1⟩:=Zat r1 hu
  obtain ⟨q,rfl,hq,m2⟩:=Zat r2 hv
  exact Zjx (SqT.of hp) (SqT.of hq) (by rw [(hF.row _ (QAu m1)).1,(hG.row _ (QAu m2)).1])
 ·rw [e1]
  exact ZeX F G F.length 0 (by exact Om.g2 ‹_› ‹_›) (Nat.sub_zero _) (QAh _)
theorem ZiI {H:Hp} {a c:Addr} {F G:List (List Int)} (x:TG H a F) (y:TG H c G):EqD K H 2 (.ref a) (.ref c) (decide (F=G)):=by
 obtain ⟨ps,h1,r1⟩:=x
 obtain ⟨qs,h2,r2⟩:=y
 have e1:(ps.map V.ref).length=F.length:=by rw [QAa,r1.length]
 have e2:(qs.map V.ref).length=G.length:=by rw [QAa,r2.length]
 refine (EqD.tups (d:=1) (e:=fun j=>decide (F.getD j []=G.getD j [])) (SqT.of h1) (SqT.of h2) (fun i u v hu hv=>?_)).cast ?_
 ·obtain ⟨p,rfl,hp,_⟩:=Zat r1 hu
  obtain ⟨q,rfl,hq,_⟩:=Zat r2 hv
  exact ZgW (SqT.of hp) (SqT.of hq)
 ·rw [e1,e2,QBi,QAw,decide_eq_true_eq,decide_eq_true_eq,QBe]
  constructor
  ·rintro ⟨hl,h⟩
   refine QBp hl fun i i1 i2=>?_
   have:=h i (List.mem_range.mpr i1)
   rw [QAw,decide_eq_true_eq,decide_eq_true_eq] at this
   have h3:=this.2
   rw [QAd,QAb i1,QAd,QAb i2] at h3
   exact h3
  ·rintro rfl
   exact ⟨rfl,fun i hi=>by rw [QAw,decide_eq_true_eq,decide_eq_true_eq]; exact ⟨List.mem_range.mp hi,rfl⟩⟩
end
theorem ZeU {n:Nat} {R:List (List Int)} (ok:OkRows n R) (hl:R.length=n) (h6:n<=6):(Zv n R).length<=36*1296:=by
 unfold Zv
 split
 ·decide
 ·refine QAq (Yq (m:=1296) (YY n) fun y hy=>Zd5 ok hl h6 hy) (QCf ?_ (QAc _))
  exact QAq (Zgq n) (QCf h6 h6)
theorem Zix {n:Nat} {R:List (List Int)} (ok:OkRows n R) (hl:R.length=n) (h1:1<=n):0<(Zv n R).length:=by
 by_cases e:n=1
 ·unfold Zv
  rw [if_pos e]
  decide
 ·have h2:2<=n:=by exact Om.k317 h1 e
  obtain ⟨l1,_⟩:=ZeS (R:=R) h2
  obtain ⟨⟨a,b⟩,hab,e2⟩:=List.mem_map.mp l1
  obtain ⟨ha,hb,hne⟩:=mem_two.mp hab
  have v:=Ys (YZ ok hl ha hb)
  obtain ⟨w,hw⟩:=Za7 (s:=sF R a b) (f:=(rgs n R a b).length) (C:=rgs n R a b) (fun c hc=>(v.cy c hc).pos) (QAc _)
  have:Zy n R a w∈Zv n R:=by
   unfold Zv
   rw [if_neg e]
   refine List.mem_flatMap.mpr ⟨(a,b),hab,?_⟩
   unfold Zab
   rw [if_pos e2]
   exact List.mem_map.mpr ⟨w,hw,rfl⟩
  exact List.length_pos_of_mem this
structure LeadOf (n:Nat) (R F:List (List Int)) (L:List (List (List Int))):Prop where
 all:L=(Zv n R).filter fun g=>decide (ZY n R g=F)
 mem:∃ g∈Zv n R,ZY n R g=F
 least:∀ g∈Zv n R,ZbE (ZY n R g) F=false
theorem Za3 {α:Type} (p:α->Bool):∀ (l:List α),(∃ x∈l,p x=true)->∃ (h:α) (i:Nat),(l.filter p)[0]? = some h/\l[i]? = some h/\p h=true/\∀ j g,j<i->l[j]? = some g->p g=false
 | [],h=>by
  obtain ⟨_,hx,_⟩:=h
  cases hx
 | x::l,h=>by
  by_cases e:p x=true
  ·exact ⟨x,0,by rw [QDy e]; rfl,rfl,e,fun j g hj _=>absurd hj (QDr j)⟩
  ·have:∃ y∈l,p y=true:=by
    obtain ⟨y,hy,py⟩:=h
    cases hy with
    | head=>exact absurd py e
    | tail _ hy=>exact ⟨y,hy,py⟩
   obtain ⟨h,i,h1,h2,h3,h4⟩:=Za3 p l this
   refine ⟨h,i+1,by rw [QDz e]; exact h1,h2,h3,fun j g hj hg=>?_⟩
   cases j with
   | zero =>
    cases hg
    exact Bool.eq_false_iff.mpr e
   | succ j=>exact h4 j g (by exact Om.k327 hj) hg
theorem LeadOf.plain {n:Nat} {R F:List (List Int)} {L:List (List (List Int))} (z:LeadOf n R F L):∃ h,L[0]? = some h/\ZjU n R F h:=by
 obtain ⟨g,hg,e⟩:=z.mem
 obtain ⟨h,i,h1,h2,h3,h4⟩:=Za3 (fun g=>decide (ZY n R g=F)) (Zv n R) ⟨g,hg,decide_eq_true e⟩
 rw [<- z.all] at h1
 exact ⟨h,h1,⟨⟨i,h2,fun j g hj hg=>of_decide_eq_false (h4 j g hj hg)⟩,of_decide_eq_true h3,z.least⟩⟩
end My
namespace My
open PySem L2
noncomputable def PrR (H:Hp) (n:Nat) (R:List (List Int)) (p:Addr) (g:List (List Int)):Prop:=∃ a b:Addr,H p=some (.tup [.ref a,.ref b])/\TG H a (ZY n R g)/\TG H b g
theorem PrR.up {H H':Hp} {n:Nat} {R:List (List Int)} {p:Addr} {g:List (List Int)} (c:PrR H n R p g) (f:∀ b row,H b=some (.tup row)->H' b=some (.tup row)):PrR H' n R p g :=
 let ⟨a,b,h1,h2,h3⟩:=c
 ⟨a,b,f _ _ h1,h2.up f,h3.up f⟩
inductive Zg7 (vs:List V) (H:Hp) (Q:VK):Prop where
 | mk (g:Addr) (n:Nat) (R:List (List Int)) (_:vs=[.ref g]) (_:TG H g R) (_:OkRows n R) (_:R.length=n) (_:1<=n) (_:n<=6) (_:∀ t p l H' F L,Same H H'->H' t=some (.tup [.ref p,.ref l])->TG H' p F->RL H' l L->LeadOf n R F L->Q (.ref t) H'):Zg7 vs H Q
noncomputable def ZhR:Sp:=fun vs H Q _=>Zg7 vs H Q
section
variable {P:Program} {w:World} {K:PySem.W.Frag} {mg:Str->Option Value} {base:Heap}
variable {fS fU fF fR fL fW fT fA:Addr} {dS dU dF dR dL dW dT dA:FuncData}
theorem scLead:Zs ["square","told","form"] ["square"] (Ze YD):=⟨rfl,rfl,rfl,by decide +kernel,rfl,by decide +kernel,by decide +kernel⟩
inductive Zdy (g:Addr) (n:Nat) (R:List (List Int)) (H1:Hp) (lc:Addr) (j:Nat) (ys:List V) (σ:St) (H2:Hp):Prop where
 | mk (v0:Option V) (us:List Addr) (_:σ=[v0,some (.ref g)]) (_:ys=us.map V.ref) (_:Same H1 H2) (_:H2 lc=some (.lst ys)) (_:Paired (fun p x=>PrR H2 n R p x) us ((Zv n R).take j)):Zdy g n R H1 lc j ys σ H2
inductive Zdx (n:Nat) (R:List (List Int)) (HA:Hp) (lm:Addr) (j:Nat) (ys:List V) (σ:St) (H2:Hp):Prop where
 | mk (v0 v1:Option V) (ms:List Addr) (_:σ=[v0,v1]) (_:ys=ms.map V.ref) (_:Same HA H2) (_:H2 lm=some (.lst ys)) (_:Paired (fun p x=>TG H2 p (ZY n R x)) ms ((Zv n R).take j)):Zdx n R HA lm j ys σ H2
inductive Zdw (n:Nat) (R:List (List Int)) (HB:Hp) (pm:Addr) (FF:List (List Int)) (lf:Addr) (j:Nat) (ys:List V) (σ:St) (H2:Hp):Prop where
 | mk (v0 v1:Option V) (zs:List Addr) (_:σ=[v0,v1,some (.ref pm)]) (_:ys=zs.map V.ref) (_:Same HB H2) (_:H2 lf=some (.lst ys)) (_:zs.length<=j) (_:Paired (fun p x=>TG H2 p x) zs (((Zv n R).take j).filter fun x=>decide (ZY n R x=FF))):Zdw n R HB pm FF lf j ys σ H2
set_option maxHeartbeats 1000000 in
theorem Zjo {f fH fM fN fE:Addr} {fd dH dM dN dE:FuncData} (F:Fun K "leading" "leading" YD f fd) (T:Blt mg) (Z:HpD K mg fS fU fF fR fL fW fT fA dS dU dF dR dL dW dT dA) (DH:Dfn K mg "hopeful" YE ["square"] fH dH) (DM:Dfn K mg "renamed" Jd ["begun","renaming"] fM dM) (DN:Dfn K mg "undone" Y9 ["renaming"] fN dN) (DE:Dfn K mg "entry_renamed" JX ["entry","things"] fE dE):FnOk P w K mg base CX0 6 f fd ["square"] ZhR:=by
 have GH:FnOk P w K mg base CX0 5 fH dH ["square"] ZhS:=Zjp DH.F T Z
 have GM:FnOk P w K mg base CX0 5 fM dM ["begun","renaming"] Zar:=(Zf0 DM.F T DN Z.U DE).mono (by decide)
 refine F.ok scLead (fun vs H Q E h=>?_) (fun cdv A outer s H vs Q E hr h=>?_)
 ·obtain ⟨_,_,_,rfl,_⟩:=h
  rfl
 ·obtain ⟨g,n,R,rfl,hT,ok,hRl,h1,h6,q⟩:=h
  have hu:((A.deeper (PyProof.Rows.envOfC "leading" (Ze YD) s.heap.objs.size f cdv))).units+2<cLine:=by have:=hr.un; omega
  have hu1:((A.deeper (PyProof.Rows.envOfC "leading" (Ze YD) s.heap.objs.size f cdv))).units+1+2<cLine:=by have:=hr.un; omega
  refine' ⟨_,Zd ?s1 (Zd ?s2 (Zg (Zt ?s3))),?rd⟩
  case s1=>exact Zez (i:=1) ["renaming","square"] [none,some 0] scLead.nd rfl (Or.inl rfl) rfl rfl (Z2 K (Zm GH hr rfl DH.m DH.F.kp DH.b .nil ZO (Za (pv 0) Zc))) (fun _ _ _ _ _=>Yx 0) (fun _ _ _ _ _=>ZA) (fun _ _ _ _ _=>J3 (Za (Zm GM hr rfl DM.m DM.F.kp DM.b .nil ZO (Za (pv 1) (Za (pv 0) Zc))) (Za (pv 0) Zc)))
  case s2=>exact Zj (i:=2) scLead.nd rfl (Or.inr rfl) (Zu (Ze6 (d:=2) K rfl hu1) rfl T.min Zgl (Za (Yr ["one","renaming"] [none,none] rfl rfl (Z2 K (pv 1)) (fun _ _ _ _ _=>Zax (n:=2) K rfl (ZV (Yx 0) (ZV (Yx 1) JH))) (fun _ _ _ _ _=>ZA) (fun _ _ _ _ _=>pv 0)) Zc))
  case s3=>exact J3 (Za (pv 2) (Za (Yr ["one","renaming","form"] [none,none,some 2] rfl rfl (Z2 K (pv 1)) (fun _ _ _ _ _=>Zax (n:=2) K rfl (ZV (Yx 0) (ZV (Yx 1) JH))) (fun _ _ _ _ _=>ZaS (ZR (Zh9 (d:=2) hu K) (pv 0) (pv 2) (Yp _))) (fun _ _ _ _ _=>pv 1)) Zc))
  case rd =>
   refine ⟨_,rfl,g,n,R,rfl,hT,ok,hRl,h1,h6,fun lh H1 hlh s1 hRL=>?_⟩
   obtain ⟨hs,hhs,hHs⟩:=hRL
   have hhl:(hs.map V.ref).length=(Zv n R).length:=by rw [QAa,hHs.length]
   have hbd:=ZeU ok hRl h6
   have hpos:=Zix ok hRl h1
   have hT1:=hT.same s1
   refine ⟨lh,rfl,⟨_,SqL.of hhs⟩,fun lc hlc=>?_⟩
   refine ZZ (Z1 (xs:=hs.map V.ref)) (Zdy g n R H1 lc)
    ⟨none,[],rfl,rfl,Same.new hlc,Zb,.nil⟩ (fun j ys σ H2 zz0=> by obtain ⟨_,_,_,_,s2,hl,_⟩ := zz0; exact ⟨SqL.of (s2 _ _ hhs),hl⟩) ?_ ?_
   ·rintro j x ys σ H2 hj ⟨v0,us,rfl,rfl,s2,hl2,hU⟩
    rw [QAe] at hj
    cases hpj:hs[j]? with
    | none=>rw [hpj] at hj; cases hj
    | some pr =>
    rw [hpj] at hj
    cases hj
    obtain ⟨rj,hrj,hpr⟩:=Paired.getL hHs hpj
    have rn:=Za1 ok hRl h1 (QAu hrj)
    refine ⟨_,rfl,_,rfl,g,pr,n,_,rj,rfl,(hT1.same s2).grid,ZbM ok hRl,hpr.same s2,rn,h1,by exact Om.b1 ‹_› rfl,fun tm H3 s3 hG3=>?_⟩
    rw [Ju ok hRl rn] at hG3
    have hTm:=GridT.tg hG3
    refine ⟨_,rfl,(show 2<=sizeLine from Zq (by decide)),fun t ht=>?_⟩
    have s4:Same H3 (upd H3 t (.tup [.ref tm,.ref pr])):=Same.new ht
    have g4:(upd H3 t (.tup [.ref tm,.ref pr])) t=some (.tup [.ref tm,.ref pr]):=Zb
    generalize upd H3 t (.tup [.ref tm,.ref pr])=H4 at s4 g4 ⊢
    have s34:=s3.trans s4
    have hl4:=s34 _ _ hl2
    have hjl:=(List.getElem?_eq_some_iff.mp hrj).1
    have hul:us.length=j:=by
     rw [hU.length,QAt]
     exact Om.m1 ‹_›
    have up:∀ b row,H4 b=some (.tup row)->(upd H4 lc (.lst (us.map V.ref++[.ref t]))) b=some (.tup row):=fun b row e=>by
     rw [Zf (YV e hl4 (by intro z; cases z))]
     exact e
    refine ⟨hl4,by rw [QAa,hul]; exact Jl (by exact Om.b2 ‹_› ‹_› rfl),_,us++[t],rfl,by rw [QAm]; rfl,fun b u e=>?_,Zb,?_⟩
    ·rw [Zf (Zh e hlc)]
     exact s34 _ _ (s2 _ _ e)
    ·have et:(Zv n R).take (j+1)=(Zv n R).take j++[rj]:=by rw [QBy,hrj]; rfl
     rw [et]
     exact Paired.snoc (Paired.mapP hU fun _ _ z=>z.up fun b row e=>up b row (s34 _ _ e)) (PrR.up (H:=H4) ⟨tm,pr,g4,hTm.same s4,(hpr.same s2).same s34⟩ up)
   rintro ys σ HA ⟨v0,us,rfl,rfl,sA,hlA,hU⟩
   rw [hhl,QBc (QAc _)] at hU
   have sHA:=s1.trans sA
   have husl:(us.map V.ref).length=(Zv n R).length:=by rw [QAa,hU.length]
   refine ⟨_,rfl,lc,rfl,⟨_,SqL.of hlA⟩,fun lm hlm=>?_⟩
   refine ZZ (Z1 (xs:=us.map V.ref)) (Zdx n R HA lm)
    ⟨none,none,[],rfl,rfl,Same.new hlm,Zb,.nil⟩ (fun j ys σ H2 zz0=> by obtain ⟨_,_,_,_,_,s2,hl,_⟩ := zz0; exact ⟨SqL.of (s2 _ _ hlA),hl⟩) ?_ ?_
   ·rintro j x ys σ H2 hj ⟨v0,v1,ms,rfl,rfl,s2,hl2,hM⟩
    rw [QAe] at hj
    cases hpj:us[j]? with
    | none=>rw [hpj] at hj; cases hj
    | some p =>
    rw [hpj] at hj
    cases hj
    obtain ⟨rj,hrj,ta,tb,hp,hta,htb⟩:=Paired.getL hU hpj
    refine ⟨p,_,rfl,SqT.of (s2 _ _ hp),rfl,_,_,rfl,_,_,rfl,rfl,?_⟩
    have hjl:=(List.getElem?_eq_some_iff.mp hrj).1
    have hml:ms.length=j:=by
     rw [hM.length,QAt]
     exact Om.m1 ‹_›
    have up:∀ b row,H2 b=some (.tup row)->(upd H2 lm (.lst (ms.map V.ref++[.ref ta]))) b=some (.tup row):=fun b row e=>by
     rw [Zf (YV e hl2 (by intro z; cases z))]
     exact e
    refine ⟨_,rfl,hl2,by rw [QAa,hml]; exact Jl (by exact Om.b2 ‹_› ‹_› rfl),_,_,ms++[ta],rfl,by rw [QAm]; rfl,fun b u e=>?_,Zb,?_⟩
    ·rw [Zf (Zh e hlm)]
     exact s2 _ _ e
    ·have et:(Zv n R).take (j+1)=(Zv n R).take j++[rj]:=by rw [QBy,hrj]; rfl
     rw [et]
     exact Paired.snoc (Paired.mapP hM fun _ _ z=>z.up up) ((hta.same s2).up up)
   rintro ys σ HB ⟨v0,v1,ms,rfl,rfl,sB,hlB,hM⟩
   rw [husl,QBc (QAc _)] at hM
   have hml:ms.length=(Zv n R).length:=hM.length
   obtain ⟨hbl,hbm⟩:=ZcC Zh6 (fun i=>ZY n R ((Zv n R).getD i [])) ((Zv n R).length - 1)
   have hbi:argBest (fun i j=>ZbE (ZY n R ((Zv n R).getD i [])) (ZY n R ((Zv n R).getD j []))) (ms.length - 1)<ms.length:=by rw [hml]; exact Om.k326 hhl hbd hpos husl hml hbl
   obtain ⟨xm,hxm,hpm⟩:=Paired.getL hM (QAb hbi)
   have hleast:∀ x∈Zv n R,ZbE (ZY n R x) (ZY n R xm)=false:=fun x hx=>by
    obtain ⟨i,hi,rfl⟩:=QBd hx
    have h3:=hbm i (by exact Om.q2 ‹_›)
    rw [<- hml] at h3
    have e3:(Zv n R).getD (argBest (fun i j=>ZbE (ZY n R ((Zv n R).getD i [])) (ZY n R ((Zv n R).getD j []))) (ms.length - 1)) []=xm:=by rw [QAd,hxm]; rfl
    have e4:(Zv n R).getD i []=(Zv n R)[i]:=by rw [QAd,QAb hi]; rfl
    rw [e3,e4] at h3
    exact h3
   have hxmm:=QAu hxm
   refine ⟨lm,ms,fun i j=>ZbE (ZY n R ((Zv n R).getD i [])) (ZY n R ((Zv n R).getD j [])),_,rfl,SqL.of hlB,by exact Om.a1 ‹_› ‹_›,fun i j p p' hi hj=>?_,QAb hbi,?_⟩
   ·obtain ⟨x1,hx1,hq1⟩:=Paired.getL hM hi
    obtain ⟨x2,hx2,hq2⟩:=Paired.getL hM hj
    obtain ⟨o1,l1⟩:=YN ok hRl (Za1 ok hRl h1 (QAu hx1))
    obtain ⟨o2,l2⟩:=YN ok hRl (Za1 ok hRl h1 (QAu hx2))
    show LtD K HB 2 (.ref p) (.ref p') (ZbE (ZY n R ((Zv n R).getD i [])) (ZY n R ((Zv n R).getD j [])))
    rw [QAd,hx1,QAd,hx2]
    exact ZkN hq1 hq2 o1 o2 l1 l2
   generalize ms[argBest (fun i j=>ZbE (ZY n R ((Zv n R).getD i [])) (ZY n R ((Zv n R).getD j []))) (ms.length - 1)]=pm at hpm
   clear hbm hbi hxm hbl
   generalize eF:ZY n R xm=FF at hpm hleast
   refine ⟨_,rfl,_,rfl,lc,rfl,⟨_,SqL.of (sB _ _ hlA)⟩,fun lf hlf=>?_⟩
   have hlB2:=sB _ _ hlA
   refine ZZ (Z1 (xs:=us.map V.ref)) (Zdw n R HB pm FF lf)
    ⟨none,none,[],rfl,rfl,Same.new hlf,Zb,QAc _,.nil⟩ (fun j ys σ H2 zz0=> by obtain ⟨_,_,_,_,_,s2,hl,_,_⟩ := zz0; exact ⟨SqL.of (s2 _ _ hlB2),hl⟩) ?_ ?_
   ·rintro j x ys σ H2 hj ⟨v0,v1,zs,rfl,rfl,s2,hl2,hzl,hZ⟩
    rw [QAe] at hj
    cases hpj:us[j]? with
    | none=>rw [hpj] at hj; cases hj
    | some p =>
    rw [hpj] at hj
    cases hj
    obtain ⟨rj,hrj,ta,tb,hp,hta,htb⟩:=Paired.getL hU hpj
    have sB2:=sB.trans s2
    refine ⟨p,_,rfl,SqT.of (sB2 _ _ hp),rfl,_,_,rfl,_,_,rfl,rfl,?_⟩
    have hjl:=(List.getElem?_eq_some_iff.mp hrj).1
    have et:(Zv n R).take (j+1)=(Zv n R).take j++[rj]:=by rw [QBy,hrj]; rfl
    refine ⟨_,rfl,_,rfl,_,ZiI (hta.same sB2) (hpm.same s2),_,rfl,?_⟩
    by_cases e:ZY n R rj=FF
    ·rw [if_neg QAl,decide_eq_true e]
     refine Zbn ?_
     have up:∀ b row,H2 b=some (.tup row)->(upd H2 lf (.lst (zs.map V.ref++[.ref tb]))) b=some (.tup row):=fun b row e=>by
      rw [Zf (YV e hl2 (by intro z; cases z))]
      exact e
     refine ⟨_,rfl,hl2,by rw [QAa]; exact Jl (by exact Om.k325 hhl hbd hpos husl hml hzl hjl),_,_,zs++[tb],rfl,by rw [QAm]; rfl,fun b u e=>?_,Zb,by rw [QAn,QDm]; exact Om.k324 hzl,?_⟩
     ·rw [Zf (Zh e hlf)]
      exact s2 _ _ e
     ·rw [et,List.filter_append,QDy (by exact decide_eq_true e),List.filter_nil]
      exact Paired.snoc (Paired.mapP hZ fun _ _ z=>z.up up) ((htb.same sB2).up up)
    ·rw [if_neg QAl,decide_eq_false e]
     refine ZaE ⟨_,_,zs,rfl,rfl,s2,hl2,by exact Om.k323 hzl,?_⟩
     rw [et,List.filter_append,QDz (by rw [decide_eq_true_eq]; exact e),List.filter_nil,QBh]
     exact hZ
   rintro ys σ HC ⟨v0,v1,zs,rfl,rfl,sC,hlC,_,hZ⟩
   rw [husl,QBc (QAc _)] at hZ
   refine ⟨(show 2<=sizeLine from Zq (by decide)),fun t ht=>?_⟩
   have s5:Same HC (upd HC t (.tup [.ref pm,.ref lf])):=Same.new ht
   exact q t pm lf _ FF _ (sHA.trans (sB.trans (sC.trans s5))) Zb (hpm.same (sC.trans s5)) ⟨zs,s5 _ _ hlC,Paired.mapP hZ fun _ _ z=>z.same s5⟩ ⟨rfl,⟨xm,hxmm,eF⟩,hleast⟩
end
end My
namespace My
open PySem L2
inductive Zdu (vs:List V) (H:Hp) (Q:VK):Prop where
 | mk (a b:Addr) (n:Nat) (R S:List (List Int)) (_:vs=[.ref a,.ref b]) (_:TG H a R) (_:TG H b S) (_:Ren n R) (_:Ren n S) (_:1<=n) (_:n<=8) (_:∀ t H',Same H H'->TG H' t (Y8 R S)->Q (.ref t) H'):Zdu vs H Q
noncomputable def Zen:Sp:=fun vs H Q _=>Zdu vs H Q
inductive Zkb (vs:List V) (H:Hp) (Q:VK):Prop where
 | mk (a b:Addr) (n:Nat) (r s:List Int) (_:vs=[.ref a,.ref b]) (_:H a=some (.tup (r.map V.int))) (_:H b=some (.tup (s.map V.int))) (_:Turn n r) (_:Turn n s) (_:n<=8) (_:∀ t H',Same H H'->H t=none->H' t=some (.tup ((cmp r s).map V.int))->Q (.ref t) H'):Zkb vs H Q
noncomputable def Zlm:Sp:=fun vs H Q _=>Zkb vs H Q
section
variable {P:Program} {w:World} {K:PySem.W.Frag} {mg:Str->Option Value} {base:Heap}
theorem Zl4:Zs ["one","other"] ["one","other"] (Ze Ym):=⟨rfl,rfl,rfl,by decide +kernel,rfl,by decide +kernel,by decide +kernel⟩
theorem ZcK {f:Addr} {fd:FuncData} (F:Fun K "turn_behind" "turn_behind" Ym f fd) (T:Blt mg):FnOk P w K mg base CX0 1 f fd ["one","other"] Zlm:=by
 refine F.ok Zl4 (fun vs H Q E h=>?_) (fun cdv A outer s H vs Q E hr h=>?_)
 ·obtain ⟨_,_,_,_,_,rfl,_⟩:=h
  rfl
 ·obtain ⟨a,b,n,r,s,rfl,ha,hb,tr,ts,h8,q⟩:=h
  refine ⟨_,Zg (Zt (Zx (ZB K) rfl T.tuple ZX (Za (Yr ["number","other"] [none,some 1] rfl rfl (ZbJ K (pv 0)) (fun _ _ _ _ _=>Yx 0) (fun _ _ _ _ _=>ZA) (fun _ _ _ _ _=>ZQ (Z9 K) (pv 1) (pv 0) (fun _ _=>rfl))) Zc))),?_⟩
  refine ⟨_,rfl,a,rfl,⟨_,SqT.of ha⟩,fun l hl=>ZD (fun i=>some (.int (s.getD (r.getD i 0).toNat 0))) (fun σ=>∃ v,σ=[v,some (.ref b)]) (ZbH (xs:=r.map V.int)) (by rw [QAa,tr.len]; exact Zq (by exact Om.b1 ‹_› rfl)) hl (fun H' sm=>SqT.of (sm _ _ ha)) ⟨none,rfl⟩ ?_ ?_⟩
  ·rintro j x σ H' R' hj ⟨v,rfl⟩ sm kk
   have hjn:j<n:=by
    have:=(List.getElem?_eq_some_iff.mp hj).1
    rw [QAa,tr.len] at this
    exact this
   obtain ⟨x',hx',hxn⟩:=tr.val hjn
   have ej:x = .int (x':Int):=by
    rw [QAe,QAb (by rw [tr.len]; exact hjn)] at hj
    rw [ZH (by rw [tr.len]; exact hjn)] at hx'
    rw [hx'] at hj
    cases hj
    rfl
   subst ej
   refine ⟨_,rfl,_,rfl,b,_,_,_,rfl,rfl,SqT.of (sm _ _ hb),YQ (i:=x') (by rw [ts.len]; exact hxn),?_⟩
   have:=kk [some (.int (x':Int)),some (.ref b)] H' ⟨_,rfl⟩ (Same.refl _)
   simp only [hx',QAf] at this
   exact this
  ·intro H2 s2 h2
   have e0:(List.range (r.map V.int).length).filterMap (fun i:Nat=>some (V.int (s.getD (r.getD i 0).toNat 0)))=(cmp r s).map V.int:=by
    rw [YH,QAa]
    refine QBp (by rw [QAa,QAp,QAa,Jb]) fun i e1 e2=>?_
    rw [QAa,QAp] at e1
    rw [QBu,QDg,QBu,<- ZH,YS tr (by rw [<- tr.len]; exact e1)]
   rw [e0] at h2
   exact ⟨l,_,rfl,.inl ⟨SqL.of h2,fun t ht=>q t _ (s2.trans (Same.new ht)) (s2.free ht) Zb⟩⟩
theorem ZhV:Zs ["one","other"] ["one","other"] (Ze JF):=⟨rfl,rfl,rfl,by decide +kernel,rfl,by decide +kernel,by decide +kernel⟩
inductive Zfn (H:Hp) (R:List (List Int)) (S:List (List Int)) (lz:Addr) (i:Nat) (ys:List V) (σ:St) (H4:Hp):Prop where
 | mk (v0 v1:Option V) (zs:List Addr) (_:σ=[v0,v1]) (_:ys=zs.map V.ref) (_:Same H H4) (_:H4 lz=some (.lst ys)) (_:Paired (fun q (r:List Int)=>H4 q=some (.tup (r.map V.int))) zs ((Y8 R S).take i)):Zfn H R S lz i ys σ H4
theorem Zht {f fB:Addr} {fd dB:FuncData} (F:Fun K "behind" "behind" JF f fd) (T:Blt mg) (DB:Dfn K mg "turn_behind" Ym ["one","other"] fB dB):FnOk P w K mg base CX0 2 f fd ["one","other"] Zen:=by
 have GB:FnOk P w K mg base CX0 1 fB dB ["one","other"] Zlm:=ZcK DB.F T
 refine F.ok ZhV (fun vs H Q E h=>?_) (fun cdv A outer s H vs Q E hr h=>?_)
 ·obtain ⟨_,_,_,_,_,rfl,_⟩:=h
  rfl
 ·obtain ⟨a,b,n,R,S,rfl,hA,hB,rR,rS,h1,h8,q⟩:=h
  refine ⟨_,Zg (Zt (Zx (ZB K) rfl T.tuple ZX (Za (Yr ["first","second"] [none,none] rfl rfl (Zjg K rfl T.zip (Za (pv 0) (Za (pv 1) Zc))) (fun _ _ _ _ _=>Zax (n:=2) K rfl (ZV (Yx 0) (ZV (Yx 1) JH))) (fun _ _ _ _ _=>ZA) (fun _ _ _ _ _=>Zm GB hr rfl DB.m DB.F.kp DB.b .nil ZO (Za (pv 0) (Za (pv 1) Zc)))) Zc))),?_⟩
  obtain ⟨ps,hps,hPs⟩:=id hA
  obtain ⟨qs,hqs,hQs⟩:=id hB
  have lp:(ps.map V.ref).length=3:=by rw [QAa,hPs.length,rR.len]
  have lq:(qs.map V.ref).length=3:=by rw [QAa,hQs.length,rS.len]
  have lb:(Y8 R S).length=3:=by unfold Y8; rw [QAa,QAp]
  refine ⟨_,rfl,_,rfl,a,b,_,_,rfl,SqT.of hps,SqT.of hqs,fun lz hlz=>?_⟩
  refine ZiP (n:=3) (Y:=fun i H v H'=>∃ p x y,v = .ref p/\H p=none/\(ps.map V.ref)[i]? = some x/\(qs.map V.ref)[i]? = some y/\H'=upd H p (.tup [x,y])) (P:=fun H'=>SqT K H' a (ps.map V.ref)/\SqT K H' b (qs.map V.ref))
   (fun i H' h hi=>⟨_,_,(ps.map V.ref)[i]'(by exact Om.a1 ‹_› ‹_›),(qs.map V.ref)[i]'(by exact Om.a1 ‹_› ‹_›),h.1,h.2,QAb _,QAb _⟩)
   (fun i H' v H'' h zz0 _=> by obtain ⟨p,x,y,e1,e2,e3,e4,e5⟩ := zz0; exact ⟨p,x,y,e1,e2,e3 _ h.1,e4 _ h.2,e5⟩) (fun i H' h hi=>⟨_,_,h.1,h.2,.inl (by exact Om.l4 ‹_› ‹_›)⟩)
   (Zfn H R S lz)
   ⟨none,none,[],rfl,rfl,Same.new hlz,Zb,.nil⟩ (fun i ys σ H4 zz0=> by obtain ⟨_,_,_,_,_,s4,hl,_⟩ := zz0; exact ⟨⟨SqT.of (s4 _ _ hps),SqT.of (s4 _ _ hqs)⟩,hl⟩) ?_ ?_
  ·rintro i v ys σ H4 H5 hi ⟨v0,v1,zs,rfl,rfl,s4,hl4,hZ⟩ ⟨p,u,y,rfl,hp,hu,hy,rfl⟩
   rw [QAe] at hu hy
   cases hpi:ps[i]? with
   | none=>rw [hpi] at hu; cases hu
   | some p1 =>
    cases hqi:qs[i]? with
    | none=>rw [hqi] at hy; cases hy
    | some q1 =>
     rw [hpi] at hu
     rw [hqi] at hy
     cases hu
     cases hy
     obtain ⟨r,hr1,hp1⟩:=Paired.getL hPs hpi
     obtain ⟨t,ht1,hq1⟩:=Paired.getL hQs hqi
     have tr:=rR.row r (QAu hr1)
     have tt:=rS.row t (QAu ht1)
     have s5:Same H4 (upd H4 p (.tup [.ref p1,.ref q1])):=Same.new hp
     refine ⟨p,_,rfl,SqT.of Zb,rfl,_,_,rfl,_,_,rfl,rfl,_,rfl,_,rfl,p1,q1,n,r,t,rfl,s5 _ _ (s4 _ _ hp1),s5 _ _ (s4 _ _ hq1),tr,tt,h8,fun z H6 s6 hz0 hz=>?_⟩
     have hl6:=s6 _ _ (s5 _ _ hl4)
     have up:∀ b row,H6 b=some (.tup row)->(upd H6 lz (.lst (zs.map V.ref++[.ref z]))) b=some (.tup row):=fun b row e=>by
      rw [Zf (YV e hl6 (by intro z; cases z))]
      exact e
     have hzl:zs.length=i:=by rw [hZ.length,QAt,lb]; exact Om.m1 ‹_›
     refine ⟨hl6,by rw [QAa,hzl]; exact Zw (by exact Om.k322 hi hzl),_,_,zs++[z],rfl,by rw [QAm]; rfl,fun b u e=>?_,Zb,?_⟩
     ·rw [Zf (Zh e hlz)]
      exact s6 _ _ (s5 _ _ (s4 _ _ e))
     ·have eb:(Y8 R S)[i]? = some (cmp r t):=by
       unfold Y8
       rw [QAe,QBk hi,QDp,QAd,QAd,hr1,ht1]
       rfl
      have hib:i<(Y8 R S).length:=by exact Om.a1 ‹_› ‹_›
      rw [QAb hib] at eb
      rw [Yo _ hib,Option.some.inj eb]
      exact Paired.snoc (Paired.mapP hZ fun _ _ e=>up _ _ (s6 _ _ (s5 _ _ e))) (up _ _ hz)
  ·rintro ys σ H4 ⟨v0,v1,zs,rfl,rfl,s4,hl4,hZ⟩
   rw [QBc (by exact Om.l1 ‹_›)] at hZ
   exact ⟨lz,_,rfl,.inl ⟨SqL.of hl4,fun t ht=>q t _ (s4.trans (Same.new ht)) ⟨zs,Zb,Paired.mapP hZ fun _ _ e=>(Same.new ht) _ _ e⟩⟩⟩
end
end My
namespace My
open PySem L2
theorem ZgS:∀ {p q:List Int},p.map V.int=q.map V.int->p=q
 | [],[],_=>rfl
 | [],_::_,e=>by cases e
 | _::_,[],e=>by cases e
 | u::p,v::q,e=>by
  rw [QAr,QAr,List.cons.injEq,V.int.injEq] at e
  rw [e.1,ZgS e.2]
theorem ZeT:∀ {A B:List (List Int)},(A.map fun r=>r.map V.int)=(B.map fun r=>r.map V.int)->A=B
 | [],[],_=>rfl
 | [],_::_,e=>by cases e
 | _::_,[],e=>by cases e
 | x::A,y::B,e=>by
  rw [QAr,QAr,List.cons.injEq] at e
  rw [ZgS e.1,ZeT e.2]
theorem Zew {n:Nat} {R Rn S:List (List Int)} (ok:OkRows n R) (hl:R.length=n) (rn:Ren n Rn) (rs:Ren n S):ZY n (ZY n R Rn) S=ZY n R (Y8 Rn S):=by
 obtain ⟨ok',hl'⟩:=YN ok hl rn
 have h:=ZgF (ZbM ok hl) rn rs
 rw [Ju ok hl rn,Ju ok' hl' rs,Ju ok hl (rn.beh rs)] at h
 exact ZeT h
end My
namespace My
open PySem L2
section
variable {n:Nat} {R Rn:List (List Int)}
theorem Hop.to (ok:OkRows n R) (hl:R.length=n) (rn:Ren n Rn) {a b:Nat} {w:List Nat} (hp:Hop n R a b w):Hop n (ZY n R Rn) (rw_ Rn 0 a) (rw_ Rn 0 b) (w.map (thO n Rn)):=by
 obtain ⟨ok',hl'⟩:=YN ok hl rn
 refine ⟨JM rn (by decide) hp.ha,JM rn (by decide) hp.hb,fun e=>hp.hne (ZdS rn (by decide) hp.ha hp.hb e),?_,fun x y hx hy hxy=>?_⟩
 ·exact Zgi (Ze1 rn ok hl hp.ha hp.hb) (Ys (YZ ok hl hp.ha hp.hb)) (Ys (YZ ok' hl' (JM rn (by decide) hp.ha) (JM rn (by decide) hp.hb))) (YL _ _ _) (YL _ _ _) hp.hw
 ·have ix:=ZW (rn.at (k:=0) (by decide)) hx
  have iy:=ZW (rn.at (k:=0) (by decide)) hy
  have e1:=Zby rn (k:=0) (by decide) hx
  have e2:=Zby rn (k:=0) (by decide) hy
  have h:=hp.hm _ _ ix iy fun e=>hxy (by rw [<- e1,<- e2,e])
  have s:=ZgB rn ok hl ix iy
  rw [e1,e2] at s
  rw [s,ZgB rn ok hl hp.ha hp.hb]
  exact h
theorem Zi9 {g h:List (List Int)} (rg:Ren n g) (rh:Ren n h) (e:∀ k,k<3->∀ x,x<n->rw_ g k x=rw_ h k x):g=h:=by
 obtain ⟨a,b,c,rfl,ta,tb,tc⟩:=rg.three
 obtain ⟨a',b',c',rfl,ta',tb',tc'⟩:=rh.three
 have key:∀ k,k<3->([a,b,c].getD k [])=([a',b',c'].getD k []):=fun k hk=>by
  refine Zbz (rg.at hk).len (rh.at hk).len fun i hi=>?_
  rw [ZbZ rg hk hi,ZbZ rh hk hi,e k hk i hi]
 have k0:a=a':=key 0 (by decide)
 have k1:b=b':=key 1 (by decide)
 have k2:c=c':=key 2 (by decide)
 rw [k0,k1,k2]
theorem Cols.get {w:List Nat} (c:Cols n w) {j:Nat} (hj:j<n):w.getD j 0<n:=by
 rw [gDN (by rw [c.len]; exact hj)]
 exact (c.all _).mp (QAs _)
theorem ZdM {w:List Nat} {j:Nat} (h:j<w.length):(toI w).getD j 0=((w.getD j 0:Nat):Int):=by
 unfold toI
 rw [QAd,QAe,QAb h,gDN h]
 rfl
theorem Zgs {w:List Nat} {a j:Nat} (h:j<w.length):(w.map fun x=>ent R a x).getD j 0=ent R a (w.getD j 0):=by
 rw [QAd,QAe,QAb h,gDN h]
 rfl
theorem ZiT (ok:OkRows n R) (hl:R.length=n) (h1:1<=n) {g:List (List Int)} (rg:Ren n g) {w:List Nat} (c:Cols n w) {a:Nat} (ha:a<n) (h0:rw_ g 0 a=0) (hw:∀ j,j<n->rw_ g 1 (w.getD j 0)=j) (hf:∀ j,j<n->ent (ZY n R g) 0 j=(j:Int)/\ent (ZY n R g) j 0=(j:Int)):Zy n R a w=g:=by
 have t:=Js ok hl c ha
 have k2:∀ x,x<n->(w.map fun x=>ent R a x).idxOf (x:Int)=rw_ g 2 x:=fun x hx=>by
  have hj:=JM rg (k:=2) (by decide) hx
  have hc:=c.get hj
  refine Y6 t hj hx ?_
  rw [Zgs (by rw [c.len]; exact hj)]
  have h:=Jn rg ok hl ha hc
  rw [h0,hw _ hj,(hf _ hj).1] at h
  obtain ⟨e1,e2⟩:=Z4 ok hl ha hc
  have:=ZdS rg (k:=2) (by decide) hx e2 (by exact Om.e1 ‹_›)
  rw [e1,<- this]
 refine Zi9 (JT ok hl c h1 ha) rg fun k hk x hx=>?_
 rcases k with _ | _ | _ | k
 ·obtain ⟨e1,e2⟩:=Z4 ok hl hx (c.zero h1)
  show (((Zy n R a w).getD 0 []).getD x 0).toNat=_
  rw [al0 ok hl c h1 ha hx,e1,k2 _ e2,QAf]
  have h:=Jn rg ok hl hx (c.zero h1)
  rw [hw 0 (by exact Om.f5 ‹_›),(hf _ (JM rg (by decide) hx)).2] at h
  omega
 ·show (((Zy n R a w).getD 1 []).getD x 0).toNat=_
  have hj:=JM rg (k:=1) (by decide) hx
  have:(toI w).idxOf (x:Int)=rw_ g 1 x:=by
   refine Y6 c.turn hj hx ?_
   rw [ZdM (by rw [c.len]; exact hj)]
   have:=ZdS rg (k:=1) (by decide) (c.get hj) hx (hw _ hj)
   rw [this]
  rw [al1 c hx,this,QAf]
 ·show (((Zy n R a w).getD 2 []).getD x 0).toNat=_
  rw [al2 ok hl c ha hx,k2 x hx,QAf]
 ·exact Om.k321 hk
theorem Zk6 (c:Cols n w) (a:Nat) {j:Nat} (hj:j<n):rw_ (Zy n R a w) 1 (w.getD j 0)=j:=by
 show (((Zy n R a w).getD 1 []).getD (w.getD j 0) 0).toNat=_
 rw [al1 c (c.get hj),Y6 c.turn hj (c.get hj) (ZdM (by rw [c.len]; exact hj)),QAf]
theorem Zgn (ok:OkRows n R) (hl:R.length=n) (h1:1<=n) {w:List Nat} (c:Cols n w) {a:Nat} (ha:a<n):rw_ (Zy n R a w) 0 a=0:=by
 show (((Zy n R a w).getD 0 []).getD a 0).toNat=_
 obtain ⟨e1,e2⟩:=Z4 ok hl ha (c.zero h1)
 rw [al0 ok hl c h1 ha ha,e1,Y6 (Js ok hl c ha) (show 0<n by exact Om.f5 ‹_›) e2 (by rw [Zgs (by rw [c.len]; exact Om.f5 ‹_›),<- e1]),QAf]
theorem ZhJ {g:List (List Int)} (rg:Ren n g) {k x:Nat} (hk:k<3) (hx:x<n):rw_ (Ji g) k x=ixo (g.getD k []) x:=by
 obtain ⟨a,b,c,rfl,ta,tb,tc⟩:=rg.three
 rcases k with _ | _ | _ | k
 ·show ((inv a).getD x 0).toNat=ixo a x
  rw [ZaY ta hx,QAf]
 ·show ((inv b).getD x 0).toNat=ixo b x
  rw [ZaY tb hx,QAf]
 ·show ((inv c).getD x 0).toNat=ixo c x
  rw [ZaY tc hx,QAf]
 ·exact Om.k321 hk
theorem Zit {F g:List (List Int)} {L:List (List (List Int))} (ok:OkRows n R) (hl:R.length=n) (h2:2<=n) (ld:LeadOf n R F L) (rg:Ren n g) (e:ZY n R g=F):g∈Zv n R:=by
 have h1:1<=n:=by exact Om.f4 ‹_›
 obtain ⟨g0,hg0,e0⟩:=ld.mem
 obtain ⟨a0,b0,w0,hp,rfl⟩:=(Zcq h2).mp hg0
 have c0:=hp.cols ok hl
 have rn0:=JT ok hl c0 h1 hp.ha
 have hp1:=hp.to ok hl rn0
 obtain ⟨okF,hlF⟩:=YN ok hl rn0
 rw [e0] at hp1 okF hlF
 have ew:w0.map (thO n (Zy n R a0 w0))=List.range n:=by
  refine QBp (by rw [QAa,c0.len,QAp]) fun j i1 i2=>?_
  rw [QAp] at i2
  have hj:=c0.get i2
  rw [QBu,QDg,<- gDN (by rw [c0.len]; exact i2),ZhK hj,Zk6 c0 a0 i2]
 rw [ew,Zgn ok hl h1 c0 hp.ha] at hp1
 have hp2:=hp1.to okF hlF rg.und
 have eR:ZY n F (Ji g)=R:=by rw [<- e]; exact Zev ok hl rg
 rw [eR] at hp2
 refine (Zcq h2).mpr ⟨_,_,_,hp2,(ZiT ok hl h1 rg (hp2.cols ok hl) hp2.ha ?_ (fun j hj=>?_) fun j hj=>?_).symm⟩
 ·rw [ZhJ rg (by decide) (by exact Om.f5 ‹_›)]
  exact Zby rg (by decide) (by exact Om.f5 ‹_›)
 ·have:((List.range n).map (thO n (Ji g))).getD j 0=thO n (Ji g) j:=by
   rw [QAd,QAe,QBk hj]
   rfl
  rw [this,ZhK hj,ZhJ rg (by decide) hj]
  exact Zby rg (by decide) hj
 ·rw [e,<- e0]
  exact Ze9 ok hl c0 h1 hp.ha hj
theorem ZbS {r:List Int} (t:Turn 1 r):r=[0]:=by
 have:=t.len
 match r,this with
 | [x],_ =>
  have:=t.rg x QAj
  rw [show x=0 by exact Om.k320 this]
theorem Jv {F g:List (List Int)} {L:List (List (List Int))} (ok:OkRows n R) (hl:R.length=n) (h1:1<=n) (ld:LeadOf n R F L):g∈L↔Ren n g/\ZY n R g=F:=by
 rw [ld.all,List.mem_filter,decide_eq_true_eq]
 constructor
 ·rintro ⟨hg,e⟩
  exact ⟨Za1 ok hl h1 hg,e⟩
 ·rintro ⟨rg,e⟩
  refine ⟨?_,e⟩
  by_cases h:n=1
  ·subst h
   unfold Zv
   rw [if_pos rfl]
   obtain ⟨a,b,c,rfl,ta,tb,tc⟩:=rg.three
   rw [ZbS ta,ZbS tb,ZbS tc]
   exact List.mem_singleton.mpr rfl
  ·exact Zit ok hl (by exact Om.k317 h1 h) ld rg e
theorem Zeh {s:Nat->Nat}:∀ {f:Nat} {C:List (List Nat)} {U:Nat->Prop},Cov s C U->(Zo f C).Nodup
 | f,[],U,v=>by
  have e:Zo f []=[[]]:=by cases f <;> rfl
  rw [e]
  exact List.nodup_cons.mpr ⟨by simp,QBr⟩
 | 0,_::_,_,_=>QBr
 | f+1,c::C,U,v=>by
  have hd:∀ (d:List Nat),d∈c::C->∀ st,st<d.length->∀ w':List Nat,(rot d st++w').getD 0 0=d.getD st 0:=fun d hd st hst w'=>by
   have hp:=(v.cy d hd).pos
   rw [QAd,QCo (by rw [YM]; exact hp),<- QAd,Zb0 hst hp,Nat.add_zero,QCk hst]
  rw [YX]
  refine List.pairwise_flatMap.mpr ⟨fun i hi=>?_,?_⟩
  ·have hi:=List.mem_range.mp hi
   rw [gDL hi]
   split
   ·next q =>
    have hm:=QAs hi
    refine List.pairwise_flatMap.mpr ⟨fun st hst=>?_,?_⟩
    ·have v':=v.erase hi (c:=(c::C)[i]) fun x=>Iff.rfl
     rw [<- QCw]
     exact List.pairwise_map.mpr ((Zeh v').imp fun ne e=>ne (List.append_cancel_left e))
    ·refine List.Pairwise.imp_of_mem ?_ (List.nodup_iff_pairwise_ne.mp QCd)
     intro a b ha hb hab x hx y hy e
     have ha:=List.mem_range.mp ha
     have hb:=List.mem_range.mp hb
     rw [<- q] at ha hb
     obtain ⟨w1,_,rfl⟩:=List.mem_map.mp hx
     obtain ⟨w2,_,rfl⟩:=List.mem_map.mp hy
     have h1:=hd _ hm a ha w1
     rw [e,hd _ hm b hb w2] at h1
     exact hab (Zij (v.cy _ hm).nd ha hb h1.symm)
   ·exact .nil
  ·have key:∀ i,i<(c::C).length->∀ x,(x∈if ((c::C).getD i []).length=mnl (c::C) then (List.range (mnl (c::C))).flatMap fun st=>(Zo f ((c::C).take i++(c::C).drop (i+1))).map fun w=>rot ((c::C).getD i []) st++w else [])->x.getD 0 0∈(c::C).getD i []:=fun i hi x hx=>by
    rw [gDL hi] at hx ⊢
    split at hx
    ·next q =>
     obtain ⟨st,hst,hx⟩:=List.mem_flatMap.mp hx
     have hst:=List.mem_range.mp hst
     rw [<- q] at hst
     obtain ⟨w1,_,rfl⟩:=List.mem_map.mp hx
     rw [hd _ (QAs hi) st hst w1,gDN hst]
     exact QAs _
    ·cases hx
   refine List.Pairwise.imp_of_mem ?_ (List.nodup_iff_pairwise_ne.mp QCd)
   intro a b ha hb hab x hx y hy e
   have ha:=List.mem_range.mp ha
   have hb:=List.mem_range.mp hb
   have k1:=key a ha x hx
   have k2:=key b hb y hy
   rw [<- e,gDL hb] at k2
   rw [gDL ha] at k1
   have dj:=List.pairwise_iff_getElem.mp v.dj
   rcases QCq a b with h | h
   ·exact dj a b ha hb h _ k1 k2
   ·exact dj b a hb ha (by exact Om.k319 hab h) _ k2 k1
theorem Zdr (ok:OkRows n R) (hl:R.length=n) (h1:1<=n) {w w':List Nat} (c:Cols n w) (c':Cols n w') {a a':Nat} (ha:a<n) (ha':a'<n) (e:Zy n R a w=Zy n R a' w'):a=a'/\w=w':=by
 constructor
 ·have z:=Zgn ok hl h1 c ha
  have z':=Zgn ok hl h1 c' ha'
  rw [e] at z
  exact ZdS (JT ok hl c' h1 ha') (k:=0) (by decide) ha ha' (z.trans z'.symm)
 ·have h:inv (toI w)=inv (toI w'):=congrArg (fun l=>l.getD 1 []) e
  have h2:toI w=toI w':=by rw [<- ZaZ c.turn,h,ZaZ c'.turn]
  refine QBp (by rw [c.len,c'.len]) fun j i1 i2=>?_
  have:=ZdM i1
  rw [h2,ZdM i2,gDN i1,gDN i2] at this
  omega
theorem Zbu (ok:OkRows n R) (hl:R.length=n) (h2:2<=n) {a b:Nat} (ha:a<n) (hb:b<n) (hne:a≠b) {w:List Nat} (hw:w∈Zo n (rgs n R a b)):sF R a b (w.getD 0 0)=w.getD 1 0:=by
 have v:=Ys (YZ ok hl ha hb)
 obtain ⟨ls,al⟩:=(YJ v (YL _ _ _)).mp hw
 cases al with
 | nil h =>
  have:=(Yy ok hl ha hb hw).len
  rw [List.length_nil] at this
  exact (Om.k318 h2 this).elim
 | @step _ c w' ls hc hU hm al =>
  obtain ⟨i,hi,k,hk,e⟩:=v.find hc hU
  have hl2:2<=c.length:=by
   rw [e,YM]
   exact (ZdU ok hl ha hb hne _ (QAs hi)).1
  have h:=hc.nx 0 hc.pos
  rw [Nat.zero_add,QCk (by exact Om.f5 ‹_›)] at h
  have g0:(c++w').getD 0 0=c.getD 0 0:=by rw [QAd,QCo hc.pos,<- QAd]
  have g1:(c++w').getD 1 0=c.getD 1 0:=by rw [QAd,QCo (by exact Om.f5 ‹_›),<- QAd]
  rw [g0,g1]
  exact h
theorem Zkj (n:Nat):(YY n).Nodup:=by
 unfold YY
 refine List.pairwise_flatMap.mpr ⟨fun a _=>?_,?_⟩
 ·unfold JL
  refine List.pairwise_map.mpr (List.Pairwise.imp ?_ (List.Pairwise.filter _ (List.nodup_iff_pairwise_ne.mp QCd)))
  intro x y h e
  exact h (Prod.mk.inj e).2
 ·refine List.Pairwise.imp ?_ (List.nodup_iff_pairwise_ne.mp (QCd (n:=n)))
  intro a b hab x hx y hy e
  unfold JL at hx hy
  obtain ⟨_,_,rfl⟩:=List.mem_map.mp hx
  obtain ⟨_,_,rfl⟩:=List.mem_map.mp hy
  exact hab (Prod.mk.inj e).1
theorem ZjE (ok:OkRows n R) (hl:R.length=n) (h1:1<=n):(Zv n R).Nodup:=by
 unfold Zv
 split
 ·exact List.nodup_cons.mpr ⟨by simp,QBr⟩
 ·next hn =>
  have h2:2<=n:=by exact Om.k317 h1 hn
  have cw:∀ {a b:Nat} {g:List (List Int)},(a,b)∈YY n->g∈Zab n R (a,b)->∃ w,w∈Zo n (rgs n R a b)/\g=Zy n R a w:=fun {a b g} hx hg=>by
   unfold Zab at hg
   split at hg
   ·obtain ⟨w,hw,rfl⟩:=List.mem_map.mp hg
    dsimp only at hw
    rw [<- Zai] at hw
    exact ⟨w,hw,rfl⟩
   ·cases hg
  refine List.pairwise_flatMap.mpr ⟨fun x hx=>?_,?_⟩
  ·obtain ⟨a,b⟩:=x
   obtain ⟨ha,hb,hne⟩:=mem_two.mp hx
   unfold Zab
   split
   ·dsimp only
    rw [<- Zai]
    refine List.pairwise_map.mpr (List.Pairwise.imp_of_mem ?_ (Zeh (Ys (YZ ok hl ha hb))))
    intro w w' hw hw' ne e
    exact ne (Zdr ok hl h1 (Yy ok hl ha hb hw) (Yy ok hl ha hb hw') ha ha e).2
   ·exact .nil
  ·refine List.Pairwise.imp_of_mem ?_ (Zkj n)
   rintro ⟨a,b⟩ ⟨a',b'⟩ hx hy ne g hg h hh e
   obtain ⟨ha,hb,hne⟩:=mem_two.mp hx
   obtain ⟨ha',hb',hne'⟩:=mem_two.mp hy
   obtain ⟨w,hw,rfl⟩:=cw hx hg
   obtain ⟨w',hw',rfl⟩:=cw hy hh
   obtain ⟨e1,e2⟩:=Zdr ok hl h1 (Yy ok hl ha hb hw) (Yy ok hl ha' hb' hw') ha ha' e
   subst e1
   subst e2
   have c0:=(Yy ok hl ha hb hw).zero h1
   have s1:=Zbu ok hl h2 ha hb hne hw
   have s2:=Zbu ok hl h2 ha hb' hne' hw'
   have t1:=ZbY ok hl ha hb c0
   have t2:=ZbY ok hl ha hb' c0
   rw [s1] at t1
   rw [s2,t1] at t2
   exact ne (by rw [ZaC ok hl hb hb' c0 t2])
end
end My
namespace My
open PySem L2
noncomputable def ZC (n:Nat):Nat->List (List Nat)
 | 0=>[[]]
 | k+1=>(ZC n k).flatMap fun l=>((List.range n).filter fun x=>decide (x∉l)).map fun x=>l++[x]
theorem Zdb {n:Nat}:∀ (k:Nat) (l:List Nat),l.length=k->l.Nodup->(∀ x∈l,x<n)->l∈ZC n k
 | 0,l,h,_,_=>by rw [List.length_eq_zero_iff.mp h]; exact List.mem_singleton.mpr rfl
 | k+1,l,h,nd,hl=>by
  have hne:l≠[]:=fun z=>by rw [z] at h; cases h
  have e:=List.dropLast_concat_getLast hne
  have nd':l.dropLast.Nodup/\l.getLast hne∉l.dropLast:=by
   rw [<- e,List.nodup_append] at nd
   exact ⟨nd.1,fun z=>nd.2.2 _ z _ (List.mem_singleton.mpr rfl) rfl⟩
  have ih:=Zdb k l.dropLast (by rw [List.length_dropLast,h]; rfl) nd'.1 fun x hx=>hl x (by rw [<- e]; exact QBf _ hx)
  rw [<- e]
  exact List.mem_flatMap.mpr ⟨_,ih,List.mem_map.mpr ⟨_,List.mem_filter.mpr ⟨List.mem_range.mpr (hl _ (List.getLast_mem hne)),decide_eq_true nd'.2⟩,rfl⟩⟩
noncomputable def PL (H:Hp) (l:Addr) (L:List (List Nat)):Prop:=∃ ps:List Addr,H l=some (.lst (ps.map V.ref))/\Paired (fun p (r:List Nat)=>H p=some (.tup ((toI r).map V.int))) ps L
noncomputable def ZaW (n:Nat) (l:List Nat) (j:Nat):List (List Nat):=((List.range j).filter fun x=>decide (x∉l)).map fun x=>l++[x]
theorem Zda (n:Nat) (l:List Nat) (j:Nat):ZaW n l (j+1)=if j∈l then ZaW n l j else ZaW n l j++[l++[j]]:=by
 unfold ZaW
 rw [QDc,List.filter_append,QAm]
 split
 ·next h=>rw [QDz (by simpa using h),List.filter_nil,List.map_nil,QBh]
 ·next h=>rw [QDy (by simpa using h),List.filter_nil]; rfl
theorem ZeI (n:Nat) (l:List Nat) (j:Nat):(ZaW n l j).length<=j:=by
 unfold ZaW
 rw [QAa]
 exact QAq (QEb _ _) (by rw [QAp]; exact QAc _)
theorem ZfV (n k:Nat):ZC n (k+1)=(ZC n k).flatMap fun l=>ZaW n l n:=rfl
theorem Zbf:∀ n,n<5->∀ k,k<5->(ZC n k).length<=64:=by decide +kernel
theorem J2 {n:Nat}:∀ (k:Nat) (l:List Nat),l∈ZC n k->l.length=k/\l.Nodup/\∀ x∈l,x<n
 | 0,l,h=>by rw [List.mem_singleton.mp h]; exact ⟨rfl,QBr,fun x hx=>by cases hx⟩
 | k+1,l,h=>by
  obtain ⟨l',h1,h2⟩:=List.mem_flatMap.mp h
  obtain ⟨x,hx,rfl⟩:=List.mem_map.mp h2
  obtain ⟨hx1,hx2⟩:=List.mem_filter.mp hx
  obtain ⟨e1,e2,e3⟩:=J2 k l' h1
  refine ⟨by rw [QAn,e1]; rfl,List.nodup_append.mpr ⟨e2,List.nodup_cons.mpr ⟨by simp,QBr⟩,fun a ha b hb e=>?_⟩,fun y hy=>?_⟩
  ·rw [List.mem_singleton.mp hb] at e
   exact of_decide_eq_true hx2 (e ▸ ha)
  ·rcases List.mem_append.mp hy with z | z
   ·exact e3 y z
   ·rw [List.mem_singleton.mp z]
    exact List.mem_range.mp hx1
inductive Zfb (vs:List V) (H:Hp) (Q:VK):Prop where
 | mk (n:Nat) (_:vs=[.int (n:Int)]) (_:n<=4) (_:∀ l H',H l=none->Same H H'->PL H' l (ZC n n)->Q (.ref l) H'):Zfb vs H Q
noncomputable def Zgv:Sp:=fun vs H Q _=>Zfb vs H Q
section
variable {P:Program} {w:World} {K:PySem.W.Frag} {mg:Str->Option Value} {base:Heap}
theorem scTurns:Zs ["_law_n","_law_found","_law_k","_law_more","_law_some"] ["_law_n"] (Ze Zaf):=⟨rfl,rfl,rfl,by decide +kernel,rfl,by decide +kernel,by decide +kernel⟩
inductive ZdF (H:Hp) (n:Nat) (k:Nat) (σ:St) (H2:Hp):Prop where
 | mk (l:Addr) (v2 v3 v4:Option V) (_:σ=[some (.int (n:Int)),some (.ref l),v2,v3,v4]) (_:Same H H2) (_:PL H2 l (ZC n k)) (_:H l=none):ZdF H n k σ H2
inductive ZdE (n:Nat) (k:Nat) (H2:Hp) (l:Addr) (lm:Addr) (i:Nat) (σ:St) (H4:Hp):Prop where
 | mk (v4:Option V) (zs:List Addr) (_:σ=[some (.int (n:Int)),some (.ref l),some (.int (0+(k:Int))),some (.ref lm),v4]) (_:Same H2 H4) (_:H4 lm=some (.lst (zs.map V.ref))) (_:zs.length<=i*n) (_:Paired (fun p (r:List Nat)=>H4 p=some (.tup ((toI r).map V.int))) zs (((ZC n k).take i).flatMap fun l=>ZaW n l n)):ZdE n k H2 l lm i σ H4
inductive ZdD (n:Nat) (H4:Hp) (p:Addr) (r:List Nat) (lc:Addr) (j:Nat) (ys:List V) (σ:St) (H5:Hp):Prop where
 | mk (v0:Option V) (us:List Addr) (_:σ=[v0,some (.ref p)]) (_:ys=us.map V.ref) (_:Same H4 H5) (_:H5 lc=some (.lst ys)) (_:Paired (fun p (r:List Nat)=>H5 p=some (.tup ((toI r).map V.int))) us (ZaW n r j)):ZdD n H4 p r lc j ys σ H5
theorem Zia {f:Addr} {fd:FuncData} (F:Fun K "_law_turns" "_law_turns" Zaf f fd) (T:Blt mg):FnOk P w K mg base CX0 1 f fd ["_law_n"] Zgv:=by
 refine F.ok scTurns (fun vs H Q E h=>?_) (fun cdv A outer s H vs Q E hr h=>?_)
 ·obtain ⟨_,rfl,_⟩:=h
  rfl
 ·obtain ⟨n,rfl,h4,q⟩:=h
  refine' ⟨_,Zd (Zj (i:=1) scTurns.nd rfl (Or.inl rfl) (Yc (Za (J3 Zc) Zc))) (Zd (Yu PassesOwn.never rfl (Zp rfl T.range (Za (pv 0) Zc)) (ZG (i:=2) scTurns.nd rfl (Or.inl rfl)) (Zd (Zj (i:=3) scTurns.nd rfl (Or.inl rfl) (Yc Zc)) (Zd (Yu PassesOwn.never rfl (Zaw (pv 1)) (ZG (i:=4) scTurns.nd rfl (Or.inr rfl)) (Zg ?b)) (Zg (Zj (i:=1) scTurns.nd rfl (Or.inl rfl) (pv 3)))))) (Zg (Zt (pv 1)))),?rd⟩
  case b=>exact YA (Jj PySem.F.plainAttrs_list PySem.F.slot_list_extend PySem.F.type_list_extend JR (pv 3) (Za (Yr ["_law_thing","_law_some"] [none,some 4] rfl rfl (Zp rfl T.range (Za (pv 0) Zc)) (fun _ _ _ _ _=>Yx 0) (fun _ _ _ _ _=>ZaS (ZR (JQ K) (pv 0) (pv 1) rfl)) (fun _ _ _ _ _=>Zk (Zjk K) (pv 1) (J3 (Za (pv 0) Zc)))) Zc))
  case rd =>
   refine ⟨QAh _,fun p0 f0=>?_⟩
   have s0:Same H (upd H p0 (.tup [])):=Same.new f0
   have g0:(upd H p0 (.tup [])) p0=some (.tup ((toI []).map V.int)):=Zb
   generalize upd H p0 (.tup [])=H0 at s0 g0 ⊢
   refine ⟨(show 1<=sizeLine from Zq (by decide)),fun l0 e0=>?_⟩
   have s1:Same H0 (upd H0 l0 (.lst [.ref p0])):=Same.new e0
   have g1:PL (upd H0 l0 (.lst [.ref p0])) l0 (ZC n 0):=⟨[p0],Zb,.cons (s1 _ _ g0) .nil⟩
   have s01:=s0.trans s1
   generalize upd H0 l0 (.lst [.ref p0])=H1 at s1 g1 s01 ⊢
   refine ⟨_,rfl,(n:Int),rfl,by exact Om.c2,by exact Om.c1 ‹_› rfl,?_⟩
   rw [QAf]
   refine Yk (lo:=0) (n:=n) (ZdF H n) ⟨l0,none,none,none,rfl,s01,g1,s0.free e0⟩ ?_ ?_
   ·rintro k σ H2 hk ⟨l,v2,v3,v4,rfl,s2,⟨ps,hps,hP⟩,_⟩
    have hpl:(ps.map V.ref).length=(ZC n k).length:=by rw [QAa,hP.length]
    have hbd:=Zbf n (by exact Om.f3 ‹_›) k (by exact Om.k316 h4 hk)
    refine ⟨QAh _,fun lm hlm=>?_⟩
    have s3:Same H2 (upd H2 lm (.lst [])):=Same.new hlm
    have g3:(upd H2 lm (.lst [])) lm=some (.lst (([]:List Addr).map V.ref)):=Zb
    generalize upd H2 lm (.lst [])=H3 at s3 g3 ⊢
    refine ⟨_,rfl,l,rfl,⟨_,SqL.of (s3 _ _ hps)⟩,Zam (xs:=ps.map V.ref) (ZdE n k H2 l lm) ⟨_,[],rfl,s3,g3,QAh _,.nil⟩ (fun i σ H4 _ hh=>by obtain ⟨_,_,_,s4,_⟩:=hh; exact SqL.of (s4 _ _ hps)) ?_ ?_⟩
    ·rintro i x σ H4 hx ⟨v4,zs,rfl,s4,h4m,hzl,hZ⟩
     rw [QAe] at hx
     cases hpi:ps[i]? with
     | none=>rw [hpi] at hx; cases hx
     | some p =>
     rw [hpi] at hx
     cases hx
     obtain ⟨r,hri,hpr⟩:=Paired.getL hP hpi
     have hrl:r.length=k:=(J2 k r (QAu hri)).1
     have hi64:i<64:=by have:=(List.getElem?_eq_some_iff.mp hri).1; exact Om.a3 ‹_› ‹_›
     refine ⟨_,rfl,.inl ⟨rfl,_,SqL.of h4m⟩,_,rfl,(n:Int),rfl,by exact Om.c2,by exact Om.c1 ‹_› rfl,fun lc hlc=>?_⟩
     rw [QAf]
     refine ZZ (ZI (n:=n)) (ZdD n H4 p r lc)
      ⟨none,[],rfl,rfl,Same.new hlc,Zb,.nil⟩ (fun j ys σ H5 hh=>by obtain ⟨_,_,_,_,_,hl,_⟩:=hh; exact ⟨trivial,hl⟩) ?_ ?_
     ·rintro j x ys σ H5 hj ⟨v0,us,rfl,rfl,s5,hl5,hU⟩
      obtain ⟨hjn,rfl⟩:=Z3 hj
      have hp5:=s5 _ _ (s4 _ _ hpr)
      refine ⟨_,rfl,_,rfl,p,_,rfl,.inr (SqT.of hp5),rfl,ZM _,_,rfl,?_⟩
      rw [if_pos rfl,Zd4]
      by_cases e:j∈r
      ·rw [decide_eq_true e]
       refine ZaE ⟨_,us,rfl,rfl,s5,hl5,?_⟩
       rw [Zda,if_pos e]
       exact hU
      ·rw [decide_eq_false e]
       refine Zbn ⟨_,rfl,_,rfl,(show 1<=sizeLine from Zq (by decide)),fun t0 ht0=>?_⟩
       have s6:Same H5 (upd H5 t0 (.tup [.int (j:Int)])):=Same.new ht0
       have g6:(upd H5 t0 (.tup [.int (j:Int)])) t0=some (.tup [.int (j:Int)]):=Zb
       generalize upd H5 t0 (.tup [.int (j:Int)])=H6 at s6 g6 ⊢
       refine ⟨p,t0,_,_,rfl,rfl,s6 _ _ hp5,g6,Zq (by rw [QAa,Ye,hrl]; show k+1<=1000; exact Om.k315 h4 hk hrl),fun t H7 s7 ht=>?_⟩
       have s57:=s6.trans s7
       have hl7:=s57 _ _ hl5
       have hul:us.length<=j:=by rw [hU.length]; exact ZeI n r j
       have up:∀ b row,H7 b=some (.tup row)->(upd H7 lc (.lst (us.map V.ref++[.ref t]))) b=some (.tup row):=fun b row e=>by
        rw [Zf (YV e hl7 (by intro z; cases z))]
        exact e
       have ht':H7 t=some (.tup ((toI (r++[j])).map V.int)):=by rw [ht,JV,QAm]; rfl
       refine ⟨hl7,by rw [QAa]; exact Zw (by exact Om.k314 h4 hjn hul),_,us++[t],rfl,by rw [QAm]; rfl,fun b u e=>?_,Zb,?_⟩
       ·rw [Zf (Zh e hlc)]
        exact s57 _ _ (s5 _ _ e)
       ·rw [Zda,if_neg e]
        exact Paired.snoc (Paired.mapP hU fun _ _ z=>up _ _ (s57 _ _ z)) (up _ _ ht')
     ·rintro ys σ H5 ⟨v0,us,rfl,rfl,s5,hl5,hU⟩
      rw [Zr] at hU
      have h5m:=s5 _ _ h4m
      have hul:us.length<=n:=by rw [hU.length]; exact ZeI n r n
      have hin:i*n<=64*4:=QCf (by exact Om.d1 ‹_›) h4
      have up:∀ b row,H5 b=some (.tup row)->(upd H5 lm (.lst (zs.map V.ref++us.map V.ref))) b=some (.tup row):=fun b row e=>by
       rw [Zf (YV e h5m (by intro z; cases z))]
       exact e
      refine ⟨lm,lc,_,_,rfl,rfl,h5m,hl5,by rw [QAa,QAa]; exact Zq (by exact Om.k313 h4 hzl hul hin),_,zs++us,rfl,fun b u e=>?_,?_,?_,?_⟩
      ·rw [Zf (Zh e hlm)]
       exact s5 _ _ (s4 _ _ e)
      ·rw [Zb,QAm]
      ·rw [QAn,QCp]
       exact Om.k312 hzl hul
      ·have et:(ZC n k).take (i+1)=(ZC n k).take i++[r]:=by rw [QBy,hri]; rfl
       rw [et,QDi,QCs,QDj,QBh]
       exact Paired.append (Paired.mapP hZ fun _ _ z=>up _ _ (s5 _ _ z)) (Paired.mapP hU fun _ _ z=>up _ _ z)
    ·rintro σ H4 ⟨v4,zs,rfl,s4,h4m,_,hZ⟩
     rw [hpl,QBc (QAc _),<- ZfV] at hZ
     exact ⟨_,rfl,lm,_,_,_,rfl,s2.trans s4,⟨zs,h4m,hZ⟩,s2.free hlm⟩
   ·rintro σ H2 ⟨l,v2,v3,v4,rfl,s2,hP,hf⟩
    exact ⟨_,rfl,q l H2 hf s2 hP⟩
end
end My
namespace L2
open PySem PySem.Spec PyProof.Rows PySem.W SeqAt
section
variable {prog:Program} {w:World} {A:Around} {E:Value->Shared->Prop} {s:Shared}
end
end L2
namespace L2
open PySem PySem.Spec PyProof.Rows PySem.W SeqAt
section
variable {prog:Program} {w:World} {A:Around} {E:Value->Shared->Prop} {s:Shared}
theorem ZcL {a:Addr} {vs:List Value} {n:Nat} {P:PySem.Fin->Shared->Prop} (ho:s.heap.get? a=some (seqObj "list" vs.toArray n)) (h2:vs.length<2)
  (h:∀ h' e,(∀ b o,b≠a->s.heap.get? b=some o->h'.get? b=some o)->h'.get? a=some (seqObj "list" vs.toArray e)->P (.done (.ret .none)) { s with heap:=h' }) :
  wpAny (model prog w) A (Builtin.«list.sort» ⟨[.ref a],[]⟩) P E s:=by
 obtain ⟨e1,ho1⟩:∃ e1,(s.heap.update a (Obj.mapSeq fun _=>(#[]:Array Value))).get? a=some (seqObj "list" #[] e1):=⟨_,get?_update_seq ho fun _=>#[]⟩
 have keep:∀ b o,b≠a->s.heap.get? b=some o->(((s.heap.update a (Obj.mapSeq fun _=>(#[]:Array Value))).push (seqObj "tuple" vs.toArray 0)).push (seqObj "list" #[] 0)).get? b=some o:=fun b o hb e=>by
  refine QAk _ (QAk _ ?_)
  rw [Heap.get?_update_ne _ _ _ _ hb]
  exact e
 have ho6:(((s.heap.update a (Obj.mapSeq fun _=>(#[]:Array Value))).push (seqObj "tuple" vs.toArray 0)).push (seqObj "list" #[] 0)).get? a=some (seqObj "list" #[] e1):=QAk _ (QAk _ ho1)
 rw [list_sort_plain]
 refine wpAny_bind (listItems_at ho rfl ?_)
 refine wpAny_bind (listUpdate_at ho rfl ?_ (by rw [QAg,sizeLine_eq]; exact Om.k310 h2) (QAh _))
 refine wpAny_bind (seqEpoch_at ho1 rfl ?_)
 refine wpAny_bind (wpAny_newTuple ?_ (by show vs.length<=_; rw [sizeLine_eq]; exact Om.k310 h2))
 refine wpAny_bind (wpAny_newList ?_ (QAh _))
 refine wpAny_holding ?_
 show wpAny (model prog w) A _ P E { s with heap:=((s.heap.update a (Obj.mapSeq fun _=>(#[]:Array Value))).push (seqObj "tuple" vs.toArray 0)).push (seqObj "list" #[] 0) }
 dsimp only
 have hn2:vs.toArray.size<2:=by rw [QAg]; assumption
 rw [if_pos hn2,if_pos hn2]
 refine wpAny_bind (wpAny_pure ?_)
 refine wpAny_bind (wpAny_pure ?_)
 have hout:Array.map (fun x:Value × Value=>x.snd) (arrOf (SortSt.mk' general' (vs.toArray.zip vs.toArray) #[] 7 none))=vs.toArray:=by
  show Array.map (fun x:Value × Value=>x.snd) (vs.toArray.zip vs.toArray)=vs.toArray
  refine Array.ext (by simp) fun i h1 h2=>?_
  simp
 refine wpAny_bind (seqEpoch_at ho6 rfl ?_)
 dsimp only
 rw [hout]
 refine wpAny_bind (listUpdate_at ho6 rfl ?_ (QAh _) (by rw [QAg,sizeLine_eq]; exact Om.k311 h2))
 show wpAny (model prog w) A (if (e1 != e1)=true then _ else ret Value.none) P E _
 rw [if_neg (by simp)]
 obtain ⟨e2,ho7⟩:∃ e2,((((s.heap.update a (Obj.mapSeq fun _=>(#[]:Array Value))).push (seqObj "tuple" vs.toArray 0)).push (seqObj "list" #[] 0)).update a (Obj.mapSeq fun _=>vs.toArray)).get? a=some (seqObj "list" vs.toArray e2):=⟨_,get?_update_seq ho6 fun _=>vs.toArray⟩
 refine wpAny_pure (h _ e2 (fun b o hb e=>?_) ho7)
 rw [Heap.get?_update_ne _ _ _ _ hb]
 exact keep b o hb e
end
end L2
namespace L2
open PySem PySem.Spec PyProof.Rows PySem.W SeqAt
section
variable {prog:Program} {w:World} {A:Around} {E:Value->Shared->Prop} {s:Shared}
theorem ZfL {d:Addr} {vs:List Value} {Q:Value->Shared->Prop} (hl:s.heap.IsList d vs.toArray) (h2:vs.length<2)
  (h:∀ (l:Addr) (h1 h':Heap) (e:Nat),(∀ b o,s.heap.get? b=some o->h1.get? b=some o)->h1.objs.size<=l->(∀ b o,h1.get? b=some o->h'.get? b=some o)->h'.get? l=some (seqObj "list" vs.toArray e)->Q (.ref l) { s with heap:=h' }) :
  wpAny (model prog w) A (call (.builtin "sorted") [.ref d]) Q E s:=by
 obtain ⟨o,ho,hc,n,hd⟩:=id hl
 refine Calls.call_function_entry kind_sorted plain_sorted entry_sorted (args_sorted1 _) ?_
 unfold Builtin.«sorted»
 refine wpAny_bind (m:=checkCount "sorted" 1 1 _) (wpAny_pure (wpAny_bind ?_))
 have hz:vs.toArray.size<=sizeLine:=by rw [QAg,sizeLine_eq]; exact Om.k310 h2
 refine wpAny_collect_seq (hsz:=hz) d (.inl rfl) ho hc hd fun h1 k1=>?_
 rw [List.toList_toArray]
 refine wpAny_bind (wpAny_newList ?_ (by rw [sizeLine_eq]; exact Om.k310 h2))
 have g:(h1.push (seqObj "list" vs.toArray 0)).get? h1.objs.size=some (seqObj "list" vs.toArray 0):=QAx _ rfl
 refine wpAny_bind (wpAny_holding (wpAny_call_entry slot_list_sort ⟨_,g,rfl⟩ entry_list_sort (ZcL g h2 fun h' e kp he=>⟨_,rfl,?_⟩) (args_list_sort _)))
 refine wpAny_pure ⟨_,rfl,h h1.objs.size h1 h' e k1 (QAc _) (fun b o x=>?_) he⟩
 have hb:=QAi x
 exact kp b o (QBa hb) (QAk _ x)
end
end L2
namespace L2
open PySem PySem.Spec PyProof.Rows PySem.W SeqAt
section
variable {n:Nat} (h0:0<n)
include h0
end
section
variable {prog:Program} {w:World} {A:Around} {E:Value->Shared->Prop} {s:Shared}
noncomputable def GrAt (h:Heap):List Value->List (List Int)->Prop:=Paired fun v row=>∃ a us,v=Value.ref a/\h.IsTuple a (List.toArray us)/\IntsAre us row
theorem GrAt.keep {h h':Heap} {us:List Value} {r:List (List Int)} (x:GrAt h us r) (k:∀ b o,o.cls = .type "tuple" -> h.get? b=some o->h'.get? b=some o):GrAt h' us r :=
 Paired.mapP x fun _ _ ⟨a,u,e,⟨o,g,c,d⟩,i⟩=>⟨a,u,e,⟨o,k _ _ c g,c,d⟩,i⟩
noncomputable def Zck:List (List Int)->List (List Int)->Bool
 | x::xs,y::ys=>if x=y then Zck xs ys else Zcl x y
 | _,_=>false
theorem ZeO {k:Nat} {Q:Bool->Shared->Prop} (hu:A.units<cLine):∀ {us vs:List Value} {p q:List (List Int)} {i:Nat},GrAt s.heap us p->GrAt s.heap vs q->(∀ x∈p,x.length=k)->(∀ x∈q,x.length=k)->p.length=q.length->Q (Zck p q) s->KatLex prog w A false false Q (us.zip vs) i s
 | _,_,_,_,_,.nil,.nil,_,_,_,h=>h
 | _,_,_,_,_,.cons _ _,.nil,_,_,e,_=>by cases e
 | _,_,_,_,_,.nil,.cons _ _,_,_,e,_=>by cases e
 | _,_,x::xs,y::ys,i,.cons ⟨a,u,ea,ta,ia⟩ r,.cons ⟨b,v,eb,tb,ib⟩ r',hx,hy,e,h=>by
  subst ea
  subst eb
  have l:x.length=y.length:=(hx x QAj).trans (hy y QAj).symm
  refine kat_cons (ZjO ta tb ia ib l hu prog w _ _ ?_)
  unfold Zck at h
  by_cases hxy:x=y
  ·rw [decide_eq_true hxy]
   rw [if_pos hxy] at h
   exact kat_yes (ZeO hu r r' (fun z hz=>hx z (QAo _ hz)) (fun z hz=>hy z (QAo _ hz)) (Nat.succ.inj e) h)
  ·rw [decide_eq_false hxy]
   rw [if_neg hxy] at h
   exact kat_no (kat_one _ _ (Zjy ta tb ia ib l hu h))
noncomputable def Grs (h:Heap):List Value->List (List (List Int))->Prop:=Paired fun v r=>∃ a o us n,v=Value.ref a/\h.get? a=some o/\o.cls = .type "tuple" /\ o.data = .seq (List.toArray us) n/\GrAt h us r
theorem Zcr {h:Heap} {M:Model}:∀ {vs:List Value} {S:List (List (List Int))},Grs h vs S->(∀ r∈S,r≠[])->∃ fs,KatTups h vs fs/\fs.length=vs.length/\∀ v∈fs,Looks M h (typeOf v) (.type "tuple")
 | _,_,.nil,_=>⟨[],.nil,rfl,fun v hv=>by cases hv⟩
 | _,_,.cons ⟨a,o,us,n,e,g,c,d,gr⟩ t,hS=>by
  subst e
  obtain ⟨fs,k,hl,hT⟩:=Zcr (M:=M) t fun r hr=>hS r (QAo _ hr)
  have h0:=hS _ QAj
  cases gr with
  | nil=>exact absurd rfl h0
  | cons x r =>
   obtain ⟨a1,u1,e1,⟨o1,g1,c1,d1⟩,_⟩:=x
   subst e1
   refine ⟨.ref a1::fs,KatTups.cons g c d rfl k,by rw [QAy,QAy,hl],fun v hv=>?_⟩
   rcases List.mem_cons.mp hv with e | hv
   ·subst e
    exact fun A Q E s k q=>wpAny_typeOf_ref (k _ _ g1) (by rw [c1]; exact q)
   ·exact hT v hv
end
end L2
namespace SM
open PySem PyProof.Rows
noncomputable def ZgT:Bool->Keyed->Array Keyed->Nat->Nat->Nat->StateT SortSt Sem (Option Nat):=sortPriv% PySem.Builtin.gallop
noncomputable def g (a:Array Keyed) (i:Nat):Keyed:=a.getD i (Value.none,Value.none)
theorem g_eq {a:Array Keyed} {i:Nat} (h:i<a.size):a[i]? = some (g a i):=by
 unfold g
 rw [QEs,getElem?_pos a i h]
 rfl
theorem ZlE {a:Array Keyed} {i:Nat} (h:i<a.size):g a i∈a.toList:=by
 have:=Array.mem_of_getElem? (g_eq h)
 exact Array.mem_toList_iff.mpr this
noncomputable def byB (rk:Keyed->Int) (left:Bool) (key x:Keyed):Bool:=if left=true then decide (rk x<rk key) else !decide (rk key<rk x)
section
variable {M:Model} {A:Around} {E:Value->Shared->Prop} {s:Shared} {rk:Keyed->Int} {κ:SortKind} {P:Keyed->Prop}
noncomputable def LtOk (M:Model) (A:Around) (E:Value->Shared->Prop) (s:Shared) (rk:Keyed->Int) (κ:SortKind) (P:Keyed->Prop):Prop :=
 ∀ (x y:Keyed) (st:SortSt) (Q:Option Bool->SortSt->Prop),P x->P y->kindOf st=κ->Q (some (decide (rk x<rk y))) st->wpS M A E s (lt' x y) Q st
theorem ZN {arr:Array Keyed} {i:Nat} {st:SortSt} {Q:Keyed->SortSt->Prop} (h:i<arr.size) (q:Q (g arr i) st):wpS M A E s (elem' arr i) Q st:=by
 rw [elem'_eq,g_eq h]
 exact wpS_pure q
theorem Zeg (L:LtOk M A E s rk κ P) {left:Bool} {key:Keyed} {arr:Array Keyed} {j:Nat} {st:SortSt} {Q:Option Bool->SortSt->Prop} (h:j<arr.size) (hk:P key) (hx:P (g arr j)) (hst:kindOf st=κ) (q:Q (some (byB rk left key (g arr j))) st) :
  wpS M A E s (elem' arr j >>= fun x=>if left=true then lt' x key else lt' key x >>= fun r=>pure (Option.map (fun x=>!x) r)) Q st:=by
 refine wpS_bind (ZN h ?_)
 unfold byB at q
 cases left with
 | true=>exact L _ _ _ _ hx hk hst q
 | false=>exact wpS_bind (L _ _ _ _ hk hx hst (wpS_pure q))
theorem Za8 (L:LtOk M A E s rk κ P) {left:Bool} {key:Keyed} {arr:Array Keyed} {base n hint:Nat} {st:SortSt} {Q:Option Nat->SortSt->Prop} (hk:P key) (hP:∀ i,i<n->P (g arr (base+i))) (hz:base+n<=arr.size) (hh:hint<n)
  (hs:∀ i j,i<=j->j<n->rk (g arr (base+i))<=rk (g arr (base+j))) (hst:kindOf st=κ)
  (h:∀ k,k<=n->(∀ i,i<k->byB rk left key (g arr (base+i))=true)->(∀ i,k<=i->i<n->byB rk left key (g arr (base+i))=false)->Q (some k) st):wpS M A E s (ZgT left key arr base n hint) Q st:=by
 have up:∀ i j,i<=j->j<n->byB rk left key (g arr (base+j))=true->byB rk left key (g arr (base+i))=true:=by
  intro i j hij hj hb
  have:=hs i j hij hj
  unfold byB at hb ⊢
  cases left
  ·simp only [QDb,if_false,Bool.not_eq_true',decide_eq_false_iff_not] at hb ⊢
   omega
  ·simp only [if_true,decide_eq_true_eq] at hb ⊢
   omega
 have dn:∀ i j,i<=j->j<n->byB rk left key (g arr (base+i))=false->byB rk left key (g arr (base+j))=false:=by
  intro i j hij hj hb
  cases e:byB rk left key (g arr (base+j)) with
  | false=>rfl
  | true=>rw [up i j hij hj e] at hb; cases hb
 refine wpS_bind (Zeg L (by exact Om.k158 hz hh) hk (hP _ hh) hst ?_)
 dsimp only
 cases hb:byB rk left key (g arr (base+hint)) with
 | true =>
  rw [if_pos rfl]
  refine wpS_bind (wpS_mono (wpS_forRange
   (I:=fun x c st'=>st=st'/\∃ la of,c=(none,la,of)/\la<n - hint/\la<of/\x<of/\byB rk left key (g arr (base+(hint+la)))=true)
   (Q:=fun c st'=>st=st'/\∃ la of,c=(none,la,of)/\la<n - hint/\la<of/\byB rk left key (g arr (base+(hint+la)))=true/\(of<n - hint->byB rk left key (g arr (base+(hint+of)))=false)) ?_ ?_ ⟨rfl,0,1,rfl,by exact Om.k309 hh,by exact Om.k300 ,by exact Om.k300 ,hb⟩) ?_)
  ·rintro x c st' _ hx ⟨rfl,la,of,rfl,h1,h2,h3,h4⟩
   dsimp only
   by_cases ho:of>=n - hint
   ·rw [if_pos ho]
    exact wpS_pure ⟨rfl,la,of,rfl,h1,h2,h4,fun z=>by exact (Om.k308 ho z).elim⟩
   ·rw [if_neg ho]
    refine wpS_bind (Zeg L (by exact Om.k307 hz hh ho) hk (hP _ (by exact Om.k306 hh ho)) hst ?_)
    dsimp only
    cases hc:byB rk left key (g arr (base+(hint+of))) with
    | true=>exact wpS_pure ⟨rfl,of,2*of+1,rfl,by exact Om.k305 ho,by exact Om.k295 ,by exact Om.k294 h2 h3,hc⟩
    | false=>exact wpS_pure ⟨rfl,la,of,rfl,h1,h2,h4,fun _=>hc⟩
  ·rintro c st' ⟨rfl,la,of,rfl,h1,h2,h3,h4⟩
   exact ⟨rfl,la,of,rfl,h1,h2,h4,fun z=>by exact (Om.k304 hh h3 z).elim⟩
  ·rintro c st' ⟨rfl,la,of,rfl,h1,h2,h3,h4⟩
   dsimp only
   refine wpS_bind (wpS_mono (wpS_forRange
    (I:=fun x c st'=>st=st'/\∃ lo hi,c=(none,lo,hi)/\lo<=hi/\hi<=n/\hi - lo<=n - x/\(∀ i,i<lo->byB rk left key (g arr (base+i))=true)/\∀ i,hi<=i->i<n->byB rk left key (g arr (base+i))=false)
    (Q:=fun c st'=>st=st'/\∃ lo hi,c=(none,lo,hi)/\hi<=n/\(∀ i,i<hi->byB rk left key (g arr (base+i))=true)/\∀ i,hi<=i->i<n->byB rk left key (g arr (base+i))=false) ?_ ?_
    ⟨rfl,hint+la+1,hint+min of (n - hint),rfl,by exact Om.k303 h1 h2,by omega,by omega,fun i hi=>up i _ (by exact Om.k302 hi) (by omega) h3,fun i hi hn=>dn (hint+of) i (by omega) hn (h4 (by omega))⟩) ?_)
   ·rintro x c st' _ hx ⟨rfl,lo,hi,rfl,h1,h2,h3,h4,h5⟩
    dsimp only
    by_cases ho:lo>=hi
    ·rw [if_pos ho]
     exact wpS_pure ⟨rfl,lo,hi,rfl,h2,fun i hi=>h4 i (by exact Om.a3 ‹_› ‹_›),h5⟩
    ·rw [if_neg ho]
     refine wpS_bind (Zeg L (by exact Om.k286 hz h2 ho) hk (hP _ (by exact Om.k282 h2 ho)) hst ?_)
     dsimp only
     cases hc:byB rk left key (g arr (base+(lo+(hi - lo) / 2))) with
     | true=>exact wpS_pure ⟨rfl,_,hi,rfl,by exact Om.k285 ho,by assumption,by exact Om.k284 hx h3 ho,fun i hi=>up i _ (by exact Om.k283 hi) (by exact Om.k282 h2 ho) hc,h5⟩
     | false=>exact wpS_pure ⟨rfl,lo,_,rfl,by exact Om.k281 ,by exact Om.k280 h2 ho,by exact Om.k279 hx h3 ho,h4,fun i hi hn=>dn _ i hi hn hc⟩
   ·rintro c st' ⟨rfl,lo,hi,rfl,h1,h2,h3,h4,h5⟩
    exact ⟨rfl,lo,hi,rfl,h2,fun i hi=>h4 i (by exact Om.k278 h1 h3 hi),h5⟩
   ·rintro c st' ⟨rfl,lo,hi,rfl,h2,h4,h5⟩
    exact wpS_pure (h hi h2 h4 h5)
 | false =>
  rw [if_neg (by simp)]
  refine wpS_bind (wpS_mono (wpS_forRange
   (I:=fun x c st'=>st=st'/\∃ la of,c=(none,la,of)/\la<hint+1/\la<of/\x<of/\byB rk left key (g arr (base+(hint - la)))=false)
   (Q:=fun c st'=>st=st'/\∃ la of,c=(none,la,of)/\la<hint+1/\la<of/\byB rk left key (g arr (base+(hint - la)))=false/\(of<hint+1->byB rk left key (g arr (base+(hint - of)))=true)) ?_ ?_ ⟨rfl,0,1,rfl,by exact Om.k301 ,by exact Om.k300 ,by exact Om.k300 ,hb⟩) ?_)
  ·rintro x c st' _ hx ⟨rfl,la,of,rfl,h1,h2,h3,h4⟩
   dsimp only
   by_cases ho:of>=hint+1
   ·rw [if_pos ho]
    exact wpS_pure ⟨rfl,la,of,rfl,h1,h2,h4,fun z=>by exact (Om.k299 ho z).elim⟩
   ·rw [if_neg ho]
    refine wpS_bind (Zeg L (by exact Om.k298 hz hh ‹_› h3 ho) hk (hP _ (by exact Om.k297 hh ‹_› h3 ho)) hst ?_)
    dsimp only
    cases hc:byB rk left key (g arr (base+(hint - of))) with
    | false=>exact wpS_pure ⟨rfl,of,2*of+1,rfl,by exact Om.k296 ho,by exact Om.k295 ,by exact Om.k294 h2 h3,hc⟩
    | true=>exact wpS_pure ⟨rfl,la,of,rfl,h1,h2,h4,fun _=>hc⟩
  ·rintro c st' ⟨rfl,la,of,rfl,h1,h2,h3,h4⟩
   exact ⟨rfl,la,of,rfl,h1,h2,h4,fun z=>by exact (Om.k293 hh h3 z).elim⟩
  ·rintro c st' ⟨rfl,la,of,rfl,h1,h2,h3,h4⟩
   dsimp only
   refine wpS_bind (wpS_mono (wpS_forRange
    (I:=fun x c st'=>st=st'/\∃ lo hi,c=(none,lo,hi)/\lo<=hi/\hi<=n/\hi - lo<=n - x/\(∀ i,i<lo->byB rk left key (g arr (base+i))=true)/\∀ i,hi<=i->i<n->byB rk left key (g arr (base+i))=false)
    (Q:=fun c st'=>st=st'/\∃ lo hi,c=(none,lo,hi)/\hi<=n/\(∀ i,i<hi->byB rk left key (g arr (base+i))=true)/\∀ i,hi<=i->i<n->byB rk left key (g arr (base+i))=false) ?_ ?_
    ⟨rfl,hint+1 - min of (hint+1),hint - la,rfl,by exact Om.k292 h1 h2,by exact Om.k291 hh h1,by exact Om.k290 hh,fun i hi=>up i (hint - of) (by exact Om.k289 hi) (by exact Om.k288 hh h1 h2) (h4 (by exact Om.k287 hi)),fun i hi hn=>dn (hint - la) i hi hn h3⟩) ?_)
   ·rintro x c st' _ hx ⟨rfl,lo,hi,rfl,h1,h2,h3,h4,h5⟩
    dsimp only
    by_cases ho:lo>=hi
    ·rw [if_pos ho]
     exact wpS_pure ⟨rfl,lo,hi,rfl,h2,fun i hi=>h4 i (by exact Om.a3 ‹_› ‹_›),h5⟩
    ·rw [if_neg ho]
     refine wpS_bind (Zeg L (by exact Om.k286 hz h2 ho) hk (hP _ (by exact Om.k282 h2 ho)) hst ?_)
     dsimp only
     cases hc:byB rk left key (g arr (base+(lo+(hi - lo) / 2))) with
     | true=>exact wpS_pure ⟨rfl,_,hi,rfl,by exact Om.k285 ho,by assumption,by exact Om.k284 hx h3 ho,fun i hi=>up i _ (by exact Om.k283 hi) (by exact Om.k282 h2 ho) hc,h5⟩
     | false=>exact wpS_pure ⟨rfl,lo,_,rfl,by exact Om.k281 ,by exact Om.k280 h2 ho,by exact Om.k279 hx h3 ho,h4,fun i hi hn=>dn _ i hi hn hc⟩
   ·rintro c st' ⟨rfl,lo,hi,rfl,h1,h2,h3,h4,h5⟩
    exact ⟨rfl,lo,hi,rfl,h2,fun i hi=>h4 i (by exact Om.k278 h1 h3 hi),h5⟩
   ·rintro c st' ⟨rfl,lo,hi,rfl,h2,h4,h5⟩
    exact wpS_pure (h hi h2 h4 h5)
end
end SM
namespace SM
open PySem PyProof.Rows
noncomputable def Le (rk:Keyed->Int) (x y:Keyed):Prop:=rk x<=rk y
structure MI (rk:Keyed->Int) (a b out:List Keyed) (ia ib:Nat):Prop where
 perm:(out++(a.drop ia++b.drop ib)).Perm (a++b)
 srt:out.Pairwise (Le rk)
 le:∀ x∈out,∀ y∈a.drop ia++b.drop ib,rk x<=rk y
theorem MI.swap {rk:Keyed->Int} {a b out:List Keyed} {ia ib:Nat} (h:MI rk a b out ia ib):MI rk b a out ib ia :=
 ⟨((List.perm_append_comm.append_left out).trans h.perm).trans List.perm_append_comm,h.srt,fun x hx y hy=>h.le x hx y (List.mem_append.mpr (List.mem_append.mp hy).symm)⟩
theorem MI.take {rk:Keyed->Int} {a b out:List Keyed} {ia ib:Nat} (h:MI rk a b out ia ib) (ha:a.Pairwise (Le rk)) (k:Nat) (hk:∀ x∈(a.drop ia).take k,∀ y∈b.drop ib,rk x<=rk y):MI rk a b (out++(a.drop ia).take k) (ia+k) ib:=by
 have e:a.drop ia=(a.drop ia).take k++a.drop (ia+k):=by rw [<- List.drop_drop]; exact (QCl k _).symm
 have sa:((a.drop ia).take k++a.drop (ia+k)).Pairwise (Le rk):=by rw [<- e]; exact ha.sublist (List.drop_sublist _ _)
 have sp:=List.pairwise_append.mp sa
 refine ⟨?_,List.pairwise_append.mpr ⟨h.srt,sp.1,fun x hx y hy=>h.le x hx y (QBf _ (List.mem_of_mem_take hy))⟩,fun x hx y hy=>?_⟩
 ·have:=h.perm
  rw [e] at this
  simpa only [QBo] using this
 ·rcases List.mem_append.mp hx with hx | hx
  ·refine h.le x hx y ?_
   rcases List.mem_append.mp hy with hy | hy
   ·rw [e]; exact QBf _ (QBg _ hy)
   ·exact QBg _ hy
  ·rcases List.mem_append.mp hy with hy | hy
   ·exact sp.2.2 x hx y hy
   ·exact hk x hx y hy
noncomputable def Mrg (rk:Keyed->Int) (a b m:List Keyed):Prop:=m.Perm (a++b)/\m.Pairwise (Le rk)
theorem MI.fin {rk:Keyed->Int} {a b out:List Keyed} {ia ib:Nat} (h:MI rk a b out ia ib) {l:List Keyed} (hl:l.Perm (a.drop ia++b.drop ib)) (hs:l.Pairwise (Le rk)):Mrg rk a b (out++l) :=
 ⟨(hl.append_left out).trans h.perm,List.pairwise_append.mpr ⟨h.srt,hs,fun x hx y hy=>h.le x hx y (hl.mem_iff.mp hy)⟩⟩
theorem MI.done {rk:Keyed->Int} {a b out:List Keyed} {ia ib:Nat} (h:MI rk a b out ia ib) (ha:a.Pairwise (Le rk)) (hb:b.Pairwise (Le rk)) (e:a.length<=ia\/b.length<=ib):Mrg rk a b (out++a.drop ia++b.drop ib):=by
 rw [QBo]
 refine h.fin (List.Perm.refl _) ?_
 rcases e with e | e
 ·rw [List.drop_eq_nil_of_le e]; exact hb.sublist (List.drop_sublist _ _)
 ·rw [List.drop_eq_nil_of_le e,QBh]; exact ha.sublist (List.drop_sublist _ _)
theorem MI.last {rk:Keyed->Int} {a b out:List Keyed} {ia ib:Nat} (h:MI rk a b out ia ib) (ha:a.Pairwise (Le rk)) (hb:b.Pairwise (Le rk)) (hl:∀ x∈b,∀ y∈a.drop (a.length - 1),rk x<=rk y) (e:ia+1=a.length):Mrg rk a b (out++b.drop ib++a.drop ia):=by
 rw [QBo]
 have:ia=a.length - 1:=by exact Om.k277 e
 refine h.fin List.perm_append_comm (List.pairwise_append.mpr ⟨hb.sublist (List.drop_sublist _ _),ha.sublist (List.drop_sublist _ _),fun x hx y hy=>hl x (List.mem_of_mem_drop hx) y (by rw [<- this]; exact hy)⟩)
theorem ZkW {a:Array Keyed} {i:Nat} (h:i<a.size):a.toList.drop i=g a i::a.toList.drop (i+1):=by
 have e:=g_eq h
 have hl:i<a.toList.length:=by simpa using h
 rw [QBl hl]
 congr 1
 rw [QCg]
 rw [getElem?_pos a i h] at e
 exact Option.some.inj e
theorem Zcs {a:Array Keyed} {i:Nat} (h:i<a.size):(a.toList.drop i).take 1=[g a i]:=by
 rw [ZkW h]; rfl
theorem Zan (a:Array Keyed) (i k:Nat):(a.extract i (i+k)).toList=(a.toList.drop i).take k:=by
 rw [Array.toList_extract,QEu]
 congr 1
 exact Om.k276 
theorem Za5 (a:Array Keyed) (i:Nat):(a.extract i a.size).toList=a.toList.drop i:=by
 rw [Array.toList_extract,QEu]
 exact QBc (by rw [QBn,QAv]; exact Om.k275 )
theorem JJ {a:Array Keyed} {i:Nat} {x:Keyed} (hx:x∈a.toList.drop i):∃ j,i<=j/\j<a.size/\x=g a j:=by
 obtain ⟨j,hj,e⟩:=List.mem_iff_getElem.mp hx
 rw [QBn,QAv] at hj
 refine ⟨i+j,by exact Om.k114 ,by exact Om.k238 hj,?_⟩
 rw [<- e,List.getElem_drop,QCg]
 have:=g_eq (a:=a) (i:=i+j) (by exact Om.k238 hj)
 rw [getElem?_pos a (i+j) (by exact Om.k238 hj)] at this
 exact Option.some.inj this
theorem ZjF {a:Array Keyed} {i k:Nat} {x:Keyed} (hx:x∈(a.toList.drop i).take k):∃ j,j<k/\i+j<a.size/\x=g a (i+j):=by
 obtain ⟨j,hj,e⟩:=List.mem_iff_getElem.mp hx
 rw [QAt,QBn,QAv] at hj
 refine ⟨j,by exact Om.k274 hj,by exact Om.k273 hj,?_⟩
 rw [<- e,List.getElem_take,List.getElem_drop,QCg]
 have:=g_eq (a:=a) (i:=i+j) (by exact Om.k273 hj)
 rw [getElem?_pos a (i+j) (by exact Om.k273 hj)] at this
 exact Option.some.inj this
theorem Zd7 {rk:Keyed->Int} {a:Array Keyed} (ha:a.toList.Pairwise (Le rk)) {i j:Nat} (hij:i<=j) (hj:j<a.size):rk (g a i)<=rk (g a j):=by
 rcases QCq i j with h | h
 ·have h1:=List.pairwise_iff_getElem.mp ha i j (by simpa using (by exact Om.k119 hj h:i<a.size)) (by simpa using hj) h
  rw [QCg,QCg] at h1
  have e1:=g_eq (a:=a) (i:=i) (by exact Om.k119 hj h)
  have e2:=g_eq hj
  rw [getElem?_pos a i (by exact Om.k119 hj h)] at e1
  rw [getElem?_pos a j hj] at e2
  rw [<- Option.some.inj e1,<- Option.some.inj e2]
  exact h1
 ·have:i=j:=by exact Om.k118 hij h
  rw [this]; exact QCn _
end SM
namespace SM
open PySem PyProof.Rows
noncomputable def Zio:Array Keyed->Array Keyed->StateT SortSt Sem (Array Keyed):=sortPriv% PySem.Builtin.mergeLo
noncomputable def Sim (st st':SortSt):Prop:=kindOf st'=kindOf st/\arrOf st'=arrOf st/\pendingOf st'=pendingOf st/\failedOf st'=failedOf st
theorem Sim.rfl' (st:SortSt):Sim st st:=⟨rfl,rfl,rfl,rfl⟩
theorem by_no {rk:Keyed->Int} {key x:Keyed}:byB rk false key x=true↔rk x<=rk key:=by
 unfold byB
 simp
theorem by_no' {rk:Keyed->Int} {key x:Keyed}:byB rk false key x=false↔rk key<rk x:=by
 unfold byB
 simp
theorem by_yes {rk:Keyed->Int} {key x:Keyed}:byB rk true key x=true↔rk x<rk key:=by
 unfold byB
 simp
theorem by_yes' {rk:Keyed->Int} {key x:Keyed}:byB rk true key x=false↔rk key<=rk x:=by
 unfold byB
 simp
section
variable {M:Model} {A:Around} {E:Value->Shared->Prop} {s:Shared} {rk:Keyed->Int} {κ:SortKind} {P:Keyed->Prop}
theorem JU (L:LtOk M A E s rk κ P) {left:Bool} {key:Keyed} {arr:Array Keyed} {base n hint:Nat} {st:SortSt} {Q:Option Nat->SortSt->Prop} (hk:P key) (hP:∀ i,i<arr.size->P (g arr i)) (hz:base+n<=arr.size) (hh:hint<n)
  (hs:arr.toList.Pairwise (Le rk)) (hst:kindOf st=κ)
  (h:∀ k,k<=n->(∀ i,i<k->byB rk left key (g arr (base+i))=true)->(∀ i,k<=i->i<n->byB rk left key (g arr (base+i))=false)->Q (some k) st):wpS M A E s (ZgT left key arr base n hint) Q st :=
 Za8 L hk (fun i hi=>hP _ (by exact Om.k158 hz hi)) hz hh (fun i j hij hj=>Zd7 hs (by exact Om.k113 hij) (by exact Om.k158 hz hj)) hst h
theorem ZfE (L:LtOk M A E s rk κ P) {a b:Array Keyed} {st:SortSt} {Q:Array Keyed->SortSt->Prop} (hPa:∀ i,i<a.size->P (g a i)) (hPb:∀ i,i<b.size->P (g b i)) (ha:a.toList.Pairwise (Le rk)) (hb:b.toList.Pairwise (Le rk)) (ha0:0<a.size) (hb0:0<b.size)
  (h0:∀ y∈a.toList,rk (g b 0)<=rk y) (hl:∀ x∈b.toList,∀ y∈a.toList.drop (a.toList.length - 1),rk x<=rk y) (hst:kindOf st=κ)
  (h:∀ m st',Sim st st'->Mrg rk a.toList b.toList m.toList->Q m st'):wpS M A E s (Zio a b) Q st:=by
 have la:a.toList.length=a.size:=QAv
 have lb:b.toList.length=b.size:=QAv
 have fd:∀ {out:Array Keyed} {ia ib:Nat},MI rk a.toList b.toList out.toList ia ib->a.size<=ia\/b.size<=ib->Mrg rk a.toList b.toList (out++a.extract ia a.size++b.extract ib b.size).toList:=fun i e=>by
  rw [QBz,QBz,Za5,Za5]
  exact i.done ha hb (by rw [la,lb]; exact e)
 have fl:∀ {out:Array Keyed} {ia ib:Nat},MI rk a.toList b.toList out.toList ia ib->ia+1=a.size->Mrg rk a.toList b.toList (out++b.extract ib b.size++a.extract ia a.size).toList:=fun i e=>by
  rw [QBz,QBz,Za5,Za5]
  exact i.last ha hb hl (by rw [la]; exact e)
 have pa:∀ {out:Array Keyed} {ia ib:Nat},MI rk a.toList b.toList out.toList ia ib->ia<a.size->(∀ y∈b.toList.drop ib,rk (g a ia)<=rk y)->MI rk a.toList b.toList (out.push (g a ia)).toList (ia+1) ib:=fun i e hy=>by
  rw [Array.toList_push]
  have:=i.take ha 1 (by rw [Zcs e]; intro x hx; rw [List.mem_singleton.mp hx]; exact hy)
  rw [Zcs e] at this
  exact this
 have pb:∀ {out:Array Keyed} {ia ib:Nat},MI rk a.toList b.toList out.toList ia ib->ib<b.size->(∀ y∈a.toList.drop ia,rk (g b ib)<=rk y)->MI rk a.toList b.toList (out.push (g b ib)).toList ia (ib+1):=fun i e hy=>by
  rw [Array.toList_push]
  have:=i.swap.take hb 1 (by rw [Zcs e]; intro x hx; rw [List.mem_singleton.mp hx]; exact hy)
  rw [Zcs e] at this
  exact this.swap
 refine wpS_bind (wpS_lift (wpAny_rule ⟨rfl,?_⟩))
 refine wpS_bind (ZN hb0 ?_)
 have i1:MI rk a.toList b.toList #[g b 0].toList 0 1:=by
  have:=pb (out:=#[]) (ia:=0) (ib:=0) ⟨List.Perm.refl _,.nil,fun x hx=>by cases hx⟩ hb0 (by rw [List.drop_zero]; exact h0)
  exact this
 try dsimp only
 by_cases e1:1=b.size
 ·rw [if_pos (by simpa using e1)]
  exact wpS_pure (h _ _ (Sim.rfl' _) (fd i1 (.inr (by exact Om.k272 lb e1))))
 rw [if_neg (by simpa using e1)]
 by_cases e2:0+1=a.size
 ·rw [if_pos (by simpa using e2)]
  exact wpS_pure (h _ _ (Sim.rfl' _) (fl i1 e2))
 rw [if_neg (by simpa using e2)]
 refine wpS_bind (wpS_get ?_)
 try dsimp only
 refine wpS_bind (wpS_mono (wpS_forRange
  (I:=fun x c st'=>∃ out ia ib mg,c=(none,out,ia,ib,mg)/\Sim st st'/\MI rk a.toList b.toList out.toList ia ib/\ia+1<a.size/\ib<b.size/\x<ia+ib)
  (Q:=fun c st'=>∃ m,c.1=some m/\Sim st st'/\Mrg rk a.toList b.toList m.toList) ?step ?fin ⟨_,0,1,_,rfl,Sim.rfl' _,i1,by exact Om.k271 ha0 la e2,by exact Om.k270 ha0 hb0 la lb e1 e2,by exact Om.k269 ⟩) ?post)
 case post =>
  rintro ⟨r,c⟩ st' ⟨m,e,hs',hm⟩
  dsimp only at e
  subst e
  exact wpS_pure (h m st' hs' hm)
 case fin =>
  rintro c st' ⟨out,ia,ib,mg,rfl,hs',hi,h1,h2,h3⟩
  exact (Om.k268 ha0 hb0 la lb h1 h2 h3).elim
 case step =>
  rintro x c st1 _ hx ⟨out,ia,ib,mg,rfl,hs1,hi,h1,h2,h3⟩
  try dsimp only
  refine wpS_bind (wpS_mono (wpS_forRange
   (I:=fun y c st'=>st1=st'/\∃ out ia ib ac bc,c=(none,out,ia,ib,ac,bc)/\MI rk a.toList b.toList out.toList ia ib/\ia+1<a.size/\ib<b.size/\x+y<ia+ib)
   (Q:=fun c st'=>st1=st'/\((∃ m,c.1=some m/\Mrg rk a.toList b.toList m.toList)\/∃ out ia ib ac bc,c=(none,out,ia,ib,ac,bc)/\MI rk a.toList b.toList out.toList ia ib/\ia+1<a.size/\ib<b.size/\x+1<ia+ib)) ?step1 ?fin1 ⟨rfl,out,ia,ib,_,_,rfl,hi,h1,h2,h3⟩) ?post1)
  case fin1 =>
   rintro c st' ⟨rfl,out,ia,ib,ac,bc,rfl,hi,h1,h2,h3⟩
   exact ⟨rfl,.inr ⟨out,ia,ib,ac,bc,rfl,hi,h1,h2,by omega⟩⟩
  case step1 =>
   rintro y c st' _ hy ⟨rfl,out,ia,ib,ac,bc,rfl,hi,h1,h2,h3⟩
   try dsimp only
   refine wpS_bind (ZN h2 (wpS_bind (ZN (by exact Om.k245 la h1) (wpS_bind (L _ _ _ _ (hPb _ h2) (hPa _ (by exact Om.k245 la h1)) (hs1.1.trans hst) ?_)))))
   by_cases hw:rk (g b ib)<rk (g a ia)
   ·rw [decide_eq_true hw]
    try dsimp only
    rw [if_pos rfl]
    refine wpS_bind (ZN h2 ?_)
    have i2:=pb hi h2 fun y hy=>by
     obtain ⟨j,h5,h6,rfl⟩:=JJ hy
     exact QBm (QBv hw) (Zd7 ha h5 h6)
    try dsimp only
    by_cases e3:ib+1=b.size
    ·rw [if_pos (by simpa using e3)]
     exact wpS_pure ⟨rfl,.inl ⟨_,rfl,fd i2 (.inr (by exact Om.k257 lb e3))⟩⟩
    rw [if_neg (by simpa using e3)]
    split
    ·exact wpS_pure ⟨rfl,.inr ⟨_,_,_,_,_,rfl,i2,h1,by exact Om.k246 lb h2 e3,by exact Om.k267 ‹_› h3⟩⟩
    ·exact wpS_pure ⟨rfl,_,_,_,_,_,rfl,i2,h1,by exact Om.k246 lb h2 e3,by exact Om.k266 h3⟩
   ·rw [decide_eq_false hw]
    try dsimp only
    rw [if_neg (by simp)]
    refine wpS_bind (ZN (by exact Om.k245 la h1) ?_)
    have i2:=pa hi (by exact Om.k245 la h1) fun y hy=>by
     obtain ⟨j,h5,h6,rfl⟩:=JJ hy
     exact QBm (Int.not_lt.mp hw) (Zd7 hb h5 h6)
    try dsimp only
    by_cases e3:ia+1+1=a.size
    ·rw [if_pos (by simpa using e3)]
     exact wpS_pure ⟨rfl,.inl ⟨_,rfl,fl i2 e3⟩⟩
    rw [if_neg (by simpa using e3)]
    split
    ·exact wpS_pure ⟨rfl,.inr ⟨_,_,_,_,_,rfl,i2,by exact Om.k244 la h1 e3,h2,by exact Om.k265 ‹_› h3⟩⟩
    ·exact wpS_pure ⟨rfl,_,_,_,_,_,rfl,i2,by exact Om.k244 la h1 e3,h2,by exact Om.k264 h3⟩
  case post1 =>
   rintro ⟨r,c⟩ st' ⟨rfl,⟨m,e,hm⟩ | ⟨out,ia,ib,ac,bc,e,hi,h1,h2,h3⟩⟩
   ·dsimp only at e
    subst e
    exact wpS_pure ⟨m,rfl,hs1,hm⟩
   ·obtain ⟨rfl,rfl⟩:=Prod.mk.inj e
    refine wpS_bind (wpS_lift (wpAny_rule ⟨rfl,?_⟩))
    try dsimp only
    refine wpS_bind (wpS_mono (wpS_forRange
     (I:=fun y c st'=>Sim st st'/\∃ out ia ib mg ac bc,c=(none,out,ia,ib,mg,ac,bc)/\MI rk a.toList b.toList out.toList ia ib/\ia+1<a.size/\ib<b.size/\x+1<ia+ib)
     (Q:=fun c st'=>Sim st st'/\((∃ m,c.1=some m/\Mrg rk a.toList b.toList m.toList)\/∃ out ia ib mg ac bc,c=(none,out,ia,ib,mg,ac,bc)/\MI rk a.toList b.toList out.toList ia ib/\ia+1<a.size/\ib<b.size/\x+1<ia+ib)) ?step2 ?fin2 ⟨hs1,out,ia,ib,_,_,_,rfl,hi,h1,h2,h3⟩) ?post2)
    case fin2 =>
     rintro c st' ⟨hs2,r⟩
     exact ⟨hs2,.inr r⟩
    case post2 =>
     rintro ⟨r,c⟩ st' ⟨hs2,⟨m,e,hm⟩ | ⟨out,ia,ib,mg,ac,bc,e,hi,h1,h2,h3⟩⟩
     ·dsimp only at e
      subst e
      exact wpS_pure ⟨m,rfl,hs2,hm⟩
     ·obtain ⟨rfl,rfl⟩:=Prod.mk.inj e
      exact wpS_bind (wpS_modify (wpS_pure ⟨_,_,_,_,rfl,hs2,hi,h1,h2,h3⟩))
    case step2 =>
     rintro y c st2 _ hy ⟨hs2,out,ia,ib,mg,ac,bc,rfl,hi,h1,h2,h3⟩
     clear i1 e1 e2
     try dsimp only
     by_cases hm:mg>1
     rw [if_pos hm]
     generalize mg - 1=z
     clear hm
     revert z
     refine ?key
     rotate_left
     rw [if_neg hm]
     clear hm
     exact ?key mg
     intro z
     refine wpS_bind (wpS_modify ?_)
     refine wpS_bind (ZN h2 (wpS_bind (JU L (hPb _ h2) hPa (by exact Om.k263 la h1) (by exact Om.k262 la h1) ha (hs2.1.trans hst) fun k hk1 hk2 hk3=>?_)))
     have hge:∀ y∈a.toList.drop (ia+k),rk (g b ib)<=rk y:=fun y hy=>by
      obtain ⟨j,h5,h6,rfl⟩:=JJ hy
      have:=by_no'.mp (hk3 (j - ia) (by exact Om.k103 h5) (by exact Om.k261 la h1 h5 h6))
      rw [show ia+(j - ia)=j by exact Om.k101 h5] at this
      exact QBv this
     have i2:MI rk a.toList b.toList (out++a.extract ia (ia+k)).toList (ia+k) ib:=by
      rw [QBz,Zan]
      refine hi.take ha k fun x hx y hy=>?_
      obtain ⟨j,h5,h6,rfl⟩:=ZjF hx
      obtain ⟨j',h7,h8,rfl⟩:=JJ hy
      exact QBm (by_no.mp (hk2 j h5)) (Zd7 hb h7 h8)
     try dsimp only
     by_cases hk0:k>0
     rw [if_pos hk0]
     by_cases e3:ia+k+1=a.size
     ·rw [if_pos (by simpa using e3)]
      exact wpS_pure ⟨hs2,.inl ⟨_,rfl,fl i2 e3⟩⟩
     rw [if_neg (by simpa using e3)]
     by_cases e4:ia+k=a.size
     ·rw [if_pos (by simpa using e4)]
      exact wpS_pure ⟨hs2,.inl ⟨_,rfl,fd i2 (.inl (by exact Om.k260 la e4))⟩⟩
     rw [if_neg (by simpa using e4)]
     have q1:ia+k+1<a.size:=by exact Om.k259 la h1 hk1 e3 e4
     have q2:x+1<ia+k+ib:=by exact Om.k258 h3 hk0
     revert i2 q1 q2 hge
     generalize out++a.extract ia (ia+k)=out2
     generalize ia+k=ia2
     clear hk0 e3 e4
     revert out2 ia2
     refine ?key2
     rotate_left
     ·rw [if_neg hk0]
      have:k=0:=by exact Om.k248 hk0
      exact ?key2 out ia (by rw [this] at hge; exact hge) hi h1 h3
     clear hi h1 h3 hk1 hk2 hk3
     intro out ia hge hi h1 h3
     refine wpS_bind (ZN h2 ?_)
     have i2:=pb hi h2 hge
     try dsimp only
     by_cases e3:ib+1=b.size
     ·rw [if_pos (by simpa using e3)]
      exact wpS_pure ⟨hs2,.inl ⟨_,rfl,fd i2 (.inr (by exact Om.k257 lb e3))⟩⟩
     rw [if_neg (by simpa using e3)]
     refine wpS_bind (ZN (by exact Om.k245 la h1) (wpS_bind (JU L (hPa _ (by exact Om.k245 la h1)) hPb (by exact Om.k256 lb h2) (by exact Om.k255 lb h2 e3) hb (hs2.1.trans hst) fun k' hk1 hk2 hk3=>?_)))
     have hge':∀ y∈b.toList.drop (ib+1+k'),rk (g a ia)<=rk y:=fun y hy=>by
      obtain ⟨j,h5,h6,rfl⟩:=JJ hy
      have:=by_yes'.mp (hk3 (j - (ib+1)) (by exact Om.k254 h5) (by exact Om.k253 lb h2 h5 h6))
      rw [show ib+1+(j - (ib+1))=j by exact Om.k252 h5] at this
      exact this
     have i3:MI rk a.toList b.toList (out.push (g b ib)++b.extract (ib+1) (ib+1+k')).toList ia (ib+1+k'):=by
      rw [QBz,Zan]
      refine (i2.swap.take hb k' fun x hx y hy=>?_).swap
      obtain ⟨j,h5,h6,rfl⟩:=ZjF hx
      obtain ⟨j',h7,h8,rfl⟩:=JJ hy
      exact QBm (QBv (by_yes.mp (hk2 j h5))) (Zd7 ha h7 h8)
     have q2:x+1<ia+(ib+1+k'):=by exact Om.k251 h3
     try dsimp only
     by_cases hk0:k'>0
     rw [if_pos hk0]
     by_cases e5:ib+1+k'=b.size
     ·rw [if_pos (by simpa using e5)]
      exact wpS_pure ⟨hs2,.inl ⟨_,rfl,fd i3 (.inr (by exact Om.k250 lb e5))⟩⟩
     rw [if_neg (by simpa using e5)]
     have q1:ib+1+k'<b.size:=by exact Om.k249 lb h2 hk1 e5
     revert i3 q1 q2 hge'
     generalize out.push (g b ib)++b.extract (ib+1) (ib+1+k')=out2
     generalize ib+1+k'=ib2
     clear hk0 e5
     revert out2 ib2
     refine ?key3
     rotate_left
     ·rw [if_neg hk0]
      have:k'=0:=by exact Om.k248 hk0
      exact ?key3 (out.push (g b ib)) (ib+1) (by rw [this] at hge'; exact hge') i2 (by exact Om.k247 h3) (by exact Om.k246 lb h2 e3)
     clear i2 hge hi h2 h3 hk1 hk2 hk3 e3
     intro out ib hge i2 h3 h2
     refine wpS_bind (ZN (by exact Om.k245 la h1) ?_)
     have i3:=pa i2 (by exact Om.k245 la h1) hge
     try dsimp only
     by_cases e3:ia+1+1=a.size
     ·rw [if_pos (by simpa using e3)]
      exact wpS_pure ⟨hs2,.inl ⟨_,rfl,fl i3 e3⟩⟩
     rw [if_neg (by simpa using e3)]
     split
     ·exact wpS_pure ⟨hs2,.inr ⟨_,_,_,_,_,_,rfl,i3,by exact Om.k244 la h1 e3,h2,by exact Om.k243 h3⟩⟩
     ·exact wpS_pure ⟨hs2,_,_,_,_,_,_,rfl,i3,by exact Om.k244 la h1 e3,h2,by exact Om.k243 h3⟩
end
end SM
namespace SM
open PySem PyProof.Rows
noncomputable def Zip:Array Keyed->Array Keyed->StateT SortSt Sem (Array Keyed):=sortPriv% PySem.Builtin.mergeHi
noncomputable def ng (rk:Keyed->Int) (x:Keyed):Int:=- rk x
theorem ng_rev {rk:Keyed->Int} {l:List Keyed}:l.reverse.Pairwise (Le (ng rk))↔l.Pairwise (Le rk):=by
 rw [List.pairwise_reverse]
 have:(fun a b=>Le (ng rk) b a)=Le rk:=by
  funext x y
  unfold Le ng
  exact propext ⟨fun h=>by exact Om.k242 h,fun h=>by exact Om.k241 h⟩
 rw [this]
theorem Mrg.back {rk:Keyed->Int} {a b m:List Keyed} (h:Mrg (ng rk) b.reverse a.reverse m.reverse):Mrg rk a b m:=by
 refine ⟨?_,ng_rev.mp h.2⟩
 have:=h.1
 rw [<- QEd] at this
 exact (List.reverse_perm m).symm.trans (this.trans (List.reverse_perm _))
theorem Zeu {a:Array Keyed} {n:Nat} (h:n<=a.size):a.toList.reverse.drop (a.size - n)=(a.toList.take n).reverse:=by
 rw [List.drop_reverse,QAv]
 congr 2
 exact Om.k240 h
theorem Zb3 {a:Array Keyed} {n k:Nat} (h:n<=a.size) (hk:k<=n):(a.toList.reverse.drop (a.size - n)).take (n - k)=(a.extract k n).toList.reverse:=by
 rw [Zeu h,List.take_reverse,Array.toList_extract,QEu,List.drop_take,QAt,QAv]
 congr 3
 ·exact Om.k239 h hk
 ·exact Om.k239 h hk
theorem ZdW {a:Array Keyed} {n:Nat} (h:n<=a.size) {y:Keyed} (hy:y∈a.toList.reverse.drop (a.size - n)):∃ j,j<n/\y=g a j:=by
 rw [Zeu h,List.mem_reverse] at hy
 have hy:y∈(a.toList.drop 0).take n:=by rw [List.drop_zero]; exact hy
 obtain ⟨j,h1,_,h2⟩:=ZjF hy
 exact ⟨j,h1,by rw [h2,Nat.zero_add]⟩
theorem ZgE {a:Array Keyed} {n k:Nat} (h:n<=a.size) {y:Keyed} (hy:y∈(a.extract k n).toList.reverse):∃ j,k<=j/\j<n/\y=g a j:=by
 rw [List.mem_reverse,Array.toList_extract,QEu] at hy
 obtain ⟨j,h1,h3,h2⟩:=ZjF hy
 exact ⟨k+j,by exact Om.k114 ,by exact Om.k238 h1,h2⟩
theorem Zi7 {a:Array Keyed} {n:Nat} (h:n<=a.size) (h0:0<n):(a.extract (n - 1) n).toList.reverse=[g a (n - 1)]:=by
 have e:n=n - 1+1:=by exact Om.k237 h0
 have:=Zan a (n - 1) 1
 rw [<- e,Zcs (by exact Om.k236 h e)] at this
 rw [this]
 rfl
section
variable {M:Model} {A:Around} {E:Value->Shared->Prop} {s:Shared} {rk:Keyed->Int} {κ:SortKind} {P:Keyed->Prop}
noncomputable def MH (rk:Keyed->Int) (a b out:Array Keyed) (na nb:Nat):Prop:=MI (ng rk) b.toList.reverse a.toList.reverse out.toList (b.size - nb) (a.size - na)/\na<=a.size/\nb<=b.size
section
variable {a b out:Array Keyed} {na nb:Nat}
theorem MH.ta (ha:a.toList.Pairwise (Le rk)) (i:MH rk a b out na nb) (k:Nat) (hk:k<=na) (hy:∀ j,k<=j->j<na->∀ j',j'<nb->rk (g b j')<=rk (g a j)):MH rk a b (out++(a.extract k na).reverse) k nb:=by
 obtain ⟨i,z1,z2⟩:=i
 refine ⟨?_,by exact Om.k38 hk z1,z2⟩
 rw [QBz,QEe,<- Zb3 z1 hk]
 have e:a.size - k=a.size - na+(na - k):=by exact Om.k235 hk z1
 rw [e]
 refine (i.swap.take (ng_rev.mpr ha) (na - k) fun x hx y hy'=>?_).swap
 rw [Zb3 z1 hk] at hx
 obtain ⟨j,h1,h2,rfl⟩:=ZgE z1 hx
 obtain ⟨j',h3,rfl⟩:=ZdW z2 hy'
 have:=hy j h1 h2 j' h3
 unfold ng
 omega
theorem MH.tb (hb:b.toList.Pairwise (Le rk)) (i:MH rk a b out na nb) (k:Nat) (hk:k<=nb) (hy:∀ j,k<=j->j<nb->∀ j',j'<na->rk (g a j')<=rk (g b j)):MH rk a b (out++(b.extract k nb).reverse) na k:=by
 obtain ⟨i,z1,z2⟩:=i
 refine ⟨?_,z1,by exact Om.k38 hk z2⟩
 rw [QBz,QEe,<- Zb3 z2 hk]
 have e:b.size - k=b.size - nb+(nb - k):=by exact Om.k235 hk z2
 rw [e]
 refine i.take (ng_rev.mpr hb) (nb - k) fun x hx y hy'=>?_
 rw [Zb3 z2 hk] at hx
 obtain ⟨j,h1,h2,rfl⟩:=ZgE z2 hx
 obtain ⟨j',h3,rfl⟩:=ZdW z1 hy'
 have:=hy j h1 h2 j' h3
 unfold ng
 omega
theorem Zey {a out:Array Keyed} {n:Nat} (h:n<=a.size) (h0:0<n):out++(a.extract (n - 1) n).reverse=out.push (g a (n - 1)):=by
 apply Array.ext'
 rw [QBz,QEe,Zi7 h h0,Array.toList_push]
theorem MH.pa (ha:a.toList.Pairwise (Le rk)) (i:MH rk a b out na nb) (h0:0<na) (hy:∀ j,j<nb->rk (g b j)<=rk (g a (na - 1))):MH rk a b (out.push (g a (na - 1))) (na - 1) nb:=by
 rw [<- Zey i.2.1 h0]
 exact i.ta ha _ (by exact Om.k234 h0) fun j h1 h2 j' h3=>by rw [show j=na - 1 by exact Om.k233 h0 h1 h2]; exact hy j' h3
theorem MH.pb (hb:b.toList.Pairwise (Le rk)) (i:MH rk a b out na nb) (h0:0<nb) (hy:∀ j,j<na->rk (g a j)<=rk (g b (nb - 1))):MH rk a b (out.push (g b (nb - 1))) na (nb - 1):=by
 rw [<- Zey i.2.2 h0]
 exact i.tb hb _ (by exact Om.k234 h0) fun j h1 h2 j' h3=>by rw [show j=nb - 1 by exact Om.k233 h0 h1 h2]; exact hy j' h3
theorem Za4 (a:Array Keyed) {n:Nat} (h:n<=a.size):(a.extract 0 n).toList.reverse=a.toList.reverse.drop (a.size - n):=by
 rw [<- Zb3 h (QAh _)]
 exact QBc (by rw [QBn,QEf,QAv]; exact Om.k232 h)
theorem MH.done (ha:a.toList.Pairwise (Le rk)) (hb:b.toList.Pairwise (Le rk)) (i:MH rk a b out na nb) (e:na=0\/nb=0):Mrg rk a.toList b.toList (a.extract 0 na++b.extract 0 nb++out.reverse).toList:=by
 obtain ⟨i,z1,z2⟩:=i
 apply Mrg.back
 rw [QBz,QBz,QEd,QEd,QEe,List.reverse_reverse,Za4 a z1,Za4 b z2,<- QBo]
 exact i.done (ng_rev.mpr hb) (ng_rev.mpr ha) (by rw [QEf,QEf,QAv,QAv]; exact Om.k231 e z1 z2)
theorem MH.first (ha:a.toList.Pairwise (Le rk)) (hb:b.toList.Pairwise (Le rk)) (h0:∀ y∈a.toList,rk (g b 0)<=rk y) (i:MH rk a b out na nb) (e:nb=1):Mrg rk a.toList b.toList (b.extract 0 nb++a.extract 0 na++out.reverse).toList:=by
 obtain ⟨i,z1,z2⟩:=i
 apply Mrg.back
 rw [QBz,QBz,QEd,QEd,QEe,List.reverse_reverse,Za4 a z1,Za4 b z2,<- QBo]
 refine i.last (ng_rev.mpr hb) (ng_rev.mpr ha) (fun x hx y hy=>?_) (by rw [QEf,QAv]; exact Om.k230 e z2)
 rw [QEf,QAv] at hy
 obtain ⟨j,h1,rfl⟩:=ZdW (n:=1) (by exact Om.k229 e z2) hy
 have:=h0 x (List.mem_reverse.mp hx)
 rw [show j=0 by exact Om.k228 h1]
 unfold ng
 omega
end
theorem ZfF (L:LtOk M A E s rk κ P) {a b:Array Keyed} {st:SortSt} {Q:Array Keyed->SortSt->Prop} (hPa:∀ i,i<a.size->P (g a i)) (hPb:∀ i,i<b.size->P (g b i)) (ha:a.toList.Pairwise (Le rk)) (hb:b.toList.Pairwise (Le rk)) (ha0:0<a.size) (hb0:0<b.size)
  (h0:∀ y∈a.toList,rk (g b 0)<=rk y) (hl:∀ j,j<b.size->rk (g b j)<=rk (g a (a.size - 1))) (hst:kindOf st=κ)
  (h:∀ m st',Sim st st'->Mrg rk a.toList b.toList m.toList->Q m st'):wpS M A E s (Zip a b) Q st:=by
 refine wpS_bind (wpS_lift (wpAny_rule ⟨rfl,?_⟩))
 refine wpS_bind (ZN (by exact Om.k97 ha0) ?_)
 have i1:MH rk a b #[g a (a.size - 1)] (a.size - 1) b.size :=
  MH.pa (out:=#[]) ha ⟨⟨by
   rw [Nat.sub_self,Nat.sub_self]
   exact List.Perm.refl _,.nil,fun x hx=>by cases hx⟩,QAc _,QAc _⟩ ha0 hl
 try dsimp only
 by_cases e1:a.size - 1=0
 ·rw [if_pos (by simpa using e1)]
  exact wpS_pure (h _ _ (Sim.rfl' _) (i1.done ha hb (.inl e1)))
 rw [if_neg (by simpa using e1)]
 by_cases e2:b.size=1
 ·rw [if_pos (by simpa using e2)]
  exact wpS_pure (h _ _ (Sim.rfl' _) (i1.first ha hb h0 e2))
 rw [if_neg (by simpa using e2)]
 refine wpS_bind (wpS_get ?_)
 try dsimp only
 refine wpS_bind (wpS_mono (wpS_forRange
  (I:=fun x c st'=>∃ na nb out mg,c=(none,na,nb,out,mg)/\Sim st st'/\MH rk a b out na nb/\0<na/\1<nb/\x+na+nb<a.size+b.size)
  (Q:=fun c st'=>∃ m,c.1=some m/\Sim st st'/\Mrg rk a.toList b.toList m.toList) ?step ?fin ⟨_,_,_,_,rfl,Sim.rfl' _,i1,by exact Om.k227 ha0 hb0 e1 e2,by exact Om.k226 hb0 e2,by exact Om.k225 ha0⟩) ?post)
 case post =>
  rintro ⟨r,c⟩ st' ⟨m,e,hs',hm⟩
  dsimp only at e
  subst e
  exact wpS_pure (h m st' hs' hm)
 case fin =>
  rintro c st' ⟨na,nb,out,mg,rfl,hs',hi,h1,h2,h3⟩
  exact (Om.k224 h1 h2 h3).elim
 case step =>
  rintro x c st1 _ hx ⟨na,nb,out,mg,rfl,hs1,hi,h1,h2,h3⟩
  dsimp only
  refine wpS_bind (wpS_mono (wpS_forRange
   (I:=fun y c st'=>st1=st'/\∃ na nb out ac bc,c=(none,na,nb,out,ac,bc)/\MH rk a b out na nb/\0<na/\1<nb/\x+y+na+nb<a.size+b.size)
   (Q:=fun c st'=>st1=st'/\((∃ m,c.1=some m/\Mrg rk a.toList b.toList m.toList)\/∃ na nb out ac bc,c=(none,na,nb,out,ac,bc)/\MH rk a b out na nb/\0<na/\1<nb/\x+1+na+nb<a.size+b.size)) ?step1 ?fin1 ⟨rfl,na,nb,out,_,_,rfl,hi,h1,h2,h3⟩) ?post1)
  case fin1 =>
   rintro c st' ⟨rfl,na,nb,out,ac,bc,rfl,hi,h1,h2,h3⟩
   exact ⟨rfl,.inr ⟨na,nb,out,ac,bc,rfl,hi,h1,h2,by omega⟩⟩
  case step1 =>
   rintro y c st' _ hy ⟨rfl,na,nb,out,ac,bc,rfl,hi,h1,h2,h3⟩
   have z1:=hi.2.1
   have z2:=hi.2.2
   try dsimp only
   refine wpS_bind (ZN (by exact Om.k214 h2 z2) (wpS_bind (ZN (by exact Om.k205 h1 z1) (wpS_bind (L _ _ _ _ (hPb _ (by exact Om.k214 h2 z2)) (hPa _ (by exact Om.k205 h1 z1)) (hs1.1.trans hst) ?_)))))
   by_cases hw:rk (g b (nb - 1))<rk (g a (na - 1))
   ·rw [decide_eq_true hw]
    dsimp only
    rw [if_pos rfl]
    refine wpS_bind (ZN (by exact Om.k205 h1 z1) ?_)
    have i2:=hi.pa ha h1 fun j hj=>QBm (Zd7 hb (by exact Om.q2 ‹_›:j<=nb - 1) (by exact Om.k214 h2 z2)) (QBv hw)
    try dsimp only
    by_cases e3:na - 1=0
    ·rw [if_pos (by simpa using e3)]
     exact wpS_pure ⟨rfl,.inl ⟨_,rfl,i2.done ha hb (.inl e3)⟩⟩
    rw [if_neg (by simpa using e3)]
    split
    ·exact wpS_pure ⟨rfl,.inr ⟨_,_,_,_,_,rfl,i2,by exact Om.k204 h1 e3,h2,by exact Om.k223 ‹_› h1 h3⟩⟩
    ·exact wpS_pure ⟨rfl,_,_,_,_,_,rfl,i2,by exact Om.k204 h1 e3,h2,by exact Om.k222 h1 h3⟩
   ·rw [decide_eq_false hw]
    dsimp only
    rw [if_neg (by simp)]
    refine wpS_bind (ZN (by exact Om.k214 h2 z2) ?_)
    have i2:=hi.pb hb (by exact Om.k213 h2) fun j hj=>QBm (Zd7 ha (by exact Om.q2 ‹_›:j<=na - 1) (by exact Om.k205 h1 z1)) (Int.not_lt.mp hw)
    try dsimp only
    by_cases e3:nb - 1=1
    ·rw [if_pos (by simpa using e3)]
     exact wpS_pure ⟨rfl,.inl ⟨_,rfl,i2.first ha hb h0 e3⟩⟩
    rw [if_neg (by simpa using e3)]
    split
    ·exact wpS_pure ⟨rfl,.inr ⟨_,_,_,_,_,rfl,i2,h1,by exact Om.k220 h2 e3,by exact Om.k221 ‹_› h2 h3⟩⟩
    ·exact wpS_pure ⟨rfl,_,_,_,_,_,rfl,i2,h1,by exact Om.k220 h2 e3,by exact Om.k219 h2 h3⟩
  case post1 =>
   rintro ⟨r,c⟩ st' ⟨rfl,⟨m,e,hm⟩ | ⟨na,nb,out,ac,bc,e,hi,h1,h2,h3⟩⟩
   ·dsimp only at e
    subst e
    exact wpS_pure ⟨m,rfl,hs1,hm⟩
   ·obtain ⟨rfl,rfl⟩:=Prod.mk.inj e
    refine wpS_bind (wpS_lift (wpAny_rule ⟨rfl,?_⟩))
    dsimp only
    refine wpS_bind (wpS_mono (wpS_forRange
     (I:=fun y c st'=>Sim st st'/\∃ na nb out mg ac bc,c=(none,na,nb,out,mg,ac,bc)/\MH rk a b out na nb/\0<na/\1<nb/\x+1+na+nb<a.size+b.size)
     (Q:=fun c st'=>Sim st st'/\((∃ m,c.1=some m/\Mrg rk a.toList b.toList m.toList)\/∃ na nb out mg ac bc,c=(none,na,nb,out,mg,ac,bc)/\MH rk a b out na nb/\0<na/\1<nb/\x+1+na+nb<a.size+b.size)) ?step2 ?fin2 ⟨hs1,na,nb,out,_,_,_,rfl,hi,h1,h2,h3⟩) ?post2)
    case fin2 =>
     rintro c st' ⟨hs2,r⟩
     exact ⟨hs2,.inr r⟩
    case post2 =>
     rintro ⟨r,c⟩ st' ⟨hs2,⟨m,e,hm⟩ | ⟨na,nb,out,mg,ac,bc,e,hi,h1,h2,h3⟩⟩
     ·dsimp only at e
      subst e
      exact wpS_pure ⟨m,rfl,hs2,hm⟩
     ·obtain ⟨rfl,rfl⟩:=Prod.mk.inj e
      exact wpS_bind (wpS_modify (wpS_pure ⟨_,_,_,_,rfl,hs2,hi,h1,h2,h3⟩))
    case step2 =>
     rintro y c st2 _ hy ⟨hs2,na,nb,out,mg,ac,bc,rfl,hi,h1,h2,h3⟩
     clear i1 e1 e2
     dsimp only
     by_cases hm:mg>1
     rw [if_pos hm]
     generalize mg - 1=z
     clear hm
     revert z
     refine ?key
     rotate_left
     rw [if_neg hm]
     clear hm
     exact ?key mg
     intro z
     have z1:=hi.2.1
     have z2:=hi.2.2
     refine wpS_bind (wpS_modify ?_)
     refine wpS_bind (ZN (by exact Om.k214 h2 z2) (wpS_bind (JU L (hPb _ (by exact Om.k214 h2 z2)) hPa (by exact Om.k218 z1) (by exact Om.k97 h1) ha (hs2.1.trans hst) fun k hk1 hk2 hk3=>?_)))
     have hle:∀ j,j<k->rk (g a j)<=rk (g b (nb - 1)):=fun j hj=>by
      have:=by_no.mp (hk2 j hj)
      rwa [Nat.zero_add] at this
     have i2:MH rk a b (out++(a.extract k na).reverse) k nb:=hi.ta ha k hk1 fun j h5 h6 j' h7=>by
      have:=by_no'.mp (hk3 j h5 h6)
      rw [Nat.zero_add] at this
      exact QBm (Zd7 hb (by exact Om.q2 ‹_›:j'<=nb - 1) (by exact Om.k214 h2 z2)) (QBv this)
     try dsimp only
     generalize hq:na - k=q
     by_cases hk0:q>0
     rw [if_pos hk0]
     by_cases e3:k=0
     ·rw [if_pos (by simpa using e3)]
      exact wpS_pure ⟨hs2,.inl ⟨_,rfl,i2.done ha hb (.inl e3)⟩⟩
     rw [if_neg (by simpa using e3)]
     have q1:0<k:=by exact Om.k217 e3
     have q2:x+1+k+nb<a.size+b.size:=by exact Om.k216 h3 hk1
     revert i2 q1 q2 hle
     generalize out++(a.extract k na).reverse=out2
     generalize k=na2
     clear hk0 e3
     revert out2 na2
     refine ?key2
     rotate_left
     ·rw [if_neg hk0]
      have e0:k=na:=by exact Om.k215 hk1 hq hk0
      exact ?key2 out na (by rw [e0] at hle; exact hle) hi h1 h3
     clear hi h1 h3 hk1 hk2 hk3 hq z1
     intro out na hle hi h1 h3
     have z1:=hi.2.1
     refine wpS_bind (ZN (by exact Om.k214 h2 z2) ?_)
     have i2:=hi.pb hb (by exact Om.k213 h2) hle
     try dsimp only
     by_cases e3:nb - 1=1
     ·rw [if_pos (by simpa using e3)]
      exact wpS_pure ⟨hs2,.inl ⟨_,rfl,i2.first ha hb h0 e3⟩⟩
     rw [if_neg (by simpa using e3)]
     refine wpS_bind (ZN (by exact Om.k205 h1 z1) (wpS_bind (JU L (hPa _ (by exact Om.k205 h1 z1)) hPb (by exact Om.k212 h2 z2) (by exact Om.k211 h2) hb (hs2.1.trans hst) fun k' hk1 hk2 hk3=>?_)))
     have hle':∀ j,j<k'->rk (g b j)<=rk (g a (na - 1)):=fun j hj=>by
      have:=by_yes.mp (hk2 j hj)
      rw [Nat.zero_add] at this
      exact QBv this
     have i3:MH rk a b (out.push (g b (nb - 1))++(b.extract k' (nb - 1)).reverse) na k':=i2.tb hb k' hk1 fun j h5 h6 j' h7=>by
      have:=by_yes'.mp (hk3 j h5 h6)
      rw [Nat.zero_add] at this
      exact QBm (Zd7 ha (by exact Om.q2 ‹_›:j'<=na - 1) (by exact Om.k205 h1 z1)) this
     try dsimp only
     generalize hq':nb - 1 - k'=q'
     by_cases hk0:q'>0
     rw [if_pos hk0]
     by_cases e4:k'=1
     ·rw [if_pos (by simpa using e4)]
      exact wpS_pure ⟨hs2,.inl ⟨_,rfl,i3.first ha hb h0 e4⟩⟩
     rw [if_neg (by simpa using e4)]
     by_cases e5:k'=0
     ·rw [if_pos (by simpa using e5)]
      exact wpS_pure ⟨hs2,.inl ⟨_,rfl,i3.done ha hb (.inr e5)⟩⟩
     rw [if_neg (by simpa using e5)]
     have q1:1<k':=by exact Om.k210 e4 e5
     have q2:x+1+na+k'<a.size+b.size:=by exact Om.k209 h3 hq' hk0 e4 e5 q1
     revert i3 q1 q2 hle'
     generalize out.push (g b (nb - 1))++(b.extract k' (nb - 1)).reverse=out2
     generalize k'=nb2
     clear hk0 e4 e5
     revert out2 nb2
     refine ?key3
     rotate_left
     ·rw [if_neg hk0]
      have e0:k'=nb - 1:=by exact Om.k208 h2 hk1 hq' hk0
      exact ?key3 (out.push (g b (nb - 1))) (nb - 1) (by rw [e0] at hle'; exact hle') i2 (by exact Om.k207 h2 e3 hq' hk0 e0) (by exact Om.k206 h2 h3 hq' hk0 e0)
     clear i2 hle hi h2 h3 hk1 hk2 hk3 e3 hq' z2
     intro out nb hle i2 h2 h3
     refine wpS_bind (ZN (by exact Om.k205 h1 z1) ?_)
     have i3:=i2.pa ha h1 hle
     try dsimp only
     by_cases e3:na - 1=0
     ·rw [if_pos (by simpa using e3)]
      exact wpS_pure ⟨hs2,.inl ⟨_,rfl,i3.done ha hb (.inl e3)⟩⟩
     rw [if_neg (by simpa using e3)]
     split
     ·exact wpS_pure ⟨hs2,.inr ⟨_,_,_,_,_,_,rfl,i3,by exact Om.k204 h1 e3,h2,by exact Om.k203 h1 h3⟩⟩
     ·exact wpS_pure ⟨hs2,_,_,_,_,_,_,rfl,i3,by exact Om.k204 h1 e3,h2,by exact Om.k203 h1 h3⟩
end
end SM
namespace SM
open PySem PyProof.Rows
noncomputable def Srt (rk:Keyed->Int) (a:Array Keyed) (lo hi:Nat):Prop:=∀ i j,lo<=i->i<=j->j<hi->rk (g a i)<=rk (g a j)
structure SB (κ:SortKind) (a₀:Array Keyed) (st:SortSt):Prop where
 perm:(arrOf st).Perm a₀
 kind:kindOf st=κ
 failed:failedOf st=none
noncomputable def Kept (st st':SortSt) (lo hi:Nat):Prop:=pendingOf st'=pendingOf st/\∀ i,i<lo\/hi<=i->g (arrOf st') i=g (arrOf st) i
section
variable {κ:SortKind} {a₀:Array Keyed} {rk:Keyed->Int} {st st' st'':SortSt} {lo hi:Nat}
theorem Kept.refl:Kept st st lo hi:=⟨rfl,fun _ _=>rfl⟩
theorem Kept.trans (x:Kept st st' lo hi) (y:Kept st' st'' lo hi):Kept st st'' lo hi:=⟨y.1.trans x.1,fun i h=>(y.2 i h).trans (x.2 i h)⟩
theorem SB.size (h:SB κ a₀ st):(arrOf st).size=a₀.size:=h.perm.size_eq
theorem SB.mem (h:SB κ a₀ st) {i:Nat} (hi:i<a₀.size):g (arrOf st) i∈a₀.toList :=
 (Array.perm_iff_toList_perm.mp h.perm).mem_iff.mp (ZlE (by rw [h.size]; exact hi))
theorem SB.inj (h:SB κ a₀ st) (hd:(a₀.toList.map rk).Nodup) {i j:Nat} (hij:i<j) (hj:j<a₀.size):rk (g (arrOf st) i)≠rk (g (arrOf st) j):=by
 have hn:((arrOf st).toList.map rk).Nodup:=((Array.perm_iff_toList_perm.mp h.perm).map rk).nodup_iff.mpr hd
 have hz:=h.size
 have:=List.pairwise_iff_getElem.mp hn i j (by rw [QAa,QAv]; exact Om.k202 hij hj hz) (by rw [QAa,QAv]; exact Om.a1 ‹_› ‹_›) hij
 rw [QBu,QBu,QCg,QCg] at this
 have e1:=g_eq (a:=arrOf st) (i:=i) (by exact Om.k202 hij hj hz)
 have e2:=g_eq (a:=arrOf st) (i:=j) (by exact Om.a1 ‹_› ‹_›)
 rw [getElem?_pos (arrOf st) i (by exact Om.k202 hij hj hz)] at e1
 rw [getElem?_pos (arrOf st) j (by exact Om.a1 ‹_› ‹_›)] at e2
 rw [<- Option.some.inj e1,<- Option.some.inj e2]
 exact this
theorem SB.set (h:SB κ a₀ st) {xs:Array Keyed} (hp:xs.Perm (arrOf st)):SB κ a₀ (setArr st xs):=⟨hp.trans h.perm,h.kind,h.failed⟩
theorem ZaA {xs ys:Array Keyed} {i j:Nat} (h:xs[i]? = ys[j]?):g xs i=g ys j:=by
 unfold g
 rw [QEs,QEs,h]
theorem ZiC {xs:Array Keyed} {i j:Nat} (hj:j<=xs.size) (k:Nat):g (mirror xs i j ((j - i) / 2)) k=if i<=k/\k<j then g xs (i+j - 1 - k) else g xs k:=by
 have e:=getElem?_mirror_all (i:=i) hj k
 by_cases h:i<=k/\k<j
 ·rw [if_pos h] at e ⊢; exact ZaA e
 ·rw [if_neg h] at e ⊢; exact ZaA e
theorem ZiD {xs:Array Keyed} {src d:Nat} (hs:src<xs.size) (hd:d<=src) (k:Nat):g (bubble xs src d) k=if k=src - d then g xs src else if src - d<k/\k<=src then g xs (k - 1) else g xs k:=by
 have e:=getElem?_bubble hs d hd k
 by_cases h:k=src - d
 ·rw [if_pos h] at e ⊢; exact ZaA e
 ·rw [if_neg h] at e ⊢
  by_cases h':src - d<k/\k<=src
  ·rw [if_pos h'] at e ⊢; exact ZaA e
  ·rw [if_neg h'] at e ⊢; exact ZaA e
end
section
variable {M:Model} {A:Around} {E:Value->Shared->Prop} {s:Shared} {rk:Keyed->Int} {κ:SortKind} {a₀:Array Keyed}
theorem ZcS (L:LtOk M A E s rk κ (· ∈ a₀.toList)) {st:SortSt} {i j:Nat} {Q:Option Bool->SortSt->Prop} (B:SB κ a₀ st) (hi:i<a₀.size) (hj:j<a₀.size) (q:Q (some (decide (rk (g (arrOf st) i)<rk (g (arrOf st) j)))) st):wpS M A E s (ltAt' i j) Q st:=by
 rw [ltAt'_eq]
 exact wpS_bind (wpS_get (wpS_bind (ZN (by rw [B.size]; exact hi) (wpS_bind (ZN (by rw [B.size]; exact hj) (L _ _ _ _ (B.mem hi) (B.mem hj) B.kind q))))))
theorem ZhI (L:LtOk M A E s rk κ (· ∈ a₀.toList)) (hd:(a₀.toList.map rk).Nodup) {st:SortSt} {lo nr:Nat} {Q:Option Nat->SortSt->Prop} (B:SB κ a₀ st) (h1:1<=nr) (hz:lo+nr<=a₀.size)
  (h:∀ m st',SB κ a₀ st'->Kept st st' lo (lo+nr)->1<=m->m<=nr->Srt rk (arrOf st') lo (lo+m)->Q (some m) st'):wpS M A E s (countRun' lo nr) Q st:=by
 have up:∀ (st:SortSt),SB κ a₀ st->∀ n,1<=n->n<nr->Srt rk (arrOf st) lo (lo+n)->¬ rk (g (arrOf st) (lo+n))<rk (g (arrOf st) (lo+n - 1))->Srt rk (arrOf st) lo (lo+(n+1)):=by
  intro st B n hn hn' hs hw i j h1 h2 h3
  by_cases hj:j<lo+n
  ·exact hs i j h1 h2 hj
  ·by_cases hi:i=j
   ·rw [hi]; exact QCn _
   ·rw [show j=lo+n by exact Om.k185 h3 hj]
    exact QBm (hs i (lo+n - 1) h1 (by exact Om.k201 hn h2 h3 hj hi) (by exact Om.k200 hn h3 hj)) (Int.not_lt.mp hw)
 refine wpS_bind (wpS_mono (wpS_forRange (I:=fun x c st'=>st=st'/\c=(none,x)/\Srt rk (arrOf st) lo (lo+x))
  (Q:=fun c st'=>st=st'/\∃ n,c=(none,n)/\1<=n/\n<=nr/\Srt rk (arrOf st) lo (lo+n)/\(n=nr\/rk (g (arrOf st) (lo+n))<rk (g (arrOf st) (lo+n - 1)))) ?s1 ?f1 ⟨rfl,rfl,fun i j h1 h2 h3=>by rw [show i=j by exact Om.k199 h1 h2 h3]; exact QCn _⟩) ?p1)
 case f1 =>
  rintro c st' ⟨rfl,rfl,hs⟩
  rw [show max 1 nr=nr by exact Om.k198 h1] at hs ⊢
  exact ⟨rfl,nr,rfl,h1,QAc _,hs,.inl rfl⟩
 case s1 =>
  rintro x c st' hx hx' ⟨rfl,rfl,hs⟩
  refine wpS_bind (ZcS L B (by exact Om.k158 hz hx') (by exact Om.k197 hz hx hx') ?_)
  by_cases hw:rk (g (arrOf st) (lo+x))<rk (g (arrOf st) (lo+x - 1))
  ·rw [decide_eq_true hw]
   exact wpS_pure ⟨rfl,x,rfl,hx,by exact Om.d1 ‹_›,hs,.inr hw⟩
  ·rw [decide_eq_false hw]
   exact wpS_pure ⟨rfl,rfl,up st B x hx hx' hs hw⟩
 case p1 =>
  rintro c st' ⟨rfl,n,rfl,hn,hn',hs,ho⟩
  try dsimp only
  by_cases e:n=nr
  ·rw [if_pos (by simpa using e)]
   exact wpS_pure (h n st B Kept.refl hn hn' hs)
  rw [if_neg (by simpa using e)]
  have ho:=ho.resolve_left e
  by_cases e2:n>1
  ·rw [if_pos e2]
   refine wpS_bind (ZcS L B (by exact Om.k196 h1 hz) (by exact Om.k192 hz hn' e2) ?_)
   have hw:rk (g (arrOf st) lo)<rk (g (arrOf st) (lo+n - 1)):=by
    have a1:=hs lo (lo+n - 1) (by exact Om.k165 ) (by exact Om.k195 e2) (by exact Om.k194 e2)
    have a2:=B.inj hd (i:=lo) (j:=lo+n - 1) (by exact Om.k193 e2) (by exact Om.k192 hz hn' e2)
    omega
   rw [decide_eq_true hw]
   exact wpS_pure (h n st B Kept.refl hn hn' hs)
  rw [if_neg e2]
  have e3:n=1:=by exact Om.k191 hn e2
  subst e3
  refine wpS_bind (wpS_lift (wpAny_rule ⟨rfl,?_⟩))
  try dsimp only
  refine wpS_bind (wpS_mono (wpS_forRange (I:=fun x c st'=>st=st'/\c=(none,x,0)/\1<=x/\x<=nr/\∀ i j,lo<=i->i<=j->j<lo+x->rk (g (arrOf st) j)<=rk (g (arrOf st) i))
   (Q:=fun c st'=>st=st'/\∃ x,c=(none,x,0)/\1<=x/\x<=nr/\∀ i j,lo<=i->i<=j->j<lo+x->rk (g (arrOf st) j)<=rk (g (arrOf st) i)) ?s2 ?f2 ⟨rfl,rfl,by exact Om.k190 ,by exact Om.k189 h1 e,fun i j h1 h2 h3=>?i2⟩) ?p2)
  case i2 =>
   by_cases hi:i=j
   ·rw [hi]; exact QCn _
   ·rw [show i=lo+1 - 1 by exact Om.k188 h1 h2 h3 hi,show j=lo+1 by exact Om.k187 h1 h2 h3 hi]
    exact QBv ho
  case f2 =>
   rintro c st' ⟨rfl,rfl,r⟩
   exact ⟨rfl,_,rfl,r⟩
  case s2 =>
   rintro x c st' hx hx' ⟨rfl,rfl,h3,h4,h5⟩
   dsimp only
   refine wpS_bind (ZcS L B (by exact Om.k158 hz hx') (by exact Om.k182 hz hx hx') ?_)
   by_cases hw:rk (g (arrOf st) (lo+x))<rk (g (arrOf st) (lo+x - 1))
   ·rw [decide_eq_true hw]
    refine wpS_pure ⟨rfl,rfl,by exact Om.k186 hx,by exact Om.f1 ‹_›,fun i j h6 h7 h8=>?_⟩
    by_cases hj:j<lo+x
    ·exact h5 i j h6 h7 hj
    ·by_cases hi:i=j
     ·rw [hi]; exact QCn _
     ·rw [show j=lo+x by exact Om.k185 h8 hj]
      exact QBm (QBv hw) (h5 i (lo+x - 1) h6 (by exact Om.k184 hx h7 h8 hj hi) (by exact Om.k183 hx h8 hj))
   ·rw [decide_eq_false hw]
    refine wpS_bind (ZcS L B (by exact Om.k182 hz hx hx') (by exact Om.k158 hz hx') ?_)
    have a2:=B.inj hd (i:=lo+x - 1) (j:=lo+x) (by exact Om.k181 hx) (by exact Om.k158 hz hx')
    rw [decide_eq_true (by exact Om.k180 hw a2)]
    exact wpS_pure ⟨rfl,x,rfl,h3,h4,h5⟩
  case p2 =>
   rintro c st' ⟨rfl,x,rfl,h3,h4,h5⟩
   try dsimp only
   rw [if_neg (by exact Om.k179 )]
   refine wpS_bind ?_
   show wpS M A E s (reverseSlice' lo (lo+x)) _ st
   rw [reverseSlice'_eq]
   refine wpS_modify ?_
   have B':SB κ a₀ (setArr st (mirror (arrOf st) lo (lo+x) ((lo+x - lo) / 2))):=B.set (mirror_perm _ _ _ _)
   have hz':=B.size
   have gm:=ZiC (xs:=arrOf st) (i:=lo) (j:=lo+x) (by exact Om.k178 hz h4 hz')
   have K':Kept st (setArr st (mirror (arrOf st) lo (lo+x) ((lo+x - lo) / 2))) lo (lo+nr):=⟨rfl,fun i hi=>by
    show g (mirror (arrOf st) lo (lo+x) ((lo+x - lo) / 2)) i=_
    rw [gm,if_neg (by exact Om.k177 h4 hi)]⟩
   have S':Srt rk (arrOf (setArr st (mirror (arrOf st) lo (lo+x) ((lo+x - lo) / 2)))) lo (lo+x):=fun i j h6 h7 h8=>by
    show rk (g (mirror (arrOf st) lo (lo+x) ((lo+x - lo) / 2)) i)<=rk (g (mirror (arrOf st) lo (lo+x) ((lo+x - lo) / 2)) j)
    rw [gm,gm,if_pos (by exact Om.k176 h6 h7 h8),if_pos (by exact Om.k175 h6 h7 h8)]
    exact h5 _ _ (by exact Om.k174 h8) (by exact Om.k173 h7 h8) (by exact Om.k172 h6 h8)
   revert B' K' S'
   generalize setArr st (mirror (arrOf st) lo (lo+x) ((lo+x - lo) / 2))=st2
   intro B' K' S'
   refine wpS_bind (wpS_mono (wpS_forRange (I:=fun y c st'=>st2=st'/\c=(none,y)/\1<=y/\y<=nr/\Srt rk (arrOf st2) lo (lo+y))
    (Q:=fun c st'=>st2=st'/\∃ y,c=(none,y)/\1<=y/\y<=nr/\Srt rk (arrOf st2) lo (lo+y)) ?s3 ?f3 ⟨rfl,rfl,h3,h4,S'⟩) ?p3)
   case f3 =>
    rintro c st' ⟨rfl,rfl,r⟩
    exact ⟨rfl,_,rfl,r⟩
   case s3 =>
    rintro y c st' hy hy' ⟨rfl,rfl,h6,h7,hs⟩
    try dsimp only
    refine wpS_bind (ZcS L B' (by exact Om.k171 hz hz' hy') (by exact Om.k170 hz hz' hy' h6) ?_)
    by_cases hw:rk (g (arrOf st2) (lo+y))<rk (g (arrOf st2) (lo+y - 1))
    ·rw [decide_eq_true hw]
     exact wpS_pure ⟨rfl,y,rfl,h6,h7,hs⟩
    ·rw [decide_eq_false hw]
     exact wpS_pure ⟨rfl,rfl,by exact Om.k169 h6,by exact Om.f1 ‹_›,up st2 B' y h6 hy' hs hw⟩
   case p3 =>
    rintro c st' ⟨rfl,y,rfl,h6,h7,hs⟩
    exact wpS_pure (h y st2 B' K' h6 h7 hs)
theorem Zhd (L:LtOk M A E s rk κ (· ∈ a₀.toList)) {st:SortSt} {lo n ok:Nat} {Q:Bool->SortSt->Prop} (B:SB κ a₀ st) (h1:1<=ok) (hok:ok<=n) (hz:lo+n<=a₀.size) (hs:Srt rk (arrOf st) lo (lo+ok))
  (h:∀ st',SB κ a₀ st'->Kept st st' lo (lo+n)->Srt rk (arrOf st') lo (lo+n)->Q true st'):wpS M A E s (binarySort' lo n ok) Q st:=by
 refine wpS_bind (wpS_mono (wpS_forRange (I:=fun k c st'=>c=(none,())/\SB κ a₀ st'/\Kept st st' lo (lo+n)/\Srt rk (arrOf st') lo (lo+k))
  (Q:=fun c st'=>c=(none,())/\SB κ a₀ st'/\Kept st st' lo (lo+n)/\Srt rk (arrOf st') lo (lo+n)) ?s1 ?f1 ⟨rfl,B,Kept.refl,by rw [show max ok 1=ok by exact Om.k168 h1]; exact hs⟩) ?p1)
 case p1 =>
  rintro c st' ⟨rfl,B',K',S'⟩
  exact wpS_pure (h st' B' K' S')
 case f1 =>
  rintro c st' ⟨rfl,B',K',S'⟩
  rw [show max (max ok 1) n=n by exact Om.k167 h1 hok] at S'
  exact ⟨rfl,B',K',S'⟩
 case s1 =>
  rintro k c st' hk hk' ⟨rfl,B',K',S'⟩
  try dsimp only
  refine wpS_bind (wpS_mono (wpS_forRange (I:=fun x c st2=>st'=st2/\∃ l r,c=(none,l,r)/\l<=r/\r<=k/\r - l<=k - x/\(∀ i,i<l->rk (g (arrOf st') (lo+i))<=rk (g (arrOf st') (lo+k)))/\∀ i,r<=i->i<k->rk (g (arrOf st') (lo+k))<=rk (g (arrOf st') (lo+i)))
   (Q:=fun c st2=>st'=st2/\∃ l r,c=(none,l,r)/\l<=k/\(∀ i,i<l->rk (g (arrOf st') (lo+i))<=rk (g (arrOf st') (lo+k)))/\∀ i,l<=i->i<k->rk (g (arrOf st') (lo+k))<=rk (g (arrOf st') (lo+i))) ?s2 ?f2
   ⟨rfl,0,k,rfl,by exact Om.k166 ,by exact Om.k165 ,by exact Om.k164 ,fun i hi=>by exact Om.k163 hi,fun i h5 h6=>by exact Om.k162 h5 h6⟩) ?p2)
  case f2 =>
   rintro c st2 ⟨rfl,l,r,rfl,h3,h4,h5,h6,h7⟩
   exact ⟨rfl,l,r,rfl,by exact Om.k38 h3 h4,h6,fun i h8 h9=>h7 i (by exact Om.k161 h3 h5 h8) h9⟩
  case s2 =>
   rintro x c st2 _ hx ⟨rfl,l,r,rfl,h3,h4,h5,h6,h7⟩
   try dsimp only
   by_cases hlr:l>=r
   ·rw [if_pos hlr]
    exact wpS_pure ⟨rfl,l,r,rfl,by exact Om.k160 h3 h4 hlr,h6,fun i h8 h9=>h7 i (by exact Om.k159 h3 hlr h8) h9⟩
   rw [if_neg hlr]
   refine wpS_bind (ZcS L B' (by exact Om.k158 hz hk') (by exact Om.k157 hz hk' h4 hlr) ?_)
   by_cases hw:rk (g (arrOf st') (lo+k))<rk (g (arrOf st') (lo+(l+r) / 2))
   ·rw [decide_eq_true hw]
    exact wpS_pure ⟨rfl,l,(l+r) / 2,rfl,by exact Om.k156 hlr,by exact Om.k155 h4 hlr,by exact Om.k154 hx h5 hlr,h6,fun i h8 h9=>QBm (QBv hw) (S' _ _ (by exact Om.k153 hlr) (by exact Om.k152 h8) (by exact Om.k112 h9))⟩
   ·rw [decide_eq_false hw]
    exact wpS_pure ⟨rfl,(l+r) / 2+1,r,rfl,by exact Om.k151 hlr,by assumption,by exact Om.k150 hx h5 hlr,fun i h8=>QBm (S' _ (lo+(l+r) / 2) (by exact Om.k114 ) (by exact Om.k149 h8) (by exact Om.k148 h4 hlr)) (Int.not_lt.mp hw),h7⟩
  case p2 =>
   rintro c st2 ⟨rfl,l,r,rfl,h3,h6,h7⟩
   try dsimp only
   refine wpS_bind ?_
   show wpS M A E s (moveDown' (lo+k) (lo+l)) _ st'
   rw [moveDown'_eq]
   have hz':=B'.size
   have gb:=ZiD (xs:=arrOf st') (src:=lo+k) (d:=lo+k - (lo+l)) (by exact Om.k147 hz hk' hz') (by exact Om.k146 h3)
   refine wpS_modify (wpS_pure ⟨rfl,B'.set (bubble_perm _ _ _),K'.trans ⟨rfl,fun i hi=>?_⟩,fun i j h8 h9 h10=>?_⟩)
   ·show g (bubble (arrOf st') (lo+k) (lo+k - (lo+l))) i=_
    rw [gb,if_neg (by exact Om.k145 hk' h3 hi),if_neg (by exact Om.k144 hk' h3 hi)]
   ·show rk (g (bubble (arrOf st') (lo+k) (lo+k - (lo+l))) i)<=rk (g (bubble (arrOf st') (lo+k) (lo+k - (lo+l))) j)
    have h6:∀ i,lo<=i->i<lo+l->rk (g (arrOf st') i)<=rk (g (arrOf st') (lo+k)):=fun i p q=>by
     have:=h6 (i - lo) (by exact Om.k105 p q)
     rwa [show lo+(i - lo)=i by exact Om.k104 p] at this
    have h7:∀ i,lo+l<=i->i<lo+k->rk (g (arrOf st') (lo+k))<=rk (g (arrOf st') i):=fun i p q=>by
     have:=h7 (i - lo) (by exact Om.k103 p) (by exact Om.k102 p q)
     rwa [show lo+(i - lo)=i by exact Om.k101 p] at this
    rw [gb,gb]
    repeat' split
    all_goals first
     | (exfalso; omega)
     | exact QCn _
     | exact h6 _ (by omega) (by omega)
     | exact h7 _ (by omega) (by omega)
     | exact S' _ _ (by omega) (by omega) (by omega)
end
end SM
namespace SM
open PySem PyProof.Rows
theorem Zex (base:Nat):∀ (l:List Keyed) (j:Nat) (arr:Array Keyed),base+j+l.length<=arr.size->((l.zipIdx j).foldl (fun a x=>a.setIfInBounds (base+x.2) x.1) arr).toList=arr.toList.take (base+j)++(l++arr.toList.drop (base+j+l.length))
 | [],j,arr,_=>by
  simp
 | p::l,j,arr,h=>by
  rw [QAy] at h
  rw [List.zipIdx_cons,List.foldl_cons,Zex base l (j+1) _ (by rw [Array.size_setIfInBounds]; exact Om.k139 h),Array.toList_setIfInBounds]
  have hl:base+j<arr.toList.length:=by rw [QAv]; exact Om.k138 h
  have e1:(arr.toList.set (base+j) p).take (base+(j+1))=arr.toList.take (base+j)++[p]:=by
   rw [<- Nat.add_assoc,List.take_succ_eq_append_getElem (by rw [QCu]; exact hl),List.getElem_set_self,List.take_set_of_le (QAc _)]
  have e2:(arr.toList.set (base+j) p).drop (base+(j+1)+l.length)=arr.toList.drop (base+j+(p::l).length):=by
   rw [List.drop_set_of_lt (by exact Om.k137 ),QAy]
   congr 1
   exact Om.k136 
  rw [e1,e2,QBo]
  rfl
theorem Zgc (a:Array Keyed) (i:Nat):g a i=a.toList.getD i (Value.none,Value.none):=by
 unfold g
 rw [QEs,QAd,QDa]
theorem Zjf {a a':Array Keyed} {b:Nat} {l:List Keyed} (hz:b+l.length<=a.size) (e:a'.toList=a.toList.take b++(l++a.toList.drop (b+l.length))) {i:Nat} (hi:i<b\/b+l.length<=i):g a' i=g a i:=by
 have ht:(a.toList.take b).length=b:=by rw [QAt,QAv]; exact Om.k132 hz
 rw [Zgc,Zgc,e,QAd,QAd]
 congr 1
 rcases hi with hi | hi
 ·rw [QCo (by exact Om.a1 ‹_› ‹_›),List.getElem?_take_of_lt hi]
 ·rw [QCt (by exact Om.k135 ht hi),QCt (by exact Om.k134 ht hi),List.getElem?_drop,ht]
  congr 1
  exact Om.k133 ht hi
theorem Zkv {a a':Array Keyed} {b:Nat} {l:List Keyed} (hz:b+l.length<=a.size) (e:a'.toList=a.toList.take b++(l++a.toList.drop (b+l.length))) {i:Nat} (h1:b<=i) (h2:i<b+l.length):g a' i=l.getD (i - b) (Value.none,Value.none):=by
 have ht:(a.toList.take b).length=b:=by rw [QAt,QAv]; exact Om.k132 hz
 rw [Zgc,e,QAd,QAd]
 congr 1
 rw [QCt (by exact Om.l4 ‹_› ‹_›),ht,QCo (by exact Om.k131 h1 h2 ht)]
noncomputable def Runs (rk:Keyed->Int) (a:Array Keyed):List (Nat × Nat × Nat)->Nat->Nat->Prop
 | [],lo,hi=>lo=hi
 | p::ps,lo,hi=>p.1=lo/\0<p.2.1/\Srt rk a lo (lo+p.2.1)/\Runs rk a ps (lo+p.2.1) hi
section
variable {rk:Keyed->Int} {a a':Array Keyed}
theorem Runs.le:∀ {ps:List (Nat × Nat × Nat)} {lo hi:Nat},Runs rk a ps lo hi->lo+ps.length<=hi
 | [],_,_,h=>Nat.le_of_eq h
 | p::ps,lo,hi,h=>by
  have:=Runs.le h.2.2.2
  have:=h.2.1
  rw [QAy]
  omega
theorem Runs.app:∀ {ps qs:List (Nat × Nat × Nat)} {lo hi:Nat},Runs rk a (ps++qs) lo hi↔∃ m,Runs rk a ps lo m/\Runs rk a qs m hi
 | [],qs,lo,hi=>⟨fun h=>⟨lo,rfl,h⟩,fun zz0=> by obtain ⟨m,e,h⟩ := zz0; exact by cases e; exact h⟩
 | p::ps,qs,lo,hi=>⟨fun zz0=> by obtain ⟨h1,h2,h3,h4⟩ := zz0; exact let ⟨m,h5,h6⟩:=Runs.app.mp h4; ⟨m,⟨h1,h2,h3,h5⟩,h6⟩,fun zz0=> by obtain ⟨m,⟨h1,h2,h3,h5⟩,h6⟩ := zz0; exact ⟨h1,h2,h3,Runs.app.mpr ⟨m,h5,h6⟩⟩⟩
theorem Runs.cong:∀ {ps:List (Nat × Nat × Nat)} {lo hi:Nat},Runs rk a ps lo hi->(∀ i,lo<=i->i<hi->g a' i=g a i)->Runs rk a' ps lo hi
 | [],_,_,h,_=>h
 | p::ps,lo,hi,⟨h1,h2,h3,h4⟩,e=>by
  have:=Runs.le h4
  refine ⟨h1,h2,fun i j p q r=>?_,Runs.cong h4 fun i p q=>e i (by exact Om.k130 h2 p) q⟩
  rw [e i (by assumption) (by exact Om.k129 this q r),e j (by exact Om.k38 p q) (by exact Om.k128 this r)]
  exact h3 i j p q r
end
theorem Zc0 {α:Type} {l:List α} {i:Nat} {x y:α} (hx:l[i]? = some x) (hy:l[i+1]? = some y):l=l.take i++x::y::l.drop (i+2):=by
 obtain ⟨h1,e1⟩:=List.getElem?_eq_some_iff.mp hx
 obtain ⟨h2,e2⟩:=List.getElem?_eq_some_iff.mp hy
 have d1:=QBl h1
 have d2:=QBl h2
 rw [e1,d2,e2] at d1
 rw [<- d1]
 exact (QCl i l).symm
theorem ZkT {α:Type} (p:Array α) {i:Nat} {x y z:α} (hx:p[i]? = some x) (hy:p[i+1]? = some y):((p.setIfInBounds i z).eraseIdxIfInBounds (i+1)).toList=p.toList.take i++z::p.toList.drop (i+2):=by
 have hx':p.toList[i]? = some x:=by rw [QDa]; exact hx
 have hy':p.toList[i+1]? = some y:=by rw [QDa]; exact hy
 have hl:i+1<p.size:=(Array.getElem?_eq_some_iff.mp hy).1
 have e:=Zc0 hx' hy'
 have ht:(p.toList.take i).length=i:=by rw [QAt,QAv]; exact Om.k127 hl
 rw [Array.toList_eraseIdxIfInBounds,Array.toList_setIfInBounds]
 generalize p.toList.take i=t at *
 generalize p.toList.drop (i+2)=d at *
 rw [e,List.set_append_right _ _ (by exact Om.l1 ‹_›),List.eraseIdx_append_of_length_le (by exact Om.k126 ht),ht,Nat.sub_self,show i+1 - i=1 by exact Om.k125 ]
 rfl
section
variable {M:Model} {A:Around} {E:Value->Shared->Prop} {s:Shared} {rk:Keyed->Int} {κ:SortKind} {a₀:Array Keyed}
theorem Zkh {σ:Type} {x:σ} {Q:PUnit->σ->Prop} {st:σ} (h:Q ⟨⟩ x):wpS M A E s (set x:StateT σ Sem PUnit) Q st:=by
 unfold wpS
 rw [StateT.run_set]
 exact wpAny_pure ⟨rfl,h⟩
theorem ZgU {a:Array Keyed} {b k j:Nat} (h:b+j<k) (hk:k<=a.size):g (a.extract b k) j=g a (b+j):=by
 apply ZaA
 rw [Array.getElem?_extract]
 rw [if_pos (by exact Om.k124 h hk)]
theorem Zgu {a:Array Keyed} {b k:Nat} (hk:k<=a.size) (h:Srt rk a b k):(a.extract b k).toList.Pairwise (Le rk):=by
 rw [List.pairwise_iff_getElem]
 intro i j hi hj hij
 have hz:(a.extract b k).size=k - b:=by rw [Array.size_extract]; exact Om.k123 hk
 rw [QAv,hz] at hi hj
 rw [QCg,QCg]
 have e1:=g_eq (a:=a.extract b k) (i:=i) (by exact Om.a1 ‹_› ‹_›)
 have e2:=g_eq (a:=a.extract b k) (i:=j) (by exact Om.a1 ‹_› ‹_›)
 rw [getElem?_pos _ i (by exact Om.a1 ‹_› ‹_›)] at e1
 rw [getElem?_pos _ j (by exact Om.a1 ‹_› ‹_›)] at e2
 rw [Option.some.inj e1,Option.some.inj e2,ZgU (by exact Om.k122 hi hj hij hz) hk,ZgU (by exact Om.k120 hi hj hz) hk]
 exact h _ _ (by exact Om.k114 ) (by exact Om.k121 hij) (by exact Om.k120 hi hj hz)
theorem Zje {l:List Keyed} (h:l.Pairwise (Le rk)) {i j:Nat} (hij:i<=j) (hj:j<l.length):rk (l.getD i (Value.none,Value.none))<=rk (l.getD j (Value.none,Value.none)):=by
 rcases QCq i j with h' | h'
 ·rw [QAd,QAd,QAb (by exact Om.k119 hj h':i<l.length),QAb hj]
  exact List.pairwise_iff_getElem.mp h i j (by exact Om.k119 hj h') hj h'
 ·rw [show i=j by exact Om.k118 hij h']
  exact QCn _
theorem ZbP (L:LtOk M A E s rk κ (· ∈ a₀.toList)) {st:SortSt} {i hi:Nat} {Q:Bool->SortSt->Prop} (B:SB κ a₀ st) (hz:hi<=a₀.size) (R:Runs rk (arrOf st) (pendingOf st).toList 0 hi) (hn:i+1<(pendingOf st).size)
  (h:∀ st',SB κ a₀ st'->(∀ j,hi<=j->g (arrOf st') j=g (arrOf st) j)->Runs rk (arrOf st') (pendingOf st').toList 0 hi->(pendingOf st').size+1=(pendingOf st).size->Q true st'):wpS M A E s (mergeAt' i) Q st:=by
 refine wpS_bind (wpS_get ?_)
 obtain ⟨⟨sa,na,pa⟩,hx⟩:∃ x,(pendingOf st)[i]? = some x:=⟨_,getElem?_pos _ i (by exact Om.k117 hn)⟩
 obtain ⟨⟨sb,nb,pb⟩,hy⟩:∃ x,(pendingOf st)[i+1]? = some x:=⟨_,getElem?_pos _ (i+1) hn⟩
 rw [hx,hy]
 try dsimp only
 have hj:=ZkT (pendingOf st) (z:=(sa,na+nb,pa)) hx hy
 have hsp:=Zc0 (l:=(pendingOf st).toList) (i:=i) (by rw [QDa]; exact hx) (by rw [QDa]; exact hy)
 have hsz:(((pendingOf st).setIfInBounds i (sa,na+nb,pa)).eraseIdxIfInBounds (i+1)).size+1=(pendingOf st).size:=by
  rw [<- QAv,hj,QAn,QAt,QAy,QBn,QAv]
  exact Om.k116 hn
 rw [hsp] at R
 obtain ⟨m,R1,e1,p1,s1,e2,p2,s2,R2⟩:=Runs.app.mp R
 dsimp only at e1 p1 s1 e2 p2 s2 R2
 subst e1
 subst e2
 have hle:=R2.le
 have hzz:=B.size
 generalize hp:((pendingOf st).setIfInBounds i (sa,na+nb,pa)).eraseIdxIfInBounds (i+1)=pd at *
 have fin:∀ st',SB κ a₀ st'->pendingOf st'=pd->(∀ j,j<sa\/sa+na+nb<=j->g (arrOf st') j=g (arrOf st) j)->Srt rk (arrOf st') sa (sa+na+nb)->Q true st':=fun st' B' ep kp ss=>by
  refine h st' B' (fun j h5=>kp j (.inr (by exact Om.k115 hle h5))) ?_ (by rw [ep]; exact hsz)
  rw [ep,hj]
  refine Runs.app.mpr ⟨sa,R1.cong fun j _ h6=>kp j (.inl h6),rfl,Nat.add_pos_left p1 _,?_,?_⟩
  ·rw [<- Nat.add_assoc]; exact ss
  ·rw [<- Nat.add_assoc]; exact R2.cong fun j h6 _=>kp j (.inr h6)
 have kA:∀ i j,i<=j->j<na->rk (g (arrOf st) (sa+i))<=rk (g (arrOf st) (sa+j)):=fun i j h5 h6=>s1 _ _ (by exact Om.k114 ) (by exact Om.k113 h5) (by exact Om.k112 h6)
 have kB:∀ i j,i<=j->j<nb->rk (g (arrOf st) (sa+na+i))<=rk (g (arrOf st) (sa+na+j)):=fun i j h5 h6=>s2 _ _ (by exact Om.k78 ) (by exact Om.k111 h5) (by exact Om.k110 h6)
 refine wpS_bind (Zkh ?_)
 have b1:sa+na<(arrOf st).size:=by exact Om.k109 hz p2 hle hzz
 have b2:sa+na+nb<=(arrOf st).size:=by exact Om.k108 hz hle hzz
 have b3:sa+na - 1<(arrOf st).size:=by exact Om.k107 p1 b1
 refine wpS_bind (ZN b1 (wpS_bind (Za8 L (B.mem (by exact Om.a2 ‹_› ‹_›)) (fun i hi=>B.mem (by exact Om.k106 hzz b1 hi)) (QBw b1) p1 kA B.kind fun k hk1 hk2 hk3=>?_)))
 have B1:SB κ a₀ (setPending st pd):=⟨B.perm,B.kind,B.failed⟩
 try dsimp only
 have hk2:∀ i,sa<=i->i<sa+k->rk (g (arrOf st) i)<=rk (g (arrOf st) (sa+na)):=fun i h5 h6=>by
  have:=by_no.mp (hk2 (i - sa) (by exact Om.k105 h5 h6))
  rwa [show sa+(i - sa)=i by exact Om.k104 h5] at this
 have hk3:∀ i,sa+k<=i->i<sa+na->rk (g (arrOf st) (sa+na))<rk (g (arrOf st) i):=fun i h5 h6=>by
  have:=by_no'.mp (hk3 (i - sa) (by exact Om.k103 h5) (by exact Om.k102 h5 h6))
  rwa [show sa+(i - sa)=i by exact Om.k101 h5] at this
 by_cases e1:na - k=0
 ·rw [if_pos (by simpa using e1)]
  refine wpS_pure (fin _ B1 rfl (fun _ _=>rfl) fun i j h5 h6 h7=>?_)
  by_cases hj:j<sa+na
  ·exact s1 i j h5 h6 hj
  ·by_cases hi:i<sa+na
   ·exact QBm (hk2 i h5 (by exact Om.k100 hk1 e1 hi)) (s2 _ _ (by exact Om.k60 ) (by exact Om.k53 hj) h7)
   ·exact s2 i j (by exact Om.k53 hi) h6 h7
 rw [if_neg (by simpa using e1)]
 have e0:sa+k+(na - k) - 1=sa+na - 1:=by exact Om.k99 p1 hk1 e1
 rw [e0]
 refine wpS_bind (ZN b3 (wpS_bind (Za8 L (B.mem (by exact Om.a2 ‹_› ‹_›)) (fun i hi=>B.mem (by exact Om.k98 hzz b2 hi)) b2 (by exact Om.k97 p2) kB B.kind fun n2 hn1 hn2 hn3=>?_)))
 have hn2:∀ i,sa+na<=i->i<sa+na+n2->rk (g (arrOf st) i)<rk (g (arrOf st) (sa+na - 1)):=fun i h5 h6=>by
  have:=by_yes.mp (hn2 (i - (sa+na)) (by exact Om.k69 h5 h6))
  rwa [show sa+na+(i - (sa+na))=i by exact Om.k96 h5] at this
 have hn3:∀ i,sa+na+n2<=i->i<sa+na+nb->rk (g (arrOf st) (sa+na - 1))<=rk (g (arrOf st) i):=fun i h5 h6=>by
  have:=by_yes'.mp (hn3 (i - (sa+na)) (by exact Om.k95 h5) (by exact Om.k94 h5 h6))
  rwa [show sa+na+(i - (sa+na))=i by exact Om.k93 h5] at this
 try dsimp only
 by_cases e2:n2=0
 ·rw [if_pos (by simpa using e2)]
  refine wpS_pure (fin _ B1 rfl (fun _ _=>rfl) fun i j h5 h6 h7=>?_)
  by_cases hj:j<sa+na
  ·exact s1 i j h5 h6 hj
  ·by_cases hi:i<sa+na
   ·exact QBm (s1 _ _ h5 (by exact Om.q2 ‹_›:i<=sa+na - 1) (by exact Om.k92 hk1 e0 hi)) (hn3 _ (by exact Om.k91 e2 hj) h7)
   ·exact s2 i j (by exact Om.k53 hi) h6 h7
 rw [if_neg (by simpa using e2)]
 generalize hx':(arrOf st).extract (sa+k) (sa+na)=x
 generalize hy':(arrOf st).extract (sa+na) (sa+na+n2)=y
 have zx:x.size=na - k:=by rw [<- hx',Array.size_extract]; exact Om.k90 b1 hk1
 have zy:y.size=n2:=by rw [<- hy',Array.size_extract]; exact Om.k89 b1 b2 hn1
 have gx:∀ j,j<na - k->g x j=g (arrOf st) (sa+k+j):=fun j hj=>by rw [<- hx',ZgU (by exact Om.k88 hk1 hj) (by exact Om.d1 ‹_›)]
 have gy:∀ j,j<n2->g y j=g (arrOf st) (sa+na+j):=fun j hj=>by rw [<- hy',ZgU (by exact Om.k87 zy hj) (by exact Om.k86 b2 hn1 zy)]
 have sx:x.toList.Pairwise (Le rk):=by rw [<- hx']; exact Zgu (by exact Om.d1 ‹_›) fun i j h5 h6 h7=>s1 i j (by exact Om.k56 h5) h6 h7
 have sy:y.toList.Pairwise (Le rk):=by rw [<- hy']; exact Zgu (by exact Om.k86 b2 hn1 zy) fun i j h5 h6 h7=>s2 i j h5 h6 (by exact Om.k61 hn1 zy h7)
 have mx:∀ j,j<x.size->g x j∈a₀.toList:=fun j hj=>by rw [gx j (by exact Om.a2 ‹_› ‹_›)]; exact B.mem (by exact Om.k85 hzz b2 hk1 hn1 zx zy hj)
 have my:∀ j,j<y.size->g y j∈a₀.toList:=fun j hj=>by rw [gy j (by exact Om.a2 ‹_› ‹_›)]; exact B.mem (by exact Om.k84 hzz b2 hn1 zy hj)
 have ox:∀ z∈x.toList,∃ j,sa+k<=j/\j<sa+na/\z=g (arrOf st) j:=fun z hz=>by
  obtain ⟨j,_,h5,rfl⟩:=JJ (i:=0) (by rw [List.drop_zero]; exact hz)
  exact ⟨sa+k+j,by exact Om.k82 ‹_›,by exact Om.k83 hk1 zx h5,gx j (by exact Om.a2 ‹_› ‹_›)⟩
 have oy:∀ z∈y.toList,∃ j,sa+na<=j/\j<sa+na+n2/\z=g (arrOf st) j:=fun z hz=>by
  obtain ⟨j,_,h5,rfl⟩:=JJ (i:=0) (by rw [List.drop_zero]; exact hz)
  exact ⟨sa+na+j,by exact Om.k82 ‹_›,by exact Om.k77 zy h5,gy j (by exact Om.a2 ‹_› ‹_›)⟩
 have h0:∀ z∈x.toList,rk (g y 0)<=rk z:=fun z hz=>by
  obtain ⟨j,h5,h6,rfl⟩:=ox z hz
  rw [gy 0 (by exact Om.k81 hk1 e2 zy)]
  exact QBv (hk3 j h5 h6)
 have hl:∀ j,j<y.size->rk (g y j)<=rk (g x (x.size - 1)):=fun j hj=>by
  rw [gy j (by exact Om.a2 ‹_› ‹_›),gx _ (by exact Om.k80 p1 hk1 e1 e2 zx zy),show sa+k+(x.size - 1)=sa+na - 1 by exact Om.k79 p1 hk1 e1 e0 e2 zx zy]
  exact QBv (hn2 _ (by exact Om.k78 ) (by exact Om.k77 zy hj))
 by_cases hc:na - k<=n2
 rw [if_pos hc]
 clear hc
 refine wpS_bind (ZfE L mx my sx sy (by exact Om.k75 p1 hk1 e1 e2 zx zy) (by exact Om.k74 hk1 e2 zy) h0 (fun z hz z' hz'=>?_) B1.kind ?key)
 ·obtain ⟨j,_,h5,rfl⟩:=JJ (i:=0) (by rw [List.drop_zero]; exact hz)
  obtain ⟨j',h6,h7,rfl⟩:=JJ hz'
  rw [QAv] at h6
  rw [show j'=x.size - 1 by exact Om.k76 zx h6 h7]
  exact hl j h5
 rotate_left
 rw [if_neg hc]
 clear hc
 exact wpS_bind (ZfF L mx my sx sy (by exact Om.k75 p1 hk1 e1 e2 zx zy) (by exact Om.k74 hk1 e2 zy) h0 hl B1.kind ?key)
 intro m st2 hs hm
 try dsimp only
 have ea:arrOf st2=arrOf st:=hs.2.1
 have hml:m.toList.length=na - k+n2:=by rw [hm.1.length_eq,QAn,QAv,QAv]; exact Om.k73 zx zy
 have el:=Zex (sa+k) m.toList 0 (arrOf st2) (by rw [ea]; exact Om.k72 b2 hk1 hn1 zy hml)
 refine wpS_bind (wpS_modify (wpS_bind (wpS_get ?_)))
 generalize ha2:(m.toList.zipIdx 0).foldl (fun a x=>a.setIfInBounds (sa+k+x.2) x.1) (arrOf st2)=a2 at *
 rw [ea,Nat.add_zero] at el
 have ef:failedOf st2=none:=hs.2.2.2.trans B.failed
 show wpS M A E s (pure (failedOf st2).isNone) Q (setArr st2 a2)
 rw [ef]
 have hout:=fun i hi=>Zjf (i:=i) (by exact Om.k71 b2 hk1 hn1 zy hml hi) el hi
 have hin:=fun i h1 h2=>Zkv (i:=i) (by exact Om.k70 b2 hk1 hn1 zy hml) el h1 h2
 have hmm:∀ i,sa+k<=i->i<sa+k+m.toList.length->∃ j,sa+k<=j/\j<sa+na+n2/\g a2 i=g (arrOf st) j:=fun i h5 h6=>by
  have:g a2 i∈m.toList:=by
   rw [hin i h5 h6,QAd,QAb (by exact Om.k69 h5 h6)]
   exact QAs _
  rcases List.mem_append.mp (hm.1.mem_iff.mp this) with hx | hx
  ·obtain ⟨j,h7,h8,e⟩:=ox _ hx
   exact ⟨j,h7,by exact Om.k68 zy h8,e⟩
  ·obtain ⟨j,h7,h8,e⟩:=oy _ hx
   exact ⟨j,by exact Om.k67 hk1 h7,h8,e⟩
 refine wpS_pure (fin (setArr st2 a2) ⟨?_,hs.1.trans B.kind,ef⟩ hs.2.2.1 (fun j h5=>hout j (by exact Om.k66 hk1 hn1 zy hml h5)) ?_)
 ·refine Array.Perm.trans (Array.perm_iff_toList_perm.mpr ?_) B.perm
  show a2.toList.Perm (arrOf st).toList
  have d1:=(QCl (na - k) ((arrOf st).toList.drop (sa+k))).symm
  have d2:=(QCl n2 ((arrOf st).toList.drop (sa+na))).symm
  rw [List.drop_drop,show sa+k+(na - k)=sa+na by exact Om.k65 hk1 zy hml,<- Zan,show sa+k+(na - k)=sa+na by exact Om.k65 hk1 zy hml,hx'] at d1
  rw [List.drop_drop,<- Zan,hy'] at d2
  rw [el,hml,show sa+k+(na - k+n2)=sa+na+n2 by exact Om.k64 hk1 zy hml]
  refine List.Perm.trans ?_ (List.Perm.of_eq (QCl (sa+k) (arrOf st).toList))
  rw [d1,d2,<- QBo x.toList]
  exact (hm.1.append_right _).append_left _
 ·show Srt rk a2 sa (sa+na+nb)
  intro i j h5 h6 h7
  by_cases hi:i<sa+k
  ·rw [hout i (.inl hi)]
   by_cases hj:j<sa+k
   ·rw [hout j (.inl hj)]
    exact s1 i j h5 h6 (by exact Om.k63 hk1 hj)
   ·by_cases hj2:j<sa+k+m.toList.length
    ·obtain ⟨j',h8,h9,e⟩:=hmm j (by exact Om.k53 hj) hj2
     rw [e]
     by_cases hj3:j'<sa+na
     ·exact s1 i j' h5 (by exact Om.k62 hi h8) hj3
     ·exact QBm (hk2 i h5 hi) (s2 _ _ (by exact Om.k60 ) (by exact Om.k53 hj3) (by exact Om.k61 hn1 zy h9))
    ·rw [hout j (.inr (by exact Om.k51 hj2))]
     exact QBm (hk2 i h5 hi) (s2 _ _ (by exact Om.k60 ) (by exact Om.k49 hk1 zy hml hj2) h7)
  ·by_cases hi2:i<sa+k+m.toList.length
   ·by_cases hj2:j<sa+k+m.toList.length
    ·rw [hin i (by exact Om.k53 hi) hi2,hin j (by exact Om.k59 h6 hi) hj2]
     exact Zje hm.2 (by exact Om.k58 h6 hi) (by exact Om.k57 h6 hi hj2)
    ·obtain ⟨i',h8,h9,e⟩:=hmm i (by exact Om.k53 hi) hi2
     rw [e,hout j (.inr (by exact Om.k51 hj2))]
     by_cases hi3:i'<sa+na
     ·exact QBm (s1 i' (sa+na - 1) (by exact Om.k56 h8) (by exact Om.q2 ‹_›) (by exact Om.k55 hk1 e0 e2 zy hml hi3)) (hn3 j (by exact Om.k54 hk1 zy hml hj2) h7)
     ·exact s2 i' j (by exact Om.k53 hi3) (by exact Om.k52 hk1 zy hml hj2 h9) h7
   ·rw [hout i (.inr (by exact Om.k51 hi2)),hout j (.inr (by exact Om.k50 h6 hi2))]
    exact s2 i j (by exact Om.k49 hk1 zy hml hi2) h6 h7
end
end SM
namespace SM
open PySem PyProof.Rows
theorem Runs.third {rk:Keyed->Int} {a:Array Keyed}:∀ {ps qs:List (Nat × Nat × Nat)} {lo hi:Nat},Runs rk a ps lo hi->qs.map (fun p=>(p.1,p.2.1))=ps.map (fun p=>(p.1,p.2.1))->Runs rk a qs lo hi
 | [],[],_,_,h,_=>h
 | [],_::_,_,_,_,e=>by cases e
 | _::_,[],_,_,_,e=>by cases e
 | p::ps,q::qs,lo,hi,⟨h1,h2,h3,h4⟩,e=>by
  rw [QAr,QAr] at e
  obtain ⟨e1,e2⟩:=List.cons.inj e
  obtain ⟨e3,e4⟩:=Prod.mk.inj e1
  refine ⟨e3.trans h1,by rw [e4]; exact h2,by rw [e4]; exact h3,?_⟩
  rw [e4]
  exact Runs.third h4 e2
theorem ZkU {c:Prop} [Decidable c] {a b n:Nat} (h1:a+1<n) (h2:b+1<n):(if c then a else b)+1<n:=by
 split
 ·exact h1
 ·exact h2
section
variable {M:Model} {A:Around} {E:Value->Shared->Prop} {s:Shared} {rk:Keyed->Int} {κ:SortKind} {a₀:Array Keyed}
theorem wp_sort (L:LtOk M A E s rk κ (· ∈ a₀.toList)) (hd:(a₀.toList.map rk).Nodup) {st:SortSt} {Q:Unit->SortSt->Prop} (B:SB κ a₀ st) (hp:pendingOf st = #[]) (h1:1<=a₀.size)
  (h:∀ st',SB κ a₀ st'->Srt rk (arrOf st') 0 a₀.size->Q () st'):wpS M A E s sortRuns' Q st:=by
 refine wpS_bind (wpS_get ?_)
 have hz:(arrOf st).size=a₀.size:=B.size
 dsimp only
 rw [hz]
 generalize (sortPriv% PySem.Builtin.minRun) a₀.size a₀.size 0=mr
 refine wpS_bind (wpS_mono (wpS_forRange (I:=fun x c st'=>∃ lo,c=(none,lo)/\SB κ a₀ st'/\lo<=a₀.size/\(x<=lo\/a₀.size<=lo)/\Runs rk (arrOf st') (pendingOf st').toList 0 lo)
  (Q:=fun c st'=>c=(none,a₀.size)/\SB κ a₀ st'/\Runs rk (arrOf st') (pendingOf st').toList 0 a₀.size) ?s1 ?f1 ⟨0,rfl,B,QAh _,.inl (QAh _),by rw [hp]; rfl⟩) ?p1)
 case f1 =>
  rintro c st' ⟨lo,rfl,B',h2,h3,R⟩
  have:lo=a₀.size:=by exact Om.k48 h1 hz h2 h3
  subst this
  exact ⟨rfl,B',R⟩
 case s1 =>
  rintro x c st1 _ hx ⟨lo,rfl,B1,h2,h3,R⟩
  try dsimp only
  by_cases h4:lo>=a₀.size
  ·rw [if_pos h4]
   have:lo=a₀.size:=by exact Om.k47 hz h2 h4
   subst this
   exact wpS_pure ⟨rfl,B1,R⟩
  rw [if_neg h4]
  refine wpS_bind (ZhI L hd B1 (by exact Om.k46 hz h4) (by exact Om.k45 hz h4) fun m st2 B2 K2 m1 m2 S2=>?_)
  have R2:Runs rk (arrOf st2) (pendingOf st2).toList 0 lo:=by
   rw [K2.1]
   exact R.cong fun i _ h6=>K2.2 i (.inl h6)
  try dsimp only
  by_cases h5:m<mr
  rw [if_pos h5]
  refine wpS_bind (wpS_lift (wpAny_rule ⟨rfl,?_⟩))
  refine wpS_bind (Zhd L B2 m1 (by exact Om.k44 m2 h5) (by exact Om.k42 hz h4) S2 fun st3 B3 K3 S3=>?_)
  rw [if_neg (by simp)]
  have R3:Runs rk (arrOf st3) (pendingOf st3).toList 0 lo:=by
   rw [K3.1]
   exact R2.cong fun i _ h6=>K3.2 i (.inl h6)
  have q1:1<=min (a₀.size - lo) mr:=by exact Om.k43 m1 m2 h5
  have q2:lo+min (a₀.size - lo) mr<=a₀.size:=by exact Om.k42 hz h4
  clear h5 K3
  revert st3 q1 q2
  generalize min (a₀.size - lo) mr=n
  revert n
  refine ?key
  rotate_left
  rw [if_neg h5]
  clear h5
  exact ?key m st2 B2 S2 R2 m1 (by exact Om.k41 hz h4 m2)
  clear S2 B2 K2 m1 m2 R2
  intro n st3 B3 S3 R3 q1 q2
  have push:∀ st4,SB κ a₀ st4->Runs rk (arrOf st4) (pendingOf st4).toList 0 lo->Srt rk (arrOf st4) lo (lo+n)->Runs rk (arrOf (setPending st4 ((pendingOf st4).push (lo,n,0)))) (pendingOf (setPending st4 ((pendingOf st4).push (lo,n,0)))).toList 0 (lo+n):=fun st4 B4 R4 S4=>by
   show Runs rk (arrOf st4) ((pendingOf st4).push (lo,n,0)).toList 0 (lo+n)
   rw [Array.toList_push]
   exact Runs.app.mpr ⟨lo,R4,rfl,q1,S4,rfl⟩
  refine wpS_bind (wpS_get ?_)
  cases hb:(pendingOf st3).back? with
  | none=>exact wpS_bind (wpS_modify (wpS_pure ⟨lo+n,rfl,⟨B3.perm,B3.kind,B3.failed⟩,q2,by exact Om.k37 hz h3 h4 q1,push st3 B3 R3 S3⟩))
  | some t =>
   obtain ⟨s1,n1,p1⟩:=t
   try dsimp only
   generalize (sortPriv% PySem.Builtin.power) a₀.size (2*s1+n1) (2*s1+n1+n1+n) a₀.size=pw
   refine wpS_bind (wpS_mono (wpS_forRange (I:=fun y c st'=>c=(none,())/\SB κ a₀ st'/\Runs rk (arrOf st') (pendingOf st').toList 0 lo/\Srt rk (arrOf st') lo (lo+n))
    (Q:=fun c st'=>c=(none,())/\SB κ a₀ st'/\Runs rk (arrOf st') (pendingOf st').toList 0 lo/\Srt rk (arrOf st') lo (lo+n)) ?s2 (fun _ _ r=>r) ⟨rfl,B3,R3,S3⟩) ?p2)
   case s2 =>
    rintro y c st4 _ hy ⟨rfl,B4,R4,S4⟩
    refine wpS_bind (wpS_get ?_)
    by_cases h5:(pendingOf st4).size>1
    ·rw [if_pos h5]
     obtain ⟨⟨u,v,older⟩,ho⟩:∃ x,(pendingOf st4)[(pendingOf st4).size - 2]? = some x:=⟨_,getElem?_pos _ _ (by exact Om.k40 h5)⟩
     rw [ho]
     try dsimp only
     split
     ·exact wpS_pure ⟨rfl,B4,R4,S4⟩
     ·refine wpS_bind (ZbP L B4 (by assumption) R4 (show (pendingOf st4).size - 2+1<(pendingOf st4).size by exact Om.k39 h5) fun st5 B5 K5 R5 _=>?_)
      rw [if_neg (by simp)]
      refine wpS_pure ⟨rfl,B5,R5,fun i j h6 h7 h8=>?_⟩
      rw [K5 i (by assumption),K5 j (by exact Om.k38 h6 h7)]
      exact S4 i j h6 h7 h8
    ·rw [if_neg h5]
     exact wpS_pure ⟨rfl,B4,R4,S4⟩
   case p2 =>
    rintro c st4 ⟨rfl,B4,R4,S4⟩
    try dsimp only
    refine wpS_bind (wpS_modify (wpS_bind (wpS_modify (wpS_pure ?_))))
    have R5:Runs rk (arrOf st4) ((pendingOf st4).modify ((pendingOf st4).size - 1) fun x=>(x.1,x.2.1,pw)).toList 0 lo:=by
     refine R4.third ?_
     rw [Array.toList_modify]
     refine QDh fun i=>?_
     rw [QAe,QAe,List.getElem?_modify]
     cases (pendingOf st4).toList[i]? with
     | none=>rfl
     | some t =>
      simp only [QDp,Option.map_eq_map]
      split <;> rfl
    exact ⟨lo+n,rfl,⟨B4.perm,B4.kind,B4.failed⟩,q2,by exact Om.k37 hz h3 h4 q1,push (setPending st4 ((pendingOf st4).modify ((pendingOf st4).size - 1) fun x=>(x.1,x.2.1,pw))) ⟨B4.perm,B4.kind,B4.failed⟩ R5 S4⟩
 case p1 =>
  rintro c st1 ⟨rfl,B1,R1⟩
  try dsimp only
  refine wpS_bind (wpS_mono (wpS_forRange (I:=fun x c st'=>c=(none,())/\SB κ a₀ st'/\Runs rk (arrOf st') (pendingOf st').toList 0 a₀.size/\(pendingOf st').size+x<=a₀.size+1)
   (Q:=fun c st'=>c=(none,())/\SB κ a₀ st'/\Runs rk (arrOf st') (pendingOf st').toList 0 a₀.size/\(pendingOf st').size<=1) ?s3 ?f3 ⟨rfl,B1,R1,?i3⟩) ?p3)
  case i3 =>
   have:=R1.le
   rw [QAv] at this
   omega
  case f3 =>
   rintro c st2 ⟨rfl,B2,R2,h2⟩
   exact ⟨rfl,B2,R2,by exact Om.k36 h1 hz h2⟩
  case s3 =>
   rintro x c st2 _ hx ⟨rfl,B2,R2,h2⟩
   refine wpS_bind (wpS_get ?_)
   by_cases h5:(pendingOf st2).size<=1
   ·rw [if_pos h5]
    exact wpS_pure ⟨rfl,B2,R2,h5⟩
   rw [if_neg h5]
   try dsimp only
   have fin:∀ i,i+1<(pendingOf st2).size->wpS M A E s (mergeAt' i) (fun b st3=>b=true/\SB κ a₀ st3/\Runs rk (arrOf st3) (pendingOf st3).toList 0 a₀.size/\(pendingOf st3).size+(x+1)<=a₀.size+1) st2:=fun i hi =>
    ZbP L B2 (QAc _) R2 hi fun st3 B3 _ R3 h3=>⟨rfl,B3,R3,by exact Om.k35 hz h2 h3⟩
   refine wpS_bind (wpS_mono (fin _ ?_) ?_)
   ·exact ZkU (show (pendingOf st2).size - 2 - 1+1<(pendingOf st2).size by exact Om.k34 h5) (show (pendingOf st2).size - 2+1<(pendingOf st2).size by exact Om.k33 h5)
   ·rintro b st3 ⟨rfl,B3,R3,h3⟩
    rw [if_neg (by simp)]
    exact wpS_pure ⟨rfl,B3,R3,h3⟩
  case p3 =>
   rintro c st2 ⟨rfl,B2,R2,h2⟩
   refine wpS_pure (h st2 B2 ?_)
   rw [<- QAv] at h2
   generalize (pendingOf st2).toList=ps at R2 h2
   match ps,R2,h2 with
   | [],R2,_ =>
    have:0=a₀.size:=R2
    exact (Om.k32 h1 hz this).elim
   | [p],⟨_,_,h5,h6⟩,_ =>
    have:0+p.2.1=a₀.size:=h6
    rw [this] at h5
    exact h5
   | _::_::_,_,h =>
    rw [QAy,QAy] at h
    exact (Om.k31 h).elim
end
end SM
namespace L2
open PySem PySem.Spec PyProof.Rows PySem.W SeqAt
noncomputable def ZgG (h:Heap):Value->List Int
 | .ref a=>match h.get? a with
  | some o=>match o.data with
   | .seq xs _=>xs.toList.map numOf
   | _=>[]
  | none=>[]
 | _=>[]
noncomputable def Z7 (h:Heap):Value->List (List Int)
 | .ref a=>match h.get? a with
  | some o=>match o.data with
   | .seq xs _=>xs.toList.map (ZgG h)
   | _=>[]
  | none=>[]
 | _=>[]
theorem ZhZ {h:Heap} {a:Addr} {us:List Value} {r:List Int} (t:h.IsTuple a (List.toArray us)) (i:IntsAre us r):ZgG h (.ref a)=r:=by
 obtain ⟨o,g,c,n,d⟩:=t
 unfold ZgG
 simp only [g,d]
 exact i.nums
theorem Zc3 {h:Heap}:∀ {us:List Value} {r:List (List Int)},GrAt h us r->us.map (ZgG h)=r
 | _,_,.nil=>rfl
 | _,_,.cons ⟨a,u,e,t,i⟩ x=>by
  subst e
  rw [QAr,ZhZ t i,Zc3 x]
theorem ZaR {h:Heap} {a:Addr} {o:Obj} {us:List Value} {n:Nat} {r:List (List Int)} (g:h.get? a=some o) (d:o.data = .seq (List.toArray us) n) (x:GrAt h us r):Z7 h (.ref a)=r:=by
 unfold Z7
 simp only [g,d]
 exact Zc3 x
theorem Y0 {h:Heap}:∀ {vs:List Value} {S:List (List (List Int))},Grs h vs S->vs.map (Z7 h)=S
 | _,_,.nil=>rfl
 | _,_,.cons ⟨a,o,us,n,e,g,c,d,x⟩ t=>by
  subst e
  rw [QAr,ZaR g d x,Y0 t]
section
variable {prog:Program} {w:World} {A:Around} {E:Value->Shared->Prop} {s:Shared}
theorem ZkO {vs:List Value} {S:List (List (List Int))} {m k:Nat} {rk:List (List Int)->Int} (ht:Grs s.heap vs S) (hk:∀ r∈S,r.length=m/\∀ x∈r,x.length=k) (hu:A.units<cLine) (hrk:∀ p∈S,∀ q∈S,Zck p q=decide (rk p<rk q)) :
  SM.LtOk (model prog w) A E s (fun x=>rk (Z7 s.heap x.1)) (tuples' false) (fun x=>x∈(pairsOf vs).toList):=by
 intro x y st Q hx hy hst q
 rw [pairsOf_toList] at hx hy
 have hx:=(mem_zip_self hx).2
 have hy:=(mem_zip_self hy).2
 obtain ⟨i,hi,ei⟩:=QBd hx
 obtain ⟨j,hj,ej⟩:=QBd hy
 obtain ⟨ri,hri,bi,oi,ui,mi,e1,gi,ci,di,ii⟩:=Paired.getL ht (QAb hi)
 obtain ⟨rj,hrj,bj,oj,uj,mj,e2,gj,cj,dj,ij⟩:=Paired.getL ht (QAb hj)
 have l1:=hk ri (QAu hri)
 have l2:=hk rj (QAu hrj)
 have e3:x.1 = .ref bi:=by rw [<- ei,e1]
 have e4:y.1 = .ref bj:=by rw [<- ej,e2]
 have q:Q (some (decide (rk (Z7 s.heap x.1)<rk (Z7 s.heap y.1)))) st:=q
 have eq:decide (rk (Z7 s.heap x.1)<rk (Z7 s.heap y.1))=Zck ri rj:=by
  rw [e3,e4,ZaR gi di ii,ZaR gj dj ij,hrk ri (QAu hri) rj (QAu hrj)]
 rw [eq] at q
 rw [lt'_eq]
 refine wpS_bind (wpS_get ?_)
 rw [hst,e3,e4]
 refine wpS_bind (wpS_lift (wpAny_attempt (kat_lt gi di gj dj ?_)))
 have hsz:decide ((List.toArray ui).size<(List.toArray uj).size)=false:=by
  rw [QAg,QAg,Paired.length ii,Paired.length ij,l1.1,l2.1]
  simp
 rw [hsz]
 exact ZeO (k:=k) hu ii ij l1.2 l2.2 (l1.1.trans l2.1.symm) ⟨rfl,wpS_pure q⟩
theorem ZcM {a:Addr} {vs:List Value} {S:List (List (List Int))} {n m k:Nat} {rk:List (List Int)->Int} {P:PySem.Fin->Shared->Prop} (ho:s.heap.get? a=some (seqObj "list" vs.toArray n)) (ht:Grs s.heap vs S) (hk:∀ r∈S,r.length=m/\∀ x∈r,x.length=k) (hm0:0<m) (hu:A.units+3<cLine)
  (h2:2<=vs.length) (hz:vs.length<=100000) (hrk:∀ p∈S,∀ q∈S,Zck p q=decide (rk p<rk q)) (hd:(S.map rk).Nodup)
  (h:∀ out:List Value,out.Perm vs->(out.map fun v=>rk (Z7 s.heap v)).Pairwise (· <= ·)->P (.done (.ret .none)) { s with heap:=sortedHeap s.heap a vs (List.toArray out) }) :
  wpAny (model prog w) A (Builtin.«list.sort» ⟨[.ref a],[]⟩) P E s:=by
 have ha:a<s.heap.objs.size:=QAi ho
 obtain ⟨e1,ho1⟩:∃ e1,(s.heap.update a (Obj.mapSeq fun _=>(#[]:Array Value))).get? a=some (seqObj "list" #[] e1):=⟨_,get?_update_seq ho fun _=>#[]⟩
 have keep:∀ b o,b≠a->s.heap.get? b=some o->(((s.heap.update a (Obj.mapSeq fun _=>(#[]:Array Value))).push (seqObj "tuple" vs.toArray 0)).push (seqObj "list" #[] 0)).get? b=some o:=fun b o hb e=>by
  refine QAk _ (QAk _ ?_)
  rw [Heap.get?_update_ne _ _ _ _ hb]
  exact e
 have ho6:(((s.heap.update a (Obj.mapSeq fun _=>(#[]:Array Value))).push (seqObj "tuple" vs.toArray 0)).push (seqObj "list" #[] 0)).get? a=some (seqObj "list" #[] e1):=QAk _ (QAk _ ho1)
 have ht3:Grs (((s.heap.update a (Obj.mapSeq fun _=>(#[]:Array Value))).push (seqObj "tuple" vs.toArray 0)).push (seqObj "list" #[] 0)) vs S:=Paired.mapP ht fun v r ⟨b,o,us,m,e,g,c,d,iu⟩=>by
  have kt:∀ b o,o.cls = .type "tuple" -> s.heap.get? b=some o->(((s.heap.update a (Obj.mapSeq fun _=>(#[]:Array Value))).push (seqObj "tuple" vs.toArray 0)).push (seqObj "list" #[] 0)).get? b=some o:=fun b o c g=>keep b o (fun z=>by
   rw [z,ho] at g
   cases g
   exact absurd c (by simp [seqObj])) g
  exact ⟨b,o,us,m,e,kt b o c g,c,d,GrAt.keep iu kt⟩
 rw [list_sort_plain]
 refine wpAny_bind (listItems_at ho rfl ?_)
 refine wpAny_bind (listUpdate_at ho rfl ?_ (by rw [QAg,sizeLine_eq]; exact Om.b1 ‹_› rfl) (QAh _))
 refine wpAny_bind (seqEpoch_at ho1 rfl ?_)
 refine wpAny_bind (wpAny_newTuple ?_ (by show vs.length<=_; rw [sizeLine_eq]; exact Om.b1 ‹_› rfl))
 refine wpAny_bind (wpAny_newList ?_ (QAh _))
 refine wpAny_holding ?_
 have er:∀ v∈vs,Z7 (((s.heap.update a (Obj.mapSeq fun _=>(#[]:Array Value))).push (seqObj "tuple" vs.toArray 0)).push (seqObj "list" #[] 0)) v=Z7 s.heap v:=by
  have:=(Y0 ht3).trans (Y0 ht).symm
  exact List.map_inj_left.mp this
 show wpAny (model prog w) A _ P E { s with heap:=((s.heap.update a (Obj.mapSeq fun _=>(#[]:Array Value))).push (seqObj "tuple" vs.toArray 0)).push (seqObj "list" #[] 0) }
 dsimp only
 have hn2:¬ vs.toArray.size<2:=by rw [QAg]; exact Om.k30 h2 hz
 rw [if_neg hn2,if_neg hn2]
 obtain ⟨fs,kt,hfl,hT⟩:=Zcr (M:=model prog w) ht3 (fun r hr z=>by have:=(hk r hr).1; rw [z] at this; simp at this; exact (Om.k29 hm0 this).elim)
 refine wpAny_bind (kat_kind kt (by exact Om.k28 h2 hz hfl) hT rfl ?_)
 have hps:(pairsOf vs).size=vs.length:=pairsOf_size vs
 have LO:=ZkO (prog:=prog) (w:=w) (A:=A) (E:=E) (s:={ s with heap:=((s.heap.update a (Obj.mapSeq fun _=>(#[]:Array Value))).push (seqObj "tuple" vs.toArray 0)).push (seqObj "list" #[] 0) }) (rk:=rk) ht3 hk (by exact Om.k27 hu) hrk
 generalize hh:((s.heap.update a (Obj.mapSeq fun _=>(#[]:Array Value))).push (seqObj "tuple" vs.toArray 0)).push (seqObj "list" #[] 0)=h6 at *
 have hnd:((pairsOf vs).toList.map fun x=>rk (Z7 h6 x.1)).Nodup:=by
  have e:(pairsOf vs).toList.map (fun x=>rk (Z7 h6 x.1))=S.map rk:=by
   rw [pairsOf_toList,<- Y0 ht3,QBb]
   have:(vs.zip vs).map (fun x=>rk (Z7 h6 x.1))=((vs.zip vs).map Prod.fst).map fun v=>rk (Z7 h6 v):=by rw [QBb]; rfl
   rw [this,List.map_fst_zip (QAc _)]
   rfl
  rw [e]
  exact hd
 refine wpAny_bind (wpAny_mono (SM.wp_sort (a₀:=pairsOf vs) (st:=SortSt.mk' (tuples' false) (vs.toArray.zip vs.toArray) #[] 7 none)
  (Q:=fun _ st'=>SM.SB (tuples' false) (pairsOf vs) st'/\SM.Srt (fun x=>rk (Z7 h6 x.1)) (arrOf st') 0 (pairsOf vs).size)
  LO hnd ⟨Array.Perm.refl _,rfl,rfl⟩ rfl (by exact Om.k26 h2 hz hfl hps) fun st' b1 b2=>⟨b1,b2⟩) ?_ fun _ _ e=>e)
 rintro ⟨⟨⟩,st'⟩ s' ⟨rfl,B,hS⟩
 dsimp only
 have hsz:((arrOf st').map (·.2)).size=vs.length:=by rw [Array.size_map,B.size,hps]
 refine wpAny_bind (seqEpoch_at ho6 rfl ?_)
 refine wpAny_bind (listUpdate_at ho6 rfl ?_ (QAh _) (QAq (Nat.le_of_eq hsz) (by rw [sizeLine_eq]; exact Om.b1 ‹_› rfl)))
 rw [B.failed]
 simp only [bne_self_eq_false,QDb,if_false]
 have hpl:(arrOf st').toList.Perm (vs.zip vs):=by
  rw [<- pairsOf_toList]
  exact Array.perm_iff_toList_perm.mp B.perm
 have hz2:(arrOf st').size=vs.length:=by rw [B.size,hps]
 refine wpAny_pure ?_
 have hq:=h ((arrOf st').toList.map (·.2)) ?_ ?_
 ·unfold sortedHeap at hq
  rw [hh] at hq
  have ea:(arrOf st').map (·.2)=List.toArray ((arrOf st').toList.map (·.2)):=by
   apply Array.ext'
   rw [Array.toList_map]
  rw [ea]
  exact hq
 ·have:=hpl.map Prod.snd
  rw [List.map_snd_zip (QAc _)] at this
  exact this
 ·rw [QBb,List.pairwise_iff_getElem]
  intro i j hi hj hij
  rw [QAa,QAv] at hi hj
  rw [QBu,QBu,QCg,QCg]
  have hs:=hS i j (QAh _) (QBw hij) (by exact Om.k25 hfl hps hsz hz2 hj)
  have g1:=SM.g_eq hi
  have g2:=SM.g_eq hj
  rw [getElem?_pos (arrOf st') i hi] at g1
  rw [getElem?_pos (arrOf st') j hj] at g2
  rw [<- Option.some.inj g1,<- Option.some.inj g2] at hs
  have m1:=mem_zip_self (hpl.mem_iff.mp (Array.getElem_mem_toList hi))
  have m2:=mem_zip_self (hpl.mem_iff.mp (Array.getElem_mem_toList hj))
  show rk (Z7 s.heap ((arrOf st')[i]).2)<=rk (Z7 s.heap ((arrOf st')[j]).2)
  rw [<- m1.1,<- m2.1,<- er _ m1.2,<- er _ m2.2]
  exact hs
theorem ZfM {d:Addr} {vs:List Value} {S:List (List (List Int))} {m k:Nat} {rk:List (List Int)->Int} {Q:Value->Shared->Prop} (hl:s.heap.IsList d vs.toArray) (ht:Grs s.heap vs S) (hk:∀ r∈S,r.length=m/\∀ x∈r,x.length=k) (hm0:0<m) (hu:A.units+6<cLine)
  (h2:2<=vs.length) (hz:vs.length<=100000) (hrk:∀ p∈S,∀ q∈S,Zck p q=decide (rk p<rk q)) (hd:(S.map rk).Nodup)
  (h:∀ (out:List Value) (l:Addr) (h1 h':Heap) (e:Nat),out.Perm vs->(out.map fun v=>rk (Z7 s.heap v)).Pairwise (· <= ·)->(∀ b o,s.heap.get? b=some o->h1.get? b=some o)->h1.objs.size<=l->(∀ b o,h1.get? b=some o->h'.get? b=some o)->h'.get? l=some (seqObj "list" (List.toArray out) e)->Q (.ref l) { s with heap:=h' }) :
  wpAny (model prog w) A (call (.builtin "sorted") [.ref d]) Q E s:=by
 obtain ⟨o,ho,hc,n,hd'⟩:=id hl
 refine Calls.call_function_entry kind_sorted plain_sorted entry_sorted (args_sorted1 _) ?_
 unfold Builtin.«sorted»
 refine wpAny_bind (m:=checkCount "sorted" 1 1 _) (wpAny_pure (wpAny_bind ?_))
 have hz':vs.toArray.size<=sizeLine:=by rw [QAg,sizeLine_eq]; exact Om.b1 ‹_› rfl
 refine wpAny_collect_seq (hsz:=hz') d (.inl rfl) ho hc hd' fun h1 k1=>?_
 rw [List.toList_toArray]
 refine wpAny_bind (wpAny_newList ?_ (by rw [sizeLine_eq]; exact Om.b1 ‹_› rfl))
 have g:(h1.push (seqObj "list" vs.toArray 0)).get? h1.objs.size=some (seqObj "list" vs.toArray 0):=QAx _ rfl
 have ht1:Grs (h1.push (seqObj "list" vs.toArray 0)) vs S:=Paired.mapP ht fun v r ⟨b,o,us,m,e,g,c,d,iu⟩=>⟨b,o,us,m,e,QAk _ (k1 _ _ g),c,d,GrAt.keep iu fun b o _ g=>QAk _ (k1 _ _ g)⟩
 have er:∀ v∈vs,Z7 (h1.push (seqObj "list" vs.toArray 0)) v=Z7 s.heap v:=List.map_inj_left.mp ((Y0 ht1).trans (Y0 ht).symm)
 refine wpAny_bind (wpAny_holding (wpAny_call_entry slot_list_sort ⟨_,g,rfl⟩ entry_list_sort (ZcM (rk:=rk) g ht1 hk hm0 (by show A.units+1+1+3<cLine; exact Om.k24 hu) h2 hz hrk hd fun out hp hs=>⟨_,rfl,?_⟩) (args_list_sort _)))
 obtain ⟨e,he⟩:=sortedHeap_at (out:=List.toArray out) g
 refine wpAny_pure ⟨_,rfl,h out h1.objs.size h1 _ e hp ?_ k1 (QAc _) (fun b o x=>?_) he⟩
 ·have:(out.map fun v=>rk (Z7 s.heap v))=out.map fun v=>rk (Z7 (h1.push (seqObj "list" vs.toArray 0)) v):=QBq fun v hv=>by rw [er v (hp.mem_iff.mp hv)]
  rw [this]
  exact hs
 ·have hb:=QAi x
  rw [sortedHeap_old (QBa hb) (by rw [size_push']; exact QDk hb)]
  exact QAk _ x
end
noncomputable def J6:Value->Addr
 | .ref a=>a
 | _=>0
theorem ZcV:∀ {ps:List Addr} {us:List Value},Vals (ps.map V.ref) us->us=ps.map Value.ref
 | [],_,h=>by cases h; rfl
 | p::ps,_,h=>by
  rw [QAr] at h
  cases h with
  | cons r1 r2 =>
   cases r1
   rw [QAr,ZcV r2]
theorem Zc2:∀ ps:List Addr,Vals (ps.map V.ref) (ps.map Value.ref)
 | []=>.nil
 | p::ps=>.cons rfl (Zc2 ps)
noncomputable def TGL (H:Hp) (q:Addr) (r:List (List Int)):Prop:=∃ rs:List Addr,H q=some (.tup (rs.map V.ref))/\Paired (fun a (x:List Int)=>H a=some (.tup (x.map V.int))) rs r
noncomputable def ZfR:List V->Hp->VK->Prop:=fun xs H Q=>∃ (d:Addr) (ps:List Addr) (S:List (List (List Int))) (m k:Nat) (rk:List (List Int)->Int),xs=[.ref d]/\H d=some (.lst (ps.map V.ref))/\Paired (TGL H) ps S/\(∀ r∈S,r.length=m/\∀ x∈r,x.length=k)/\0<m/\S.length<=100000/\(∀ p∈S,∀ q∈S,Zck p q=decide (rk p<rk q))/\(S.map rk).Nodup /\
 ∀ (l:Addr) (qs:List Addr) (S':List (List (List Int))),H l=none->Paired (TGL H) qs S'->S'.Perm S->(S'.map rk).Pairwise (· <= ·)->Q (.ref l) (upd H l (.lst (qs.map V.ref)))
theorem Zao {X:Cx} (hu:X.A.units+6<cLine):Jh X (.builtin "sorted") ZfR:=by
 intro pins s σ H xs us Q I r h
 obtain ⟨d,ps,S,m,k,rk,rfl,hd,hP,hk,hm0,hz,hrk,hnd,q⟩:=h
 obtain ⟨u,rfl,rx⟩:=J5 r
 cases rx
 obtain ⟨z,its,n,rv,hl,e⟩:=I.lstM hd
 have row:∀ {rs:List Addr} {R:List (List Int)} {us:List Value},Paired (fun a (x:List Int)=>H a=some (.tup (x.map V.int))) rs R->Vals (rs.map V.ref) us->GrAt s.heap us R:=by
  intro rs R us hP
  induction hP generalizing us with
  | nil=>intro rv; cases rv; exact .nil
  | @cons a x rs R ha _ ih =>
   intro rv
   rw [QAr] at rv
   cases rv with
   | cons r1 r2 =>
    cases r1
    obtain ⟨_,u1,ru1,p1⟩:=I.hok a _ ha
    have p1:IsTupN s.heap a u1.toArray:=p1
    exact .cons ⟨a,u1,rfl,p1.is,Y5 ru1⟩ (ih r2)
 have tup:∀ {ps:List Addr} {S:List (List (List Int))} {its:List Value},Paired (TGL H) ps S->Vals (ps.map V.ref) its->Grs s.heap its S:=by
  intro ps S its hP
  induction hP generalizing its with
  | nil=>intro rv; cases rv; exact .nil
  | @cons q r ps S hq _ ih =>
   intro rv
   rw [QAr] at rv
   cases rv with
   | cons r1 r2 =>
    cases r1
    obtain ⟨rs,hq,hr⟩:=hq
    obtain ⟨_,us,ru,o,g,c,m,e⟩:=I.hok q _ hq
    exact .cons ⟨q,o,us,m,rfl,g,c,congrArg Prod.fst e,row hr ru⟩ (ih r2)
 have ht:=tup hP rv
 have hlen:its.length=S.length:=Paired.length ht
 have hpl:ps.length=S.length:=hP.length
 have hits:=ZcV rv
 by_cases h2:its.length<2
 ·refine ZfL (d:=d) (vs:=its) ⟨_,e,rfl,n,rfl⟩ h2 fun l h1 h' e' k1 hl1 k2 he=>?_
  have I1:Inv X pins σ H { s with heap:=h1 }:=I.kept (t':=s.toks) k1
  refine ⟨.ref l,_,I1.laid (t':=s.toks) (o:=.lst (ps.map V.ref)) k2 hl1 ?_,rfl,q _ ps S (I1.hok.fresh hl1) hP (List.Perm.refl _) ?_⟩
  ·exact ⟨by rw [QAa,hpl,sizeLine_eq]; exact Om.b1 ‹_› rfl,its,e',rv,by simpa using he⟩
  ·match S,hlen with
   | [],_=>exact .nil
   | [x],_=>exact List.pairwise_singleton _ _
   | _::_::_,hlen=>rw [QAy,QAy] at hlen; exact (Om.k23 hl ‹_› h2 hlen).elim
 ·refine ZfM (d:=d) (vs:=its) (rk:=rk) ⟨_,e,rfl,n,rfl⟩ ht hk hm0 hu (by exact Om.k22 hz hlen hpl h2) (by exact Om.b4 ‹_› ‹_› rfl) hrk hnd fun out l h1 h' e' hp hs k1 hl1 k2 he=>?_
  have I1:Inv X pins σ H { s with heap:=h1 }:=I.kept (t':=s.toks) k1
  have hqs:out=(out.map J6).map Value.ref:=by
   rw [QBb]
   have:out.map id=out.map (Value.ref ∘ J6):=QBq fun v hv=>by
    have:=hp.mem_iff.mp hv
    rw [hits] at this
    obtain ⟨p,_,rfl⟩:=List.mem_map.mp this
    rfl
   rw [<- this,List.map_id]
  have hqp:(out.map J6).Perm ps:=by
   have:=hp.map J6
   rw [hits,QBb] at this
   have e2:ps.map (J6 ∘ Value.ref)=ps:=by
    have:(J6 ∘ Value.ref)=id:=rfl
    rw [this,List.map_id]
   rw [e2] at this
   exact this
  have hS':(out.map (Z7 s.heap)).Perm S:=by
   have:=hp.map (Z7 s.heap)
   rw [Y0 ht] at this
   exact this
  refine ⟨.ref l,_,I1.laid (t':=s.toks) (o:=.lst ((out.map J6).map V.ref)) k2 hl1 ?_,rfl,q _ (out.map J6) (out.map (Z7 s.heap)) (I1.hok.fresh hl1) ?_ hS' ?_⟩
  ·exact ⟨by rw [QAa,hqp.length_eq,hpl,sizeLine_eq]; exact Om.b1 ‹_› rfl,out,e',by have:=Zc2 (out.map J6); rw [<- hqs] at this; exact this,by simpa using he⟩
  ·have key:∀ v∈out,TGL H (J6 v) (Z7 s.heap v):=fun v hv=>by
    have hv:=hp.mem_iff.mp hv
    obtain ⟨i,hi,ev⟩:=QBd hv
    obtain ⟨ri,hri,bi,oi,ui,mi,e1,gi,ci,di,ii⟩:=Paired.getL ht (QAb hi)
    have hip:i<ps.length:=by exact Om.k21 hlen hpl hi
    obtain ⟨r2,hr2,tg⟩:=Paired.getL hP (QAb hip)
    have e3:its[i]=Value.ref ps[i]:=by
     have:its[i]? = (ps.map Value.ref)[i]?:=by rw [<- hits]
     rw [QAb hi,QAe,QAb hip] at this
     exact Option.some.inj this
    rw [hri] at hr2
    cases hr2
    have e4:Z7 s.heap v=ri:=by rw [<- ev,e1]; exact ZaR gi di ii
    have e5:J6 v=ps[i]:=by rw [<- ev,e3]; rfl
    rw [e4,e5]
    exact tg
   have go:∀ l:List Value,(∀ v∈l,v∈out)->Paired (TGL H) (l.map J6) (l.map (Z7 s.heap)):=by
    intro l
    induction l with
    | nil=>intro _; exact .nil
    | cons v l ih=>exact fun hl=>.cons (key v (hl v QAj)) (ih fun u hu=>hl u (QAo _ hu))
   exact go out fun _ h=>h
  ·rw [QBb]
   exact hs
end L2
namespace My
open PySem L2
section
variable {n:Nat} {R F:List (List Int)} {L:List (List (List Int))}
noncomputable def Own (n:Nat) (R h:List (List Int)):Prop:=Ren n h/\ZY n R h=R
noncomputable def ZcI (L:List (List (List Int))) (g0:List (List Int)):List (List (List Int)):=L.map fun g=>Y8 g (Ji g0)
theorem ZkA (ok:OkRows n R) (hl:R.length=n) (h1:1<=n) (ld:LeadOf n R F L) {g0:List (List Int)} (rg:Ren n g0):(ZcI L g0).Nodup:=by
 have nd:L.Nodup:=by
  rw [ld.all]
  exact List.Pairwise.filter _ (ZjE ok hl h1)
 refine List.pairwise_map.mpr (List.Pairwise.imp_of_mem ?_ nd)
 intro x y hx hy ne e
 have rx:=((Jv ok hl h1 ld).mp hx).1
 have ry:=((Jv ok hl h1 ld).mp hy).1
 have e2:Y8 (Y8 x (Ji g0)) g0=Y8 (Y8 y (Ji g0)) g0:=congrArg (fun z=>Y8 z g0) e
 rw [Zbt rx rg.und rg,Zbt ry rg.und rg,(ZaD rg).2.1,(ZaD rx).2.2.2.1,(ZaD ry).2.2.2.1] at e2
 exact ne e2
theorem Zji (ok:OkRows n R) (hl:R.length=n) (h1:1<=n) (ld:LeadOf n R F L) {g0:List (List Int)} (hg:g0∈L) {h:List (List Int)}:h∈ZcI L g0↔Own n R h:=by
 obtain ⟨r0,e0⟩:=(Jv ok hl h1 ld).mp hg
 constructor
 ·intro hh
  obtain ⟨g,hg',rfl⟩:=List.mem_map.mp hh
  obtain ⟨rg,eg⟩:=(Jv ok hl h1 ld).mp hg'
  refine ⟨rg.beh r0.und,?_⟩
  rw [<- Zew ok hl rg r0.und,eg,<- e0,Zev ok hl r0]
 ·rintro ⟨rh,eh⟩
  refine List.mem_map.mpr ⟨Y8 h g0,(Jv ok hl h1 ld).mpr ⟨rh.beh r0,by rw [<- Zew ok hl rh r0,eh,e0]⟩,?_⟩
  rw [Zbt rh r0 r0.und,(ZaD r0).1,(ZaD rh).2.2.2.1]
end
section
variable {α:Type}
noncomputable def Jo (B:Int) (v:α->Int):List α->Int
 | []=>0
 | x::xs=>v x*B ^ xs.length+Jo B v xs
theorem ZaU {B:Int} {v:α->Int} (hB:0<B):∀ (l:List α),(∀ x∈l,0<=v x/\v x<B)->0<=Jo B v l/\Jo B v l<B ^ l.length
 | [],_=>⟨QCn _,by simp [Jo]⟩
 | x::l,h=>by
  obtain ⟨i1,i2⟩:=ZaU hB l fun y hy=>h y (QAo _ hy)
  obtain ⟨h1,h2⟩:=h x QAj
  have hp:0<B ^ l.length:=Int.pow_pos hB
  have m1:=Int.mul_nonneg h1 (QBv hp)
  have m2:=Int.mul_le_mul_of_nonneg_right (show v x+1<=B by exact Om.k20 h2) (QBv hp)
  rw [Int.add_mul,Int.one_mul] at m2
  unfold Jo
  rw [QAy,Int.pow_succ,Int.mul_comm _ B]
  constructor <;> omega
theorem Zbi {B:Int} {v:α->Int} (hB:0<B) {x y:α} {xs ys:List α} (hl:xs.length=ys.length) (hx:∀ z∈x::xs,0<=v z/\v z<B) (hy:∀ z∈y::ys,0<=v z/\v z<B) (h:v x<v y):Jo B v (x::xs)<Jo B v (y::ys):=by
 obtain ⟨i1,i2⟩:=ZaU hB xs fun y hy=>hx y (QAo _ hy)
 obtain ⟨i3,i4⟩:=ZaU hB ys fun z hz=>hy z (QAo _ hz)
 have hp:0<B ^ ys.length:=Int.pow_pos hB
 have m2:=Int.mul_le_mul_of_nonneg_right (show v x+1<=v y by exact Om.k20 h) (QBv hp)
 rw [Int.add_mul,Int.one_mul] at m2
 unfold Jo
 rw [hl] at i2 ⊢
 omega
theorem Zd0 {B:Int} {v:α->Int} (hB:0<B):∀ (l m:List α),l.length=m.length->(∀ x∈l,0<=v x/\v x<B)->(∀ x∈m,0<=v x/\v x<B)->(∀ x∈l,∀ y∈m,v x=v y->x=y)->Jo B v l=Jo B v m->l=m
 | [],[],_,_,_,_,_=>rfl
 | [],_::_,h,_,_,_,_=>by cases h
 | _::_,[],h,_,_,_,_=>by cases h
 | x::l,y::m,h,h1,h2,hi,e=>by
  have hl:l.length=m.length:=Nat.succ.inj h
  have hv:v x=v y:=by
   rcases Int.lt_trichotomy (v x) (v y) with z | z | z
   ·have:=Zbi hB hl h1 h2 z
    exact (Om.k19 e this).elim
   ·exact z
   ·have:=Zbi hB hl.symm h2 h1 z
    exact (Om.k18 e this).elim
  have ex:=hi x QAj y QAj hv
  have e2:Jo B v l=Jo B v m:=by
   have:v x*B ^ l.length+Jo B v l=v y*B ^ m.length+Jo B v m:=e
   rw [hv,hl] at this
   omega
  rw [ex,Zd0 hB l m hl (fun z hz=>h1 z (QAo _ hz)) (fun z hz=>h2 z (QAo _ hz)) (fun a ha b hb=>hi a (QAo _ ha) b (QAo _ hb)) e2]
end
noncomputable def v1 (x:Int):Int:=x
noncomputable def rkT (l:List Int):Int:=Jo 6 v1 l
noncomputable def rkG (n:Nat) (g:List (List Int)):Int:=Jo (6 ^ n) rkT g
theorem ZeQ:∀ (l m:List Int),l.length=m.length->(∀ x∈l,0<=x/\x<6)->(∀ x∈m,0<=x/\x<6)->Zcl l m=decide (rkT l<rkT m)
 | [],[],_,_,_=>rfl
 | [],_::_,h,_,_=>by cases h
 | _::_,[],h,_,_=>by cases h
 | x::l,y::m,h,h1,h2=>by
  have hl:l.length=m.length:=Nat.succ.inj h
  unfold Zcl
  by_cases e:x=y
  ·subst e
   rw [if_pos rfl,ZeQ l m hl (fun z hz=>h1 z (QAo _ hz)) (fun z hz=>h2 z (QAo _ hz))]
   have:rkT (x::l)<rkT (x::m)↔rkT l<rkT m:=by
    show v1 x*6 ^ l.length+Jo 6 v1 l<v1 x*6 ^ m.length+Jo 6 v1 m↔Jo 6 v1 l<Jo 6 v1 m
    rw [hl]
    exact Om.k17 
   rw [QBi,decide_eq_true_eq,decide_eq_true_eq,this]
  ·rw [if_neg e]
   rw [QBi,decide_eq_true_eq,decide_eq_true_eq]
   constructor
   ·intro z
    exact Zbi (by decide) hl h1 h2 z
   ·intro z
    rcases Int.lt_trichotomy x y with q | q | q
    ·exact q
    ·exact absurd q e
    ·have:rkT (y::m)<rkT (x::l):=Zbi (by decide) hl.symm h2 h1 q
     exact (Om.k16 z this).elim
structure Dig (n:Nat) (g:List (List Int)):Prop where
 len:g.length=3
 row:∀ r∈g,r.length=n/\∀ x∈r,0<=x/\x<6
theorem Ren.dig {n:Nat} {g:List (List Int)} (rg:Ren n g) (h6:n<=6):Dig n g:=⟨rg.len,fun r hr=>⟨(rg.row r hr).len,fun x hx=>by have:=(rg.row r hr).rg x hx; omega⟩⟩
theorem ZbI {n:Nat} {r:List Int} (hl:r.length=n) (h:∀ x∈r,0<=x/\x<6):0<=rkT r/\rkT r<6 ^ n:=by
 have:=ZaU (B:=6) (v:=v1) (by decide) r h
 rw [hl] at this
 exact this
theorem ZgD {l m:List Int} (hl:l.length=m.length) (h1:∀ x∈l,0<=x/\x<6) (h2:∀ x∈m,0<=x/\x<6) (e:rkT l=rkT m):l=m:=Zd0 (by decide) l m hl h1 h2 (fun _ _ _ _ e=>e) e
theorem ZeN {n:Nat}:∀ (g h:List (List Int)),g.length=h.length->(∀ r∈g,r.length=n/\∀ x∈r,0<=x/\x<6)->(∀ r∈h,r.length=n/\∀ x∈r,0<=x/\x<6)->Zck g h=decide (rkG n g<rkG n h)
 | [],[],_,_,_=>rfl
 | [],_::_,h,_,_=>by cases h
 | _::_,[],h,_,_=>by cases h
 | x::l,y::m,h,h1,h2=>by
  have hl:l.length=m.length:=Nat.succ.inj h
  have hB:(0:Int)<6 ^ n:=Int.pow_pos (by decide)
  have r1:∀ z∈x::l,0<=rkT z/\rkT z<6 ^ n:=fun z hz=>ZbI (h1 z hz).1 (h1 z hz).2
  have r2:∀ z∈y::m,0<=rkT z/\rkT z<6 ^ n:=fun z hz=>ZbI (h2 z hz).1 (h2 z hz).2
  have hxy:x.length=y.length:=by rw [(h1 x QAj).1,(h2 y QAj).1]
  unfold Zck
  by_cases e:x=y
  ·subst e
   rw [if_pos rfl,ZeN l m hl (fun z hz=>h1 z (QAo _ hz)) (fun z hz=>h2 z (QAo _ hz))]
   have:rkG n (x::l)<rkG n (x::m)↔rkG n l<rkG n m:=by
    show rkT x*(6 ^ n) ^ l.length+Jo (6 ^ n) rkT l<rkT x*(6 ^ n) ^ m.length+Jo (6 ^ n) rkT m↔Jo (6 ^ n) rkT l<Jo (6 ^ n) rkT m
    rw [hl]
    exact Om.k17 
   rw [QBi,decide_eq_true_eq,decide_eq_true_eq,this]
  ·rw [if_neg e,ZeQ x y hxy (h1 x QAj).2 (h2 y QAj).2]
   rw [QBi,decide_eq_true_eq,decide_eq_true_eq]
   constructor
   ·intro z
    exact Zbi hB hl r1 r2 z
   ·intro z
    rcases Int.lt_trichotomy (rkT x) (rkT y) with q | q | q
    ·exact q
    ·exact absurd (ZgD hxy (h1 x QAj).2 (h2 y QAj).2 q) e
    ·have:rkG n (y::m)<rkG n (x::l):=Zbi hB hl.symm r2 r1 q
     exact (Om.k16 z this).elim
theorem Dig.lt {n:Nat} {g h:List (List Int)} (dg:Dig n g) (dh:Dig n h):Zck g h=decide (rkG n g<rkG n h):=ZeN g h (dg.len.trans dh.len.symm) dg.row dh.row
theorem Dig.inj {n:Nat} {g h:List (List Int)} (dg:Dig n g) (dh:Dig n h) (e:rkG n g=rkG n h):g=h :=
 Zd0 (Int.pow_pos (by decide)) g h (dg.len.trans dh.len.symm) (fun r hr=>ZbI (dg.row r hr).1 (dg.row r hr).2) (fun r hr=>ZbI (dh.row r hr).1 (dh.row r hr).2) (fun x hx y hy e=>ZgD ((dg.row x hx).1.trans (dh.row y hy).1.symm) (dg.row x hx).2 (dh.row y hy).2 e) e
theorem Zj2 {n:Nat} {S:List (List (List Int))} (nd:S.Nodup) (hd:∀ g∈S,Dig n g):(S.map (rkG n)).Nodup:=by
 refine List.pairwise_map.mpr (List.Pairwise.imp_of_mem ?_ nd)
 intro x y hx hy ne e
 exact ne ((hd x hx).inj (hd y hy) e)
theorem ZgC {n:Nat}:∀ {A B:List (List (List Int))},(∀ g∈A,Dig n g)->(∀ g∈B,Dig n g)->A.map (rkG n)=B.map (rkG n)->A=B
 | [],[],_,_,_=>rfl
 | [],_::_,_,_,e=>by cases e
 | _::_,[],_,_,e=>by cases e
 | a::A,b::B,h1,h2,e=>by
  rw [QAr,QAr] at e
  obtain ⟨e1,e2⟩:=List.cons.inj e
  rw [(h1 a QAj).inj (h2 b QAj) e1,ZgC (fun g hg=>h1 g (QAo _ hg)) (fun g hg=>h2 g (QAo _ hg)) e2]
theorem Zho {n:Nat} {R:List (List Int)} (h6:n<=6) {A B A' B':List (List (List Int))} (hA:A.Nodup) (hB:B.Nodup) (mA:∀ h,h∈A↔Own n R h) (mB:∀ h,h∈B↔Own n R h) (pA:A'.Perm A) (pB:B'.Perm B) (sA:(A'.map (rkG n)).Pairwise (· <= ·)) (sB:(B'.map (rkG n)).Pairwise (· <= ·)):A'=B':=by
 have p:A.Perm B:=(List.perm_ext_iff_of_nodup hA hB).mpr fun h=>(mA h).trans (mB h).symm
 have p':A'.Perm B':=pA.trans (p.trans pB.symm)
 refine ZgC (n:=n) (fun g hg=>?_) (fun g hg=>?_) (Zad (p'.map _) sA sB)
 ·exact ((mA g).mp (pA.mem_iff.mp hg)).1.dig h6
 ·exact ((mB g).mp (pB.mem_iff.mp hg)).1.dig h6
open Classical in
noncomputable def ZfZ (n:Nat) (R:List (List Int)) (r c:List Nat):Option (List (List Int)):=if h:∃ t,Own n R [toI r,toI c,t] then some [toI r,toI c,choose h] else none
noncomputable def ZcO (n:Nat) (R:List (List Int)) (r:List Nat) (C:List (List Nat)):List (List (List Int)):=C.filterMap (ZfZ n R r)
noncomputable def ZbG (n:Nat) (R:List (List Int)) (A:List (List Nat)):List (List (List Int)):=A.flatMap fun r=>ZcO n R r (ZC n n)
section
variable {n:Nat} {R:List (List Int)}
theorem ZfY (ok:OkRows n R) (hl:R.length=n) {a b c c':List Int} (h:Own n R [a,b,c]) (h':Own n R [a,b,c']):c=c':=by
 have tc:=h.1.at (k:=2) (by decide)
 have tc':=h'.1.at (k:=2) (by decide)
 refine Zbz tc.len tc'.len fun t ht=>?_
 obtain ⟨i,hi,e⟩:=Zg1 ok hl (show 0<n by exact Om.k15 hl ht) ht
 have e1:=Jn h.1 ok hl hi (show 0<n by exact Om.k14 hl ht e)
 have e2:=Jn h'.1 ok hl hi (show 0<n by exact Om.k14 hl ht e)
 rw [h.2] at e1
 rw [h'.2] at e2
 have e3:rw_ [a,b,c] 0 i=rw_ [a,b,c'] 0 i:=rfl
 have e4:rw_ [a,b,c] 1 0=rw_ [a,b,c'] 1 0:=rfl
 rw [e3,e4,e2,e] at e1
 have r1:=ZbZ h.1 (k:=2) (by decide) ht
 have r2:=ZbZ h'.1 (k:=2) (by decide) ht
 have g1:([a,b,c].getD 2 []).getD t 0=c.getD t 0:=rfl
 have g2:([a,b,c'].getD 2 []).getD t 0=c'.getD t 0:=rfl
 rw [QAf] at e1
 rw [<- g1,<- g2,r1,r2,e1]
theorem ZgK (ok:OkRows n R) (hl:R.length=n) {r c:List Nat} {t:List Int} (h:Own n R [toI r,toI c,t]):ZfZ n R r c=some [toI r,toI c,t]:=by
 unfold ZfZ
 have hx:∃ t,Own n R [toI r,toI c,t]:=⟨t,h⟩
 rw [dif_pos hx,ZfY ok hl (Classical.choose_spec hx) h]
theorem Zjj {r c:List Nat} (h:¬ ∃ t,Own n R [toI r,toI c,t]):ZfZ n R r c=none:=dif_neg h
theorem JP {r c:List Nat} {g:List (List Int)} (h:ZfZ n R r c=some g):∃ t,g=[toI r,toI c,t]/\Own n R [toI r,toI c,t]:=by
 unfold ZfZ at h
 split at h
 ·next hx =>
  exact ⟨_,(Option.some.inj h).symm,Classical.choose_spec hx⟩
 ·cases h
theorem ZdL:∀ {a b:List Nat},toI a=toI b->a=b
 | [],[],_=>rfl
 | [],_::_,e=>by cases e
 | _::_,[],e=>by cases e
 | x::a,y::b,e=>by
  have e:(x:Int)::toI a=(y:Int)::toI b:=e
  obtain ⟨e1,e2⟩:=List.cons.inj e
  rw [ZdL e2,show x=y by exact Om.e1 ‹_›]
theorem Zei {a:List Int} (t:Turn n a):∃ r∈ZC n n,a=toI r:=by
 have e:a=toI (a.map Int.toNat):=by
  unfold toI
  rw [QBb]
  have:a.map id=a.map (fun x=>((x.toNat:Nat):Int)):=QBq fun x hx=>by
   have:=t.rg x hx
   show x=((x.toNat:Nat):Int)
   exact Om.k13 this
  rw [List.map_id] at this
  exact this
 refine ⟨a.map Int.toNat,Zdb n _ (by rw [QAa,t.len]) ?_ fun x hx=>?_,e⟩
 ·refine List.pairwise_map.mpr (List.Pairwise.imp_of_mem ?_ t.nd)
  intro x y hx hy ne e
  have:=t.rg x hx
  have:=t.rg y hy
  exact ne (by exact Om.k12 e ‹_› this)
 ·obtain ⟨y,hy,rfl⟩:=List.mem_map.mp hx
  have:=t.rg y hy
  omega
theorem Zb6 (n:Nat):∀ k,(ZC n k).Nodup
 | 0=>List.nodup_cons.mpr ⟨by simp,QBr⟩
 | k+1=>by
  refine List.pairwise_flatMap.mpr ⟨fun l _=>?_,?_⟩
  ·refine List.pairwise_map.mpr (List.Pairwise.imp ?_ (List.Pairwise.filter _ (List.nodup_iff_pairwise_ne.mp QCd)))
   intro x y ne e
   exact ne (List.cons.inj (List.append_cancel_left e)).1
  ·refine List.Pairwise.imp_of_mem ?_ (Zb6 n k)
   intro a b ha hb ne x hx y hy e
   obtain ⟨_,_,rfl⟩:=List.mem_map.mp hx
   obtain ⟨_,_,rfl⟩:=List.mem_map.mp hy
   exact ne (List.append_inj_left' e rfl)
theorem ZjP (ok:OkRows n R) (hl:R.length=n) {h:List (List Int)}:h∈ZbG n R (ZC n n)↔Own n R h:=by
 constructor
 ·intro hh
  obtain ⟨r,_,h2⟩:=List.mem_flatMap.mp hh
  obtain ⟨c,_,h3⟩:=List.mem_filterMap.mp h2
  obtain ⟨t,rfl,ow⟩:=JP h3
  exact ow
 ·intro ow
  obtain ⟨a,b,c,rfl,ta,tb,tc⟩:=ow.1.three
  obtain ⟨r,hr,rfl⟩:=Zei ta
  obtain ⟨s,hs,rfl⟩:=Zei tb
  exact List.mem_flatMap.mpr ⟨r,hr,List.mem_filterMap.mpr ⟨s,hs,ZgK ok hl ow⟩⟩
theorem Zk1:(ZbG n R (ZC n n)).Nodup:=by
 refine List.pairwise_flatMap.mpr ⟨fun r _=>?_,?_⟩
 ·refine List.pairwise_filterMap.mpr (List.Pairwise.imp ?_ (Zb6 n n))
  intro a b ne x hx y hy e
  obtain ⟨t,e1,_⟩:=JP hx
  obtain ⟨u,e2,_⟩:=JP hy
  rw [e1,e2] at e
  exact ne (ZdL (List.cons.inj (List.cons.inj e).2).1)
 ·refine List.Pairwise.imp ?_ (Zb6 n n)
  intro a b ne x hx y hy e
  obtain ⟨c,_,h3⟩:=List.mem_filterMap.mp hx
  obtain ⟨d,_,h4⟩:=List.mem_filterMap.mp hy
  obtain ⟨t,e1,_⟩:=JP h3
  obtain ⟨u,e2,_⟩:=JP h4
  rw [e1,e2] at e
  exact ne (ZdL (List.cons.inj e).1)
end
end My
namespace My
open PySem L2
noncomputable def OwnS (n:Nat) (R:List (List Int)) (A:List (List (List Int))):Prop:=∃ B:List (List (List Int)),B.Nodup/\(∀ h,h∈B↔Own n R h)/\A.Perm B/\(A.map (rkG n)).Pairwise (· <= ·)
theorem OwnS.one {n:Nat} {R:List (List Int)} (h6:n<=6) {A A':List (List (List Int))} (a:OwnS n R A) (b:OwnS n R A'):A=A':=by
 obtain ⟨B,h1,h2,h3,h4⟩:=a
 obtain ⟨B',h1',h2',h3',h4'⟩:=b
 exact Zho h6 h1 h1' h2 h2' h3 h3' h4 h4'
noncomputable def Zj1:Sp:=fun vs H Q _=>∃ (g:Addr) (n:Nat) (R:List (List Int)),vs=[.ref g]/\TG H g R/\OkRows n R/\R.length=n/\1<=n/\n<=6/\∀ l H' A,Same H H'->RL H' l A->OwnS n R A->Q (.ref l) H'
section
variable {P:Program} {w:World} {K:PySem.W.Frag} {mg:Str->Option Value} {base:Heap}
theorem scOwn:Zs ["square","ways","back"] ["square"] (Ze ZdR):=⟨rfl,rfl,rfl,by decide +kernel,rfl,by decide +kernel,by decide +kernel⟩
inductive ZdI (L:List (List (List Int))) (h:List (List Int)) (b:Addr) (H2:Hp) (lc:Addr) (j:Nat) (ys:List V) (σ:St) (H3:Hp):Prop where
 | mk (v0:Option V) (us:List Addr) (_:σ=[v0,some (.ref b)]) (_:ys=us.map V.ref) (_:Same H2 H3) (_:H3 lc=some (.lst ys)) (_:Paired (fun p x=>TG H3 p x) us (ZcI (L.take j) h)):ZdI L h b H2 lc j ys σ H3
theorem ZkH {f fG fN fB:Addr} {fd dG dN dB:FuncData} (F:Fun K "own" "own" ZdR f fd) (T:Blt mg) (DG:Dfn K mg "leading" YD ["square"] fG dG) (DN:Dfn K mg "undone" Y9 ["renaming"] fN dN) (DB:Dfn K mg "behind" JF ["one","other"] fB dB) (GG:FnOk P w K mg base CX0 6 fG dG ["square"] ZhR) (GN:FnOk P w K mg base CX0 6 fN dN ["renaming"] ZbU) (GB:FnOk P w K mg base CX0 6 fB dB ["one","other"] Zen):FnOk P w K mg base CX0 7 f fd ["square"] Zj1:=by
 refine F.ok scOwn (fun vs H Q E h=>?_) (fun cdv A outer s H vs Q E hr h=>?_)
 ·obtain ⟨_,_,_,rfl,_⟩:=h
  rfl
 ·obtain ⟨g,n,R,rfl,hT,ok,hRl,h1,h6,q⟩:=h
  have hu:((A.deeper (PyProof.Rows.envOfC "own" (Ze ZdR) s.heap.objs.size f cdv))).units+6<cLine:=by have:=hr.un; omega
  refine' ⟨_,Zd ?s1 (Zd ?s2 (Zg (Zt ?s3))),?rd⟩
  case s1=>exact Zj (i:=1) scOwn.nd rfl (Or.inl rfl) (ZQ (Z9 K) (Zm GG hr rfl DG.m DG.F.kp DG.b .nil ZO (Za (pv 0) Zc)) Zi (fun _ _=>rfl))
  case s2=>exact Zj (i:=2) scOwn.nd rfl (Or.inr rfl) (Zm GN hr rfl DN.m DN.F.kp DN.b .nil ZO (Za (ZQ (Zco K) (pv 1) Zi (fun _ _=>rfl)) Zc))
  case s3=>exact Zu (Zao hu) rfl T.sorted PyProof.Rows.boot_sorted (Za (Yr ["way","back"] [none,some 2] rfl rfl (Z2 K (pv 1)) (fun _ _ _ _ _=>Yx 0) (fun _ _ _ _ _=>ZA) (fun _ _ _ _ _=>Zm GB hr rfl DB.m DB.F.kp DB.b .nil ZO (Za (pv 0) (Za (pv 1) Zc)))) Zc)
  case rd =>
   have h8:n<=8:=by exact Om.b1 ‹_› rfl
   refine ⟨_,rfl,g,n,R,rfl,hT,ok,hRl,h1,h6,fun t p l H1 FF L s1 ht hF hL ld=>?_⟩
   obtain ⟨h,hh,_⟩:=ld.plain
   obtain ⟨zs,hz,hZ⟩:=hL
   have hzl:0<zs.length:=by
    rw [hZ.length]
    exact (List.getElem?_eq_some_iff.mp hh).1
   obtain ⟨h',hh',hp⟩:=Paired.getL hZ (QAb hzl)
   rw [hh] at hh'
   cases hh'
   have hhL:=QAu hh
   have rh:=((Jv ok hRl h1 ld).mp hhL).1
   have hlen:L.length<=36*1296:=by
    rw [ld.all]
    exact QAq (QEb _ _) (ZeU ok hRl h6)
   refine ⟨t,_,_,.ref l,rfl,rfl,SqT.of ht,rfl,?_⟩
   refine ⟨_,rfl,l,_,_,.ref zs[0],rfl,rfl,SqL.of hz,YU (i:=0) (by rw [QAe,QAb hzl]; rfl),?_⟩
   refine ⟨zs[0],n,h,rfl,hp,rh,h1,h8,fun b H2 s2 hB=>?_⟩
   have hz2:=s2 _ _ hz
   refine ⟨_,rfl,l,rfl,⟨_,SqL.of hz2⟩,fun lc hlc=>?_⟩
   have hzs:(zs.map V.ref).length=L.length:=by rw [QAa,hZ.length]
   refine ZZ (Z1 (xs:=zs.map V.ref)) (ZdI L h b H2 lc)
    ⟨none,[],rfl,rfl,Same.new hlc,Zb,.nil⟩ (fun j ys σ H3 zz0=> by obtain ⟨_,_,_,_,s3,hl,_⟩ := zz0; exact ⟨SqL.of (s3 _ _ hz2),hl⟩) ?_ ?_
   ·rintro j x ys σ H3 hj ⟨v0,us,rfl,rfl,s3,hl3,hU⟩
    rw [QAe] at hj
    cases hpj:zs[j]? with
    | none=>rw [hpj] at hj; cases hj
    | some pr =>
    rw [hpj] at hj
    cases hj
    obtain ⟨rj,hrj,hpr⟩:=Paired.getL hZ hpj
    have rn:=((Jv ok hRl h1 ld).mp (QAu hrj)).1
    refine ⟨_,rfl,_,rfl,pr,b,n,rj,Ji h,rfl,hpr.same (s2.trans s3),hB.same s3,rn,rh.und,h1,h8,fun tm H4 s4 hM=>?_⟩
    have hl4:=s4 _ _ hl3
    have hjl:=(List.getElem?_eq_some_iff.mp hrj).1
    have hul:us.length=j:=by
     rw [hU.length]
     unfold ZcI
     rw [QAa,QAt]
     exact Om.m1 ‹_›
    have up:∀ b row,H4 b=some (.tup row)->(upd H4 lc (.lst (us.map V.ref++[.ref tm]))) b=some (.tup row):=fun b row e=>by
     rw [Zf (YV e hl4 (by intro z; cases z))]
     exact e
    refine ⟨hl4,by rw [QAa,hul]; exact Jl (by exact Om.b2 ‹_› ‹_› rfl),_,us++[tm],rfl,by rw [QAm]; rfl,fun b u e=>?_,Zb,?_⟩
    ·rw [Zf (Zh e hlc)]
     exact s4 _ _ (s3 _ _ e)
    ·have et:ZcI (L.take (j+1)) h=ZcI (L.take j) h++[Y8 rj (Ji h)]:=by
      unfold ZcI
      rw [QBy,hrj,QAm]
      rfl
     rw [et]
     exact Paired.snoc (Paired.mapP hU fun _ _ z=>z.up fun b row e=>up b row (s4 _ _ e)) (hM.up up)
   rintro ys σ HA ⟨v0,us,rfl,rfl,sA,hlA,hU⟩
   rw [hzs,QBc (QAc _)] at hU
   have nd:=ZkA ok hRl h1 ld rh
   have mm:=fun x=>Zji ok hRl h1 ld hhL (h:=x)
   refine ⟨lc,us,ZcI L h,3,n,rkG n,rfl,hlA,hU,fun r hr=>?_,by decide,?_,fun p hp q hq=>?_,?_,fun l qs S' hl hQ hp hs=>?_⟩
   ·have d:=((mm r).mp hr).1.dig h6
    exact ⟨d.len,fun x hx=>(d.row x hx).1⟩
   ·unfold ZcI
    rw [QAa]
    exact Om.b1 ‹_› rfl
   ·exact Dig.lt (((mm p).mp hp).1.dig h6) (((mm q).mp hq).1.dig h6)
   ·exact Zj2 nd fun g hg=>((mm g).mp hg).1.dig h6
   ·have s5:Same HA (upd HA l (.lst (qs.map V.ref))):=Same.new hl
    exact q l _ S' (s1.trans (s2.trans (sA.trans s5))) ⟨qs,Zb,Paired.mapP hQ fun _ _ z=>TG.same (show TG HA _ _ from z) s5⟩ ⟨ZcI L h,nd,mm,hp,hs⟩
end
end My
namespace My
open PySem L2
section
variable {n:Nat} {R:List (List Int)} {a b:List Int}
noncomputable def glE (R:List (List Int)) (a b:List Int) (x y:Nat):Int:=ent R (a.getD x 0).toNat (b.getD y 0).toNat
noncomputable def Bef (i j x y:Nat):Prop:=x<i\/x=i/\y<j
structure ThI (n:Nat) (R:List (List Int)) (a b:List Int) (i j:Nat) (T:List V):Prop where
 len:T.length=n
 full:∀ x y,x<n->y<n->Bef i j x y->T.getD (ent R x y).toNat .non = .int (glE R a b x y)
 emp:∀ k,k<n->T.getD k .non = .non\/∃ x y,x<n/\y<n/\ent R x y=(k:Int)/\T.getD k .non = .int (glE R a b x y)
theorem Zh5 (ok:OkRows n R) (hl:R.length=n) {t:List Int} (h:Own n R [a,b,t]) {x y:Nat} (hx:x<n) (hy:y<n):t.getD (ent R x y).toNat 0=glE R a b x y:=by
 have e1:=Jn h.1 ok hl hx hy
 rw [h.2] at e1
 obtain ⟨_,e2⟩:=Z4 ok hl hx hy
 have r1:=ZbZ h.1 (k:=2) (by decide) e2
 have g1:([a,b,t].getD 2 []).getD (ent R x y).toNat 0=t.getD (ent R x y).toNat 0:=rfl
 rw [<- g1,r1,<- e1]
 rfl
theorem ZiB {T:List V} {k:Nat} (h:k<T.length) (v:V) (m:Nat):(T.set k v).getD m .non=if m=k then v else T.getD m .non:=by
 rw [QAd,QCm]
 by_cases e:k=m
 ·subst e
  rw [if_pos rfl,if_pos h,if_pos rfl]
  rfl
 ·rw [if_neg e,if_neg (fun z=>e z.symm),QAd]
theorem ThI.set (ok:OkRows n R) (hl:R.length=n) {i j:Nat} {T:List V} (h:ThI n R a b i j T) (hi:i<n) (hj:j<n) (e:T.getD (ent R i j).toNat .non = .non):ThI n R a b i (j+1) (T.set (ent R i j).toNat (.int (glE R a b i j))):=by
 obtain ⟨e1,e2⟩:=Z4 ok hl hi hj
 have gs:=fun m=>ZiB (T:=T) (k:=(ent R i j).toNat) (by rw [h.len]; exact e2) (.int (glE R a b i j)) m
 refine ⟨by rw [QCu]; exact h.len,fun x y hx hy hb=>?_,fun k hk=>?_⟩
 ·rw [gs]
  by_cases he:x=i/\y=j
  ·rw [he.1,he.2,if_pos rfl]
  ·have hb':Bef i j x y:=by
    rcases hb with z | ⟨z1,z2⟩
    ·exact .inl z
    ·exact .inr ⟨z1,by exact Om.k11 he z1 z2⟩
   have hf:=h.full x y hx hy hb'
   rw [if_neg (fun z=>by rw [z,e] at hf; cases hf)]
   exact hf
 ·rw [gs]
  by_cases ek:k=(ent R i j).toNat
  ·rw [if_pos ek]
   exact .inr ⟨i,j,hi,hj,by rw [ek]; exact e1,rfl⟩
  ·rw [if_neg ek]
   exact h.emp k hk
theorem ThI.keep (ok:OkRows n R) (hl:R.length=n) {i j:Nat} {T:List V} (h:ThI n R a b i j T) (hi:i<n) (hj:j<n) (e:T.getD (ent R i j).toNat .non = .int (glE R a b i j)):ThI n R a b i (j+1) T:=by
 refine ⟨h.len,fun x y hx hy hb=>?_,h.emp⟩
 by_cases he:x=i/\y=j
 ·rw [he.1,he.2]
  exact e
 ·refine h.full x y hx hy ?_
  rcases hb with z | ⟨z1,z2⟩
  ·exact .inl z
  ·exact .inr ⟨z1,by exact Om.k11 he z1 z2⟩
theorem ThI.row {i:Nat} {T:List V} (h:ThI n R a b i n T):ThI n R a b (i+1) 0 T :=
 ⟨h.len,fun x y hx hy hb=>h.full x y hx hy (by
  rcases hb with z | ⟨_,z⟩
  ·by_cases e:x=i
   ·exact .inr ⟨e,hy⟩
   ·exact .inl (by exact Om.k10 z e)
  ·exact (Om.k6 z).elim),h.emp⟩
theorem ThI.no (ok:OkRows n R) (hl:R.length=n) {i j:Nat} {T:List V} (h:ThI n R a b i j T) (hi:i<n) (hj:j<n) (e1:T.getD (ent R i j).toNat .non ≠ .non) (e2:T.getD (ent R i j).toNat .non ≠ .int (glE R a b i j)):¬ ∃ t,Own n R [a,b,t]:=by
 rintro ⟨t,ow⟩
 obtain ⟨z1,z2⟩:=Z4 ok hl hi hj
 rcases h.emp _ z2 with z | ⟨x,y,hx,hy,ex,ez⟩
 ·exact e1 z
 ·refine e2 (ez.trans ?_)
  have g1:=Zh5 ok hl ow hx hy
  have g2:=Zh5 ok hl ow hi hj
  rw [ex,QAf,g2] at g1
  rw [g1]
noncomputable def unV:V->Int
 | .int z=>z
 | _=>0
theorem ThI.end (ok:OkRows n R) (hl:R.length=n) (h1:1<=n) (ta:Turn n a) (tb:Turn n b) {T:List V} (h:ThI n R a b n 0 T):∃ t,T=t.map V.int/\Own n R [a,b,t]:=by
 have av:∀ x,x<n->∃ z,a.getD x 0=((z:Nat):Int)/\z<n:=fun x hx=>ta.val hx
 have bv:∀ x,x<n->∃ z,b.getD x 0=((z:Nat):Int)/\z<n:=fun x hx=>tb.val hx
 have al:∀ x,x<n->(a.getD x 0).toNat<n:=fun x hx=>by obtain ⟨z,e,hz⟩:=av x hx; rw [e,QAf]; exact hz
 have bl:∀ x,x<n->(b.getD x 0).toNat<n:=fun x hx=>by obtain ⟨z,e,hz⟩:=bv x hx; rw [e,QAf]; exact hz
 have all:∀ x y,x<n->y<n->T.getD (ent R x y).toNat .non = .int (glE R a b x y):=fun x y hx hy=>h.full x y hx hy (.inl hx)
 have val:∀ k,k<n->∃ x,x<n/\ent R x 0=(k:Int)/\T.getD k .non = .int (glE R a b x 0):=fun k hk=>by
  obtain ⟨x,hx,e⟩:=Zg1 ok hl (show 0<n by exact Om.f5 ‹_›) hk
  have:=all x 0 hx (by exact Om.f5 ‹_›)
  rw [e,QAf] at this
  exact ⟨x,hx,e,this⟩
 have tl:(T.map unV).length=n:=by rw [QAa,h.len]
 have tg:∀ k,k<n->(T.map unV).getD k 0=unV (T.getD k .non):=fun k hk=>by
  have hk':k<T.length:=by rw [h.len]; exact hk
  rw [QAd,QAe,QAd,QAb hk']
  rfl
 have tt:Turn n (T.map unV):=by
  refine Turn.of tl (fun k hk=>?_) fun k k' hk hk' e=>?_
  ·obtain ⟨x,hx,e,ev⟩:=val k hk
   obtain ⟨z1,z2⟩:=Z4 ok hl (al x hx) (bl 0 (by exact Om.f5 ‹_›))
   exact ⟨_,by rw [tg k hk,ev]; exact z1,z2⟩
  ·obtain ⟨x,hx,ex,ev⟩:=val k hk
   obtain ⟨x',hx',ex',ev'⟩:=val k' hk'
   rw [tg k hk,tg k' hk',ev,ev'] at e
   have e:glE R a b x 0=glE R a b x' 0:=e
   have e2:=ZaC ok hl (al x hx) (al x' hx') (bl 0 (by exact Om.f5 ‹_›)) e
   have:a.getD x 0=a.getD x' 0:=by
    obtain ⟨z,q,_⟩:=av x hx
    obtain ⟨z',q',_⟩:=av x' hx'
    rw [q,q',QAf,QAf] at e2
    rw [q,q',e2]
   rw [ta.inj hx hx' this,ex'] at ex
   omega
 have rn:Ren n [a,b,T.map unV]:=Ren.of3 ta tb tt
 refine ⟨T.map unV,?_,rn,?_⟩
 ·rw [QBb]
  have:T.map id=T.map (V.int ∘ unV):=QBq fun v hv=>by
   obtain ⟨k,hk,rfl⟩:=QBd hv
   rw [h.len] at hk
   obtain ⟨x,hx,e,ev⟩:=val k hk
   rw [QAd,QAb (by rw [h.len]; exact hk)] at ev
   have ev:T[k]=V.int (glE R a b x 0):=ev
   show T[k]=V.int (unV T[k])
   rw [ev]
   rfl
  rw [List.map_id] at this
  exact this
 ·obtain ⟨ok',hl'⟩:=YN ok hl rn
  refine ZjL hl' (fun r h=>(ok'.row r h).1) hl (fun r h=>(ok.row r h).1) fun i j hi hj=>?_
  have hx:=ZW (rn.at (k:=0) (by decide)) hi
  have hy:=ZW (rn.at (k:=1) (by decide)) hj
  have e1:=Zby rn (k:=0) (by decide) hi
  have e2:=Zby rn (k:=1) (by decide) hj
  have e3:=Jn rn ok hl hx hy
  obtain ⟨z1,z2⟩:=Z4 ok hl hx hy
  have r1:=ZbZ rn (k:=2) (by decide) z2
  have e4:([a,b,T.map unV].getD 2 []).getD (ent R (ixo ([a,b,T.map unV].getD 0 []) i) (ixo ([a,b,T.map unV].getD 1 []) j)).toNat 0=glE R a b (ixo ([a,b,T.map unV].getD 0 []) i) (ixo ([a,b,T.map unV].getD 1 []) j):=by
   show (T.map unV).getD _ 0=_
   rw [tg _ z2,all _ _ hx hy]
   rfl
  rw [<- r1,e4,e1,e2] at e3
  rw [e3]
  show ent R (rw_ [a,b,T.map unV] 0 _) (rw_ [a,b,T.map unV] 1 _)=_
  rw [e1,e2]
end
noncomputable def Zel:Sp:=fun vs H Q _=>∃ (g p q:Addr) (n:Nat) (R:List (List Int)) (a b:List Int),vs=[.ref g,.ref p,.ref q]/\TG H g R/\OkRows n R/\R.length=n/\1<=n/\n<=6/\H p=some (.tup (a.map V.int))/\H q=some (.tup (b.map V.int))/\Turn n a/\Turn n b/\((¬ ∃ t,Own n R [a,b,t])->∀ H',Same H H'->Q .non H')/\∀ t l H',Own n R [a,b,t]->Same H H'->H' l=some (.tup (t.map V.int))->Q (.ref l) H'
section
variable {P:Program} {w:World} {K:PySem.W.Frag} {mg:Str->Option Value} {base:Heap}
theorem Zl5 (k:Nat):(List.replicate k [V.non]).flatten=List.replicate k V.non:=by
 induction k with
 | zero=>rfl
 | succ k ih=>rw [QCz,List.flatten_cons,ih,QCz]; rfl
theorem scThings:Zs ["_law_square_here","_law_rows","_law_columns","_law_n","_law_things_here","_law_row_here","_law_column","_law_thing","_law_goal"] ["_law_square_here","_law_rows","_law_columns"] (Ze JB):=⟨rfl,rfl,rfl,by decide +kernel,rfl,by decide +kernel,by decide +kernel⟩
inductive ZdH (H:Hp) (g:Addr) (p:Addr) (q:Addr) (n:Nat) (R:List (List Int)) (a:List Int) (b:List Int) (l:Addr) (i:Nat) (σ:St) (H2:Hp):Prop where
 | mk (v5 v6 v7 v8:Option V) (S:List V) (_:σ=[some (.ref g),some (.ref p),some (.ref q),some (.int (n:Int)),some (.ref l),v5,v6,v7,v8]) (_:Same H H2) (_:H2 l=some (.lst S)) (_:ThI n R a b i 0 S):ZdH H g p q n R a b l i σ H2
inductive ZdG (H:Hp) (g:Addr) (p:Addr) (q:Addr) (n:Nat) (R:List (List Int)) (a:List Int) (b:List Int) (l:Addr) (i:Nat) (j:Nat) (σ:St) (H3:Hp):Prop where
 | mk (v6 v7 v8:Option V) (S:List V) (_:σ=[some (.ref g),some (.ref p),some (.ref q),some (.int (n:Int)),some (.ref l),some (.int (i:Int)),v6,v7,v8]) (_:Same H H3) (_:H3 l=some (.lst S)) (_:ThI n R a b i j S):ZdG H g p q n R a b l i j σ H3
theorem Zhp {f:Addr} {fd:FuncData} (F:Fun K "_law_things" "_law_things" JB f fd) (T:Blt mg):FnOk P w K mg base CX0 1 f fd ["_law_square_here","_law_rows","_law_columns"] Zel:=by
 refine F.ok scThings (fun vs H Q E h=>?_) (fun cdv A outer s H vs Q E hr h=>?_)
 ·obtain ⟨_,_,_,_,_,_,_,rfl,_⟩:=h
  rfl
 ·obtain ⟨g,p,q,n,R,a,b,rfl,hT,ok,hRl,h1,h6,hp,hq,ta,tb,k1,k2⟩:=h
  refine' ⟨_,Zd ?s0 (Zd ?s1 (Zd (Yu PassesOwn.never rfl (Zp rfl T.range (Za (pv 3) Zc)) (ZG (i:=5) scThings.nd rfl (Or.inl rfl)) (Zg (Yu PassesOwn.never rfl (Zp rfl T.range (Za (pv 3) Zc)) (ZG (i:=6) scThings.nd rfl (Or.inl rfl)) (Zd ?b0 (Zd ?b1 (Zd ?b2 (Zg ?b3))))))) (Zg (Zt (Zx (ZB K) rfl T.tuple ZX (Za (pv 4) Zc)))))),?rd⟩
  case s0=>exact Zj (i:=3) scThings.nd rfl (Or.inl rfl) (Zu (ZJ K) rfl T.len PySem.boot_len (Za (pv 0) Zc))
  case s1=>exact Zj (i:=4) scThings.nd rfl (Or.inl rfl) (Zk ZkC (Yc (Za Zb8 Zc)) (pv 3))
  case b0=>exact Zj (i:=7) scThings.nd rfl (Or.inl rfl) (ZQ (Z9 K) (ZQ (Z9 K) (pv 0) (pv 5) (fun _ _=>rfl)) (pv 6) (fun _ _=>rfl))
  case b1=>exact Zj (i:=8) scThings.nd rfl (Or.inl rfl) (ZQ (Z9 K) (ZQ (Z9 K) (pv 0) (ZQ (Z9 K) (pv 1) (pv 5) (fun _ _=>rfl)) (fun _ _=>rfl)) (ZQ (Z9 K) (pv 2) (pv 6) (fun _ _=>rfl)) (fun _ _=>rfl))
  case b2=>exact Jg (Zb4 (ZfX (ZQ YG (pv 4) (pv 7) (fun _ _=>rfl)))) (Zg (ZdX (pv 8) (ZfT (pv 4) (pv 7) ZbW))) Yf
  case b3=>exact Jg (ZR Zh8 (ZQ YG (pv 4) (pv 7) (fun _ _=>rfl)) (pv 8) (Yp _)) (Zg (Zt Zb8)) Yf
  case rd =>
   obtain ⟨gs,hgs,hGs⟩:=id hT
   have hgl:(gs.map V.ref).length=n:=by rw [QAa,hGs.length,hRl]
   refine ⟨_,rfl,g,_,rfl,.inr (SqT.of hgs),?_⟩
   show Jy 3 (V.int ((gs.map V.ref).length:Int)) _ _ _
   rw [hgl]
   refine ⟨(show 1<=sizeLine from Zq (by decide)),fun l0 f0=>?_⟩
   have s0:Same H (upd H l0 (.lst [.non])):=Same.new f0
   have g0:(upd H l0 (.lst [.non])) l0=some (.lst [.non]):=Zb
   generalize upd H l0 (.lst [.non])=H0 at s0 g0 ⊢
   refine ⟨_,rfl,l0,(n:Int),_,rfl,rfl,g0,by exact Om.k9 h1 h6 hgl,by exact Om.k8 h1 h6 hgl,by rw [QAf]; show 1*n<=sizeLine; exact QBw (Zq (by exact Om.k7 h1 h6 hgl)),fun l hl=>?_⟩
   rw [QAf,Zl5]
   have s1:Same H0 (upd H0 l (.lst (List.replicate n V.non))):=Same.new hl
   have g1:(upd H0 l (.lst (List.replicate n V.non))) l=some (.lst (List.replicate n V.non)):=Zb
   have hlH:H l=none:=s0.free hl
   generalize upd H0 l (.lst (List.replicate n V.non))=H1 at s1 g1 ⊢
   have I0:ThI n R a b 0 0 (List.replicate n V.non):=⟨List.length_replicate,fun x y _ _ hb=>by
    rcases hb with z | ⟨_,z⟩
    ·exact (Om.k6 z).elim
    ·exact (Om.k6 z).elim,fun k hk=>.inl (by rw [QAd,List.getElem?_replicate,if_pos hk]; rfl)⟩
   have s01:=s0.trans s1
   refine ⟨_,rfl,(n:Int),rfl,by exact Om.c2,by exact Om.c1 ‹_› rfl,?_⟩
   rw [QAf]
   refine Yk (lo:=0) (n:=n) (ZdH H g p q n R a b l) ⟨none,none,none,none,_,rfl,s01,g1,I0⟩ ?_ ?_
   ·rintro i σ H2 hi ⟨v5,v6,v7,v8,S,rfl,s2,h2,I2⟩
    rw [QBx]
    refine ⟨_,rfl,(n:Int),rfl,by exact Om.c2,by exact Om.c1 ‹_› rfl,?_⟩
    rw [QAf]
    refine Yk (lo:=0) (n:=n) (ZdG H g p q n R a b l i) ⟨v6,v7,v8,S,rfl,s2,h2,I2⟩ ?_ ?_
    ·rintro j σ H3 hj ⟨v6,v7,v8,S,rfl,s3,h3,I3⟩
     rw [QBx]
     have hT3:=hT.same s3
     obtain ⟨xs,p1,e1,_,e2,e3⟩:=hT3.at (k:=i) (by exact Om.a1 ‹_› ‹_›)
     have rl:(R.getD i []).length=n:=(ok.rowAt (by exact Om.a1 ‹_› ‹_›)).len
     obtain ⟨ai,ea,hai⟩:=ta.val hi
     obtain ⟨bj,eb,hbj⟩:=tb.val hj
     obtain ⟨xs',p2,e1',_,e2',e3'⟩:=hT3.at (k:=ai) (by exact Om.a1 ‹_› ‹_›)
     have rl':(R.getD ai []).length=n:=(ok.rowAt (by exact Om.a1 ‹_› ‹_›)).len
     have egl:glE R a b i j=(R.getD ai []).getD bj 0:=by
      unfold glE ent
      rw [ea,eb,QAf,QAf]
     obtain ⟨z1,z2⟩:=Z4 ok hRl hi hj
     have ka:atI (a.map V.int) (i:Int)=some (.int (ai:Int)):=by rw [YQ (by rw [ta.len]; exact hi),ea]
     have kb:atI (b.map V.int) (j:Int)=some (.int (bj:Int)):=by rw [YQ (by rw [tb.len]; exact hj),eb]
     refine ⟨_,rfl,_,rfl,g,_,_,.ref p1,rfl,rfl,SqT.of e1,e2,_,rfl,p1,_,_,_,rfl,rfl,SqT.of e3,YQ (by exact Om.a1 ‹_› ‹_›),?_⟩
     show Jy 7 (V.int (ent R i j)) _ _ _
     rw [z1]
     refine ⟨_,rfl,_,rfl,_,rfl,p,_,_,_,rfl,rfl,SqT.of (s3 _ _ hp),ka,g,_,_,.ref p2,rfl,rfl,SqT.of e1',e2',_,rfl,_,rfl,q,_,_,_,rfl,rfl,SqT.of (s3 _ _ hq),kb,p2,_,_,_,rfl,rfl,SqT.of e3',YQ (by exact Om.a1 ‹_› ‹_›),?_⟩
     show Jy 8 (V.int ((R.getD ai []).getD bj 0)) _ _ _
     rw [<- egl]
     have hSk:(ent R i j).toNat<S.length:=by rw [I3.len]; exact z2
     have gS:S[(ent R i j).toNat]? = some (S.getD (ent R i j).toNat .non):=by rw [QAd,QAb hSk]; rfl
     refine ⟨_,rfl,_,rfl,l,_,_,S.getD (ent R i j).toNat .non,rfl,rfl,SqL.of h3,YU gS,_,rfl,Zal (fun hd=>?_) (fun hd=>?_)⟩
     ·have e:S.getD (ent R i j).toNat .non = .non:=of_decide_eq_true hd
      have I4:=I3.set ok hRl hi hj e
      have gS':(S.set (ent R i j).toNat (.int (glE R a b i j)))[(ent R i j).toNat]? = some (.int (glE R a b i j)):=by rw [QCm,if_pos rfl,if_pos hSk]
      refine ⟨_,rfl,_,rfl,_,rfl,l,_,_,(ent R i j).toNat,rfl,rfl,h3,Zf9 hSk,?_⟩
      have c4:(upd H3 l (.lst (S.set (ent R i j).toNat (.int (glE R a b i j))))) l=some (.lst (S.set (ent R i j).toNat (.int (glE R a b i j)))):=Zb
      have s4:Same H (upd H3 l (.lst (S.set (ent R i j).toNat (.int (glE R a b i j))))):=fun b u e=>by
       rw [Zf (Zh e hlH)]
       exact s3 _ _ e
      generalize upd H3 l (.lst (S.set (ent R i j).toNat (.int (glE R a b i j))))=H4 at c4 s4 ⊢
      refine ⟨_,rfl,_,rfl,l,_,_,.int (glE R a b i j),rfl,rfl,SqL.of c4,YU gS',_,rfl,rfl,_,rfl,?_⟩
      rw [decide_eq_true rfl]
      exact ZaE ⟨_,_,_,_,rfl,s4,c4,I4⟩
     ·have e:S.getD (ent R i j).toNat .non ≠ .non:=fun z=>hd (decide_eq_true z)
      obtain ⟨u,eu⟩:∃ u,S.getD (ent R i j).toNat .non = .int u:=by
       rcases I3.emp _ z2 with z | ⟨x,y,_,_,_,ez⟩
       ·exact absurd z e
       ·exact ⟨_,ez⟩
      refine ⟨_,rfl,_,rfl,l,_,_,S.getD (ent R i j).toNat .non,rfl,rfl,SqL.of h3,YU gS,_,rfl,by rw [eu]; rfl,_,rfl,Zal (fun hd2=>?_) (fun hd2=>?_)⟩
      ·exact k1 (I3.no ok hRl hi hj e fun z=>by rw [z,decide_eq_true rfl] at hd2; cases hd2) H3 s3
      ·refine ⟨_,_,_,S,rfl,s3,h3,I3.keep ok hRl hi hj ?_⟩
       cases hq2:decide (S.getD (ent R i j).toNat .non = .int (glE R a b i j)) with
       | true=>exact of_decide_eq_true hq2
       | false=>exact absurd (by rw [hq2]; rfl) hd2
    ·rintro σ H3 ⟨v6,v7,v8,S,rfl,s3,h3,I3⟩
     exact ⟨_,_,_,_,S,rfl,s3,h3,I3.row⟩
   ·rintro σ H2 ⟨v5,v6,v7,v8,S,rfl,s2,h2,I2⟩
    obtain ⟨t,rfl,ow⟩:=I2.end ok hRl h1 ta tb
    exact ⟨_,rfl,l,_,rfl,.inl ⟨SqL.of h2,fun t' ht=>k2 t t' _ ow (s2.trans (Same.new ht)) Zb⟩⟩
end
end My
namespace My
open PySem L2
noncomputable def Zgy (K:PySem.W.Frag):Sp:=fun vs H Q _=>∃ (a:Addr) (ns:List Int),vs=[.ref a]/\SqL K H a (ns.map V.int)/\ns.length<=63/\∀ H',Q (.bl true) H'
structure Defs (P:Program) (w:World) (K:PySem.W.Frag) (mg:Str->Option Value) (base:Heap) (fC fQ fN fH fO:Addr) (dC dQ dN dH dO:FuncData):Prop where
 T:Blt mg
 C:Dfn K mg "_law_cell_at" Zah ["_law_script","_law_k"] fC dC
 Q:Dfn K mg "_law_square" JC ["_law_script","_law_k","_law_n"] fQ dQ
 N:Dfn K mg "_law_turns" Zaf ["_law_n"] fN dN
 G:Dfn K mg "_law_things" JB ["_law_square_here","_law_rows","_law_columns"] fH dH
 O:Dfn K mg "own" ZdR ["square"] fO dO
 GQ:FnOk P w K mg base CX0 11 fQ dQ ["_law_script","_law_k","_law_n"] (Zem K)
 GO:FnOk P w K mg base CX0 11 fO dO ["square"] Zj1
theorem Zhz {n:Nat} {R:List (List Int)} {L:List (List Nat)} {i:Nat} {r:List Nat} (h:L[i]? = some r):ZbG n R (L.take (i+1))=ZbG n R (L.take i)++ZcO n R r (ZC n n):=by
 unfold ZbG
 rw [QBy,h,QDi]
 show _++List.flatMap _ [r]=_
 rw [QCs,QDj,QBh]
theorem Zdk {n:Nat} {R:List (List Int)} {L:List (List Nat)} {j:Nat} {r c:List Nat} (h:L[j]? = some c):ZcO n R r (L.take (j+1))=ZcO n R r (L.take j)++(ZfZ n R r c).toList:=by
 unfold ZcO
 rw [QBy,h,List.filterMap_append]
 congr 1
theorem Zd8 {n:Nat} {R:List (List Int)} (h4:n<=4):∀ (A:List (List Nat)),A.length<=64->(ZbG n R A).length<=A.length*64
 | [],_=>QAh _
 | r::A,h=>by
  have ih:=Zd8 (R:=R) h4 A (by rw [QAy] at h; exact Om.f4 ‹_›)
  have:(ZcO n R r (ZC n n)).length<=64:=QAq (List.length_filterMap_le _ _) (Zbf n (by exact Om.f3 ‹_›) n (by exact Om.f3 ‹_›))
  show (List.flatMap _ (r::A)).length<=_
  rw [QCs,QAn,QAy,QCp]
  have e:(List.flatMap (fun r=>ZcO n R r (ZC n n)) A).length=(ZbG n R A).length:=rfl
  omega
section
variable {P:Program} {w:World} {K:PySem.W.Frag} {mg:Str->Option Value} {base:Heap}
variable {fC fQ fN fH fO:Addr} {dC dQ dN dH dO:FuncData}
theorem ZkZ {H:Hp} {l m:Addr} {A:List (List (List Int))} (x:RL H l A) (y:RL H m A):EqD K H 3 (.ref l) (.ref m) true:=by
 obtain ⟨ps,h1,r1⟩:=x
 obtain ⟨qs,h2,r2⟩:=y
 refine ZiH (SqL.of h1) (SqL.of h2) (by rw [QAa,QAa,r1.length,r2.length]) fun j u v hu hv=>?_
 rw [QAe] at hu hv
 cases e1:ps[j]? with
 | none=>rw [e1] at hu; cases hu
 | some p =>
  cases e2:qs[j]? with
  | none=>rw [e2] at hv; cases hv
  | some q =>
   rw [e1] at hu
   rw [e2] at hv
   cases hu
   cases hv
   obtain ⟨F,hF,tF⟩:=Paired.getL r1 e1
   obtain ⟨G,hG,tG⟩:=Paired.getL r2 e2
   rw [hF] at hG
   cases hG
   exact (ZiI tF tG).cast (decide_eq_true rfl)
theorem scLaw:Zs ["_law_script","_law_n","_law_square_here","_law_due","_law_rows","_law_columns","_law_things_here"] ["_law_script"] (Ze ZbX):=⟨rfl,rfl,rfl,by decide +kernel,rfl,by decide +kernel,by decide +kernel⟩
inductive ZdK (a:Addr) (n:Nat) (g:Addr) (R:List (List Int)) (ld:Addr) (H1:Hp) (i:Nat) (σ:St) (H2:Hp):Prop where
 | mk (v4 v5 v6:Option V) (ds:List Addr) (_:σ=[some (.ref a),some (.int (n:Int)),some (.ref g),some (.ref ld),v4,v5,v6]) (_:(∀ b o,b≠ld->H1 b=some o->H2 b=some o)) (_:H2 ld=some (.lst (ds.map V.ref))) (_:Paired (fun p x=>TG H2 p x) ds (ZbG n R ((ZC n n).take i))):ZdK a n g R ld H1 i σ H2
inductive ZdJ (a:Addr) (n:Nat) (g:Addr) (R:List (List Int)) (ld:Addr) (i:Nat) (p:Addr) (r:List Nat) (H3:Hp) (j:Nat) (σ:St) (H4:Hp):Prop where
 | mk (v5 v6:Option V) (ds:List Addr) (_:σ=[some (.ref a),some (.int (n:Int)),some (.ref g),some (.ref ld),some (.ref p),v5,v6]) (_:(∀ b o,b≠ld->H3 b=some o->H4 b=some o)) (_:H4 ld=some (.lst (ds.map V.ref))) (_:Paired (fun p x=>TG H4 p x) ds (ZbG n R ((ZC n n).take i)++ZcO n R r ((ZC n n).take j))):ZdJ a n g R ld i p r H3 j σ H4
set_option maxHeartbeats 1000000 in
theorem ZkI {f:Addr} {fd:FuncData} (F:Fun K "law" "law" ZbX f fd) (Z:Defs P w K mg base fC fQ fN fH fO dC dQ dN dH dO):FnOk P w K mg base CX0 12 f fd ["_law_script"] (Zgy K):=by
 have T:=Z.T
 have GC:FnOk P w K mg base CX0 11 fC dC ["_law_script","_law_k"] (Zbd K):=(ZgL Z.C.F T).mono (by decide)
 have GN:FnOk P w K mg base CX0 11 fN dN ["_law_n"] Zgv:=(Zia Z.N.F T).mono (by decide)
 have GH:FnOk P w K mg base CX0 11 fH dH ["_law_square_here","_law_rows","_law_columns"] Zel:=(Zhp Z.G.F T).mono (by decide)
 have GQ:=Z.GQ
 have GO:=Z.GO
 refine F.ok scLaw (fun vs H Q E h=>?_) (fun cdv A outer s H vs Q E hr h=>?_)
 ·obtain ⟨_,_,rfl,_⟩:=h
  rfl
 ·obtain ⟨a,ns,rfl,hS,hnl,k⟩:=h
  have hu:((A.deeper (PyProof.Rows.envOfC "law" (Ze ZbX) s.heap.objs.size f cdv))).units+3<cLine:=by have:=hr.un; omega
  have hu6:((A.deeper (PyProof.Rows.envOfC "law" (Ze ZbX) s.heap.objs.size f cdv))).units+6<cLine:=by have:=hr.un; omega
  refine' ⟨_,Zd ?s0 (Zd ?s1 (Zd (Zj (i:=3) scLaw.nd rfl (Or.inl rfl) (Yc Zc)) (Zd (Yu PassesOwn.never rfl (Zaw (Zm GN hr rfl Z.N.m Z.N.F.kp Z.N.b .nil ZO (Za (pv 1) Zc))) (ZG (i:=4) scLaw.nd rfl (Or.inl rfl)) (Zg (Yu PassesOwn.never rfl (Zaw (Zm GN hr rfl Z.N.m Z.N.F.kp Z.N.b .nil ZO (Za (pv 1) Zc))) (ZG (i:=5) scLaw.nd rfl (Or.inl rfl)) (Zd ?b0 (Zg ?b1))))) (Zg (Zt ?s4))))),?rd⟩
  case s0=>exact Zj (i:=1) scLaw.nd rfl (Or.inl rfl) (Zk Yv Zi (Zk Yh (Zm GC hr rfl Z.C.m Z.C.F.kp Z.C.b .nil ZO (Za (pv 0) (Za Zi Zc))) Zi))
  case s1=>exact Zj (i:=2) scLaw.nd rfl (Or.inl rfl) (Zm GQ hr rfl Z.Q.m Z.Q.F.kp Z.Q.b .nil ZO (Za (pv 0) (Za Zi (Za (pv 1) Zc))))
  case b0=>exact Zj (i:=6) scLaw.nd rfl (Or.inl rfl) (Zm GH hr rfl Z.G.m Z.G.F.kp Z.G.b .nil ZO (Za (pv 2) (Za (pv 4) (Za (pv 5) Zc))))
  case b1=>exact Jg (Zb4 (ZgJ (pv 6))) (Zg (YA (Jj PySem.F.plainAttrs_list PySem.F.slot_list_append PySem.F.type_list_append Yt (pv 3) (Za (J3 (Za (pv 4) (Za (pv 5) (Za (pv 6) Zc)))) Zc)))) Yf
  case s4=>exact ZgI (Zh9 (d:=3) hu K) (Zm GO hr rfl Z.O.m Z.O.F.kp Z.O.b .nil ZO (Za (pv 2) Zc)) (Zu (Zao hu6) rfl T.sorted PyProof.Rows.boot_sorted (Za (pv 3) Zc)) (Yp _)
  case rd =>
   refine ⟨_,rfl,a,ns,0,rfl,hS,fun z0=>?_⟩
   refine ⟨_,_,rfl,rfl,(by show (0:Int)<4; decide),_,_,rfl,rfl,?_⟩
   obtain ⟨n,hz,h1,h4⟩:∃ n:Nat,1+z0 % 4=(n:Int)/\1<=n/\n<=4:=⟨(1+z0 % 4).toNat,by exact Om.k5 ,by exact Om.k4 ,by exact Om.k3 ⟩
   show Jy 1 (V.int (1+z0 % 4)) _ _ _
   rw [hz]
   have h8:n<=8:=by exact Om.b1 ‹_› rfl
   have h6:n<=6:=by exact Om.k2 hz
   refine ⟨_,rfl,_,rfl,a,ns,2,n,rfl,hS,h1,h8,fun g HX R s0 hT ok hRl=>?_⟩
   refine ⟨QAh _,fun ld hld=>?_⟩
   have sd:Same HX (upd HX ld (.lst [])):=Same.new hld
   have gd:(upd HX ld (.lst [])) ld=some (.lst (([]:List Addr).map V.ref)):=Zb
   generalize upd HX ld (.lst [])=HD at sd gd ⊢
   have hTD:=hT.same sd
   refine ⟨_,rfl,n,rfl,h4,fun lt H1 hlt s1 hPL=>?_⟩
   obtain ⟨ps,hps,hP⟩:=hPL
   have hpl:(ps.map V.ref).length=(ZC n n).length:=by rw [QAa,hP.length]
   have hfew:=Zbf n (by exact Om.f3 ‹_›) n (by exact Om.f3 ‹_›)
   have nlt:lt≠ld:=fun z=>by rw [z,gd] at hlt; cases hlt
   have gd1:=s1 _ _ gd
   have hT1:=hTD.same s1
   refine ⟨lt,rfl,⟨_,SqL.of hps⟩,Zam (xs:=ps.map V.ref) (ZdK a n g R ld H1) ⟨none,none,none,[],rfl,fun _ _ _ e=>e,gd1,.nil⟩ (fun i σ H2 _ zz0=> by obtain ⟨_,_,_,_,_,s2,_,_⟩ := zz0; exact SqL.of (s2 _ _ nlt hps)) ?_ ?_⟩
   ·rintro i x σ H2 hx ⟨v4,v5,v6,ds,rfl,s2,h2,hD⟩
    rw [QAe] at hx
    cases hpi:ps[i]? with
    | none=>rw [hpi] at hx; cases hx
    | some p =>
    rw [hpi] at hx
    cases hx
    obtain ⟨r,hri,hpr⟩:=Paired.getL hP hpi
    have hrm:=QAu hri
    obtain ⟨rl,rnd,rrg⟩:=J2 n r hrm
    have tr:Turn n (toI r):=by
     refine ⟨by rw [Ye,rl],?_,fun x hx=>?_⟩
     ·exact List.pairwise_map.mpr (rnd.imp fun q e=>q (by exact Om.e1 ‹_›))
     ·obtain ⟨y,hy,rfl⟩:=List.mem_map.mp hx
      have:=rrg y hy
      omega
    have tup2:∀ b row,H1 b=some (.tup row)->H2 b=some (.tup row):=fun b row e=>s2 _ _ (YV e gd1 (by intro z; cases z)) e
    have hi64:i<64:=by have:=(List.getElem?_eq_some_iff.mp hri).1; exact Om.a3 ‹_› ‹_›
    refine ⟨_,rfl,n,rfl,h4,fun l2 H3 hl2 s3 hPL2=>?_⟩
    obtain ⟨qs,hqs,hQ⟩:=hPL2
    have hql:(qs.map V.ref).length=(ZC n n).length:=by rw [QAa,hQ.length]
    have nl2:l2≠ld:=fun z=>by rw [z,h2] at hl2; cases hl2
    have h3:=s3 _ _ h2
    refine ⟨l2,rfl,⟨_,SqL.of hqs⟩,Zam (xs:=qs.map V.ref) (ZdJ a n g R ld i p r H3) ⟨_,_,ds,rfl,fun _ _ _ e=>e,h3,?_⟩ (fun j σ H4 _ zz0=> by obtain ⟨_,_,_,_,s4,_,_⟩ := zz0; exact SqL.of (s4 _ _ nl2 hqs)) ?_ ?_⟩
    ·have:ZcO n R r ((ZC n n).take 0)=[]:=rfl
     rw [this,QBh]
     exact Paired.mapP hD fun _ _ z=>z.same s3
    ·rintro j y σ H4 hy ⟨v5,v6,ds,rfl,s4,h4l,hD4⟩
     rw [QAe] at hy
     cases hqj:qs[j]? with
     | none=>rw [hqj] at hy; cases hy
     | some q =>
     rw [hqj] at hy
     cases hy
     obtain ⟨c,hcj,hqc⟩:=Paired.getL hQ hqj
     obtain ⟨cl,cnd,crg⟩:=J2 n c (QAu hcj)
     have tc:Turn n (toI c):=by
      refine ⟨by rw [Ye,cl],?_,fun x hx=>?_⟩
      ·exact List.pairwise_map.mpr (cnd.imp fun q e=>q (by exact Om.e1 ‹_›))
      ·obtain ⟨y,hy,rfl⟩:=List.mem_map.mp hx
       have:=crg y hy
       omega
     have tup4:∀ b row,H3 b=some (.tup row)->H4 b=some (.tup row):=fun b row e=>s4 _ _ (YV e h3 (by intro z; cases z)) e
     have hp4:=tup4 _ _ (s3 _ _ (tup2 _ _ hpr))
     have hq4:=tup4 _ _ hqc
     have hT4:TG H4 g R:=((hT1.up tup2).same s3).up tup4
     have hds:ds.length<=4160:=by
      rw [hD4.length,QAn]
      have d1:=Zd8 (R:=R) h4 ((ZC n n).take i) (by rw [QAt]; exact Om.k1 hpl hfew hi64 hql)
      have d2:(ZcO n R r ((ZC n n).take j)).length<=64:=QAq (List.length_filterMap_le _ _) (by rw [QAt]; exact Om.k0 hpl hfew hql)
      rw [QAt] at d1
      omega
     refine ⟨_,rfl,_,rfl,_,rfl,g,p,q,n,R,toI r,toI c,rfl,hT4,ok,hRl,h1,h6,hp4,hq4,tr,tc,fun no H5 s5=>?_,fun t tm H5 ow s5 htm=>?_⟩
     ·refine ⟨_,rfl,_,rfl,?_⟩
      rw [decide_eq_true rfl]
      refine ZaE ⟨_,_,ds,rfl,fun b o hb e=>s5 _ _ (s4 b o hb e),s5 _ _ h4l,?_⟩
      rw [Zdk hcj,Zjj no]
      show Paired _ ds (_++(_++[]))
      rw [QBh]
      exact Paired.mapP hD4 fun _ _ z=>z.same s5
     ·refine ⟨_,rfl,_,rfl,?_⟩
      rw [decide_eq_false (by intro z; cases z)]
      have h5:=s5 _ _ h4l
      refine Zbn ⟨_,rfl,.inl ⟨rfl,_,SqL.of h5⟩,_,rfl,_,rfl,_,rfl,(show 3<=sizeLine from Zq (by decide)),fun tn htn=>?_⟩
      have s6:Same H5 (upd H5 tn (.tup [.ref p,.ref q,.ref tm])):=Same.new htn
      have g6:(upd H5 tn (.tup [.ref p,.ref q,.ref tm])) tn=some (.tup ([p,q,tm].map V.ref)):=Zb
      generalize upd H5 tn (.tup [.ref p,.ref q,.ref tm])=H6 at s6 g6 ⊢
      have s56:=s5.trans s6
      have h6l:=s6 _ _ h5
      have up:∀ b row,H6 b=some (.tup row)->(upd H6 ld (.lst (ds.map V.ref++[.ref tn]))) b=some (.tup row):=fun b row e=>by
       rw [Zf (YV e h6l (by intro z; cases z))]
       exact e
      have hTn:TG H6 tn [toI r,toI c,t]:=⟨[p,q,tm],g6,.cons (s56 _ _ hp4) (.cons (s56 _ _ hq4) (.cons (s6 _ _ htm) .nil))⟩
      refine ⟨ld,_,_,rfl,rfl,h6l,by rw [QAa]; exact Jl (by exact Om.b1 ‹_› rfl),_,_,ds++[tn],rfl,fun b o hb e=>?_,by rw [Zb,QAm]; rfl,?_⟩
      ·rw [Zf hb]
       exact s56 _ _ (s4 b o hb e)
      ·rw [Zdk hcj,ZgK ok hRl ow]
       show Paired _ _ (_++(_++[[toI r,toI c,t]]))
       rw [<- QBo]
       exact Paired.snoc (Paired.mapP hD4 fun _ _ z=>(z.same s56).up up) (hTn.up up)
    ·rintro σ H4 ⟨v5,v6,ds,rfl,s4,h4l,hD4⟩
     refine ⟨_,_,_,ds,rfl,fun b o hb e=>s4 b o hb (s3 _ _ (s2 b o hb e)),h4l,?_⟩
     rw [Zhz hri]
     rw [hql,QBc (QAc _)] at hD4
     exact hD4
   ·rintro σ H2 ⟨v4,v5,v6,ds,rfl,s2,h2,hD⟩
    rw [hpl,QBc (QAc _)] at hD
    have tup2:∀ b row,H1 b=some (.tup row)->H2 b=some (.tup row):=fun b row e=>s2 _ _ (YV e gd1 (by intro z; cases z)) e
    refine ⟨_,rfl,g,n,R,rfl,hT1.up tup2,ok,hRl,h1,h6,fun lo H3 B s3 hB ow=>?_⟩
    have nd:=Zk1 (n:=n) (R:=R)
    have mm:=fun x=>ZjP ok hRl (h:=x)
    have hlen:(ZbG n R (ZC n n)).length<=100000:=by
     have d1:=Zd8 (R:=R) h4 (ZC n n) hfew
     omega
    refine ⟨_,rfl,ld,ds,ZbG n R (ZC n n),3,n,rkG n,rfl,s3 _ _ h2,Paired.mapP hD fun _ _ z=>TG.same z s3,fun r hr=>?_,by decide,hlen,fun p hp q hq=>?_,Zj2 nd fun g hg=>((mm g).mp hg).1.dig h6,fun l qs S' hl hQ hp hs=>?_⟩
    ·have d:=((mm r).mp hr).1.dig h6
     exact ⟨d.len,fun x hx=>(d.row x hx).1⟩
    ·exact Dig.lt (((mm p).mp hp).1.dig h6) (((mm q).mp hq).1.dig h6)
    ·have s5:Same H3 (upd H3 l (.lst (qs.map V.ref))):=Same.new hl
     have e:B=S':=ow.one h6 ⟨ZbG n R (ZC n n),nd,mm,hp,hs⟩
     subst e
     exact ⟨true,ZkZ (hB.same s5) ⟨qs,Zb,Paired.mapP hQ fun _ _ z=>TG.same (show TG H3 _ _ from z) s5⟩,k _⟩
end
end My
namespace My
open PySem L2
theorem exL {α:Type} {us:List α} {k:Nat} (h:us.length=k+1):∃ a t,us=a::t/\t.length=k:=by
 cases us with
 | nil=>cases h
 | cons a t=>exact ⟨a,t,rfl,Nat.succ.inj h⟩
theorem ZcR {K:PySem.W.Frag} {x qual:Str} {st:Stmt} {f:Addr} {fd:FuncData} {ps:List Str} (hl:ps.length=1) (F:Fun K x qual st f fd) (h:∀ (kV doc pm:Value) (an:Option Addr) (cdv ct:Value) (a0:Value),bindArgs (PySem.W.fnOf x qual (Zn st) (Zl st) (Ze st) .none kV doc pm an cdv ct) ⟨[a0],[]⟩=pure (ps.zip [a0])):Binds K fd ps [] :=
 F.binds fun kV doc pm an cdv ct us hu=>by obtain ⟨a0,us,rfl,h0⟩:=exL (hu.trans hl); obtain rfl:=QEy h0; exact h kV doc pm an cdv ct a0
theorem ZcB {K:PySem.W.Frag} {x qual:Str} {st:Stmt} {f:Addr} {fd:FuncData} {ps:List Str} (hl:ps.length=2) (F:Fun K x qual st f fd) (h:∀ (kV doc pm:Value) (an:Option Addr) (cdv ct:Value) (a0 a1:Value),bindArgs (PySem.W.fnOf x qual (Zn st) (Zl st) (Ze st) .none kV doc pm an cdv ct) ⟨[a0,a1],[]⟩=pure (ps.zip [a0,a1])):Binds K fd ps [] :=
 F.binds fun kV doc pm an cdv ct us hu=>by obtain ⟨a0,us,rfl,h0⟩:=exL (hu.trans hl); obtain ⟨a1,us,rfl,h1⟩:=exL h0; obtain rfl:=QEy h1; exact h kV doc pm an cdv ct a0 a1
theorem ZhG {K:PySem.W.Frag} {x qual:Str} {st:Stmt} {f:Addr} {fd:FuncData} {ps:List Str} (hl:ps.length=3) (F:Fun K x qual st f fd) (h:∀ (kV doc pm:Value) (an:Option Addr) (cdv ct:Value) (a0 a1 a2:Value),bindArgs (PySem.W.fnOf x qual (Zn st) (Zl st) (Ze st) .none kV doc pm an cdv ct) ⟨[a0,a1,a2],[]⟩=pure (ps.zip [a0,a1,a2])):Binds K fd ps [] :=
 F.binds fun kV doc pm an cdv ct us hu=>by obtain ⟨a0,us,rfl,h0⟩:=exL (hu.trans hl); obtain ⟨a1,us,rfl,h1⟩:=exL h0; obtain ⟨a2,us,rfl,h2⟩:=exL h1; obtain rfl:=QEy h2; exact h kV doc pm an cdv ct a0 a1 a2
theorem ZlJ {K:PySem.W.Frag} {x qual:Str} {st:Stmt} {f:Addr} {fd:FuncData} {ps:List Str} (hl:ps.length=4) (F:Fun K x qual st f fd) (h:∀ (kV doc pm:Value) (an:Option Addr) (cdv ct:Value) (a0 a1 a2 a3:Value),bindArgs (PySem.W.fnOf x qual (Zn st) (Zl st) (Ze st) .none kV doc pm an cdv ct) ⟨[a0,a1,a2,a3],[]⟩=pure (ps.zip [a0,a1,a2,a3])):Binds K fd ps [] :=
 F.binds fun kV doc pm an cdv ct us hu=>by obtain ⟨a0,us,rfl,h0⟩:=exL (hu.trans hl); obtain ⟨a1,us,rfl,h1⟩:=exL h0; obtain ⟨a2,us,rfl,h2⟩:=exL h1; obtain ⟨a3,us,rfl,h3⟩:=exL h2; obtain rfl:=QEy h3; exact h kV doc pm an cdv ct a0 a1 a2 a3
set_option maxHeartbeats 2000000 in
theorem all_mk {l:PySem.W.OpenLaw} {w:World} {K:PySem.W.Frag} {h:Heap} {mg:Str->Option Value} {fa fS fBT fBE fTU fU fY fM fRF fRG fLE fWA fTW fAL fHO fLD fOW fC fN fT fR fL fB fA fV fX fG fQ fTN fTH fLaw:Addr}  (X:K.In h) (G:h.Ns mainGlobals mg) (hfa:mg "law" = some (.ref fa))
  {odS anS odBT anBT odBE anBE odTU anTU odU anU odY anY odM anM odRF anRF odRG anRG odLE anLE odWA anWA odTW anTW odAL anAL odHO anHO odLD anLD odOW anOW odC anC odN anN odT anT odR anR odL anL odB anB odA anA odV anV odX anX odG anG odQ anQ odTN anTN odTH anTH odLaw anLaw:Option Addr} {slS slBT slBE slTU slU slY slM slRF slRG slLE slWA slTW slAL slHO slLD slOW slC slN slT slR slL slB slA slV slX slG slQ slTN slTH slLaw:Array (Option Value)}
  {ocS kVS dcS pmS cdS ctS ocBT kVBT dcBT pmBT cdBT ctBT ocBE kVBE dcBE pmBE cdBE ctBE ocTU kVTU dcTU pmTU cdTU ctTU ocU kVU dcU pmU cdU ctU ocY kVY dcY pmY cdY ctY ocM kVM dcM pmM cdM ctM ocRF kVRF dcRF pmRF cdRF ctRF ocRG kVRG dcRG pmRG cdRG ctRG ocLE kVLE dcLE pmLE cdLE ctLE ocWA kVWA dcWA pmWA cdWA ctWA ocTW kVTW dcTW pmTW cdTW ctTW ocAL kVAL dcAL pmAL cdAL ctAL ocHO kVHO dcHO pmHO cdHO ctHO ocLD kVLD dcLD pmLD cdLD ctLD ocOW kVOW dcOW pmOW cdOW ctOW ocC kVC dcC pmC cdC ctC ocN kVN dcN pmN cdN ctN ocT kVT dcT pmT cdT ctT ocR kVR dcR pmR cdR ctR ocL kVL dcL pmL cdL ctL ocB kVB dcB pmB cdB ctB ocA kVA dcA pmA cdA ctA ocV kVV dcV pmV cdV ctV ocX kVX dcX pmX cdX ctX ocG kVG dcG pmG cdG ctG ocQ kVQ dcQ pmQ cdQ ctQ ocTN kVTN dcTN pmTN cdTN ctTN ocTH kVTH dcTH pmTH cdTH ctTH ocLaw kVLaw dcLaw pmLaw cdLaw ctLaw:Value}
  (aS:PySem.W.nsIn K mainGlobals "still" = some (some (.ref fS))) (lS:K.lookup fS=some ⟨ocS,odS,.func (PySem.W.fnOf "still" "still" (Zn Zag) (Zl Zag) (Ze Zag) .none kVS dcS pmS anS cdS ctS),slS⟩) (cS:PySem.W.codeIn K cdS "still" = true) (kS:PySem.W.keepIn K (.ref fS)=true)
  (aBT:PySem.W.nsIn K mainGlobals "turn_behind" = some (some (.ref fBT))) (lBT:K.lookup fBT=some ⟨ocBT,odBT,.func (PySem.W.fnOf "turn_behind" "turn_behind" (Zn Ym) (Zl Ym) (Ze Ym) .none kVBT dcBT pmBT anBT cdBT ctBT),slBT⟩) (cBT:PySem.W.codeIn K cdBT "turn_behind" = true) (kBT:PySem.W.keepIn K (.ref fBT)=true)
  (aBE:PySem.W.nsIn K mainGlobals "behind" = some (some (.ref fBE))) (lBE:K.lookup fBE=some ⟨ocBE,odBE,.func (PySem.W.fnOf "behind" "behind" (Zn JF) (Zl JF) (Ze JF) .none kVBE dcBE pmBE anBE cdBE ctBE),slBE⟩) (cBE:PySem.W.codeIn K cdBE "behind" = true) (kBE:PySem.W.keepIn K (.ref fBE)=true)
  (aTU:PySem.W.nsIn K mainGlobals "turn_undone" = some (some (.ref fTU))) (lTU:K.lookup fTU=some ⟨ocTU,odTU,.func (PySem.W.fnOf "turn_undone" "turn_undone" (Zn ZP) (Zl ZP) (Ze ZP) .none kVTU dcTU pmTU anTU cdTU ctTU),slTU⟩) (cTU:PySem.W.codeIn K cdTU "turn_undone" = true) (kTU:PySem.W.keepIn K (.ref fTU)=true)
  (aU:PySem.W.nsIn K mainGlobals "undone" = some (some (.ref fU))) (lU:K.lookup fU=some ⟨ocU,odU,.func (PySem.W.fnOf "undone" "undone" (Zn Y9) (Zl Y9) (Ze Y9) .none kVU dcU pmU anU cdU ctU),slU⟩) (cU:PySem.W.codeIn K cdU "undone" = true) (kU:PySem.W.keepIn K (.ref fU)=true)
  (aY:PySem.W.nsIn K mainGlobals "entry_renamed" = some (some (.ref fY))) (lY:K.lookup fY=some ⟨ocY,odY,.func (PySem.W.fnOf "entry_renamed" "entry_renamed" (Zn JX) (Zl JX) (Ze JX) .none kVY dcY pmY anY cdY ctY),slY⟩) (cY:PySem.W.codeIn K cdY "entry_renamed" = true) (kY:PySem.W.keepIn K (.ref fY)=true)
  (aM:PySem.W.nsIn K mainGlobals "renamed" = some (some (.ref fM))) (lM:K.lookup fM=some ⟨ocM,odM,.func (PySem.W.fnOf "renamed" "renamed" (Zn Jd) (Zl Jd) (Ze Jd) .none kVM dcM pmM anM cdM ctM),slM⟩) (cM:PySem.W.codeIn K cdM "renamed" = true) (kM:PySem.W.keepIn K (.ref fM)=true)
  (aRF:PySem.W.nsIn K mainGlobals "ring_from" = some (some (.ref fRF))) (lRF:K.lookup fRF=some ⟨ocRF,odRF,.func (PySem.W.fnOf "ring_from" "ring_from" (Zn Yz) (Zl Yz) (Ze Yz) .none kVRF dcRF pmRF anRF cdRF ctRF),slRF⟩) (cRF:PySem.W.codeIn K cdRF "ring_from" = true) (kRF:PySem.W.keepIn K (.ref fRF)=true)
  (aRG:PySem.W.nsIn K mainGlobals "rings" = some (some (.ref fRG))) (lRG:K.lookup fRG=some ⟨ocRG,odRG,.func (PySem.W.fnOf "rings" "rings" (Zn JD) (Zl JD) (Ze JD) .none kVRG dcRG pmRG anRG cdRG ctRG),slRG⟩) (cRG:PySem.W.codeIn K cdRG "rings" = true) (kRG:PySem.W.keepIn K (.ref fRG)=true)
  (aLE:PySem.W.nsIn K mainGlobals "lengths_of" = some (some (.ref fLE))) (lLE:K.lookup fLE=some ⟨ocLE,odLE,.func (PySem.W.fnOf "lengths_of" "lengths_of" (Zn Je) (Zl Je) (Ze Je) .none kVLE dcLE pmLE anLE cdLE ctLE),slLE⟩) (cLE:PySem.W.codeIn K cdLE "lengths_of" = true) (kLE:PySem.W.keepIn K (.ref fLE)=true)
  (aWA:PySem.W.nsIn K mainGlobals "walks" = some (some (.ref fWA))) (lWA:K.lookup fWA=some ⟨ocWA,odWA,.func (PySem.W.fnOf "walks" "walks" (Zn Zae) (Zl Zae) (Ze Zae) .none kVWA dcWA pmWA anWA cdWA ctWA),slWA⟩) (cWA:PySem.W.codeIn K cdWA "walks" = true) (kWA:PySem.W.keepIn K (.ref fWA)=true)
  (aTW:PySem.W.nsIn K mainGlobals "two_rows" = some (some (.ref fTW))) (lTW:K.lookup fTW=some ⟨ocTW,odTW,.func (PySem.W.fnOf "two_rows" "two_rows" (Zn Jc) (Zl Jc) (Ze Jc) .none kVTW dcTW pmTW anTW cdTW ctTW),slTW⟩) (cTW:PySem.W.codeIn K cdTW "two_rows" = true) (kTW:PySem.W.keepIn K (.ref fTW)=true)
  (aAL:PySem.W.nsIn K mainGlobals "renaming_along" = some (some (.ref fAL))) (lAL:K.lookup fAL=some ⟨ocAL,odAL,.func (PySem.W.fnOf "renaming_along" "renaming_along" (Zn JG) (Zl JG) (Ze JG) .none kVAL dcAL pmAL anAL cdAL ctAL),slAL⟩) (cAL:PySem.W.codeIn K cdAL "renaming_along" = true) (kAL:PySem.W.keepIn K (.ref fAL)=true)
  (aHO:PySem.W.nsIn K mainGlobals "hopeful" = some (some (.ref fHO))) (lHO:K.lookup fHO=some ⟨ocHO,odHO,.func (PySem.W.fnOf "hopeful" "hopeful" (Zn YE) (Zl YE) (Ze YE) .none kVHO dcHO pmHO anHO cdHO ctHO),slHO⟩) (cHO:PySem.W.codeIn K cdHO "hopeful" = true) (kHO:PySem.W.keepIn K (.ref fHO)=true)
  (aLD:PySem.W.nsIn K mainGlobals "leading" = some (some (.ref fLD))) (lLD:K.lookup fLD=some ⟨ocLD,odLD,.func (PySem.W.fnOf "leading" "leading" (Zn YD) (Zl YD) (Ze YD) .none kVLD dcLD pmLD anLD cdLD ctLD),slLD⟩) (cLD:PySem.W.codeIn K cdLD "leading" = true) (kLD:PySem.W.keepIn K (.ref fLD)=true)
  (aOW:PySem.W.nsIn K mainGlobals "own" = some (some (.ref fOW))) (lOW:K.lookup fOW=some ⟨ocOW,odOW,.func (PySem.W.fnOf "own" "own" (Zn ZdR) (Zl ZdR) (Ze ZdR) .none kVOW dcOW pmOW anOW cdOW ctOW),slOW⟩) (cOW:PySem.W.codeIn K cdOW "own" = true) (kOW:PySem.W.keepIn K (.ref fOW)=true)
  (aC:PySem.W.nsIn K mainGlobals "_law_cell_at" = some (some (.ref fC))) (lC:K.lookup fC=some ⟨ocC,odC,.func (PySem.W.fnOf "_law_cell_at" "_law_cell_at" (Zn Zah) (Zl Zah) (Ze Zah) .none kVC dcC pmC anC cdC ctC),slC⟩) (cC:PySem.W.codeIn K cdC "_law_cell_at" = true) (kC:PySem.W.keepIn K (.ref fC)=true)
  (aN:PySem.W.nsIn K mainGlobals "_law_number" = some (some (.ref fN))) (lN:K.lookup fN=some ⟨ocN,odN,.func (PySem.W.fnOf "_law_number" "_law_number" (Zn Jm) (Zl Jm) (Ze Jm) .none kVN dcN pmN anN cdN ctN),slN⟩) (cN:PySem.W.codeIn K cdN "_law_number" = true) (kN:PySem.W.keepIn K (.ref fN)=true)
  (aT:PySem.W.nsIn K mainGlobals "_law_turn" = some (some (.ref fT))) (lT:K.lookup fT=some ⟨ocT,odT,.func (PySem.W.fnOf "_law_turn" "_law_turn" (Zn ZaF) (Zl ZaF) (Ze ZaF) .none kVT dcT pmT anT cdT ctT),slT⟩) (cT:PySem.W.codeIn K cdT "_law_turn" = true) (kT:PySem.W.keepIn K (.ref fT)=true)
  (aR:PySem.W.nsIn K mainGlobals "_law_renaming" = some (some (.ref fR))) (lR:K.lookup fR=some ⟨ocR,odR,.func (PySem.W.fnOf "_law_renaming" "_law_renaming" (Zn YK) (Zl YK) (Ze YK) .none kVR dcR pmR anR cdR ctR),slR⟩) (cR:PySem.W.codeIn K cdR "_law_renaming" = true) (kR:PySem.W.keepIn K (.ref fR)=true)
  (aL:PySem.W.nsIn K mainGlobals "_law_renamed" = some (some (.ref fL))) (lL:K.lookup fL=some ⟨ocL,odL,.func (PySem.W.fnOf "_law_renamed" "_law_renamed" (Zn Zbw) (Zl Zbw) (Ze Zbw) .none kVL dcL pmL anL cdL ctL),slL⟩) (cL:PySem.W.codeIn K cdL "_law_renamed" = true) (kL:PySem.W.keepIn K (.ref fL)=true)
  (aB:PySem.W.nsIn K mainGlobals "_law_base" = some (some (.ref fB))) (lB:K.lookup fB=some ⟨ocB,odB,.func (PySem.W.fnOf "_law_base" "_law_base" (Zn ZaQ) (Zl ZaQ) (Ze ZaQ) .none kVB dcB pmB anB cdB ctB),slB⟩) (cB:PySem.W.codeIn K cdB "_law_base" = true) (kB:PySem.W.keepIn K (.ref fB)=true)
  (aA:PySem.W.nsIn K mainGlobals "_law_along" = some (some (.ref fA))) (lA:K.lookup fA=some ⟨ocA,odA,.func (PySem.W.fnOf "_law_along" "_law_along" (Zn JY) (Zl JY) (Ze JY) .none kVA dcA pmA anA cdA ctA),slA⟩) (cA:PySem.W.codeIn K cdA "_law_along" = true) (kA:PySem.W.keepIn K (.ref fA)=true)
  (aV:PySem.W.nsIn K mainGlobals "_law_row" = some (some (.ref fV))) (lV:K.lookup fV=some ⟨ocV,odV,.func (PySem.W.fnOf "_law_row" "_law_row" (Zn ZdQ) (Zl ZdQ) (Ze ZdQ) .none kVV dcV pmV anV cdV ctV),slV⟩) (cV:PySem.W.codeIn K cdV "_law_row" = true) (kV:PySem.W.keepIn K (.ref fV)=true)
  (aX:PySem.W.nsIn K mainGlobals "_law_by_rows" = some (some (.ref fX))) (lX:K.lookup fX=some ⟨ocX,odX,.func (PySem.W.fnOf "_law_by_rows" "_law_by_rows" (Zn JE) (Zl JE) (Ze JE) .none kVX dcX pmX anX cdX ctX),slX⟩) (cX:PySem.W.codeIn K cdX "_law_by_rows" = true) (kX:PySem.W.keepIn K (.ref fX)=true)
  (aG:PySem.W.nsIn K mainGlobals "_law_by_rings" = some (some (.ref fG))) (lG:K.lookup fG=some ⟨ocG,odG,.func (PySem.W.fnOf "_law_by_rings" "_law_by_rings" (Zn Jf) (Zl Jf) (Ze Jf) .none kVG dcG pmG anG cdG ctG),slG⟩) (cG:PySem.W.codeIn K cdG "_law_by_rings" = true) (kG:PySem.W.keepIn K (.ref fG)=true)
  (aQ:PySem.W.nsIn K mainGlobals "_law_square" = some (some (.ref fQ))) (lQ:K.lookup fQ=some ⟨ocQ,odQ,.func (PySem.W.fnOf "_law_square" "_law_square" (Zn JC) (Zl JC) (Ze JC) .none kVQ dcQ pmQ anQ cdQ ctQ),slQ⟩) (cQ:PySem.W.codeIn K cdQ "_law_square" = true) (kQ:PySem.W.keepIn K (.ref fQ)=true)
  (aTN:PySem.W.nsIn K mainGlobals "_law_turns" = some (some (.ref fTN))) (lTN:K.lookup fTN=some ⟨ocTN,odTN,.func (PySem.W.fnOf "_law_turns" "_law_turns" (Zn Zaf) (Zl Zaf) (Ze Zaf) .none kVTN dcTN pmTN anTN cdTN ctTN),slTN⟩) (cTN:PySem.W.codeIn K cdTN "_law_turns" = true) (kTN:PySem.W.keepIn K (.ref fTN)=true)
  (aTH:PySem.W.nsIn K mainGlobals "_law_things" = some (some (.ref fTH))) (lTH:K.lookup fTH=some ⟨ocTH,odTH,.func (PySem.W.fnOf "_law_things" "_law_things" (Zn JB) (Zl JB) (Ze JB) .none kVTH dcTH pmTH anTH cdTH ctTH),slTH⟩) (cTH:PySem.W.codeIn K cdTH "_law_things" = true) (kTH:PySem.W.keepIn K (.ref fTH)=true)
  (aLaw:PySem.W.nsIn K mainGlobals "law" = some (some (.ref fLaw))) (lLaw:K.lookup fLaw=some ⟨ocLaw,odLaw,.func (PySem.W.fnOf "law" "law" (Zn ZbX) (Zl ZbX) (Ze ZbX) .none kVLaw dcLaw pmLaw anLaw cdLaw ctLaw),slLaw⟩) (cLaw:PySem.W.codeIn K cdLaw "law" = true) (kLaw:PySem.W.keepIn K (.ref fLaw)=true)
  (z0:PySem.W.nsIn K mainGlobals "len" = some none)
  (z1:PySem.W.nsIn K mainGlobals "range" = some none)
  (z2:PySem.W.nsIn K mainGlobals "tuple" = some none)
  (z3:PySem.W.nsIn K mainGlobals "list" = some none)
  (z4:PySem.W.nsIn K mainGlobals "isinstance" = some none)
  (z5:PySem.W.nsIn K mainGlobals "int" = some none)
  (z6:PySem.W.nsIn K mainGlobals "bool" = some none)
  (z7:PySem.W.nsIn K mainGlobals "zip" = some none)
  (z8:PySem.W.nsIn K mainGlobals "max" = some none)
  (z9:PySem.W.nsIn K mainGlobals "sorted" = some none)
  (z10:PySem.W.nsIn K mainGlobals "enumerate" = some none)
  (z11:PySem.W.nsIn K mainGlobals "min" = some none) :
  ∃ fd:FuncData,(∀ (s:Shared) (v:Value),BindsTo s fd ⟨[v],[]⟩ [("_law_script",v)])/\∀ base:Heap,K.In base->base.Ns mainGlobals mg->FnOk l.prog w K mg base CX0 12 fa fd ["_law_script"] (Zgy K):=by
 have e:=hfa.symm.trans (PySem.W.mg_of X G aLaw)
 cases e
 have T:Blt mg:=⟨PySem.W.mg_none_of X G z0,PySem.W.mg_none_of X G z1,PySem.W.mg_none_of X G z2,PySem.W.mg_none_of X G z3,PySem.W.mg_none_of X G z4,PySem.W.mg_none_of X G z5,PySem.W.mg_none_of X G z6,PySem.W.mg_none_of X G z7,PySem.W.mg_none_of X G z8,PySem.W.mg_none_of X G z9,PySem.W.mg_none_of X G z10,PySem.W.mg_none_of X G z11⟩
 have FS:=ZK (st:=Zag) lS cS kS
 have FBT:=ZK (st:=Ym) lBT cBT kBT
 have FBE:=ZK (st:=JF) lBE cBE kBE
 have FTU:=ZK (st:=ZP) lTU cTU kTU
 have FU:=ZK (st:=Y9) lU cU kU
 have FY:=ZK (st:=JX) lY cY kY
 have FM:=ZK (st:=Jd) lM cM kM
 have FRF:=ZK (st:=Yz) lRF cRF kRF
 have FRG:=ZK (st:=JD) lRG cRG kRG
 have FLE:=ZK (st:=Je) lLE cLE kLE
 have FWA:=ZK (st:=Zae) lWA cWA kWA
 have FTW:=ZK (st:=Jc) lTW cTW kTW
 have FAL:=ZK (st:=JG) lAL cAL kAL
 have FHO:=ZK (st:=YE) lHO cHO kHO
 have FLD:=ZK (st:=YD) lLD cLD kLD
 have FOW:=ZK (st:=ZdR) lOW cOW kOW
 have FC:=ZK (st:=Zah) lC cC kC
 have FN:=ZK (st:=Jm) lN cN kN
 have FT:=ZK (st:=ZaF) lT cT kT
 have FR:=ZK (st:=YK) lR cR kR
 have FL:=ZK (st:=Zbw) lL cL kL
 have FB:=ZK (st:=ZaQ) lB cB kB
 have FA:=ZK (st:=JY) lA cA kA
 have FV:=ZK (st:=ZdQ) lV cV kV
 have FX:=ZK (st:=JE) lX cX kX
 have FG:=ZK (st:=Jf) lG cG kG
 have FQ:=ZK (st:=JC) lQ cQ kQ
 have FTN:=ZK (st:=Zaf) lTN cTN kTN
 have FTH:=ZK (st:=JB) lTH cTH kTH
 have FLaw:=ZK (st:=ZbX) lLaw cLaw kLaw
 have DS:Dfn K mg "still" Zag ["n"] fS _:=⟨FS,ZcR (ps:=["n"]) rfl FS fun _ _ _ _ _ _ _=>rfl,PySem.W.mg_of X G aS⟩
 have DBT:Dfn K mg "turn_behind" Ym ["one","other"] fBT _:=⟨FBT,ZcB (ps:=["one","other"]) rfl FBT fun _ _ _ _ _ _ _ _=>rfl,PySem.W.mg_of X G aBT⟩
 have DBE:Dfn K mg "behind" JF ["one","other"] fBE _:=⟨FBE,ZcB (ps:=["one","other"]) rfl FBE fun _ _ _ _ _ _ _ _=>rfl,PySem.W.mg_of X G aBE⟩
 have DTU:Dfn K mg "turn_undone" ZP ["turn"] fTU _:=⟨FTU,ZcR (ps:=["turn"]) rfl FTU fun _ _ _ _ _ _ _=>rfl,PySem.W.mg_of X G aTU⟩
 have DU:Dfn K mg "undone" Y9 ["renaming"] fU _:=⟨FU,ZcR (ps:=["renaming"]) rfl FU fun _ _ _ _ _ _ _=>rfl,PySem.W.mg_of X G aU⟩
 have DY:Dfn K mg "entry_renamed" JX ["entry","things"] fY _:=⟨FY,ZcB (ps:=["entry","things"]) rfl FY fun _ _ _ _ _ _ _ _=>rfl,PySem.W.mg_of X G aY⟩
 have DM:Dfn K mg "renamed" Jd ["begun","renaming"] fM _:=⟨FM,ZcB (ps:=["begun","renaming"]) rfl FM fun _ _ _ _ _ _ _ _=>rfl,PySem.W.mg_of X G aM⟩
 have DRF:Dfn K mg "ring_from" Yz ["square","one","other","column"] fRF _:=⟨FRF,ZlJ (ps:=["square","one","other","column"]) rfl FRF fun _ _ _ _ _ _ _ _ _ _=>rfl,PySem.W.mg_of X G aRF⟩
 have DRG:Dfn K mg "rings" JD ["square","one","other"] fRG _:=⟨FRG,ZhG (ps:=["square","one","other"]) rfl FRG fun _ _ _ _ _ _ _ _ _=>rfl,PySem.W.mg_of X G aRG⟩
 have DLE:Dfn K mg "lengths_of" Je ["circles"] fLE _:=⟨FLE,ZcR (ps:=["circles"]) rfl FLE fun _ _ _ _ _ _ _=>rfl,PySem.W.mg_of X G aLE⟩
 have DWA:Dfn K mg "walks" Zae ["circles"] fWA _:=⟨FWA,ZcR (ps:=["circles"]) rfl FWA fun _ _ _ _ _ _ _=>rfl,PySem.W.mg_of X G aWA⟩
 have DTW:Dfn K mg "two_rows" Jc ["size"] fTW _:=⟨FTW,ZcR (ps:=["size"]) rfl FTW fun _ _ _ _ _ _ _=>rfl,PySem.W.mg_of X G aTW⟩
 have DAL:Dfn K mg "renaming_along" JG ["square","top","walk"] fAL _:=⟨FAL,ZhG (ps:=["square","top","walk"]) rfl FAL fun _ _ _ _ _ _ _ _ _=>rfl,PySem.W.mg_of X G aAL⟩
 have DHO:Dfn K mg "hopeful" YE ["square"] fHO _:=⟨FHO,ZcR (ps:=["square"]) rfl FHO fun _ _ _ _ _ _ _=>rfl,PySem.W.mg_of X G aHO⟩
 have DLD:Dfn K mg "leading" YD ["square"] fLD _:=⟨FLD,ZcR (ps:=["square"]) rfl FLD fun _ _ _ _ _ _ _=>rfl,PySem.W.mg_of X G aLD⟩
 have DOW:Dfn K mg "own" ZdR ["square"] fOW _:=⟨FOW,ZcR (ps:=["square"]) rfl FOW fun _ _ _ _ _ _ _=>rfl,PySem.W.mg_of X G aOW⟩
 have DC:Dfn K mg "_law_cell_at" Zah ["_law_script","_law_k"] fC _:=⟨FC,ZcB (ps:=["_law_script","_law_k"]) rfl FC fun _ _ _ _ _ _ _ _=>rfl,PySem.W.mg_of X G aC⟩
 have DN:Dfn K mg "_law_number" Jm ["_law_script","_law_k"] fN _:=⟨FN,ZcB (ps:=["_law_script","_law_k"]) rfl FN fun _ _ _ _ _ _ _ _=>rfl,PySem.W.mg_of X G aN⟩
 have DT:Dfn K mg "_law_turn" ZaF ["_law_n","_law_number_here"] fT _:=⟨FT,ZcB (ps:=["_law_n","_law_number_here"]) rfl FT fun _ _ _ _ _ _ _ _=>rfl,PySem.W.mg_of X G aT⟩
 have DR:Dfn K mg "_law_renaming" YK ["_law_script","_law_k","_law_n"] fR _:=⟨FR,ZhG (ps:=["_law_script","_law_k","_law_n"]) rfl FR fun _ _ _ _ _ _ _ _ _=>rfl,PySem.W.mg_of X G aR⟩
 have DL:Dfn K mg "_law_renamed" Zbw ["_law_begun","_law_renaming_here"] fL _:=⟨FL,ZcB (ps:=["_law_begun","_law_renaming_here"]) rfl FL fun _ _ _ _ _ _ _ _=>rfl,PySem.W.mg_of X G aL⟩
 have DB:Dfn K mg "_law_base" ZaQ ["_law_n","_law_number_here"] fB _:=⟨FB,ZcB (ps:=["_law_n","_law_number_here"]) rfl FB fun _ _ _ _ _ _ _ _=>rfl,PySem.W.mg_of X G aB⟩
 have DA:Dfn K mg "_law_along" JY ["_law_rows","_law_one","_law_other","_law_column"] fA _:=⟨FA,ZlJ (ps:=["_law_rows","_law_one","_law_other","_law_column"]) rfl FA fun _ _ _ _ _ _ _ _ _ _=>rfl,PySem.W.mg_of X G aA⟩
 have DV:Dfn K mg "_law_row" ZdQ ["_law_rows","_law_made","_law_digits"] fV _:=⟨FV,ZhG (ps:=["_law_rows","_law_made","_law_digits"]) rfl FV fun _ _ _ _ _ _ _ _ _=>rfl,PySem.W.mg_of X G aV⟩
 have DX:Dfn K mg "_law_by_rows" JE ["_law_n","_law_number_here"] fX _:=⟨FX,ZcB (ps:=["_law_n","_law_number_here"]) rfl FX fun _ _ _ _ _ _ _ _=>rfl,PySem.W.mg_of X G aX⟩
 have DG:Dfn K mg "_law_by_rings" Jf ["_law_n","_law_number_here"] fG _:=⟨FG,ZcB (ps:=["_law_n","_law_number_here"]) rfl FG fun _ _ _ _ _ _ _ _=>rfl,PySem.W.mg_of X G aG⟩
 have DQ:Dfn K mg "_law_square" JC ["_law_script","_law_k","_law_n"] fQ _:=⟨FQ,ZhG (ps:=["_law_script","_law_k","_law_n"]) rfl FQ fun _ _ _ _ _ _ _ _ _=>rfl,PySem.W.mg_of X G aQ⟩
 have DTN:Dfn K mg "_law_turns" Zaf ["_law_n"] fTN _:=⟨FTN,ZcR (ps:=["_law_n"]) rfl FTN fun _ _ _ _ _ _ _=>rfl,PySem.W.mg_of X G aTN⟩
 have DTH:Dfn K mg "_law_things" JB ["_law_square_here","_law_rows","_law_columns"] fTH _:=⟨FTH,ZhG (ps:=["_law_square_here","_law_rows","_law_columns"]) rfl FTH fun _ _ _ _ _ _ _ _ _=>rfl,PySem.W.mg_of X G aTH⟩
 exact ⟨PySem.W.fnOf "law" "law" (Zn ZbX) (Zl ZbX) (Ze ZbX) .none kVLaw dcLaw pmLaw anLaw cdLaw ctLaw,fun s v=>.of_eq rfl,fun base _ _=>ZkI FLaw (Defs.mk T DC DQ DTN DTH DOW (Zhq FQ T (SqD.mk DC DN DT DR DL DB DA DV DX DG)) ((ZkH FOW T DLD DU DBE (Zjo FLD T (HpD.mk DS DTU DRF DRG DLE DWA DTW DAL) DHO DM DU DY) ((Zc4 FU T DTU).mono (by decide)) ((Zht FBE T DBT).mono (by decide))).mono (by decide)))⟩
theorem walk {l:PySem.W.OpenLaw} {q:Program} {loose:List Str} {XP:(Str->Option Value)->Heap->Prop} {YP:World->Heap->Prop} {d:DefRec} {K:Params->PySem.W.Frag} (hn:l.most=some 63) (hdf:d.params.defaults=[])
  (hY:∀ (w:World) (h:Heap),YP w h->(K w.params).In h)
  (F:∀ (w:World) (mg:Str->Option Value) (fa:Addr) (h:Heap),(K w.params).In h->h.Ns mainGlobals mg->mg d.name=some (.ref fa) ->
   ∃ fd:FuncData,(∀ (s:Shared) (u:Value),BindsTo s fd ⟨[u],[]⟩ [("_law_script",u)])/\∀ base:Heap,(K w.params).In base->base.Ns mainGlobals mg->FnOk l.prog w (K w.params) mg base CX0 12 fa fd ["_law_script"] (Zgy (K w.params))) :
  PySem.W.WalkO q loose XP YP l.row.toRowW d [] (fun f vs=>PySem.call f vs) :=
 L2.walk_of (n:=63) (k:=12) (x:="_law_script") (CX:=fun _=>CX0) (sp:=fun w=>Zgy (K w.params)) hn (by decide) hdf ⟨rfl,by decide,by decide⟩ hY F (fun _ _ a ns hl _ hS=>⟨a,ns,rfl,hS,hl,fun _=>rfl⟩) fun _ _ _ _ _ z=>z
end My
open PySem PySem.W PyProof.Rows
set_option maxRecDepth 100000 in
set_option maxHeartbeats 0 in
theorem PySem.Challenge.cw_latinclose_k55_all_own_renamings_holds : PySem.Challenge.rw_latinclose_k55_all_own_renamings.Holds := by
 w_on; o_law; k_head; (case hw=>w_witness2)
 k_fill
 refine My.walk (l:=PySem.Challenge.rw_latinclose_k55_all_own_renamings) rfl rfl (fun w h Y=>PySem.W.kIn_of Y) ?F
 case F =>
  intro w mg fa h KX G hmg
  refine' My.all_mk KX G hmg ?aS ?lS ?cS ?kS ?aBT ?lBT ?cBT ?kBT ?aBE ?lBE ?cBE ?kBE ?aTU ?lTU ?cTU ?kTU ?aU ?lU ?cU ?kU ?aY ?lY ?cY ?kY ?aM ?lM ?cM ?kM ?aRF ?lRF ?cRF ?kRF ?aRG ?lRG ?cRG ?kRG ?aLE ?lLE ?cLE ?kLE ?aWA ?lWA ?cWA ?kWA ?aTW ?lTW ?cTW ?kTW ?aAL ?lAL ?cAL ?kAL ?aHO ?lHO ?cHO ?kHO ?aLD ?lLD ?cLD ?kLD ?aOW ?lOW ?cOW ?kOW ?aC ?lC ?cC ?kC ?aN ?lN ?cN ?kN ?aT ?lT ?cT ?kT ?aR ?lR ?cR ?kR ?aL ?lL ?cL ?kL ?aB ?lB ?cB ?kB ?aA ?lA ?cA ?kA ?aV ?lV ?cV ?kV ?aX ?lX ?cX ?kX ?aG ?lG ?cG ?kG ?aQ ?lQ ?cQ ?kQ ?aTN ?lTN ?cTN ?kTN ?aTH ?lTH ?cTH ?kTH ?aLaw ?lLaw ?cLaw ?kLaw ?z0 ?z1 ?z2 ?z3 ?z4 ?z5 ?z6 ?z7 ?z8 ?z9 ?z10 ?z11
  (case aS=>k_is)
  (case lS=>k_is)
  (case cS=>k_is)
  (case kS=>k_is)
  (case aBT=>k_is)
  (case lBT=>k_is)
  (case cBT=>k_is)
  (case kBT=>k_is)
  (case aBE=>k_is)
  (case lBE=>k_is)
  (case cBE=>k_is)
  (case kBE=>k_is)
  (case aTU=>k_is)
  (case lTU=>k_is)
  (case cTU=>k_is)
  (case kTU=>k_is)
  (case aU=>k_is)
  (case lU=>k_is)
  (case cU=>k_is)
  (case kU=>k_is)
  (case aY=>k_is)
  (case lY=>k_is)
  (case cY=>k_is)
  (case kY=>k_is)
  (case aM=>k_is)
  (case lM=>k_is)
  (case cM=>k_is)
  (case kM=>k_is)
  (case aRF=>k_is)
  (case lRF=>k_is)
  (case cRF=>k_is)
  (case kRF=>k_is)
  (case aRG=>k_is)
  (case lRG=>k_is)
  (case cRG=>k_is)
  (case kRG=>k_is)
  (case aLE=>k_is)
  (case lLE=>k_is)
  (case cLE=>k_is)
  (case kLE=>k_is)
  (case aWA=>k_is)
  (case lWA=>k_is)
  (case cWA=>k_is)
  (case kWA=>k_is)
  (case aTW=>k_is)
  (case lTW=>k_is)
  (case cTW=>k_is)
  (case kTW=>k_is)
  (case aAL=>k_is)
  (case lAL=>k_is)
  (case cAL=>k_is)
  (case kAL=>k_is)
  (case aHO=>k_is)
  (case lHO=>k_is)
  (case cHO=>k_is)
  (case kHO=>k_is)
  (case aLD=>k_is)
  (case lLD=>k_is)
  (case cLD=>k_is)
  (case kLD=>k_is)
  (case aOW=>k_is)
  (case lOW=>k_is)
  (case cOW=>k_is)
  (case kOW=>k_is)
  (case aC=>k_is)
  (case lC=>k_is)
  (case cC=>k_is)
  (case kC=>k_is)
  (case aN=>k_is)
  (case lN=>k_is)
  (case cN=>k_is)
  (case kN=>k_is)
  (case aT=>k_is)
  (case lT=>k_is)
  (case cT=>k_is)
  (case kT=>k_is)
  (case aR=>k_is)
  (case lR=>k_is)
  (case cR=>k_is)
  (case kR=>k_is)
  (case aL=>k_is)
  (case lL=>k_is)
  (case cL=>k_is)
  (case kL=>k_is)
  (case aB=>k_is)
  (case lB=>k_is)
  (case cB=>k_is)
  (case kB=>k_is)
  (case aA=>k_is)
  (case lA=>k_is)
  (case cA=>k_is)
  (case kA=>k_is)
  (case aV=>k_is)
  (case lV=>k_is)
  (case cV=>k_is)
  (case kV=>k_is)
  (case aX=>k_is)
  (case lX=>k_is)
  (case cX=>k_is)
  (case kX=>k_is)
  (case aG=>k_is)
  (case lG=>k_is)
  (case cG=>k_is)
  (case kG=>k_is)
  (case aQ=>k_is)
  (case lQ=>k_is)
  (case cQ=>k_is)
  (case kQ=>k_is)
  (case aTN=>k_is)
  (case lTN=>k_is)
  (case cTN=>k_is)
  (case kTN=>k_is)
  (case aTH=>k_is)
  (case lTH=>k_is)
  (case cTH=>k_is)
  (case kTH=>k_is)
  (case aLaw=>k_is)
  (case lLaw=>k_is)
  (case cLaw=>k_is)
  (case kLaw=>k_is)
  (case z0=>k_is)
  (case z1=>k_is)
  (case z2=>k_is)
  (case z3=>k_is)
  (case z4=>k_is)
  (case z5=>k_is)
  (case z6=>k_is)
  (case z7=>k_is)
  (case z8=>k_is)
  (case z9=>k_is)
  (case z10=>k_is)
  (case z11=>k_is)
