import PyProof.Rows.All
import Wide.All
import OpenK.AllK
import Wide.FinOn
import Lean
import PyProof.EqAt
import PyProof.EqKinds
import PyProof.TupleCall
import PyProof.ZipIter
import PyProof.ExcInit
import PyProof.InstStoreFacts
import PyProof.ExcArgsOwn
import PyProof.ExcAttrAll.ValueError
import PyProof.Draws
import PyProof.EnumMake
import PyProof.Rows.SumAny
import PyProof.Rows.EnumRows
import PyProof.SeqI3
import PyProof.ListRange
import KE.KUnpack
import KE.KIntText
import KE.KxWritten
import PyProof.Rows.StrWeight2
import KE.KxText
import PyProof.CallType
import PyProof.Rows.CallKwBuiltin
import PySem.Challenge.RW_slanttables_k52_whole_signs
set_option compiler.extract_closed false
set_option Elab.async false
set_option linter.all false
set_option maxRecDepth 100000
def sf:=@Int.mul_comm
def wd:=@Int.mul_zero
def bX:=@PySem.Heap.lt_size
def cv:=@Nat.lt_of_lt_of_le
def f9:=@Nat.lt_irrefl
def y9:=@Array.append_assoc
def eJ:=@Nat.ne_of_lt
def wg:=@Nat.lt_trans
def Yai:=@List.mem_filter
def Yaj:=@List.mem_range
def gb:=@Nat.le_trans
def jC:=@Nat.le_of_lt
def wj:=@List.filterMap_cons
def jL:=@List.mem_cons_self
def fG:=@List.mem_cons_of_mem
def wk:=@PySem.Heap.get?_none_of_le
def Yaq:=@List.mem_cons
def Yar:=@List.mem_append
def Yas:=@List.getElem?_eq_some_iff
def d9:=@List.getElem?_set_self
def dD:=@List.getElem?_set_ne
def za:=@Array.length_toList
def bZ:=@PySem.Heap.get?_push_of_some
def l4:=@Bool.false_ne_true
def wm:=@Nat.ne_of_gt
def eV:=@PySem.Heap.get?_push_size
def bb:=@Nat.le_refl
def YaB:=@List.mem_filterMap
def ge:=@List.mem_append_right
def dL:=@List.size_toArray
def kz:=@PySem.Heap.size_push
def zd:=@Nat.lt_succ_self
def jD:=@Nat.zero_le
def p8:=@List.append_nil
def YaI:=@List.nodup_cons
def wn:=@List.of_mem_zip
def jf:=@List.length_take
def lT:=@List.getElem?_append_right
def nN:=@List.getElem?_replicate
def l5:=@List.getElem?_append_left
def cc:=@List.getElem?_map
def jE:=@List.mem_of_getElem?
def dj:=@List.length_append
def aW:=@List.length_map
def p9:=@List.length_replicate
def eK:=@Int.toNat_natCast
def jM:=@List.length_drop
def cQ:=@Bool.and_eq_true
def sZ:=@PySem.Heap.get?_update_self
def qa:=@PySem.Heap.get?_update_other
def dI:=@List.length_set
def wq:=@List.all_cons
def wu:=@List.any_cons
def sh:=@List.reverse_cons
def dJ:=@List.replicate_succ
def oY:=@List.flatten_cons
def nu:=@List.append_assoc
def kS:=@List.length_singleton
def nw:=@Nat.succ_mul
def td:=@Nat.add_comm
def c9:=@List.nil_append
def dM:=@List.map_nil
def bL:=@List.map_cons
def ze:=@Nat.le_of_not_lt
def lU:=@List.lookup_cons
def qb:=@Bool.not_eq_true'
def zg:=@List.forIn_cons
def da:=@Bool.false_eq_true
def tj:=@Option.map_some
def Ybh:=@List.all_eq_true
def zj:=@Bool.or_eq_true
def zk:=@Nat.le_of_succ_le
def gg:=@Nat.lt_or_ge
def aM:=@List.getD_eq_getElem?_getD
def Ybm:=@List.mem_iff_getElem
def bG:=@List.getElem?_eq_getElem
def dN:=@List.getElem?_eq_none
def si:=@List.ext_getElem?
def jg:=@List.getElem?_range
def qc:=@List.length_reverse
def gh:=@List.not_mem_nil
def jN:=@Bool.eq_iff_iff
def qd:=@List.getElem_mem
def qe:=@List.drop_zero
def qf:=@List.drop_eq_getElem_cons
def ww:=@List.drop_of_length_le
def Yby:=@Array.getElem?_eq_some_iff
def sj:=@List.contains_cons
def zm:=@PySem.Heap.get?_push_at
def cO:=@List.length_cons
def eW:=@List.length_nil
def qg:=@List.length_zipWith
def l6:=@Nat.pow_le_pow_right
def zn:=@Int.mul_ediv_cancel_left
def dE:=@Int.natAbs_mul
def l7:=@Int.natAbs_natCast
def jO:=@Nat.pow_add
def wx:=@Nat.pow_pos
def ny:=@Nat.mul_le_mul_right
def zp:=@Nat.mul_ne_zero
def tm:=@Nat.pow_succ
def qh:=@Int.natAbs_add_le
def C0:=@Int.sign_eq_neg_one_of_neg
def gj:=@Rat.div_def
def wy:=@Rat.num_intCast
def wz:=@Rat.den_intCast
def tp:=@Nat.one_lt_two_pow
def YbT:=@List.mem_map
def zq:=@Int.gcd_pos_of_ne_zero_right
def wD:=@Int.neg_mul_neg
def wE:=@Int.mul_fdiv_cancel_left
def tw:=@Int.one_mul
def wG:=@Bool.and_true
def cr:=@List.map_map
def gE:=@List.map_congr_left
def tx:=@Rat.num_divInt_den
def dW:=@List.cons_append
def b9:=@List.getElem?_cons_zero
def cF:=@List.getElem?_cons_succ
def dO:=@List.set_cons_zero
def dP:=@List.set_cons_succ
def fH:=@List.replicate_zero
def C2:=@Int.fmod_eq_emod_of_nonneg
def dQ:=@Bool.not_true
def wH:=@Bool.true_and
def kC:=@Nat.lt_of_le_of_lt
def zt:=@Rat.divInt_ofNat
def nO:=@Rat.add_zero
def tz:=@Nat.min_eq_left
def C3:=@Int.fdiv_eq_ediv_of_nonneg
def nA:=@List.map_drop
def l8:=@List.map_take
def kE:=@List.mem_of_mem_drop
def oZ:=@List.mem_of_mem_take
def o1:=@List.map_reverse
def zw:=@Int.fmod_nonneg_of_pos
def jF:=@Nat.mul_le_mul
def Ycn:=@List.mem_singleton
def kT:=@List.map_append
def jc:=@List.length_range
def Ycq:=@List.mem_reverse
def zx:=@List.mem_or_eq_of_mem_set
def ma:=@List.mem_map_of_mem
def dX:=@Rat.mul_zero
def zy:=@List.range_succ_eq_map
def wI:=@List.getElem?_drop
def gF:=@Bool.not_false
def qi:=@Nat.zero_add
def md:=@Int.mul_ne_zero
def tB:=@Rat.divInt_mul_divInt
def o4:=@Nat.mul_lt_mul''
def wJ:=@Int.natAbs_sub_le
def zA:=@Rat.zero_divInt
def zB:=@Rat.divInt_mul_right
def eL:=@Rat.zero_mul
def zC:=@List.getElem_zipWith
def zD:=@List.map_zipWith
def wK:=@Nat.lt_succ_of_lt
def wO:=@List.filter_cons
def nP:=@Rat.mul_one
def qj:=@Rat.mul_inv_cancel
def YcL:=@List.pairwise_append
def YcM:=@List.pairwise_cons
def tD:=@List.getD_cons_zero
def zE:=@List.getD_cons_succ
def wP:=@Rat.intCast_add
def eD:=@Rat.intCast_mul
def o5:=@Rat.mul_comm
def nB:=@Rat.one_mul
def wQ:=@List.filter_map
def YcU:=@Rat.mul_eq_zero
def qk:=@Rat.mul_nonneg
def o6:=@Rat.intCast_sub
def tE:=@Rat.divInt_eq_div
def wS:=@List.filter_congr
section
open PySem PySem.Spec PyProof.Rows PySem.W
def Op:=@wpAny_bind
abbrev Oq:=PySem.W.Frag
def Os:=@wpAny_pure
def Ot:=@absurd
def Ou:=@decide_eq_true_eq
def Ov:=@wpAny_mono
def Ow:=@Option.some.inj
def Ox:=@decide_eq_false
def Oy:=@Ne.symm
def Oz:=@wpAny_field
def OA:=@wpAny_newObj_type
def OB:=@wpAny_standAt
def OC:=@PySem.mem_of_lookup
def OD:=@boot_len
def OE:=@False.elim
def OF:=@wpAny_holding
def OG:=@beq_self_eq_true
def OH:=@wpAny_truthy_bool
def OI:=@wpAny_loadPart_at
def OJ:=@boot_tuple
def OK:=@wpAny_call_entry
def OL:=@wpAny_seqItems
def OM:=@wpAny_setField_rec
def ON:=@wpAny_passesOwn
def OO:=@wpAny_rule
def OP:=@boot_isinstance
def OQ:=@beq_iff_eq
def OR:=@wpAny_Call_Name_kw
def OS:=@wpAny_comprehension_free
def OT:=@wpAny_setField
def OU:=@wpAny_pyIter_enum
def OV:=@wpAny_execs_nil
def OW:=@wpAny_typeOf
def OX:=@wpAny_updateSeq_pair
def OY:=@wpAny_isSubtype_exc
def OZ:=@wpAny_onRaise
end
namespace LP
namespace Dt
abbrev R:=Nat->Int
def m2(a b:R)(p q:Nat):Int:=a p*b q-a q*b p
def m3(a b c:R)(p q r:Nat):Int:=c r*m2 a b p q-c q*m2 a b p r+c p*m2 a b q r
def m4(a b c d:R)(p q r s:Nat):Int:=d s*m3 a b c p q r-d r*m3 a b c p q s+d q*m3 a b c p r s-d p*m3 a b c q r s
def m5(a b c d e:R)(p q r s t:Nat):Int:=e t*m4 a b c d p q r s-e s*m4 a b c d p q r t+e r*m4 a b c d p q s t-e q*m4 a b c d p r s t+e p*m4 a b c d q r s t
section
variable(a b c d e:R)(p q r s t j:Nat)
theorem s0:m2 a b p j*1=b j*a p-b p*a j:=by unfold m2;grind
theorem s1:m3 a b c p q j*a p=m2 a c p j*m2 a b p q-m2 a c p q*m2 a b p j:=by unfold m3 m2;grind
theorem s2:m4 a b c d p q r j*m2 a b p q=m3 a b d p q j*m3 a b c p q r-m3 a b d p q r*m3 a b c p q j:=by unfold m4 m3 m2;grind
theorem pl:m3 a b c p q r*m3 a b c p s j=m3 a b c p q s*m3 a b c p r j-m3 a b c p q j*m3 a b c p r s:=by unfold m3 m2;grind
theorem zF:m3 a b c p q r*m3 a b c q s j=m3 a b c p q s*m3 a b c q r j-m3 a b c p q j*m3 a b c q r s:=by unfold m3 m2;grind
theorem Ht:m3 a b c p q r*m3 a b c r s j=m3 a b c p r s*m3 a b c q r j-m3 a b c p r j*m3 a b c q r s:=by unfold m3 m2;grind
theorem s3:m5 a b c d e p q r s j*m3 a b c p q r=m4 a b c e p q r j*m4 a b c d p q r s-m4 a b c e p q r s*m4 a b c d p q r j:=by
 have h1:=pl a b c p q r s j;have h2:=zF a b c p q r s j;have h3:=Ht a b c p q r s j;unfold m5 m4;generalize m3 a b c p q r=x1 at *;generalize m3 a b c p q s=x2 at *;generalize m3 a b c p q j=x3 at *;generalize m3 a b c p r s=x4 at *;generalize m3 a b c p r j=x5 at *;generalize m3 a b c p s j=x6 at *;generalize m3 a b c q r s=x7 at *;generalize m3 a b c q r j=x8 at *;generalize m3 a b c q s j=x9 at *;generalize m3 a b c r s j=y1 at *;generalize d p=d1;generalize d q=d2;generalize d r=d3;generalize d s=d4;generalize d j=d5;generalize e p=e1;generalize e q=e2;generalize e r=e3;generalize e s=e4;generalize e j=e5;grind
theorem jP:m3 a b c p q r=a p*m2 b c q r-a q*m2 b c p r+a r*m2 b c p q:=by unfold m3 m2;grind
theorem jQ:m3 a b c p q r=b q*m2 a c p r-b p*m2 a c q r-b r*m2 a c p q:=by unfold m3 m2;grind
theorem fK:m4 a b c d p q r s=a p*m3 b c d q r s-a q*m3 b c d p r s+a r*m3 b c d p q s-a s*m3 b c d p q r:=by
 unfold m4;rw[jP a b c,jP a b c,jP a b c,jP a b c];unfold m3;grind
theorem jh:m4 a b c d p q r s=b q*m3 a c d p r s-b p*m3 a c d q r s-b r*m3 a c d p q s+b s*m3 a c d p q r:=by
 unfold m4;rw[jQ a b c,jQ a b c,jQ a b c,jQ a b c];unfold m3;grind
theorem kU:m4 a b c d p q r s=c p*m3 a b d q r s-c q*m3 a b d p r s+c r*m3 a b d p q s-c s*m3 a b d p q r:=by
 unfold m4 m3;grind
theorem jR:m5 a b c d e p q r s t=a p*m4 b c d e q r s t-a q*m4 b c d e p r s t+a r*m4 b c d e p q s t-a s*m4 b c d e p q r t+a t*m4 b c d e p q r s:=by
 unfold m5;rw[fK a b c d,fK a b c d,fK a b c d,fK a b c d,fK a b c d];unfold m4;grind
theorem ql:m5 a b c d e p q r s t=b q*m4 a c d e p r s t-b p*m4 a c d e q r s t-b r*m4 a c d e p q s t+b s*m4 a c d e p q r t-b t*m4 a c d e p q r s:=by
 unfold m5;rw[jh a b c d,jh a b c d,jh a b c d,jh a b c d,jh a b c d];unfold m4;grind
theorem zG:m5 a b c d e p q r s t=c p*m4 a b d e q r s t-c q*m4 a b d e p r s t+c r*m4 a b d e p q s t-c s*m4 a b d e p q r t+c t*m4 a b d e p q r s:=by
 unfold m5;rw[kU a b c d,kU a b c d,kU a b c d,kU a b c d,kU a b c d];unfold m4;grind
theorem zH:m5 a b c d e p q r s t=d q*m4 a b c e p r s t-d p*m4 a b c e q r s t-d r*m4 a b c e p q s t+d s*m4 a b c e p q r t-d t*m4 a b c e p q r s:=by
 unfold m5 m4;grind
theorem tF:m2 b a p q = - m2 a b p q:=by unfold m2;grind
theorem C4:m3 b a c p q r = - m3 a b c p q r:=by unfold m3;simp only[tF a b];grind
theorem wU:m3 a c b p q r = - m3 a b c p q r:=by rw[jP,jP a b c];simp only[tF b c];grind
theorem tG:m3 c b a p q r = - m3 a b c p q r:=by rw[jQ c b a,jQ a b c];simp only[tF a c];grind
theorem C5:m4 b a c d p q r s = - m4 a b c d p q r s:=by unfold m4;simp only[C4 a b];grind
theorem C6:m4 a c b d p q r s = - m4 a b c d p q r s:=by unfold m4;simp only[wU a b];grind
theorem C7:m4 c b a d p q r s = - m4 a b c d p q r s:=by unfold m4;simp only[tG a b];grind
theorem wV:m4 a b d c p q r s = - m4 a b c d p q r s:=by rw[fK,fK a b c d];simp only[wU b c];grind
theorem wW:m4 a d c b p q r s = - m4 a b c d p q r s:=by rw[fK,fK a b c d];simp only[tG b c];grind
theorem tH:m4 d b c a p q r s = - m4 a b c d p q r s:=by rw[jh d b c a,jh a b c d];simp only[tG a c];grind
theorem tI:m5 b a c d e p q r s t = - m5 a b c d e p q r s t:=by unfold m5;simp only[C5 a b c d];grind
theorem tJ:m5 a c b d e p q r s t = - m5 a b c d e p q r s t:=by unfold m5;simp only[C6 a b c d];grind
theorem tK:m5 c b a d e p q r s t = - m5 a b c d e p q r s t:=by unfold m5;simp only[C7 a b c d];grind
theorem tL:m5 a b d c e p q r s t = - m5 a b c d e p q r s t:=by unfold m5;simp only[wV a b c d];grind
theorem tM:m5 a d c b e p q r s t = - m5 a b c d e p q r s t:=by unfold m5;simp only[wW a b c d];grind
theorem tN:m5 d b c a e p q r s t = - m5 a b c d e p q r s t:=by unfold m5;simp only[tH a b c d];grind
theorem C8:m5 a b c e d p q r s t = - m5 a b c d e p q r s t:=by rw[jR,jR a b c d e];simp only[wV b c d e];grind
theorem C9:m5 a b e d c p q r s t = - m5 a b c d e p q r s t:=by rw[jR,jR a b c d e];simp only[wW b c d e];grind
theorem Da:m5 a e c d b p q r s t = - m5 a b c d e p q r s t:=by rw[jR,jR a b c d e];simp only[tH b c d e];grind
theorem Db:m5 e b c d a p q r s t = - m5 a b c d e p q r s t:=by rw[ql e b c d a,ql a b c d e];simp only[tH a c d e];grind
end
def M(A:Nat->R):Nat->Nat->R
 |0,i,j=>A i j
 |1,i,j=>m2 (A 0) (A i) 0 j
 |2,i,j=>m3 (A 0) (A 1) (A i) 0 1 j
 |3,i,j=>m4 (A 0) (A 1) (A 2) (A i) 0 1 2 j
 |4,i,j=>m5 (A 0) (A 1) (A 2) (A 3) (A i) 0 1 2 3 j
 |_,_,_=>0
def dt(A:Nat->R):Nat->Int
 |0=>1
 |k+1=>M A k k k
theorem Hu(A:Nat->R){k:Nat}(hk:k<4)(i j:Nat):M A (k+1) i j*dt A k=M A k i j*M A k k k-M A k i k*M A k k j:=by
 match k,hk with
 |0,_=>exact s0 _ _ _ _
 |1,_=>exact s1 _ _ _ _ _ _
 |2,_=>exact s2 _ _ _ _ _ _ _ _
 |3,_=>exact s3 _ _ _ _ _ _ _ _ _ _
theorem Dc{A B:Nat->R}{k i j:Nat}(h:∀l,l<k->A l=B l)(hi:A i=B i):M A k i j=M B k i j:=by
 match k with
 |0=>show A i j=B i j;rw[hi]
 |1=>show m2 _ _ _ _=m2 _ _ _ _;rw[hi,h 0 (by omega)]
 |2=>show m3 _ _ _ _ _ _=m3 _ _ _ _ _ _;rw[hi,h 0 (by omega),h 1 (by omega)]
 |3=>show m4 _ _ _ _ _ _ _ _=m4 _ _ _ _ _ _ _ _;rw[hi,h 0 (by omega),h 1 (by omega),h 2 (by omega)]
 |4=>show m5 _ _ _ _ _ _ _ _ _ _=m5 _ _ _ _ _ _ _ _ _ _;rw[hi,h 0 (by omega),h 1 (by omega),h 2 (by omega),h 3 (by omega)]
 |_+5=>rfl
def sw(A:Nat->R)(x y:Nat):Nat->R:=λi=>if i=x then A y else if i=y then A x else A i
theorem zI(A:Nat->R){n x y:Nat}(hn:n<=5)(hxy:x<y)(hy:y<n):dt (sw A x y) n = - dt A n:=by
 match n,hn,y,hy,x,hxy with
 |1,_,0,_,x,h=>exact Ot h (Nat.not_lt_zero x)
 |2,_,1,_,0,_=>exact tF _ _ _ _
 |3,_,1,_,0,_=>exact C4 _ _ _ _ _ _
 |3,_,2,_,0,_=>exact tG _ _ _ _ _ _
 |3,_,2,_,1,_=>exact wU _ _ _ _ _ _
 |4,_,1,_,0,_=>exact C5 _ _ _ _ _ _ _ _
 |4,_,2,_,0,_=>exact C7 _ _ _ _ _ _ _ _
 |4,_,2,_,1,_=>exact C6 _ _ _ _ _ _ _ _
 |4,_,3,_,0,_=>exact tH _ _ _ _ _ _ _ _
 |4,_,3,_,1,_=>exact wW _ _ _ _ _ _ _ _
 |4,_,3,_,2,_=>exact wV _ _ _ _ _ _ _ _
 |5,_,1,_,0,_=>exact tI _ _ _ _ _ _ _ _ _ _
 |5,_,2,_,0,_=>exact tK _ _ _ _ _ _ _ _ _ _
 |5,_,2,_,1,_=>exact tJ _ _ _ _ _ _ _ _ _ _
 |5,_,3,_,0,_=>exact tN _ _ _ _ _ _ _ _ _ _
 |5,_,3,_,1,_=>exact tM _ _ _ _ _ _ _ _ _ _
 |5,_,3,_,2,_=>exact tL _ _ _ _ _ _ _ _ _ _
 |5,_,4,_,0,_=>exact Db _ _ _ _ _ _ _ _ _ _
 |5,_,4,_,1,_=>exact Da _ _ _ _ _ _ _ _ _ _
 |5,_,4,_,2,_=>exact C9 _ _ _ _ _ _ _ _ _ _
 |5,_,4,_,3,_=>exact C8 _ _ _ _ _ _ _ _ _ _
def sumI(f:Nat->Int):Nat->Int
 |0=>0
 |n+1=>sumI f n+f n
theorem tO{f g:Nat->Int}:∀{n:Nat},(∀i,i<n->f i=g i)->sumI f n=sumI g n
 |0,_=>rfl
 |n+1,h=>by rw[sumI,sumI,tO (λi hi=>h i (by omega)),h n (by omega)]
theorem wX{f:Nat->Int}:∀{n:Nat},(∀i,i<n->f i=0)->sumI f n=0
 |0,_=>rfl
 |n+1,h=>by rw[sumI,wX (λi hi=>h i (by omega)),h n (by omega)];rfl
theorem Dd(f g:Nat->Int):∀n:Nat,sumI (λi=>f i+g i) n=sumI f n+sumI g n
 |0=>rfl
 |n+1=>by rw[sumI,sumI,sumI,Dd f g n];omega
theorem zJ(f:Nat->Int)(c:Int):∀n:Nat,sumI (λi=>c*f i) n=c*sumI f n
 |0=>by simp[sumI]
 |n+1=>by rw[sumI,sumI,zJ f c n,Int.mul_add]
theorem De(f:Nat->Nat->Int)(m:Nat):∀n:Nat,sumI (λi=>sumI (λj=>f i j) m) n=sumI (λj=>sumI (λi=>f i j) n) m
 |0=>by rw[sumI];exact(wX λ_ _=>rfl).symm
 |n+1=>by
  rw[sumI,De f m n,<-Dd];rfl
theorem Df{f:Nat->Int}{k:Nat}:∀{n:Nat},k<n->(∀i,i<n->i≠k->f i=0)->sumI f n=f k
 |0,h,_=>by omega
 |n+1,h,h0=>by
  rw[sumI]
  by_cases e:k=n
  .subst e
   rw[wX (λi hi=>h0 i (by omega) (by omega)),Int.zero_add]
  .rw[Df (k:=k) (by omega) (λi hi hk=>h0 i (by omega) hk),h0 n (by omega) (Oy e),Int.add_zero]
def sk(k i:Nat):Nat:=if i<k then i else i+1
def cut(A:Nat->R)(k j:Nat):Nat->R:=λi l=>A (sk k i) (sk j l)
def sg(n:Nat):Int:=if n%2=0 then 1 else -1
def jS(A:Nat->R)(n k j:Nat):Int:=sg (k+j)*dt (cut A k j) (n-1)
def rep(A:Nat->R)(k:Nat)(x:R):Nat->R:=λi=>if i=k then x else A i
def dc(A:Nat->R)(c:Nat->Nat):Nat->Int
 |0=>1
 |1=>A 0 (c 0)
 |2=>m2 (A 0) (A 1) (c 0) (c 1)
 |3=>m3 (A 0) (A 1) (A 2) (c 0) (c 1) (c 2)
 |4=>m4 (A 0) (A 1) (A 2) (A 3) (c 0) (c 1) (c 2) (c 3)
 |5=>m5 (A 0) (A 1) (A 2) (A 3) (A 4) (c 0) (c 1) (c 2) (c 3) (c 4)
 |_=>0
section
variable(a b c d e:R)(p q r s t j:Nat)
theorem zK:m2 a b p q=a p*b q-b p*a q:=by unfold m2;grind
theorem zL:m2 a b p q = - (a q*b p)+b q*a p:=by unfold m2;grind
theorem mf:m3 a b c p q r=a p*m2 b c q r-b p*m2 a c q r+c p*m2 a b q r:=by unfold m3 m2;grind
theorem mh:m3 a b c p q r = - (a q*m2 b c p r)+b q*m2 a c p r-c q*m2 a b p r:=by unfold m3 m2;grind
theorem mi:m3 a b c p q r=a r*m2 b c p q-b r*m2 a c p q+c r*m2 a b p q:=by unfold m3 m2;grind
theorem kW:m4 a b c d p q r s=a p*m3 b c d q r s-b p*m3 a c d q r s+c p*m3 a b d q r s-d p*m3 a b c q r s:=by unfold m4;rw[mf a b c p r s,mf a b c p q s,mf a b c p q r];unfold m3;grind
theorem kX:m4 a b c d p q r s = - (a q*m3 b c d p r s)+b q*m3 a c d p r s-c q*m3 a b d p r s+d q*m3 a b c p r s:=by unfold m4;rw[mf a b c q r s,mh a b c p q s,mh a b c p q r];unfold m3;grind
theorem kY:m4 a b c d p q r s=a r*m3 b c d p q s-b r*m3 a c d p q s+c r*m3 a b d p q s-d r*m3 a b c p q s:=by unfold m4;rw[mh a b c q r s,mh a b c p r s,mi a b c p q r];unfold m3;grind
theorem kZ:m4 a b c d p q r s = - (a s*m3 b c d p q r)+b s*m3 a c d p q r-c s*m3 a b d p q r+d s*m3 a b c p q r:=by unfold m4;rw[mi a b c q r s,mi a b c p r s,mi a b c p q s];unfold m3;grind
theorem zM:m5 a b c d e p q r s t=a p*m4 b c d e q r s t-b p*m4 a c d e q r s t+c p*m4 a b d e q r s t-d p*m4 a b c e q r s t+e p*m4 a b c d q r s t:=by unfold m5;rw[kW a b c d p r s t,kW a b c d p q s t,kW a b c d p q r t,kW a b c d p q r s];unfold m4;grind
theorem zN:m5 a b c d e p q r s t = - (a q*m4 b c d e p r s t)+b q*m4 a c d e p r s t-c q*m4 a b d e p r s t+d q*m4 a b c e p r s t-e q*m4 a b c d p r s t:=by unfold m5;rw[kW a b c d q r s t,kX a b c d p q s t,kX a b c d p q r t,kX a b c d p q r s];unfold m4;grind
theorem zO:m5 a b c d e p q r s t=a r*m4 b c d e p q s t-b r*m4 a c d e p q s t+c r*m4 a b d e p q s t-d r*m4 a b c e p q s t+e r*m4 a b c d p q s t:=by unfold m5;rw[kX a b c d q r s t,kX a b c d p r s t,kY a b c d p q r t,kY a b c d p q r s];unfold m4;grind
theorem zP:m5 a b c d e p q r s t = - (a s*m4 b c d e p q r t)+b s*m4 a c d e p q r t-c s*m4 a b d e p q r t+d s*m4 a b c e p q r t-e s*m4 a b c d p q r t:=by unfold m5;rw[kY a b c d q r s t,kY a b c d p r s t,kY a b c d p q s t,kZ a b c d p q r s];unfold m4;grind
theorem zQ:m5 a b c d e p q r s t=a t*m4 b c d e p q r s-b t*m4 a c d e p q r s+c t*m4 a b d e p q r s-d t*m4 a b c e p q r s+e t*m4 a b c d p q r s:=by unfold m5;rw[kZ a b c d q r s t,kZ a b c d p r s t,kZ a b c d p q s t,kZ a b c d p q r t];unfold m4;grind
theorem Dg:m2 a b p p=0:=by unfold m2;grind
theorem tP:m3 a b c p p r=0:=by unfold m3 m2;grind
theorem tQ:m3 a b c p q p=0:=by unfold m3 m2;grind
theorem tR:m3 a b c p q q=0:=by unfold m3 m2;grind
theorem tS:m4 a b c d p p r s=0:=by unfold m4;simp only[tP];unfold m3 m2;grind
theorem tT:m4 a b c d p q p s=0:=by unfold m4;simp only[tP,tQ];unfold m3 m2;grind
theorem tU:m4 a b c d p q r p=0:=by unfold m4;simp only[tQ];unfold m3 m2;grind
theorem tV:m4 a b c d p q q s=0:=by unfold m4;simp only[tP,tR];unfold m3 m2;grind
theorem tW:m4 a b c d p q r q=0:=by unfold m4;simp only[tQ,tR];unfold m3 m2;grind
theorem tX:m4 a b c d p q r r=0:=by unfold m4;simp only[tR];unfold m3 m2;grind
theorem Dh:m5 a b c d e p p r s t=0:=by unfold m5;simp only[tS];unfold m4 m3 m2;grind
theorem Di:m5 a b c d e p q p s t=0:=by unfold m5;simp only[tS,tT];unfold m4 m3 m2;grind
theorem Dj:m5 a b c d e p q r p t=0:=by unfold m5;simp only[tT,tU];unfold m4 m3 m2;grind
theorem Dk:m5 a b c d e p q r s p=0:=by unfold m5;simp only[tU];unfold m4 m3 m2;grind
theorem Dl:m5 a b c d e p q q s t=0:=by unfold m5;simp only[tS,tV];unfold m4 m3 m2;grind
theorem Dm:m5 a b c d e p q r q t=0:=by unfold m5;simp only[tT,tV,tW];unfold m4 m3 m2;grind
theorem Do:m5 a b c d e p q r s q=0:=by unfold m5;simp only[tU,tW];unfold m4 m3 m2;grind
theorem Dp:m5 a b c d e p q r r t=0:=by unfold m5;simp only[tV,tX];unfold m4 m3 m2;grind
theorem Dq:m5 a b c d e p q r s r=0:=by unfold m5;simp only[tW,tX];unfold m4 m3 m2;grind
theorem Dr:m5 a b c d e p q r s s=0:=by unfold m5;simp only[tX];unfold m4 m3 m2;grind
end
theorem tY(A:Nat->R)(x:R){n k:Nat}(hn:n<=5)(hk:k<n):sumI (λj=>x j*jS A n k j) n=dt (rep A k x) n:=by
 match n,hn,k,hk with
 |1,_,0,_=>show 0+x 0*(1*1)=x 0;grind
 |2,_,0,_=>show 0+x 0*(1*(A 1) 1)+x 1*(-1*(A 1) 0)=m2 x (A 1) 0 1;unfold m2;grind
 |2,_,1,_=>show 0+x 0*(-1*(A 0) 1)+x 1*(1*(A 0) 0)=m2 (A 0) x 0 1;unfold m2;grind
 |3,_,0,_=>show 0+x 0*(1*m2 (A 1) (A 2) 1 2)+x 1*(-1*m2 (A 1) (A 2) 0 2)+x 2*(1*m2 (A 1) (A 2) 0 1)=m3 x (A 1) (A 2) 0 1 2;rw[jP];grind
 |3,_,1,_=>show 0+x 0*(-1*m2 (A 0) (A 2) 1 2)+x 1*(1*m2 (A 0) (A 2) 0 2)+x 2*(-1*m2 (A 0) (A 2) 0 1)=m3 (A 0) x (A 2) 0 1 2;rw[jQ];grind
 |3,_,2,_=>show 0+x 0*(1*m2 (A 0) (A 1) 1 2)+x 1*(-1*m2 (A 0) (A 1) 0 2)+x 2*(1*m2 (A 0) (A 1) 0 1)=m3 (A 0) (A 1) x 0 1 2;unfold m3;grind
 |4,_,0,_=>show 0+x 0*(1*m3 (A 1) (A 2) (A 3) 1 2 3)+x 1*(-1*m3 (A 1) (A 2) (A 3) 0 2 3)+x 2*(1*m3 (A 1) (A 2) (A 3) 0 1 3)+x 3*(-1*m3 (A 1) (A 2) (A 3) 0 1 2)=m4 x (A 1) (A 2) (A 3) 0 1 2 3;rw[fK];grind
 |4,_,1,_=>show 0+x 0*(-1*m3 (A 0) (A 2) (A 3) 1 2 3)+x 1*(1*m3 (A 0) (A 2) (A 3) 0 2 3)+x 2*(-1*m3 (A 0) (A 2) (A 3) 0 1 3)+x 3*(1*m3 (A 0) (A 2) (A 3) 0 1 2)=m4 (A 0) x (A 2) (A 3) 0 1 2 3;rw[jh];grind
 |4,_,2,_=>show 0+x 0*(1*m3 (A 0) (A 1) (A 3) 1 2 3)+x 1*(-1*m3 (A 0) (A 1) (A 3) 0 2 3)+x 2*(1*m3 (A 0) (A 1) (A 3) 0 1 3)+x 3*(-1*m3 (A 0) (A 1) (A 3) 0 1 2)=m4 (A 0) (A 1) x (A 3) 0 1 2 3;rw[kU];grind
 |4,_,3,_=>show 0+x 0*(-1*m3 (A 0) (A 1) (A 2) 1 2 3)+x 1*(1*m3 (A 0) (A 1) (A 2) 0 2 3)+x 2*(-1*m3 (A 0) (A 1) (A 2) 0 1 3)+x 3*(1*m3 (A 0) (A 1) (A 2) 0 1 2)=m4 (A 0) (A 1) (A 2) x 0 1 2 3;unfold m4;grind
 |5,_,0,_=>show 0+x 0*(1*m4 (A 1) (A 2) (A 3) (A 4) 1 2 3 4)+x 1*(-1*m4 (A 1) (A 2) (A 3) (A 4) 0 2 3 4)+x 2*(1*m4 (A 1) (A 2) (A 3) (A 4) 0 1 3 4)+x 3*(-1*m4 (A 1) (A 2) (A 3) (A 4) 0 1 2 4)+x 4*(1*m4 (A 1) (A 2) (A 3) (A 4) 0 1 2 3)=m5 x (A 1) (A 2) (A 3) (A 4) 0 1 2 3 4;rw[jR];grind
 |5,_,1,_=>show 0+x 0*(-1*m4 (A 0) (A 2) (A 3) (A 4) 1 2 3 4)+x 1*(1*m4 (A 0) (A 2) (A 3) (A 4) 0 2 3 4)+x 2*(-1*m4 (A 0) (A 2) (A 3) (A 4) 0 1 3 4)+x 3*(1*m4 (A 0) (A 2) (A 3) (A 4) 0 1 2 4)+x 4*(-1*m4 (A 0) (A 2) (A 3) (A 4) 0 1 2 3)=m5 (A 0) x (A 2) (A 3) (A 4) 0 1 2 3 4;rw[ql];grind
 |5,_,2,_=>show 0+x 0*(1*m4 (A 0) (A 1) (A 3) (A 4) 1 2 3 4)+x 1*(-1*m4 (A 0) (A 1) (A 3) (A 4) 0 2 3 4)+x 2*(1*m4 (A 0) (A 1) (A 3) (A 4) 0 1 3 4)+x 3*(-1*m4 (A 0) (A 1) (A 3) (A 4) 0 1 2 4)+x 4*(1*m4 (A 0) (A 1) (A 3) (A 4) 0 1 2 3)=m5 (A 0) (A 1) x (A 3) (A 4) 0 1 2 3 4;rw[zG];grind
 |5,_,3,_=>show 0+x 0*(-1*m4 (A 0) (A 1) (A 2) (A 4) 1 2 3 4)+x 1*(1*m4 (A 0) (A 1) (A 2) (A 4) 0 2 3 4)+x 2*(-1*m4 (A 0) (A 1) (A 2) (A 4) 0 1 3 4)+x 3*(1*m4 (A 0) (A 1) (A 2) (A 4) 0 1 2 4)+x 4*(-1*m4 (A 0) (A 1) (A 2) (A 4) 0 1 2 3)=m5 (A 0) (A 1) (A 2) x (A 4) 0 1 2 3 4;rw[zH];grind
 |5,_,4,_=>show 0+x 0*(1*m4 (A 0) (A 1) (A 2) (A 3) 1 2 3 4)+x 1*(-1*m4 (A 0) (A 1) (A 2) (A 3) 0 2 3 4)+x 2*(1*m4 (A 0) (A 1) (A 2) (A 3) 0 1 3 4)+x 3*(-1*m4 (A 0) (A 1) (A 2) (A 3) 0 1 2 4)+x 4*(1*m4 (A 0) (A 1) (A 2) (A 3) 0 1 2 3)=m5 (A 0) (A 1) (A 2) (A 3) x 0 1 2 3 4;unfold m5;grind
theorem tZ(A:Nat->R)(i:Nat){n j:Nat}(hn:n<=5)(hj:j<n):sumI (λk=>A k i*jS A n k j) n=dc A (λl=>if l=j then i else l) n:=by
 match n,hn,j,hj with
 |1,_,0,_=>show 0+A 0 i*(1*1)=(A 0) i;grind
 |2,_,0,_=>show 0+A 0 i*(1*(A 1) 1)+A 1 i*(-1*(A 0) 1)=m2 (A 0) (A 1) i 1;rw[zK (A 0) (A 1)];grind
 |2,_,1,_=>show 0+A 0 i*(-1*(A 1) 0)+A 1 i*(1*(A 0) 0)=m2 (A 0) (A 1) 0 i;rw[zL (A 0) (A 1)];grind
 |3,_,0,_=>show 0+A 0 i*(1*m2 (A 1) (A 2) 1 2)+A 1 i*(-1*m2 (A 0) (A 2) 1 2)+A 2 i*(1*m2 (A 0) (A 1) 1 2)=m3 (A 0) (A 1) (A 2) i 1 2;rw[mf (A 0) (A 1) (A 2)];grind
 |3,_,1,_=>show 0+A 0 i*(-1*m2 (A 1) (A 2) 0 2)+A 1 i*(1*m2 (A 0) (A 2) 0 2)+A 2 i*(-1*m2 (A 0) (A 1) 0 2)=m3 (A 0) (A 1) (A 2) 0 i 2;rw[mh (A 0) (A 1) (A 2)];grind
 |3,_,2,_=>show 0+A 0 i*(1*m2 (A 1) (A 2) 0 1)+A 1 i*(-1*m2 (A 0) (A 2) 0 1)+A 2 i*(1*m2 (A 0) (A 1) 0 1)=m3 (A 0) (A 1) (A 2) 0 1 i;rw[mi (A 0) (A 1) (A 2)];grind
 |4,_,0,_=>show 0+A 0 i*(1*m3 (A 1) (A 2) (A 3) 1 2 3)+A 1 i*(-1*m3 (A 0) (A 2) (A 3) 1 2 3)+A 2 i*(1*m3 (A 0) (A 1) (A 3) 1 2 3)+A 3 i*(-1*m3 (A 0) (A 1) (A 2) 1 2 3)=m4 (A 0) (A 1) (A 2) (A 3) i 1 2 3;rw[kW (A 0) (A 1) (A 2) (A 3)];grind
 |4,_,1,_=>show 0+A 0 i*(-1*m3 (A 1) (A 2) (A 3) 0 2 3)+A 1 i*(1*m3 (A 0) (A 2) (A 3) 0 2 3)+A 2 i*(-1*m3 (A 0) (A 1) (A 3) 0 2 3)+A 3 i*(1*m3 (A 0) (A 1) (A 2) 0 2 3)=m4 (A 0) (A 1) (A 2) (A 3) 0 i 2 3;rw[kX (A 0) (A 1) (A 2) (A 3)];grind
 |4,_,2,_=>show 0+A 0 i*(1*m3 (A 1) (A 2) (A 3) 0 1 3)+A 1 i*(-1*m3 (A 0) (A 2) (A 3) 0 1 3)+A 2 i*(1*m3 (A 0) (A 1) (A 3) 0 1 3)+A 3 i*(-1*m3 (A 0) (A 1) (A 2) 0 1 3)=m4 (A 0) (A 1) (A 2) (A 3) 0 1 i 3;rw[kY (A 0) (A 1) (A 2) (A 3)];grind
 |4,_,3,_=>show 0+A 0 i*(-1*m3 (A 1) (A 2) (A 3) 0 1 2)+A 1 i*(1*m3 (A 0) (A 2) (A 3) 0 1 2)+A 2 i*(-1*m3 (A 0) (A 1) (A 3) 0 1 2)+A 3 i*(1*m3 (A 0) (A 1) (A 2) 0 1 2)=m4 (A 0) (A 1) (A 2) (A 3) 0 1 2 i;rw[kZ (A 0) (A 1) (A 2) (A 3)];grind
 |5,_,0,_=>show 0+A 0 i*(1*m4 (A 1) (A 2) (A 3) (A 4) 1 2 3 4)+A 1 i*(-1*m4 (A 0) (A 2) (A 3) (A 4) 1 2 3 4)+A 2 i*(1*m4 (A 0) (A 1) (A 3) (A 4) 1 2 3 4)+A 3 i*(-1*m4 (A 0) (A 1) (A 2) (A 4) 1 2 3 4)+A 4 i*(1*m4 (A 0) (A 1) (A 2) (A 3) 1 2 3 4)=m5 (A 0) (A 1) (A 2) (A 3) (A 4) i 1 2 3 4;rw[zM (A 0) (A 1) (A 2) (A 3) (A 4)];grind
 |5,_,1,_=>show 0+A 0 i*(-1*m4 (A 1) (A 2) (A 3) (A 4) 0 2 3 4)+A 1 i*(1*m4 (A 0) (A 2) (A 3) (A 4) 0 2 3 4)+A 2 i*(-1*m4 (A 0) (A 1) (A 3) (A 4) 0 2 3 4)+A 3 i*(1*m4 (A 0) (A 1) (A 2) (A 4) 0 2 3 4)+A 4 i*(-1*m4 (A 0) (A 1) (A 2) (A 3) 0 2 3 4)=m5 (A 0) (A 1) (A 2) (A 3) (A 4) 0 i 2 3 4;rw[zN (A 0) (A 1) (A 2) (A 3) (A 4)];grind
 |5,_,2,_=>show 0+A 0 i*(1*m4 (A 1) (A 2) (A 3) (A 4) 0 1 3 4)+A 1 i*(-1*m4 (A 0) (A 2) (A 3) (A 4) 0 1 3 4)+A 2 i*(1*m4 (A 0) (A 1) (A 3) (A 4) 0 1 3 4)+A 3 i*(-1*m4 (A 0) (A 1) (A 2) (A 4) 0 1 3 4)+A 4 i*(1*m4 (A 0) (A 1) (A 2) (A 3) 0 1 3 4)=m5 (A 0) (A 1) (A 2) (A 3) (A 4) 0 1 i 3 4;rw[zO (A 0) (A 1) (A 2) (A 3) (A 4)];grind
 |5,_,3,_=>show 0+A 0 i*(-1*m4 (A 1) (A 2) (A 3) (A 4) 0 1 2 4)+A 1 i*(1*m4 (A 0) (A 2) (A 3) (A 4) 0 1 2 4)+A 2 i*(-1*m4 (A 0) (A 1) (A 3) (A 4) 0 1 2 4)+A 3 i*(1*m4 (A 0) (A 1) (A 2) (A 4) 0 1 2 4)+A 4 i*(-1*m4 (A 0) (A 1) (A 2) (A 3) 0 1 2 4)=m5 (A 0) (A 1) (A 2) (A 3) (A 4) 0 1 2 i 4;rw[zP (A 0) (A 1) (A 2) (A 3) (A 4)];grind
 |5,_,4,_=>show 0+A 0 i*(1*m4 (A 1) (A 2) (A 3) (A 4) 0 1 2 3)+A 1 i*(-1*m4 (A 0) (A 2) (A 3) (A 4) 0 1 2 3)+A 2 i*(1*m4 (A 0) (A 1) (A 3) (A 4) 0 1 2 3)+A 3 i*(-1*m4 (A 0) (A 1) (A 2) (A 4) 0 1 2 3)+A 4 i*(1*m4 (A 0) (A 1) (A 2) (A 3) 0 1 2 3)=m5 (A 0) (A 1) (A 2) (A 3) (A 4) 0 1 2 3 i;rw[zQ (A 0) (A 1) (A 2) (A 3) (A 4)];grind
theorem zR(A:Nat->R){n i j:Nat}(hn:n<=5)(hi:i<n)(hj:j<n)(ne:i≠j):dc A (λl=>if l=j then i else l) n=0:=by
 match n,hn,i,hi,j,hj,ne with
 |1,_,0,_,0,_,ne=>exact Ot rfl ne
 |2,_,0,_,0,_,ne=>exact Ot rfl ne
 |2,_,0,_,1,_,_=>show m2 (A 0) (A 1) 0 0=0;exact Dg _ _ _
 |2,_,1,_,0,_,_=>show m2 (A 0) (A 1) 1 1=0;exact Dg _ _ _
 |2,_,1,_,1,_,ne=>exact Ot rfl ne
 |3,_,0,_,0,_,ne=>exact Ot rfl ne
 |3,_,0,_,1,_,_=>show m3 (A 0) (A 1) (A 2) 0 0 2=0;exact tP _ _ _ _ _
 |3,_,0,_,2,_,_=>show m3 (A 0) (A 1) (A 2) 0 1 0=0;exact tQ _ _ _ _ _
 |3,_,1,_,0,_,_=>show m3 (A 0) (A 1) (A 2) 1 1 2=0;exact tP _ _ _ _ _
 |3,_,1,_,1,_,ne=>exact Ot rfl ne
 |3,_,1,_,2,_,_=>show m3 (A 0) (A 1) (A 2) 0 1 1=0;exact tR _ _ _ _ _
 |3,_,2,_,0,_,_=>show m3 (A 0) (A 1) (A 2) 2 1 2=0;exact tQ _ _ _ _ _
 |3,_,2,_,1,_,_=>show m3 (A 0) (A 1) (A 2) 0 2 2=0;exact tR _ _ _ _ _
 |3,_,2,_,2,_,ne=>exact Ot rfl ne
 |4,_,0,_,0,_,ne=>exact Ot rfl ne
 |4,_,0,_,1,_,_=>show m4 (A 0) (A 1) (A 2) (A 3) 0 0 2 3=0;exact tS _ _ _ _ _ _ _
 |4,_,0,_,2,_,_=>show m4 (A 0) (A 1) (A 2) (A 3) 0 1 0 3=0;exact tT _ _ _ _ _ _ _
 |4,_,0,_,3,_,_=>show m4 (A 0) (A 1) (A 2) (A 3) 0 1 2 0=0;exact tU _ _ _ _ _ _ _
 |4,_,1,_,0,_,_=>show m4 (A 0) (A 1) (A 2) (A 3) 1 1 2 3=0;exact tS _ _ _ _ _ _ _
 |4,_,1,_,1,_,ne=>exact Ot rfl ne
 |4,_,1,_,2,_,_=>show m4 (A 0) (A 1) (A 2) (A 3) 0 1 1 3=0;exact tV _ _ _ _ _ _ _
 |4,_,1,_,3,_,_=>show m4 (A 0) (A 1) (A 2) (A 3) 0 1 2 1=0;exact tW _ _ _ _ _ _ _
 |4,_,2,_,0,_,_=>show m4 (A 0) (A 1) (A 2) (A 3) 2 1 2 3=0;exact tT _ _ _ _ _ _ _
 |4,_,2,_,1,_,_=>show m4 (A 0) (A 1) (A 2) (A 3) 0 2 2 3=0;exact tV _ _ _ _ _ _ _
 |4,_,2,_,2,_,ne=>exact Ot rfl ne
 |4,_,2,_,3,_,_=>show m4 (A 0) (A 1) (A 2) (A 3) 0 1 2 2=0;exact tX _ _ _ _ _ _ _
 |4,_,3,_,0,_,_=>show m4 (A 0) (A 1) (A 2) (A 3) 3 1 2 3=0;exact tU _ _ _ _ _ _ _
 |4,_,3,_,1,_,_=>show m4 (A 0) (A 1) (A 2) (A 3) 0 3 2 3=0;exact tW _ _ _ _ _ _ _
 |4,_,3,_,2,_,_=>show m4 (A 0) (A 1) (A 2) (A 3) 0 1 3 3=0;exact tX _ _ _ _ _ _ _
 |4,_,3,_,3,_,ne=>exact Ot rfl ne
 |5,_,0,_,0,_,ne=>exact Ot rfl ne
 |5,_,0,_,1,_,_=>show m5 (A 0) (A 1) (A 2) (A 3) (A 4) 0 0 2 3 4=0;exact Dh _ _ _ _ _ _ _ _ _
 |5,_,0,_,2,_,_=>show m5 (A 0) (A 1) (A 2) (A 3) (A 4) 0 1 0 3 4=0;exact Di _ _ _ _ _ _ _ _ _
 |5,_,0,_,3,_,_=>show m5 (A 0) (A 1) (A 2) (A 3) (A 4) 0 1 2 0 4=0;exact Dj _ _ _ _ _ _ _ _ _
 |5,_,0,_,4,_,_=>show m5 (A 0) (A 1) (A 2) (A 3) (A 4) 0 1 2 3 0=0;exact Dk _ _ _ _ _ _ _ _ _
 |5,_,1,_,0,_,_=>show m5 (A 0) (A 1) (A 2) (A 3) (A 4) 1 1 2 3 4=0;exact Dh _ _ _ _ _ _ _ _ _
 |5,_,1,_,1,_,ne=>exact Ot rfl ne
 |5,_,1,_,2,_,_=>show m5 (A 0) (A 1) (A 2) (A 3) (A 4) 0 1 1 3 4=0;exact Dl _ _ _ _ _ _ _ _ _
 |5,_,1,_,3,_,_=>show m5 (A 0) (A 1) (A 2) (A 3) (A 4) 0 1 2 1 4=0;exact Dm _ _ _ _ _ _ _ _ _
 |5,_,1,_,4,_,_=>show m5 (A 0) (A 1) (A 2) (A 3) (A 4) 0 1 2 3 1=0;exact Do _ _ _ _ _ _ _ _ _
 |5,_,2,_,0,_,_=>show m5 (A 0) (A 1) (A 2) (A 3) (A 4) 2 1 2 3 4=0;exact Di _ _ _ _ _ _ _ _ _
 |5,_,2,_,1,_,_=>show m5 (A 0) (A 1) (A 2) (A 3) (A 4) 0 2 2 3 4=0;exact Dl _ _ _ _ _ _ _ _ _
 |5,_,2,_,2,_,ne=>exact Ot rfl ne
 |5,_,2,_,3,_,_=>show m5 (A 0) (A 1) (A 2) (A 3) (A 4) 0 1 2 2 4=0;exact Dp _ _ _ _ _ _ _ _ _
 |5,_,2,_,4,_,_=>show m5 (A 0) (A 1) (A 2) (A 3) (A 4) 0 1 2 3 2=0;exact Dq _ _ _ _ _ _ _ _ _
 |5,_,3,_,0,_,_=>show m5 (A 0) (A 1) (A 2) (A 3) (A 4) 3 1 2 3 4=0;exact Dj _ _ _ _ _ _ _ _ _
 |5,_,3,_,1,_,_=>show m5 (A 0) (A 1) (A 2) (A 3) (A 4) 0 3 2 3 4=0;exact Dm _ _ _ _ _ _ _ _ _
 |5,_,3,_,2,_,_=>show m5 (A 0) (A 1) (A 2) (A 3) (A 4) 0 1 3 3 4=0;exact Dp _ _ _ _ _ _ _ _ _
 |5,_,3,_,3,_,ne=>exact Ot rfl ne
 |5,_,3,_,4,_,_=>show m5 (A 0) (A 1) (A 2) (A 3) (A 4) 0 1 2 3 3=0;exact Dr _ _ _ _ _ _ _ _ _
 |5,_,4,_,0,_,_=>show m5 (A 0) (A 1) (A 2) (A 3) (A 4) 4 1 2 3 4=0;exact Dk _ _ _ _ _ _ _ _ _
 |5,_,4,_,1,_,_=>show m5 (A 0) (A 1) (A 2) (A 3) (A 4) 0 4 2 3 4=0;exact Do _ _ _ _ _ _ _ _ _
 |5,_,4,_,2,_,_=>show m5 (A 0) (A 1) (A 2) (A 3) (A 4) 0 1 4 3 4=0;exact Dq _ _ _ _ _ _ _ _ _
 |5,_,4,_,3,_,_=>show m5 (A 0) (A 1) (A 2) (A 3) (A 4) 0 1 2 4 4=0;exact Dr _ _ _ _ _ _ _ _ _
 |5,_,4,_,4,_,ne=>exact Ot rfl ne
theorem Hv(A:Nat->R)(k:Nat):rep A k (A k)=A:=by
 funext i;unfold rep;split
 .rename_i h;rw[h]
 .rfl
theorem t3(A:Nat->R){n i k:Nat}(hn:n<=5)(hi:i<n)(hk:k<n)(ne:i≠k):dt (rep A k (A i)) n=0:=by
 have e:∀x y,(x=i/\y=k)\/(x=k/\y=i)->sw (rep A k (A i)) x y=rep A k (A i):=λx y h=>by
  funext l;unfold sw rep;rcases h with⟨rfl,rfl⟩|⟨rfl,rfl⟩
  .by_cases h1:l=x
   .subst h1;simp[ne]
   .by_cases h2:l=y
    .subst h2;simp[h1,ne]
    .simp[h1,h2]
  .by_cases h1:l=x
   .subst h1;simp[ne]
   .by_cases h2:l=y
    .subst h2;simp[h1]
    .simp[h1,h2]
 rcases Nat.lt_or_gt_of_ne ne with h|h
 .have:=zI (rep A k (A i)) hn h hk
  rw[e _ _ (.inl ⟨rfl,rfl⟩)] at this;omega
 .have:=zI (rep A k (A i)) hn h hi
  rw[e _ _ (.inr ⟨rfl,rfl⟩)] at this;omega
theorem t4(A:Nat->R){n:Nat}(hn:n<=5):dc A (λl=>l) n=dt A n:=by
 match n,hn with
 |0,_=>rfl
 |1,_=>rfl
 |2,_=>rfl
 |3,_=>rfl
 |4,_=>rfl
 |5,_=>rfl
theorem Ds(A:Nat->R){n i k:Nat}(hn:n<=5)(hi:i<n)(hk:k<n):sumI (λj=>A i j*jS A n k j) n=if i=k then dt A n else 0:=by
 rw[tY A (A i) hn hk];split
 .rename_i h;rw[h,Hv]
 .rename_i h;exact t3 A hn hi hk h
theorem wY(A:Nat->R){n i j:Nat}(hn:n<=5)(hi:i<n)(hj:j<n):sumI (λk=>A k i*jS A n k j) n=if i=j then dt A n else 0:=by
 rw[tZ A i hn hj];split
 .rename_i h
  subst h;rw[show(λl=>if l=i then i else l)=(λl=>l) from by funext l;split<;>omega];exact t4 A hn
 .rename_i h;exact zR A hn hi hj h
theorem Hw(A:Nat->R){n:Nat}(hn:n<=5){w:Nat->Int}(h:∀i,i<n->sumI (λj=>A i j*w j) n=0){j:Nat}(hj:j<n):dt A n*w j=0:=by
 have e:sumI (λk=>jS A n k j*sumI (λl=>A k l*w l) n) n=dt A n*w j:=by
  rw[tO (g:=λk=>sumI (λl=>jS A n k j*(A k l*w l)) n) (λk _=>(zJ _ _ n).symm),De];rw [tO (g:=λl=>w l*sumI (λk=>A k l*jS A n k j) n) (λl _=>by
   rw[<-zJ];exact tO λk _=>by rw[sf (w l),<-Int.mul_assoc,sf (jS A n k j)])]
  rw[Df (k:=j) hj (λi hi ne=>by rw[wY A hn hi hj,if_neg ne,wd]),wY A hn hj hj,if_pos rfl,sf]
 rw[<-e];exact wX λk hk=>by rw[h k hk,wd]
end Dt
end LP
namespace L2
open PySem PySem.Spec PyProof.Rows
abbrev jG:=Sum Int Str
def o7:jG->Value->Bool
 |.inl k,v=>Value.isInt k v
 |.inr x,v=>Value.isStrOf x v
def zS(w:World):jG->Int
 |.inl k=>hashInt k
 |.inr x=>hashStr w x
theorem aK:∀{k:jG} {v:Value},o7 k v=true->(∃i t,k=Sum.inl i/\v=Value.int i t)\/(∃x t,k=Sum.inr x/\v=Value.str x t)
 |.inl i,v,h=>by
  obtain⟨t,e⟩:=Value.isInt_shape (k:=i) (v:=v) h;exact .inl ⟨i,t,rfl,e⟩
 |.inr x,v,h=>by
  obtain⟨t,e⟩:=Value.isStrOf_shape (x:=x) (v:=v) h;exact .inr ⟨x,t,rfl,e⟩
theorem qo(a b:Int):decide ((Sum.inl a:jG)=Sum.inl b)=(a==b):=by
 by_cases e:a=b
 .subst e;simp
 .have h:¬(Sum.inl a:jG)=Sum.inl b:=λq=>e (Sum.inl.inj q)
  rw[Ox h];exact(beq_eq_false_iff_ne.mpr e).symm
theorem qq(a b:Str):decide ((Sum.inr a:jG)=Sum.inr b)=decide (a=b):=by
 by_cases e:a=b
 .subst e;simp
 .have h:¬(Sum.inr a:jG)=Sum.inr b:=λq=>e (Sum.inr.inj q)
  rw[Ox h,Ox e]
theorem qr(a:Int)(b:Str):decide ((Sum.inl a:jG)=Sum.inr b)=false:=Ox (λq=>nomatch q)
theorem qs(a:Str)(b:Int):decide ((Sum.inr a:jG)=Sum.inl b)=false:=Ox (λq=>nomatch q)
def gG(prog:Program)(w:World):PySem.KeyKind prog w jG where
 is:=o7
 hash:=zS w
 inj:=λv a b ha hb=>by
  rcases aK ha with⟨i,t,rfl,rfl⟩|⟨x,t,rfl,rfl⟩
  .rcases aK hb with⟨j,u,rfl,e⟩|⟨y,u,rfl,e⟩
   .injection e with e1 _;rw[e1]
   .exact nomatch e
  .rcases aK hb with⟨j,u,rfl,e⟩|⟨y,u,rfl,e⟩
   .exact nomatch e
   .injection e with e1 _;rw[e1]
 byValue:=λk v h=>by
  rcases aK h with⟨i,t,rfl,rfl⟩|⟨x,t,rfl,rfl⟩<;>rfl
 pyHash:=λhv h=>by
  rcases aK hv with⟨i,t,rfl,rfl⟩|⟨x,t,rfl,rfl⟩
  .exact wpAny_pyHash_int h
  .exact wpAny_pyHash_str h
 eqBool:=λhu hv h=>by
  rcases aK hu with⟨i,t,rfl,rfl⟩|⟨x,t,rfl,rfl⟩
  .rcases aK hv with⟨j,u,rfl,rfl⟩|⟨y,u,rfl,rfl⟩
   .rw[qo] at h;exact wpAny_eqBool_int h
   .rw[qr] at h;exact SeqAt.EqAt.int_str i t y u _ _ _ _ h
  .rcases aK hv with⟨j,u,rfl,rfl⟩|⟨y,u,rfl,rfl⟩
   .rw[qs] at h;exact SeqAt.EqAt.str_int x t j u _ _ _ _ h
   .rw[qq] at h;exact wpAny_eqBool_str h
 «strs»:=λk x t v h=>by
  rcases aK h with⟨i,u,rfl,e⟩|⟨y,u,rfl,e⟩
  .exact nomatch e
  .injection e with e1 _
   subst e1;cases v<;>rfl
inductive V where
 |non|bl (b:Bool)|int (i:Int)|str (x:Str)|byt (b:Array UInt8)|flt (b:UInt64)|ref (a:Addr)|ty (n:String)
 deriving DecidableEq
def RelV:V->Value->Prop
 |.non,u=>u=Value.none
 |.bl b,u=>u=Value.bool b
 |.int i,u=>∃t,u=Value.int i t
 |.str x,u=>∃t,u=Value.str x t
 |.byt b,u=>∃t,u=Value.bytes b t
 |.flt b,u=>∃t,u=Value.float b t
 |.ref a,u=>u=Value.ref a
 |.ty n,u=>u=Value.type n
abbrev Vals:List V->List Value->Prop:=Paired RelV
theorem Vals.length{xs:List V}{us:List Value}(r:Vals xs us):xs.length=us.length:=Paired.length r
theorem Vals.get:∀{xs:List V} {us:List Value} {i:Nat} {x:V},Vals xs us->xs[i]? = some x->∃u,us[i]? = some u/\RelV x u
 |_,_,_,_,.nil,e=>by simp at e
 |_,_,0,_,.cons r _,e=>by simp at e;subst e;exact⟨_,rfl,r⟩
 |_,_,i+1,x,.cons _ t,e=>by
  obtain⟨u,h1,h2⟩:=Vals.get (i:=i) (x:=x) t (by simpa using e);exact⟨u,by simpa using h1,h2⟩
theorem Vals.set{x:V}{u:Value}(r:RelV x u):∀{xs:List V} {us:List Value} (i:Nat),Vals xs us->Vals (xs.set i x) (us.set i u)
 |_,_,_,.nil=>.nil
 |_,_,0,.cons _ t=>.cons r t
 |_,_,i+1,.cons q t=>.cons q (Vals.set r i t)
theorem Vals.append:∀{xs ys:List V} {us ws:List Value},Vals xs us->Vals ys ws->Vals (xs++ys) (us++ws)
 |_,_,_,_,.nil,s=>s
 |_,_,_,_,.cons r t,s=>.cons r (Vals.append t s)
theorem Vals.take:∀{xs:List V} {us:List Value} (n:Nat),Vals xs us->Vals (xs.take n) (us.take n)
 |_,_,0,_=>.nil
 |_,_,_+1,.nil=>.nil
 |_,_,n+1,.cons r t=>.cons r (Vals.take n t)
theorem Vals.drop:∀{xs:List V} {us:List Value} (n:Nat),Vals xs us->Vals (xs.drop n) (us.drop n)
 |_,_,0,r=>r
 |_,_,_+1,.nil=>.nil
 |_,_,n+1,.cons _ t=>Vals.drop n t
def t5:Option V->Option Value->Prop
 |some v,some u=>RelV v u
 |none,none=>True
 |_,_=>False
def KV{κ:Type}:List (κ×V)->List (κ×Value)->Prop:=Paired λ(p:κ×V) (q:κ×Value)=>p.1=q.1/\RelV p.2 q.2
def kV:jG->V
 |.inl i=>.int i
 |.inr x=>.str x
inductive HO where
 |lst (xs:List V)
 |tup (xs:List V)
 |dK (kvs:List (jG×V))|dT (kvs:List (List jG×V))
 |set (S:Int->Bool) (n:Nat)
 |ins (C dx:Addr) (fs:List (Str×V))
 |own (x:Addr)
 |xd (fs:List (Str×V))
 |met (f x:Addr)
 |rng (lo hi:Int)
 |frz (o:Obj) (u:HO)
 |tbl (ps:Array Value)
 |ext (φ:Heap->Prop)
abbrev Hp:=Addr->Option HO
def upd(H:Hp)(a:Addr)(o:HO):Hp:=λb=>if b=a then some o else H b
theorem ao{H:Hp}{a:Addr}{o:HO}:upd H a o a=some o:=by unfold upd;rw[if_pos rfl]
theorem af{H:Hp}{a b:Addr}{o:HO}(h:b≠a):upd H a o b=H b:=by unfold upd;rw[if_neg h]
theorem nQ{H:Hp}{a:Addr}{o u:HO}:upd (upd H a o) a u=upd H a u:=by
 funext b;unfold upd;split<;>rfl
theorem ck{H:Hp}{a b:Addr}{o:HO}(h:H a=some o)(h':H b=none):a≠b:=by
 intro e;subst e;rw[h] at h';cases h'
section
variable(P:Program)(w:World)
def ObjOk(H:Hp)(h:Heap)(a:Addr):HO->Prop
 |.lst xs=>xs.length<=sizeLine/\∃(its:List Value) (n:Nat),Vals xs its/\h.get? a=some { cls:=.type "list",data:=.seq its.toArray n }
 |.tup xs=>xs.length<=sizeLine/\∃its:List Value,Vals xs its/\IsTup h a its.toArray
 |.dK kvs=>kvs.length<=sizeLine/\(a==sysModules)=false/\∃vs,KV kvs vs/\h.DictOf (gG P w) a vs
 |.dT kvs=>kvs.length<=sizeLine/\(a==sysModules)=false/\∃xs:List (List jG×Addr×Value),
   Paired (λ(p:List jG×V) (q:List jG×Addr×Value)=>p.1=q.1/\H q.2.1=some (.tup (p.1.map kV))/\RelV p.2 q.2.2) kvs xs/\
   ∃o es ep,h.get? a=some o/\o.ExactDict/\o.data=.dict es ep/\es.toList=xs.map (entryOfKey (tupleKind (gG P w)))/\(xs.map (·.1)).Nodup
 |.set S n=>h.SetOf (intKind P w) a S n
 |.ins C dx fs=>H dx=some (.own a)/\fs.length<=1000/\dx≠a/\h.get? a=some (PySem.W.instObj C dx)/\
   ∃mA,h.Ns1 dx mA/\(∀f,t5 (fs.lookup f) (mA f))/\PySem.Within mA (fs.map (·.1))
 |.own _=>∃o,h.get? a=some o
 |.xd fs=>∃mA,h.Ns1 a mA/\∀f,t5 (fs.lookup f) (mA f)
 |.rng lo hi=>∃t u v,h.get? a=some { cls:=.type "range",data:=.fields #[.int lo t,.int hi u,.int 1 v] }
 |.frz o u=>h.get? a=some o/\ObjOk H h a u
 |.tbl ps=>h.get? a=some { cls:=.none,data:=.fields ps }
 |.met f x=>h.get? a=some (PySem.W.methodObj (.ref f) (.ref x))
 |.ext φ=>φ h/\(∃o,h.get? a=some o)/\∀h1 h2:Heap,φ h1->(∀o,h1.get? a=some o->h2.get? a=some o)->φ h2
def HOk(H:Hp)(h:Heap):Prop:=∀a o,H a=some o->ObjOk P w H h a o
end
section
variable{P:Program}{w:World}{H H':Hp}{h h':Heap}{a:Addr}{o:HO}
theorem ObjOk.lt(x:ObjOk P w H h a o):a<h.objs.size:=by
 cases o with
 |lst xs=>obtain⟨_,_,_,_,e⟩:=x;exact bX e
 |tup xs=>obtain⟨_,_,_,p⟩:=x;exact p.lt
 |dK kvs=>obtain⟨_,_,_,_,o,_,_,e,_⟩:=x;exact bX e
 |dT kvs=>obtain⟨_,_,_,_,o,_,_,e,_⟩:=x;exact bX e
 |set S n=>obtain⟨o,_,_,_,e,_⟩:=x;exact bX e
 |ins C dx fs=>obtain⟨_,_,_,e,_⟩:=x;exact bX e
 |own y=>obtain⟨_,e⟩:=x;exact bX e
 |xd fs=>obtain⟨_,⟨_,_,_,e,_⟩,_⟩:=x;exact bX e
 |rng lo hi=>obtain⟨_,_,_,e⟩:=x;exact bX e
 |frz ob u=>obtain⟨e,_⟩:=x;exact bX e
 |tbl ps=>exact bX (show h.get? a=some _ from x)
 |met f y=>exact bX (show h.get? a=some _ from x)
 |ext φ=>obtain⟨_,⟨_,e⟩,_⟩:=x;exact bX e
theorem Paired.mapP{α β:Type}{F G:α->β->Prop}:∀{l₁:List α} {l₂:List β},Paired F l₁ l₂->(∀a b,F a b->G a b)->Paired G l₁ l₂
 |_,_,.nil,_=>.nil
 |_,_,.cons r t,f=>.cons (f _ _ r) (Paired.mapP t f)
theorem ObjOk.stay(x:ObjOk P w H h a o)(k:∀b u,(b=a\/H b=some (.own a))->h.get? b=some u->h'.get? b=some u)
  (ho:∀b,H b=some (.own a)->H' b=some (.own a)) (ht:∀b xs,H b=some (.tup xs)->H' b=some (.tup xs)):ObjOk P w H' h' a o:=by
 induction o with
 |lst xs=>obtain⟨z,its,n,r,e⟩:=x;exact⟨z,its,n,r,k _ _ (.inl rfl) e⟩
 |tup xs=>obtain⟨z,its,r,ob,e,c⟩:=x;exact⟨z,its,r,ob,k _ _ (.inl rfl) e,c⟩
 |dK kvs=>obtain⟨z,y,vs,r,ob,es,ep,e,c⟩:=x;exact⟨z,y,vs,r,ob,es,ep,k _ _ (.inl rfl) e,c⟩
 |dT kvs=>
  obtain⟨z,y,xs,r,ob,es,ep,e,c⟩:=x;exact⟨z,y,xs,Paired.mapP r λp q z=>⟨z.1,ht _ _ z.2.1,z.2.2⟩,ob,es,ep,k _ _ (.inl rfl) e,c⟩
 |set S n=>obtain⟨ob,es,ep,t,e,c⟩:=x;exact⟨ob,es,ep,t,k _ _ (.inl rfl) e,c⟩
 |ins C dx fs=>
  obtain⟨d,z,ne,e,mA,⟨od,es,ep,e2,c⟩,r⟩:=x;exact⟨ho _ d,z,ne,k _ _ (.inl rfl) e,mA,⟨od,es,ep,k _ _ (.inr d) e2,c⟩,r⟩
 |own y=>obtain⟨ob,e⟩:=x;exact⟨ob,k _ _ (.inl rfl) e⟩
 |xd fs=>obtain⟨mA,⟨od,es,ep,e,c⟩,r⟩:=x;exact⟨mA,⟨od,es,ep,k _ _ (.inl rfl) e,c⟩,r⟩
 |rng lo hi=>obtain⟨t,u,v,e⟩:=x;exact⟨t,u,v,k _ _ (.inl rfl) e⟩
 |frz ob u ih=>obtain⟨e,q⟩:=x;exact⟨k _ _ (.inl rfl) e,ih q⟩
 |tbl ps=>
  have e:h.get? a=some { cls:=.none,data:=.fields ps }:=x;show h'.get? a=some { cls:=.none,data:=.fields ps };exact k a _ (.inl rfl) e
 |met f y=>
  have e:h.get? a=some (PySem.W.methodObj (.ref f) (.ref y)):=x;show h'.get? a=some (PySem.W.methodObj (.ref f) (.ref y));exact k a _ (.inl rfl) e
 |ext φ=>obtain⟨p,⟨o,e⟩,st⟩:=x;exact⟨st _ _ p λo q=>k _ _ (.inl rfl) q,⟨o,k _ _ (.inl rfl) e⟩,st⟩
theorem HOk.lt(x:HOk P w H h)(e:H a=some o):a<h.objs.size:=(x a o e).lt
theorem HOk.fresh(x:HOk P w H h)(e:h.objs.size<=a):H a=none:=by
 cases q:H a with
 |none=>rfl
 |some u=>exact Ot (cv (x.lt q) e) (f9 _)
theorem HOk.kept(x:HOk P w H h)(k:∀b u,h.get? b=some u->h'.get? b=some u):HOk P w H h':=λa o e=>
 (x a o e).stay (λb u _ q=>k b u q) (λ_ q=>q) λ_ _ q=>q
theorem HOk.laid(x:HOk P w H h)(k:∀b u,h.get? b=some u->h'.get? b=some u)(hp:h.objs.size<=a)(new:ObjOk P w (upd H a o) h' a o):HOk P w (upd H a o) h':=λb u e=>by
 have hn:=x.fresh hp
 by_cases hb:b=a
 .subst hb;rw[ao] at e;cases e;exact new
 .rw[af hb] at e
  exact(x b u e).stay (λc v _ q=>k c v q) (λc q=>by rw[af (ck q hn)];exact q) λc xs q=>by rw[af (ck q hn)];exact q
end
def Rd(H:Hp)(a:Addr)(u:HO):Prop:=H a=some u\/∃o,H a=some (.frz o u)
theorem Rd.of{H:Hp}{a:Addr}{u:HO}(h:H a=some u):Rd H a u:=.inl h
theorem Rd.ok{P:Program}{w:World}{H:Hp}{h:Heap}{a:Addr}{u:HO}(r:Rd H a u)(x:HOk P w H h):ObjOk P w H h a u:=by
 rcases r with r|⟨o,r⟩
 .exact x a u r
 .obtain⟨_,q⟩:=x a _ r
  exact q
def wZ:Option HO->Prop
 |some (.lst _)=>True
 |some (.dK _)=>True
 |some (.dT _)=>True
 |some (.set _ _)=>True
 |some (.ins _ _ _)=>True
 |some (.ext _)=>True
 |_=>False
section
variable{P:Program}{w:World}{H:Hp}{h h':Heap}{x e:Addr}{o':HO}
theorem HOk.write(ok:HOk P w H h)(mu:wZ (H x))(he:e=x\/H e=some (.own x))(k:∀b u,b≠e->h.get? b=some u->h'.get? b=some u)(heo:∃u,h'.get? e=some u)
  (new:ObjOk P w (upd H x o') h' x o'):HOk P w (upd H x o') h':=λb u q=>by
 have nown:∀c y,H c=some (.own y)->c≠x:=λc y r z=>by subst z;rw[r] at mu;exact mu
 have ntup:∀c xs,H c=some (.tup xs)->c≠x:=λc xs r z=>by subst z;rw[r] at mu;exact mu
 by_cases hb:b=x
 .subst hb;rw[ao] at q;cases q;exact new
 .rw[af hb] at q
  by_cases hbe:b=e
  .have q':H b=some (.own x):=by
    rcases he with z|z
    .exact Ot (hbe.trans z) hb
    .rw[hbe];exact z
   rw[q] at q';cases q';obtain⟨v,hv⟩:=heo;exact⟨v,by rw[hbe];exact hv⟩
  .refine(ok b u q).stay (λc v hc r=>k c v ?_ r) (λc r=>by rw[af (nown c b r)];exact r) λc xs r=>by rw[af (ntup c xs r)];exact r
   rcases hc with rfl|hc
   .exact hbe
   .rintro rfl
    rcases he with z|z
    .exact nown c b hc z
    .rw[hc] at z;cases z;exact hb rfl
end
structure Un(fs ex:List Addr)(H H':Hp)(h h':Heap):Prop where
 keep:∀b o,h.get? b=some o->H b=none->b∉fs->b∉ex->h'.get? b=some o
 slot:∀b o,h.get? b=some o->H b=none->b∈fs->b∉ex->∃sl,h'.get? b=some { o with slots:=sl }
 free:∀b o,h.get? b=some o->H b=none->b∉ex->H' b=none
 there:∀b o,h.get? b=some o->b∉ex->∃o',h'.get? b=some o'
 tups:∀b xs,H b=some (.tup xs)->H' b=some (.tup xs)
 frzs:∀b o u,H b=some (.frz o u)->H' b=some (.frz o u)
 tbls:∀b ps,H b=some (.tbl ps)->∃more,H' b=some (.tbl (ps++more))
 sys:mainGlobals∉ex->(∃o,h.get? mainGlobals=some o)->(∀xs,H sysModules≠some (.lst xs))->∀xs,H' sysModules≠some (.lst xs)
section
variable{fs fs' ex ex':List Addr}{H H1 H2:Hp}{h h1 h2 h':Heap}{a x e:Addr}{o:HO}
theorem Un.any(u:Un fs ex H H1 h h1){b:Addr}{ob:Obj}(q:h.get? b=some ob)(n:H b=none)(hx:b∉ex):∃sl,h1.get? b=some { ob with slots:=sl }:=by
 by_cases hb:b∈fs
 .exact u.slot b ob q n hb hx
 .exact⟨ob.slots,u.keep b ob q n hb hx⟩
theorem Un.trans(a:Un fs ex H H1 h h1)(b:Un fs ex H1 H2 h1 h2):Un fs ex H H2 h h2 where
 keep:=λc ob q n hc hx=>b.keep c ob (a.keep c ob q n hc hx) (a.free c ob q n hx) hc hx
 slot:=λc ob q n hc hx=>by
  obtain⟨sl,e1⟩:=a.slot c ob q n hc hx;obtain⟨sl',e2⟩:=b.slot c _ e1 (a.free c ob q n hx) hc hx;exact⟨sl',e2⟩
 free:=λc ob q n hx=>by
  obtain⟨o',e1⟩:=a.there c ob q hx;exact b.free c o' e1 (a.free c ob q n hx) hx
 there:=λc ob q hx=>by
  obtain⟨o',e1⟩:=a.there c ob q hx;exact b.there c o' e1 hx
 tups:=λc xs q=>b.tups c xs (a.tups c xs q)
 frzs:=λc ob xs q=>b.frzs c ob xs (a.frzs c ob xs q)
 tbls:=λc ps q=>by
  obtain⟨m1,e1⟩:=a.tbls c ps q;obtain⟨m2,e2⟩:=b.tbls c _ e1;exact⟨m1++m2,by rw[e2,y9]⟩
 sys:=λhx ⟨o,e⟩ n=>b.sys hx (a.there _ o e hx) (a.sys hx ⟨o,e⟩ n)
theorem Un.kept(k:∀b u,h.get? b=some u->h'.get? b=some u):Un fs ex H H h h':=
 ⟨λb ob q _ _ _=>k b ob q,λb ob q _ _ _=>⟨ob.slots,k b ob q⟩,λ_ _ _ n _=>n,λb ob q _=>⟨ob,k b ob q⟩,λ_ _ q=>q,λ_ _ _ q=>q,λ_ ps q=>⟨#[],by rw[q];simp⟩,λ_ _ n=>n⟩
theorem Un.refl:Un fs ex H H h h:=Un.kept λ_ _ q=>q
theorem Un.laid(k:∀b u,h.get? b=some u->h'.get? b=some u)(hp:h.objs.size<=a)(hn:H a=none):Un fs ex H (upd H a o) h h' where
 keep:=λb u q _ _ _=>k b u q
 slot:=λb u q _ _ _=>⟨u.slots,k b u q⟩
 free:=λb u q n _=>by rw[af (eJ (cv (bX q) hp))];exact n
 there:=λb u q _=>⟨u,k b u q⟩
 tups:=λb xs q=>by rw[af (ck q hn)];exact q
 frzs:=λb u xs q=>by rw[af (ck q hn)];exact q
 tbls:=λb ps q=>⟨#[],by rw[af (ck q hn),q];simp⟩
 sys:=λ_ ⟨_,q⟩ n=>by rw[af (eJ (cv (wg (by decide) (bX q)) hp))];exact n
theorem Un.write(mu:wZ (H x))(he:e=x\/H e=some (.own x))(k:∀b u,b≠e->h.get? b=some u->h'.get? b=some u)(heo:∃u,h'.get? e=some u)(hk:(∃us,H x=some (.lst us))\/∀us,o≠.lst us):Un fs ex H (upd H x o) h h':=by
 have hx:∀b,H b=none->b≠x:=λb n z=>by subst z;rw[n] at mu;exact mu
 have hb:∀b,H b=none->b≠e:=λb n z=>by
  subst z;rcases he with r|r
  .exact hx b n r
  .rw[n] at r;cases r
 have hm:∀b u,H b=some u->¬wZ (some u)->b≠x:=λb u q nm z=>by subst z;rw[q] at mu;exact nm mu
 refine ⟨λb u q n _ _=>k b u (hb b n) q,λb u q n _ _=>⟨u.slots,k b u (hb b n) q⟩,λb u q n _=>by rw [af (hx b n)];exact n,λb u q _=>?_,
  λb xs q=>by rw[af (hm b _ q λz=>z)];exact q,λb u xs q=>by rw[af (hm b _ q λz=>z)];exact q,λb ps q=>⟨#[],by rw[af (hm b _ q λz=>z),q];simp⟩,λ_ _ n ys=>by
   by_cases z:sysModules=x
   .rw[z,ao]
    rcases hk with⟨us,hk⟩|hk
    .exact Ot (z▸hk) (n us)
    .exact λy=>hk ys (Ow y)
   .rw[af z];exact n ys⟩
 by_cases hbe:b=e
 .subst hbe;exact heo
 .exact⟨u,k b u hbe q⟩
theorem Un.mono(u:Un fs ex H H1 h h1)(hs:∀b∈fs,b∈fs')(hx:∀b∈ex,b∈ex'):Un fs' ex' H H1 h h1:=
 ⟨λb ob q n hb he=>u.keep b ob q n (λz=>hb (hs b z)) λz=>he (hx b z),λ_ _ q n _ he=>u.any q n λz=>he (hx _ z),λb ob q n he=>u.free b ob q n λz=>he (hx b z),λb ob q he=>u.there b ob q λz=>he (hx b z),u.tups,u.frzs,u.tbls,λhe=>u.sys λz=>he (hx _ z)⟩
end
def w4(h:Heap)(H:Hp):List Addr:=(List.range h.objs.size).filter λa=>(H a).isSome
def gH(h:Heap)(H:Hp):Heap:=PySem.W.hideAll h (w4 h H)
theorem k6(h:Heap)(H:Hp):(gH h H).objs.size=h.objs.size:=PySem.W.hideAll_size _ _
theorem mj{h:Heap}{H:Hp}{b:Addr}{o:Obj}(e:h.get? b=some o)(n:H b=none):(gH h H).get? b=some o:=
 PySem.W.hideAll_get _ e λhm=>by
  have q:(H b).isSome=true:=(Yai.mp hm).2;rw[n] at q;simp at q
theorem nR{h:Heap}{H:Hp}{b:Addr}{o:Obj}(e:(gH h H).get? b=some o):h.get? b=some o/\H b=none:=by
 have e':h.get? b=some o:=PySem.W.of_hideAll (w4 h H) e;refine⟨e',?_⟩;cases q:H b with
 |none=>rfl
 |some x=>
  have hm:b∈w4 h H:=Yai.mpr ⟨Yaj.mpr (bX e'),by simp[q]⟩;have z:(gH h H).get? b=none:=PySem.W.hideAll_none (w4 h H) hm;rw[z] at e;cases e
def nS(g h:Heap)(L:Addr):List (Addr×Obj):=(List.range h.objs.size).filterMap λa=>if a=L\/(g.get? a).isSome=true then none else(h.get? a).map λo=>(a,o)
def rest(g h:Heap)(L d:Addr):List (Addr×Obj):=(nS g h L).filter λp=>decide (p.1≠d)
structure Mod(K:Oq)(mg:Str->Option Value)(base:Heap):Prop where
 kin:K.In base
 glob:base.Ns mainGlobals mg
 blt:∃mb,base.Ns builtinsNs mb/\∀x:Str,x≠ "__name__" ->mb x=bootBuiltins x
 nolimit:base.NoLimit
structure Cx where
 prog:Program
 w:World
 K:Oq
 mg:Str->Option Value
 base:Heap
 A:Around
 N:List Str
 s₀:Shared
 H₀:Hp
 env:Env
 outer:List Env
 stack:List Env
 ex:List Addr
 fn:Str->Bool
 calm:Bool
 pn:List (Addr×Obj)
 xe:Value->Shared->Prop
def cu(l:List Env):List Addr:=l.filterMap (·.frame)
abbrev Cx.fs(X:Cx):List Addr:=cu X.outer
def nC(sc:Scope)(x:Str):Prop:=sc.names.lookup x=some .local\/sc.names.lookup x=some .cell\/sc.names.lookup x=some .free
def ml(sc:Scope)(x:Str):Prop:=sc.names.lookup x=some .local\/sc.names.lookup x=some .cell
def zT(env:Env)(h:Heap)(m:Str->Option Value)(x:Str)(u:Value):Prop:=
 (env.kindOf x=some .local/\m x=some u)\/((env.kindOf x=some .cell\/env.kindOf x=some .free)/\∃c,env.cells.lookup x=some c/\h.IsCell c (some u))
structure Cx.Ok(X:Cx):Prop where
 mod:Mod X.K X.mg X.base
 kind:X.env.scope.kind=.function
 glob:X.env.globals=mainGlobals
 blt:X.env.builtins=builtinsNs
 above:X.s₀.heap.objs.size<=X.env.locals
 inj:∀x y c,X.env.cells.lookup x=some c->X.env.cells.lookup y=some c->x=y
 has:∀x,(X.env.kindOf x=some .cell\/X.env.kindOf x=some .free)->∃c,X.env.cells.lookup x=some c
 cab:∀x c,X.fn x=true->X.env.cells.lookup x=some c->X.s₀.heap.objs.size<=c
 hd:X.calm=true->X.A.handled=none
 frames:X.A.frames=some X.stack
 stk:X.stack=X.outer\/(X.stack=X.env::X.outer/\X.env.frame=some X.env.locals)
 exf:∀b∈X.ex,b≠X.env.locals/\∀x c,X.env.cells.lookup x=some c->c≠b
 bs:∀b o,X.base.get? b=some o->X.s₀.heap.get? b=some o/\X.H₀ b=none
 bsz:X.base.objs.size<=X.s₀.heap.objs.size
 noex:∀b o,X.base.get? b=some o->b∉X.ex
 exfs:∀b∈X.ex,b∉X.fs
 funs:X.s₀.heap.FunFrames X.base X.outer
 frf:∀b∈X.fs,X.H₀ b=none
 sys0:∀xs,X.H₀ sysModules≠some (.lst xs)
structure Inv(X:Cx)(pins:List (Addr×Obj))(σ:List (Option V))(H:Hp)(s:Shared):Prop where
 ok:X.Ok
 os:s.os=X.s₀.os
 bare:AllBare s.gens
 base:Un X.fs X.ex X.H₀ H X.s₀.heap s.heap
 loc:∃m,s.heap.Ns X.env.locals m/\∀(i:Nat) (x:Str) (v:V),X.N[i]? = some x->σ[i]? = some (some v)->nC X.env.scope x->∃u,RelV v u/\zT X.env s.heap m x u
 cell:∀x c,X.env.cells.lookup x=some c->∃v,s.heap.IsCell c v
 free:H X.env.locals=none
 freeC:∀x c,X.env.cells.lookup x=some c->H c=none
 pin:∀p∈X.pn++pins,s.heap.get? p.1=some p.2/\H p.1=none/\p.1≠X.env.locals/\p.1∉X.fs/\∀v,p.2.data≠.cell v
 hok:HOk X.prog X.w H s.heap
 len:σ.length=X.N.length
section
variable{X:Cx}{pins:List (Addr×Obj)}{σ:List (Option V)}{H H':Hp}{s:Shared}{h':Heap}
theorem Cx.Ok.nofr(ok:X.Ok){b:Addr}{o:Obj}(e:X.base.get? b=some o):b∉X.fs:=λhb=>by
 have:=(ok.funs.mem hb).1;rw[e] at this;cases this
theorem Inv.bs(I:Inv X pins σ H s):∀b o,X.base.get? b=some o->s.heap.get? b=some o/\H b=none:=λb o e=>
 ⟨I.base.keep b o (I.ok.bs b o e).1 (I.ok.bs b o e).2 (I.ok.nofr e) (I.ok.noex b o e),I.base.free b o (I.ok.bs b o e).1 (I.ok.bs b o e).2 (I.ok.noex b o e)⟩
theorem Inv.bk(I:Inv X pins σ H s):∀b o,X.base.get? b=some o->s.heap.get? b=some o:=λb o e=>(I.bs b o e).1
theorem Inv.mod(I:Inv X pins σ H s):Mod X.K X.mg X.base:=I.ok.mod
theorem Inv.hasG(I:Inv X pins σ H s):∃o,s.heap.get? mainGlobals=some o:=by
 obtain⟨o,_,_,e,_⟩:=I.ok.mod.glob;exact⟨o,I.bk _ _ e⟩
theorem Inv.sysn(I:Inv X pins σ H s):∀xs,H sysModules≠some (.lst xs):=by
 obtain⟨o,_,_,e,_⟩:=I.ok.mod.glob;exact I.base.sys (I.ok.noex _ _ e) ⟨o,(I.ok.bs _ _ e).1⟩ I.ok.sys0
theorem Inv.kIn(I:Inv X pins σ H s):X.K.In s.heap:=I.ok.mod.kin.keeps I.bk
theorem Inv.fr(I:Inv X pins σ H s):∃m,Fr X.base X.env.locals s.heap m:=
 let⟨m,hn,_⟩:=I.loc
 ⟨m,hn,I.bk,gb I.ok.bsz I.ok.above⟩
theorem Inv.lt(I:Inv X pins σ H s):X.env.locals<s.heap.objs.size:=let⟨_,hn,_⟩:=I.loc;hn.lt
theorem Inv.sz(I:Inv X pins σ H s):X.s₀.heap.objs.size<=s.heap.objs.size:=gb I.ok.above (jC I.lt)
theorem Inv.nofs(I:Inv X pins σ H s){a:Addr}(h:s.heap.objs.size<=a):a∉X.fs:=λhb=>by
 obtain⟨_,o,ho,_⟩:=I.ok.funs.mem hb;exact Ot (cv (bX ho) (gb I.sz h)) (f9 _)
theorem Inv.cne(I:Inv X pins σ H s):∀x c,X.env.cells.lookup x=some c->c≠X.env.locals:=λx c e z=>by
 obtain⟨v,o,ho,hd⟩:=I.cell x c e;obtain⟨m,⟨o',es,ep,ho',hd',_⟩,_⟩:=I.loc;rw[z,ho'] at ho;cases ho;rw[hd'] at hd;cases hd
theorem Inv.funs(I:Inv X pins σ H s):s.heap.FunFrames X.base X.outer:=by
 have all:∀(l:List Env),(∀b∈cu l,b∈X.fs)->X.s₀.heap.FunFrames X.base l->s.heap.FunFrames X.base l:=by
  intro l
  induction l with
  |nil=>intro _ _;trivial
  |cons env r ih=>
   intro hs hl;obtain⟨hk,⟨L,o,hf,hn,ho,hd⟩,hr⟩:=hl;have hL:L∈X.fs:=hs L (by unfold cu;rw[wj,hf];exact jL);obtain⟨sl,e⟩:=I.base.slot L o ho (I.ok.frf L hL) hL λz=>I.ok.exfs L z hL;exact⟨hk,⟨L,_,hf,hn,e,hd⟩,ih (λb hb=>hs b (by unfold cu;rw[wj,hf];exact fG _ hb)) hr⟩
 exact all X.outer (λ_ hb=>hb) I.ok.funs
theorem Inv.stack(I:Inv X pins σ H s):s.heap.FunFrames X.base X.stack:=by
 rcases I.ok.stk with e|⟨e,hf⟩
 .rw[e];exact I.funs
 .rw[e]
  obtain⟨m,hn,_⟩:=I.loc;refine .cons (by rw[I.ok.kind];decide) hf hn ?_ I.funs;exact wk (gb I.ok.bsz I.ok.above)
theorem Inv.stkSub(I:Inv X pins σ H s):∀b∈cu X.stack,b∈X.env.locals::X.fs:=λb hb=>by
 rcases I.ok.stk with e|⟨e,hf⟩
 .rw[e] at hb;exact fG _ hb
 .rw[e] at hb
  unfold cu at hb;rw[wj,hf] at hb;exact hb
theorem Inv.stkFree(I:Inv X pins σ H s):∀b∈cu X.stack,H b=none:=λb hb=>by
 rcases Yaq.mp (I.stkSub b hb) with e|hb
 .rw[e];exact I.free
 .obtain⟨_,o,ho,_⟩:=I.ok.funs.mem hb
  exact I.base.free b o ho (I.ok.frf b hb) λz=>I.ok.exfs b z hb
theorem Inv.step{g':Array GenState}{t':Nat}{d':Drawn}{ch:List Addr}(I:Inv X pins σ H s)
  (hch:∀b∈ch,(b∈X.ex\/X.s₀.heap.objs.size<=b)/\b≠X.env.locals/\(∀x c,X.env.cells.lookup x=some c->c≠b)/\∀p∈X.pn++pins,p.1≠b)
  (keep:∀b o,b≠X.env.locals->b∉X.fs->b∉ch->s.heap.get? b=some o->H b=none->h'.get? b=some o)
  (slot:∀b o,b≠X.env.locals->b∈X.fs->b∉ch->s.heap.get? b=some o->H b=none->∃sl,h'.get? b=some { o with slots:=sl }) (free:∀b o,b∉ch->s.heap.get? b=some o->H b=none->H' b=none)
  (there:∀b o,b∉ch->s.heap.get? b=some o->∃o',h'.get? b=some o')
  (tups:∀b xs,H b=some (.tup xs)->H' b=some (.tup xs)) (frzs:∀b o u,H b=some (.frz o u)->H' b=some (.frz o u)) (tbls:∀b ps,H b=some (.tbl ps)->∃more,H' b=some (.tbl (ps++more)))
  (ns:∀m,s.heap.Ns X.env.locals m->h'.Ns X.env.locals m) (hok:HOk X.prog X.w H' h') (hg:AllBare g') (sy:(∀xs,H sysModules≠some (.lst xs))->∀xs,H' sysModules≠some (.lst xs)) :
  Inv X pins σ H' { s with heap:=h',gens:=g',drawn:=d',toks:=t' }:=by
 have neL:∀b o,X.s₀.heap.get? b=some o->b≠X.env.locals:=λb o e=>eJ (cv (bX e) I.ok.above);have neC:∀b o,X.s₀.heap.get? b=some o->b∉X.ex->b∉ch:=λb o e hx hb=>by
  rcases(hch b hb).1 with z|z
  .exact hx z
  .exact Ot (cv (bX e) z) (f9 _)
 have cellK:∀x c,X.env.cells.lookup x=some c->∀v,s.heap.IsCell c v->h'.IsCell c v:=λx c e v ⟨o,ho,hd⟩=>by
  have nch:c∉ch:=λz=>(hch c z).2.2.1 x c e rfl
  by_cases hc:c∈X.fs
  .obtain⟨sl,q⟩:=slot c o (I.cne x c e) hc nch ho (I.freeC x c e)
   exact⟨_,q,hd⟩
  .exact⟨o,keep c o (I.cne x c e) hc nch ho (I.freeC x c e),hd⟩
 refine⟨I.ok,I.os,hg,⟨λb o e n hb hx=>?_,λb o e n hb hx=>?_,λb o e n hx=>?_,λb o e hx=>?_,λb xs e=>tups b xs (I.base.tups b xs e),λb o xs e=>frzs b o xs (I.base.frzs b o xs e),λb ps e=>?_,λx0 e0 n=>sy (I.base.sys x0 e0 n)⟩,?_,λx c e=>?_,?_,λx c e=>?_,λp hp=>?_,hok,I.len⟩
 .exact keep b o (neL b o e) hb (neC b o e hx) (I.base.keep b o e n hb hx) (I.base.free b o e n hx)
 .obtain⟨sl,e1⟩:=I.base.slot b o e n hb hx
  obtain⟨sl',e2⟩:=slot b _ (neL b o e) hb (neC b o e hx) e1 (I.base.free b o e n hx);exact⟨sl',e2⟩
 .obtain⟨o',e1⟩:=I.base.there b o e hx
  exact free b o' (neC b o e hx) e1 (I.base.free b o e n hx)
 .obtain⟨o',e1⟩:=I.base.there b o e hx
  exact there b o' (neC b o e hx) e1
 .obtain⟨m1,e1⟩:=I.base.tbls b ps e
  obtain⟨m2,e2⟩:=tbls b _ e1;exact⟨m1++m2,by rw[e2,y9]⟩
 .obtain⟨m,hn,hl⟩:=I.loc
  refine⟨m,ns m hn,λi x v e1 e2 e3=>?_⟩;obtain⟨u,r,l⟩:=hl i x v e1 e2 e3;refine⟨u,r,?_⟩;rcases l with l|⟨k,c,e,z⟩
  .exact .inl l
  .exact .inr ⟨k,c,e,cellK x c e _ z⟩
 .obtain⟨v,z⟩:=I.cell x c e
  exact⟨v,cellK x c e v z⟩
 .obtain⟨m,⟨o,_,_,ho,_⟩,_⟩:=I.loc
  exact free _ o (λz=>(hch _ z).2.1 rfl) ho I.free
 .obtain⟨v,o,ho,hd⟩:=I.cell x c e
  exact free c o (λz=>(hch c z).2.2.1 x c e rfl) ho (I.freeC x c e)
 .obtain⟨e,n,ne,nf,d⟩:=I.pin p hp
  have nch:p.1∉ch:=λz=>(hch p.1 z).2.2.2 p hp rfl;exact⟨keep p.1 p.2 ne nf nch e n,free p.1 p.2 nch e n,ne,nf,d⟩
theorem Inv.un{t':Nat}(I:Inv X pins σ H s)(u:Un X.fs [] H H' s.heap h')(hok:HOk X.prog X.w H' h'):Inv X pins σ H' { s with heap:=h',toks:=t' }:=by
 obtain⟨m,⟨o,es,ep,ho,r⟩,_⟩:=id I.loc;obtain⟨sl,hL⟩:=u.any ho I.free (by simp);exact I.step (g':=s.gens) (d':=s.drawn) (ch:=[]) (λ_ z=>nomatch z) (λb o _ hb _ e n=>u.keep b o e n hb (by simp)) (λb o _ hb _ e n=>u.slot b o e n hb (by simp)) (λb o _ e n=>u.free b o e n (by simp)) (λb o _ e=>u.there b o e (by simp)) u.tups u.frzs u.tbls (λm' hm=>by
  obtain⟨o',es',ep',ho',r'⟩:=hm;rw[ho] at ho';cases ho';exact⟨_,es',ep',hL,r'⟩) hok I.bare (u.sys (by simp) I.hasG)
theorem Inv.call{g':Array GenState}{t':Nat}{d':Drawn}{ch:List Addr}(I:Inv X pins σ H s)(u:Un (cu X.stack) ch H H' s.heap h')(hok:HOk X.prog X.w H' h')(hg:AllBare g')
  (hch:∀b∈ch,(b∈X.ex\/X.s₀.heap.objs.size<=b)/\b≠X.env.locals/\(∀x c,X.env.cells.lookup x=some c->c≠b)/\∀p∈X.pn++pins,p.1≠b) :
  Inv X pins σ H' { s with heap:=h',gens:=g',drawn:=d',toks:=t' }:=by
 obtain⟨m,⟨o,es,ep,ho,r⟩,_⟩:=id I.loc;obtain⟨sl,hL⟩:=u.any ho I.free λz=>(hch _ z).2.1 rfl;exact I.step (ch:=ch) hch (λb o hL hb hc e n=>u.keep b o e n (λz=>(Yaq.mp (I.stkSub b z)).elim hL hb) hc) (λb o _ _ hc e n=>u.any e n hc) (λb o hc e n=>u.free b o e n hc) (λb o hc e=>u.there b o e hc) u.tups u.frzs u.tbls (λm' hm=>by
  obtain⟨o',es',ep',ho',r'⟩:=hm;rw[ho] at ho';cases ho';exact ⟨_,es',ep',hL,r'⟩) hok hg (u.sys (λz=>by
   obtain⟨o0,_,_,e0,_⟩:=I.ok.mod.glob;rcases(hch _ z).1 with y|y
   .exact I.ok.noex _ _ e0 y
   .exact Ot (cv (bX (I.ok.bs _ _ e0).1) y) (f9 _)) I.hasG)
theorem Inv.turned{t':Nat}{it:Addr}(I:Inv X pins σ H s)(k:∀b o,b≠it->s.heap.get? b=some o->h'.get? b=some o)(hn:H it=none)(hL:it≠X.env.locals)
  (h1:it∈X.ex\/X.s₀.heap.objs.size<=it) (h2:∀x c,X.env.cells.lookup x=some c->c≠it) (h3:∀p∈X.pn++pins,p.1≠it):Inv X pins σ H { s with heap:=h',toks:=t' }:=by
 have nit:∀b u,H b=some u->b≠it:=λb u e z=>by rw[z,hn] at e;cases e
 refine I.step (g':=s.gens) (d':=s.drawn) (ch:=[it]) (λb hb=>?_) (λb o _ _ hc e _=>k b o (λz=>hc (by simp[z])) e) (λb o _ _ hc e _=>⟨o.slots,k b o (λz=>hc (by simp[z])) e⟩) (λ_ _ _ _ n=>n)
  (λb o hc e=>⟨o,k b o (λz=>hc (by simp[z])) e⟩) (λ_ _ e=>e) (λ_ _ _ e=>e) (λb ps e=>⟨#[],by rw[e];simp⟩) (λm hm=>?_) (λb u e=>?_) I.bare (λn=>n)
 .have e:b=it:=by simpa using hb
  subst e;exact⟨h1,hL,h2,h3⟩
 .obtain⟨o,es,ep,ho,r⟩:=hm
  exact⟨o,es,ep,k _ o (Oy hL) ho,r⟩
 .refine(I.hok b u e).stay (λc v hc q=>k c v ?_ q) (λ_ q=>q) λ_ _ q=>q
  rcases hc with z|z
  .rw[z];exact nit b u e
  .exact nit c _ z
theorem Inv.tok(I:Inv X pins σ H s)(t:Nat):Inv X pins σ H { s with toks:=t }:=I.un (h':=s.heap) (t':=t) Un.refl I.hok
theorem Inv.kept{t':Nat}(I:Inv X pins σ H s)(k:∀b u,s.heap.get? b=some u->h'.get? b=some u):Inv X pins σ H { s with heap:=h',toks:=t' }:=I.un (Un.kept k) (I.hok.kept k)
theorem Inv.laid{a:Addr}{o:HO}{t':Nat}(I:Inv X pins σ H s)(k:∀b u,s.heap.get? b=some u->h'.get? b=some u)(hp:s.heap.objs.size<=a)(new:ObjOk X.prog X.w (upd H a o) h' a o) :
  Inv X pins σ (upd H a o) { s with heap:=h',toks:=t' }:=I.un (Un.laid k hp (I.hok.fresh hp)) (I.hok.laid k hp new)
theorem Inv.write{x e:Addr}{o:HO}{t':Nat}(I:Inv X pins σ H s)(mu:wZ (H x))(he:e=x\/H e=some (.own x))(k:∀b u,b≠e->s.heap.get? b=some u->h'.get? b=some u)(heo:∃u,h'.get? e=some u)
  (new:ObjOk X.prog X.w (upd H x o) h' x o) (hk:(∃us,H x=some (.lst us))\/∀us,o≠.lst us):Inv X pins σ (upd H x o) { s with heap:=h',toks:=t' }:=I.un (Un.write mu he k heo hk) (I.hok.write mu he k heo new)
theorem Inv.weak{σ':List (Option V)}(I:Inv X pins σ H s)(hl:σ'.length=σ.length)(w:∀(i:Nat) v,σ'[i]? = some (some v)->σ[i]? = some (some v)):Inv X pins σ' H s:=
 ⟨I.ok,I.os,I.bare,I.base,let⟨m,hn,hl'⟩:=I.loc;⟨m,hn,λi x v e1 e2 e3=>hl' i x v e1 (w i v e2) e3⟩,I.cell,I.free,I.freeC,I.pin,I.hok,hl.trans I.len⟩
theorem Inv.pins_of{pins':List (Addr×Obj)}(I:Inv X pins σ H s)(h:∀p∈pins',s.heap.get? p.1=some p.2/\H p.1=none/\p.1≠X.env.locals/\p.1∉X.fs/\∀v,p.2.data≠.cell v):Inv X pins' σ H s:=
 ⟨I.ok,I.os,I.bare,I.base,I.loc,I.cell,I.free,I.freeC,λp hp=>(Yar.mp hp).elim (λz=>I.pin p (List.mem_append_left _ z)) (h p),I.hok,I.len⟩
theorem ji{N:List Str}(hN:N.Nodup){i j:Nat}{x:Str}(a:N[i]? = some x)(b:N[j]? = some x):i=j:=by
 obtain⟨h1,e1⟩:=Yas.mp a;obtain⟨h2,e2⟩:=Yas.mp b;exact(List.getElem_inj hN).mp (e1.trans e2.symm)
theorem gk{M:Model}{A:Around}{E:Value->Shared->Prop}{i:Nat}{x:Str}{v:V}{u:Value}{Q:Unit->Shared->Prop}(I:Inv X pins σ H s)(hN:X.N.Nodup)(hi:X.N[i]? = some x)(hx:ml X.env.scope x)(r:RelV v u)
  (h:∀s',Inv X pins (σ.set i (some v)) H s'->(∃a,Heap.SameBut a s.heap s'.heap/\(a=X.env.locals\/X.env.cells.lookup x=some a))->Q () s') (hf:X.fn x=true\/X.env.scope.names.lookup x=some .local:=by first|exact .inl rfl|exact .inr rfl|assumption):wpAny M A (storeName X.env x u) Q E s:=by
 obtain⟨m,hn,hl⟩:=id I.loc;have hcls:(X.env.scope.kind==.class||(X.env.scope.kind==.module&&X.env.locals != X.env.globals))=false:=by rw[I.ok.kind];rfl
 have hiσ:i<σ.length:=by rw[I.len];exact(Yas.mp hi).1
 have cne:=I.cne;have tracked:∀{a:Addr} {h':Heap},(∃o,s.heap.get? a=some o/\H a=none)->Heap.SameBut a s.heap h'->HOk X.prog X.w H h':=λ{a h'} ha hs b ob e=>by
  obtain⟨_,_,hfree⟩:=ha;refine(I.hok b ob e).stay (λc w' hc q=>(hs.2 c ?_).trans q) (λ_ q=>q) λ_ _ q=>q;rintro rfl;rcases hc with rfl|hc
  .rw[hfree] at e;cases e
  .rw[hfree] at hc;cases hc
 rcases hx with hk|hk
 .refine wpAny_storeName_local hk hn (λh' hn' hs=>?_) hcls
  obtain⟨oL,_,_,hoL,_⟩:=id hn;refine h _ ⟨I.ok,I.os,I.bare,⟨λb o e n hb hx=>?_,λb o e n hb hx=>?_,I.base.free,λb o e hx=>?_,I.base.tups,I.base.frzs,I.base.tbls,I.base.sys⟩,⟨_,hn',λj y v' e1 e2 e3=>?_⟩,λy c e=>?_,I.free,I.freeC,λp hp=>?_,tracked ⟨oL,hoL,I.free⟩ hs,by simpa using I.len⟩ ⟨_,hs,.inl rfl⟩
  .exact(hs.2 b (eJ (cv (bX e) I.ok.above))).trans (I.base.keep b o e n hb hx)
  .obtain⟨sl,e1⟩:=I.base.slot b o e n hb hx
   exact⟨sl,(hs.2 b (eJ (cv (bX e) I.ok.above))).trans e1⟩
  .obtain⟨o',e1⟩:=I.base.there b o e hx
   exact⟨o',(hs.2 b (eJ (cv (bX e) I.ok.above))).trans e1⟩
  .by_cases hj:j=i
   .subst hj
    rw[hi] at e1;cases e1;rw[d9 hiσ] at e2;cases e2;exact⟨u,r,.inl ⟨hk,by simp⟩⟩
   .rw[dD (Oy hj)] at e2
    obtain⟨u',r',q⟩:=hl j y v' e1 e2 e3;refine⟨u',r',?_⟩;rcases q with⟨k,e⟩|⟨k,c,e,z⟩
    .refine .inl ⟨k,?_⟩
     have:y≠x:=λe=>hj (ji hN e1 (e▸hi));simp[this,e]
    .exact .inr ⟨k,c,e,z.sameBut hs (cne y c e)⟩
  .obtain⟨w',z⟩:=I.cell y c e
   exact⟨w',z.sameBut hs (cne y c e)⟩
  .obtain⟨e,n,ne,nf,d⟩:=I.pin p hp
   exact⟨(hs.2 p.1 ne).trans e,n,ne,nf,d⟩
 .have hfn:X.fn x=true:=by
   rcases hf with z|z
   .exact z
   .rw[z] at hk;cases hk
  obtain⟨c,hc⟩:=I.ok.has x (.inl hk);obtain⟨w',z⟩:=I.cell x c hc;refine wpAny_storeName_cell I.ok.kind hk hc z (λh' hc' hs=>?_);obtain⟨oc,hoc,hocd⟩:=id z;refine h { s with heap:=h' } ⟨I.ok,I.os,I.bare,⟨λb o e n hb hx=>?_,λb o e n hb hx=>?_,I.base.free,λb o e hx=>?_,I.base.tups,I.base.frzs,I.base.tbls,I.base.sys⟩,⟨m,hn.sameBut hs (Oy (cne x c hc)),λj y v' e1 e2 e3=>?_⟩,λy c' e=>?_,I.free,I.freeC,λp hp=>?_,tracked ⟨oc,hoc,I.freeC x c hc⟩ hs,by simpa using I.len⟩ ⟨c,hs,.inr hc⟩
  .exact(hs.2 b (eJ (cv (bX e) (I.ok.cab x c hfn hc)))).trans (I.base.keep b o e n hb hx)
  .obtain⟨sl,e1⟩:=I.base.slot b o e n hb hx
   exact⟨sl,(hs.2 b (eJ (cv (bX e) (I.ok.cab x c hfn hc)))).trans e1⟩
  .obtain⟨o',e1⟩:=I.base.there b o e hx
   exact⟨o',(hs.2 b (eJ (cv (bX e) (I.ok.cab x c hfn hc)))).trans e1⟩
  .by_cases hj:j=i
   .subst hj
    rw[hi] at e1;cases e1;rw[d9 hiσ] at e2;cases e2;exact⟨u,r,.inr ⟨.inl hk,c,hc,hc'⟩⟩
   .rw[dD (Oy hj)] at e2
    obtain⟨u',r',q⟩:=hl j y v' e1 e2 e3;refine⟨u',r',?_⟩;rcases q with q|⟨k,c',e,z'⟩
    .exact .inl q
    .refine .inr ⟨k,c',e,z'.sameBut hs ?_⟩
     rintro rfl;exact hj (ji hN e1 (I.ok.inj _ _ _ e hc▸hi))
  .by_cases hcc:c'=c
   .subst hcc;exact⟨_,hc'⟩
   .obtain⟨w2,z2⟩:=I.cell y c' e
    exact⟨w2,z2.sameBut hs hcc⟩
  .obtain⟨e,n,ne,nf,d⟩:=I.pin p hp
   refine⟨(hs.2 p.1 ?_).trans e,n,ne,nf,d⟩;intro q;rw[q,hoc] at e;have q':oc=p.2:=Ow e;exact d w' (by rw[<-q'];exact hocd)
theorem dk{M:Model}{A:Around}{E:Value->Shared->Prop}{i:Nat}{x:Str}{v:V}{u:Value}{Q:Unit->Shared->Prop}(I:Inv X pins σ H s)(hN:X.N.Nodup)(hi:X.N[i]? = some x)(hx:ml X.env.scope x)(r:RelV v u)
  (h:∀s',Inv X pins (σ.set i (some v)) H s'->Q () s') (hf:X.fn x=true\/X.env.scope.names.lookup x=some .local:=by first|exact .inl rfl|exact .inr rfl|assumption):wpAny M A (storeName X.env x u) Q E s:=
 gk I hN hi hx r (λs' I' _=>h s' I') hf
theorem Inv.call'{s':Shared}{ch:List Addr}(I:Inv X pins σ H s)(ho:s'.os=s.os)(u:Un (cu X.stack) ch H H' s.heap s'.heap)(hok:HOk X.prog X.w H' s'.heap)(hg:AllBare s'.gens)
  (hch:∀b∈ch,(b∈X.ex\/X.s₀.heap.objs.size<=b)/\b≠X.env.locals/\(∀x c,X.env.cells.lookup x=some c->c≠b)/\∀p∈X.pn++pins,p.1≠b):Inv X pins σ H' s':=by
 obtain⟨h',g',d',t',o'⟩:=s';have e:o'=s.os:=ho;subst e;exact I.call (g':=g') (t':=t') (d':=d') u hok hg hch
end
abbrev XK:=Value->Option Addr->Hp->Prop
abbrev St:=List (Option V)
abbrev VK:=V->Hp->Prop
abbrev TE:=St->Hp->VK->Prop
abbrev TT:=St->Hp->(Bool->Hp->Prop)->Prop
abbrev TA:=St->Hp->(List V->Hp->Prop)->Prop
structure k9 where
 nx:St->Hp->Prop
 rt:VK
 bk:St->Hp->Prop:=λ_ _=>False
 ct:St->Hp->Prop:=λ_ _=>False
abbrev TS:=k9->St->Hp->Prop
def EP(X:Cx)(pins:List (Addr×Obj))(σ:St)(Q:VK)(u:Value)(s':Shared):Prop:=∃v H',Inv X pins σ H' s'/\RelV v u/\Q v H'
def TP(X:Cx)(pins:List (Addr×Obj))(σ:St)(Q:Bool->Hp->Prop)(b:Bool)(s':Shared):Prop:=∃H',Inv X pins σ H' s'/\Q b H'
def AP(X:Cx)(pins:List (Addr×Obj))(σ:St)(Q:List V->Hp->Prop)(us:List Value)(s':Shared):Prop:=∃vs H',Inv X pins σ H' s'/\Vals vs us/\Q vs H'
def SP(X:Cx)(pins:List (Addr×Obj))(D:k9)(f:Flow)(s':Shared):Prop:=
 match f with
 |.next=>∃σ' H',Inv X pins σ' H' s'/\D.nx σ' H'
 |.brk=>∃σ' H',Inv X pins σ' H' s'/\D.bk σ' H'
 |.cont=>∃σ' H',Inv X pins σ' H' s'/\D.ct σ' H'
 |.ret u=>∃v σ' H',Inv X pins σ' H' s'/\RelV v u/\D.rt v H'
def PE(X:Cx)(e:Expr)(t:TE):Prop:=
 ∀(pins:List (Addr×Obj)) (s:Shared) (σ:St) (H:Hp) (Q:VK),Inv X pins σ H s->t σ H Q->wpAny (model X.prog X.w) X.A (eval e X.env) (EP X pins σ Q) X.xe s
def PT(X:Cx)(e:Expr)(t:TT):Prop:=
 ∀(pins:List (Addr×Obj)) (s:Shared) (σ:St) (H:Hp) (Q:Bool->Hp->Prop),Inv X pins σ H s->t σ H Q->wpAny (model X.prog X.w) X.A (isTrue e X.env (eval e X.env)) (TP X pins σ Q) X.xe s
def PW(X:Cx)(e:Expr)(t:TT):Prop:=
 ∀(whole:Sem Value) (pins:List (Addr×Obj)) (s:Shared) (σ:St) (H:Hp) (Q:Bool->Hp->Prop),Inv X pins σ H s->t σ H Q->wpAny (model X.prog X.w) X.A (isTrue e X.env whole) (TP X pins σ Q) X.xe s
theorem PW.pt{X:Cx}{e:Expr}{t:TT}(h:PW X e t):PT X e t:=h _
def PA(X:Cx)(es:List Expr)(t:TA):Prop:=
 ∀(pos:Pos) (pins:List (Addr×Obj)) (s:Shared) (σ:St) (H:Hp) (Q:List V->Hp->Prop),Inv X pins σ H s->t σ H Q->wpAny (model X.prog X.w) X.A (spliced (backTo pos (starEach es X.env))) (AP X pins σ Q) X.xe s
def PS(X:Cx)(st:Stmt)(t:TS):Prop:=
 ∀(pins:List (Addr×Obj)) (s:Shared) (σ:St) (H:Hp) (D:k9),Inv X pins σ H s->t D σ H->wpAny (model X.prog X.w) X.A (exec st X.env) (SP X pins D) X.xe s
def PSs(X:Cx)(st:List Stmt)(t:TS):Prop:=
 ∀(pins:List (Addr×Obj)) (s:Shared) (σ:St) (H:Hp) (D:k9),Inv X pins σ H s->t D σ H->wpAny (model X.prog X.w) X.A (execs st X.env) (SP X pins D) X.xe s
theorem aI{α:Type}{t:Sem α}{Q Q':α->Shared->Prop}{M:Model}{A:Around}{E:Value->Shared->Prop}{s:Shared}(h:wpAny M A t Q E s)(hQ:∀a s,Q a s->Q' a s):wpAny M A t Q' E s:=Ov h hQ λ_ _ x=>x
section
variable{X:Cx}
theorem Og{a b:Expr}{ta tb:TE}(ha:PE X a ta)(hb:PE X b tb){pins:List (Addr×Obj)}{s:Shared}{σ:St}{H:Hp}{R:V->V->Hp->Prop}(I:Inv X pins σ H s)(h:ta σ H λx H1=>tb σ H1 λy H2=>R x y H2)
  {α:Type} {Q:α->Shared->Prop} {f:Value->Value->Sem α}
  (hf:∀v u s2 x y H2,Inv X pins σ H2 s2->RelV x v->RelV y u->R x y H2->wpAny (model X.prog X.w) X.A (f v u) Q X.xe s2) :
  wpAny (model X.prog X.w) X.A (eval a X.env) (λv s₁=>wpAny (model X.prog X.w) X.A (eval b X.env) (λu s₂=>wpAny (model X.prog X.w) X.A (f v u) Q X.xe s₂) X.xe s₁) X.xe s:=by
 refine aI (ha pins s σ H _ I h) λv s1 ⟨x,H1,I1,r1,q1⟩=>?_;refine aI (hb pins s1 σ H1 _ I1 q1) λu s2 ⟨y,H2,I2,r2,q2⟩=>?_;exact hf v u s2 x y H2 I2 r1 r2 q2
def qt(i:Nat):TE:=λσ H Q=>∃v,σ[i]? = some (some v)/\Q v H
def tC(v:V):TE:=λ_ H Q=>Q v H
theorem ei{i:Nat}{x:Str}{pos:Pos}(hN:X.N[i]? = some x)(hv:nC X.env.scope x)(hd:(x==("__debug__" : Str))=false:=by decide)(hcd:(x==("__classdict__" : Str))=false:=by decide):PE X (.Name x pos) (qt i):=by
 intro pins s σ H Q I h;obtain⟨v,e,h⟩:=h;obtain⟨m,hn,hl⟩:=I.loc;obtain⟨u,r,l⟩:=hl i x v hN e hv;have fin:EP X pins σ Q u s:=⟨v,H,I,r,h⟩
 rcases l with⟨hk,hm⟩|⟨hk,c,hc,hcell⟩
 .exact wpAny_Name (wpAny_loadName_local I.ok.kind hk hn hm fin) hd
 .rcases hk with hk|hk
  .exact wpAny_Name (wpAny_loadName_cell I.ok.kind hk hc hcell fin) hd
  .exact wpAny_Name (wpAny_loadName_free I.ok.kind hk hc hcell fin hcd) hd
theorem jT{i j pos}:PE X (.Constant (.int i) j pos) (tC (.int i)):=λ_ _ _ H _ I h=>wpAny_Constant_int ⟨.int i,H,I.tok _,⟨_,rfl⟩,h⟩
theorem t6{b j pos}:PE X (.Constant (.bool b) j pos) (tC (.bl b)):=λ_ _ _ H _ I h=>Constant_bool ⟨.bl b,H,I,rfl,h⟩
theorem qu{j pos}:PE X (.Constant .none j pos) (tC .non):=λ_ _ _ H _ I h=>Constant_none ⟨.non,H,I,rfl,h⟩
def Gl(X:Cx)(x:Str):Prop:=X.env.kindOf x=some .globalImplicit
theorem eX{E:Value->Shared->Prop}{pins:List (Addr×Obj)}{s:Shared}{σ:St}{H:Hp}{x:Str}{u:Value}{pos:Pos}{Q:Value->Shared->Prop}(I:Inv X pins σ H s)(hg:Gl X x)(hm:X.mg x=some u)(h:Q u s)
  (hd:(x==("__debug__" : Str))=false:=by decide):wpAny (model X.prog X.w) X.A (eval (.Name x pos) X.env) Q E s:=
 Calls.Name_function_global I.ok.kind hg (Calls.loadGlobal_global (by rw[I.ok.glob];exact I.mod.glob.keeps I.bk) hm h) hd
theorem dm{E:Value->Shared->Prop}{pins:List (Addr×Obj)}{s:Shared}{σ:St}{H:Hp}{x:Str}{u:Value}{pos:Pos}{Q:Value->Shared->Prop}(I:Inv X pins σ H s)(hg:Gl X x)(hm:X.mg x=none)(hv:bootBuiltins x=some u)(h:Q u s)
  (hn:x≠ "__name__" :=by decide) (hd:(x==("__debug__" : Str))=false:=by decide):wpAny (model X.prog X.w) X.A (eval (.Name x pos) X.env) Q E s:=by
 obtain⟨mb,h1,h2⟩:=I.mod.blt;exact Calls.Name_function_global I.ok.kind hg (Calls.loadGlobal_builtin (by rw[I.ok.glob];exact I.mod.glob.keeps I.bk) hm (by rw[I.ok.blt];exact h1.keeps I.bk) ((h2 x hn).trans hv) h) hd
theorem nU{x:Str}{v:V}{u:Value}{pos:Pos}(hg:Gl X x)(hm:X.mg x=some u)(r:RelV v u)(hd:(x==("__debug__" : Str))=false:=by decide):PE X (.Name x pos) (tC v):=
 λ_ _ _ H _ I h=>eX I hg hm ⟨v,H,I,r,h⟩ hd
theorem nV{x:Str}{v:V}{u:Value}{pos:Pos}(hg:Gl X x)(hm:X.mg x=none)(hv:bootBuiltins x=some u)(r:RelV v u)(hn:x≠ "__name__" :=by decide)(hd:(x==("__debug__" : Str))=false:=by decide):PE X (.Name x pos) (tC v):=
 λ_ _ _ H _ I h=>dm I hg hm hv ⟨v,H,I,r,h⟩ hn hd
variable{a b:Expr}{ta tb:TE}{pos:Pos}
variable{tA tB':TT}{rest:List Expr}
def Hx(t u:TT):TT:=λσ H Q=>t σ H λc H1=>if c=true then Q true H1 else u σ H1 Q
def zW(t:TT):TT:=λσ H Q=>t σ H λc H1=>Q (!c) H1
theorem nW(ha:PT X a tA):PW X (.BoolOp .And [a] pos) tA:=by
 intro wh pins s σ H Q I h;refine isTrue_and (aI (ha pins s σ H Q I h) λc s1 e=>?_);cases c with
 |true=>exact isTrue_and_nil e
 |false=>exact e
theorem qv(ha:PT X a tA):PW X (.BoolOp .Or [a] pos) tA:=by
 intro wh pins s σ H Q I h;refine isTrue_or (aI (ha pins s σ H Q I h) λc s1 e=>?_);cases c with
 |false=>exact isTrue_or_nil e
 |true=>exact e
theorem t7(ha:PT X a tA)(hb:PW X (.BoolOp .Or (b::rest) pos) tB'):PW X (.BoolOp .Or (a::b::rest) pos) (Hx tA tB'):=by
 intro wh pins s σ H Q I h;refine isTrue_or (aI (ha pins s σ H _ I h) λc s1 ⟨H1,I1,q1⟩=>?_);cases c with
 |true=>exact⟨H1,I1,q1⟩
 |false=>exact hb wh pins s1 σ H1 Q I1 q1
theorem qw(ha:PT X a tA):PT X (.UnaryOp .Not a pos) (zW tA):=by
 intro pins s σ H Q I h;exact isTrue_not (ha pins s σ H (λc H1=>Q (!c) H1) I h)
def t8(ta tb:TE):TE:=λσ H Q=>ta σ H λx H1=>∃c,x=.bl c/\if c=true then tb σ H1 Q else Q (.bl false) H1
def t9(ta:TE):TE:=λσ H Q=>ta σ H λx H1=>∃c,x=.bl c/\Q (.bl (!c)) H1
theorem qx{op}{t:TE}(h:PE X a t):PE X (.BoolOp op [a] pos) t:=λpins s σ H Q I hw=>BoolOp_one (h pins s σ H Q I hw)
theorem qy(ha:PE X a ta)(hb:PE X (.BoolOp .And (b::rest) pos) tb):PE X (.BoolOp .And (a::b::rest) pos) (t8 ta tb):=by
 intro pins s σ H Q I h;refine BoolOp_and (aI (ha pins s σ H _ I h) λv s1 ⟨x,H1,I1,r1,q1⟩=>?_);obtain⟨c,rfl,q1⟩:=q1;cases r1;refine OH ?_;cases c with
 |true=>exact hb pins s1 σ H1 Q I1 q1
 |false=>exact⟨.bl false,H1,I1,rfl,q1⟩
theorem qA(ha:PE X a ta):PE X (.UnaryOp .Not a pos) (t9 ta):=by
 intro pins s σ H Q I h;refine UnaryOp_ (aI (ha pins s σ H _ I h) λv s1 ⟨x,H1,I1,r1,q1⟩=>?_);obtain⟨c,rfl,q1⟩:=q1;cases r1;exact not_of (OH ⟨.bl (!c),H1,I1,rfl,q1⟩)
def Hy(t:TT)(ta tb:TE):TE:=λσ H Q=>t σ H λc H1=>if c=true then ta σ H1 Q else tb σ H1 Q
theorem mm{c:Expr}(hc:PT X c tA)(ha:PE X a ta)(hb:PE X b tb):PE X (.IfExp c a b pos) (Hy tA ta tb):=by
 intro pins s σ H Q I h;refine wpAny_IfExp (aI (hc pins s σ H _ I h) λd s1 ⟨H1,I1,q1⟩=>?_);cases d with
 |true=>exact ha pins s1 σ H1 Q I1 q1
 |false=>exact hb pins s1 σ H1 Q I1 q1
end
def SqL(K:Oq)(H:Hp)(a:Addr)(xs:List V):Prop:=
 Rd H a (.lst xs)\/
  ∃(o:Obj) (its:Array Value) (n:Nat),K.lookup a=some o/\o.cls=.type "list" /\o.dict=none/\o.data=.seq its n/\its.size<=sizeLine/\Vals xs its.toList
def SqT(K:Oq)(H:Hp)(a:Addr)(xs:List V):Prop:=
 Rd H a (.tup xs)\/
  ∃(o:Obj) (its:Array Value) (n:Nat),K.lookup a=some o/\o.cls=.type "tuple" /\o.data=.seq its n/\its.size<=sizeLine/\Vals xs its.toList
def zX:Value->Option V
 |.none=>some .non
 |.bool b=>some (.bl b)
 |.int i _=>some (.int i)
 |.str x _=>some (.str x)
 |.bytes b _=>some (.byt b)
 |.float b _=>some (.flt b)
 |.ref a=>some (.ref a)
 |.type n=>some (.ty n)
 |_=>none
theorem RelV.abs{x:V}{u:Value}(r:RelV x u):zX u=some x:=by
 cases x with
 |non=>cases r;rfl
 |bl _=>cases r;rfl
 |int _=>obtain⟨t,rfl⟩:=r;rfl
 |str _=>obtain⟨t,rfl⟩:=r;rfl
 |byt _=>obtain⟨t,rfl⟩:=r;rfl
 |flt _=>obtain⟨t,rfl⟩:=r;rfl
 |ref _=>cases r;rfl
 |ty _=>cases r;rfl
theorem RelV.inj{x y:V}{u:Value}(r:RelV x u)(q:RelV y u):x=y:=Ow (r.abs.symm.trans q.abs)
theorem Vals.inj:∀{xs ys:List V} {us:List Value},Vals xs us->Vals ys us->xs=ys
 |_,_,_,.nil,.nil=>rfl
 |_,_,_,.cons r t,.cons r' t'=>by rw[r.inj r',Vals.inj t t']
variable {X:Cx}{pins:List (Addr×Obj)}{σ:St}{H:Hp}{s:Shared}{a:Addr}{xs ys:List V}
theorem SqL.of{K:Oq}(h:H a=some (.lst xs)):SqL K H a xs:=.inl (.inl h)
theorem SqT.of{K:Oq}(h:H a=some (.tup xs)):SqT K H a xs:=.inl (.inl h)
theorem Inv.list(I:Inv X pins σ H s)(h:SqL X.K H a xs):∃its:List Value,Vals xs its/\PlainL s.heap a its.toArray/\xs.length<=sizeLine:=by
 rcases h with h|⟨o,its,n,hk,hc,hd,hs,hz,r⟩
 .obtain⟨z,its,n,r,e⟩:=h.ok I.hok
  exact⟨its,r,⟨_,n,e,rfl,rfl,rfl⟩,z⟩
 .refine⟨its.toList,r,⟨o,n,I.kIn a o hk,hc,hd,by simpa using hs⟩,?_⟩
  have e:=r.length;simp only[za] at e;omega
theorem Inv.tuple(I:Inv X pins σ H s)(h:SqT X.K H a xs):∃its:List Value,Vals xs its/\IsTup s.heap a its.toArray/\xs.length<=sizeLine:=by
 rcases h with h|⟨o,its,n,hk,hc,hs,hz,r⟩
 .obtain⟨z,its,r,p⟩:=h.ok I.hok
  exact⟨its,r,p,z⟩
 .refine⟨its.toList,r,⟨o,I.kIn a o hk,hc,n,by simpa using hs⟩,?_⟩
  have e:=r.length;simp only[za] at e;omega
theorem Inv.list_inj(I:Inv X pins σ H s)(h:SqL X.K H a xs)(h':SqL X.K H a ys):xs=ys:=by
 obtain⟨its,r,⟨o,n,e,_,_,d⟩,_⟩:=I.list h;obtain⟨its',r',⟨o',n',e',_,_,d'⟩,_⟩:=I.list h';rw[e] at e';cases e';rw[d] at d';injection d' with d1 _
 have:its=its':=by simpa using congrArg Array.toList d1
 subst this;exact r.inj r'
theorem Inv.tuple_inj(I:Inv X pins σ H s)(h:SqT X.K H a xs)(h':SqT X.K H a ys):xs=ys:=by
 obtain⟨its,r,⟨o,e,_,n,d⟩,_⟩:=I.tuple h;obtain⟨its',r',⟨o',e',_,n',d'⟩,_⟩:=I.tuple h';rw[e] at e';cases e';rw[d] at d';injection d' with d1 _
 have:its=its':=by simpa using congrArg Array.toList d1
 subst this;exact r.inj r'
abbrev Cx.wish(X:Cx)(E:Value->Shared->Prop):Cx:={ X with xe:=E }
abbrev Cx.nox(X:Cx):Cx:=X.wish λ_ _=>False
theorem Cx.Ok.wish{X:Cx}(ok:X.Ok)(E:Value->Shared->Prop):(X.wish E).Ok:=
 ⟨ok.mod,ok.kind,ok.glob,ok.blt,ok.above,ok.inj,ok.has,ok.cab,ok.hd,ok.frames,ok.stk,ok.exf,ok.bs,ok.bsz,ok.noex,ok.exfs,ok.funs,ok.frf,ok.sys0⟩
theorem Cx.Ok.unwish{X:Cx}{E:Value->Shared->Prop}(ok:(X.wish E).Ok):X.Ok:=
 ⟨ok.mod,ok.kind,ok.glob,ok.blt,ok.above,ok.inj,ok.has,ok.cab,ok.hd,ok.frames,ok.stk,ok.exf,ok.bs,ok.bsz,ok.noex,ok.exfs,ok.funs,ok.frf,ok.sys0⟩
variable {E:Value->Shared->Prop}
theorem Inv.wish(I:Inv X pins σ H s)(E:Value->Shared->Prop):Inv (X.wish E) pins σ H s:=⟨I.ok.wish E,I.os,I.bare,I.base,I.loc,I.cell,I.free,I.freeC,I.pin,I.hok,I.len⟩
theorem Inv.unwish(I:Inv (X.wish E) pins σ H s):Inv X pins σ H s:=⟨I.ok.unwish,I.os,I.bare,I.base,I.loc,I.cell,I.free,I.freeC,I.pin,I.hok,I.len⟩
theorem SP.unwish{D:k9}{f:Flow}{s':Shared}(h:SP (X.wish E) pins D f s'):SP X pins D f s':=by
 cases f with
 |next=>obtain⟨σ',H',I,q⟩:=h;exact⟨σ',H',I.unwish,q⟩
 |brk=>obtain⟨σ',H',I,q⟩:=h;exact⟨σ',H',I.unwish,q⟩
 |cont=>obtain⟨σ',H',I,q⟩:=h;exact⟨σ',H',I.unwish,q⟩
 |ret u=>obtain⟨v,σ',H',I,r,q⟩:=h;exact⟨v,σ',H',I.unwish,r,q⟩
theorem PE.nox{e:Expr}{t:TE}(h:PE X.nox e t):PE X e t:=λpins s σ H Q I hw=>
 Ov (h pins s σ H Q (I.wish _) hw) (λ_ _ ⟨v,H',I',r,q⟩=>⟨v,H',I'.unwish,r,q⟩) λ_ _ z=>OE z
theorem PT.nox{e:Expr}{t:TT}(h:PT X.nox e t):PT X e t:=λpins s σ H Q I hw=>
 Ov (h pins s σ H Q (I.wish _) hw) (λ_ _ ⟨H',I',q⟩=>⟨H',I'.unwish,q⟩) λ_ _ z=>OE z
theorem PSs.nox{st:List Stmt}{t:TS}(h:PSs X.nox st t):PSs X st t:=λpins s σ H D I hw=>
 Ov (h pins s σ H D (I.wish _) hw) (λ_ _ q=>q.unwish) λ_ _ z=>OE z
section
variable{X:Cx}{st:Stmt}{rest:List Stmt}{t u:TS}{e:Expr}{te:TE}{pos:Pos}
def ua:TS:=λD σ H=>D.nx σ H
def zY(t u:TS):TS:=λD σ H=>t { D with nx:=u D } σ H
theorem nX:PSs X [] ua:=λ_ _ σ H _ I h=>OV ⟨σ,H,I,h⟩
theorem mn(h1:PS X st t)(h2:PSs X rest u):PSs X (st::rest) (zY t u):=by
 intro pins s σ H D I h;refine wpAny_execs_cons (aI (h1 pins s σ H { D with nx:=u D } I h) λf s1 q=>?_);cases f with
 |next=>
  obtain⟨σ',H',I',q⟩:=q;exact h2 pins s1 σ' H' D I' q
 |ret v=>exact q
 |brk=>exact q
 |cont=>exact q
theorem kF(h1:PS X st t):PSs X [st] t:=by
 intro pins s σ H D I h;refine wpAny_execs_cons (aI (h1 pins s σ H D I h) λf s1 q=>?_);cases f with
 |next=>exact OV q
 |ret v=>exact q
 |brk=>exact q
 |cont=>exact q
theorem Inv.quiet{pins:List (Addr×Obj)}{σ:St}{H:Hp}{s:Shared}(I:Inv X pins σ H s):interactive X.env=false:=by simp[interactive,I.ok.kind]
def ub(te:TE):TS:=λD σ H=>te σ H λ_ H1=>D.nx σ H1
theorem kG(he:PE X e te)(hs:swapsWith e none pos.line X.env=pure false:=by rfl):PS X (.Expr e pos) (ub te):=by
 intro pins s σ H D I h;exact wpAny_Expr_any (aI (he pins s σ H _ I h) λv s1 ⟨x,H1,I1,r1,q1⟩=>⟨σ,H1,I1,q1⟩) I.quiet hs
def zZ(te:TE):TS:=λD σ H=>te σ H D.rt
theorem qB(he:PE X e te):PS X (.Return (some e) pos) (zZ te):=by
 intro pins s σ H D I h;exact wpAny_Return_some (aI (he pins s σ H _ I h) λv s1 ⟨x,H1,I1,r1,q1⟩=>⟨x,σ,H1,I1,r1,q1⟩)
def z5(c:TT)(t u:TS):TS:=λD σ H=>c σ H λb H1=>if b=true then t D σ H1 else u D σ H1
theorem uc{c:Expr}{a b:List Stmt}{tc:TT}(hc:PT X c tc)(ha:PSs X a t)(hb:PSs X b u):PS X (.If c a b pos) (z5 tc t u):=by
 intro pins s σ H D I h;refine wpAny_If (aI (hc pins s σ H _ I h) λd s1 ⟨H1,I1,q1⟩=>?_);cases d with
 |true=>exact ha pins s1 σ H1 D I1 q1
 |false=>exact hb pins s1 σ H1 D I1 q1
end
abbrev TG:=V->St->Hp->(St->Hp->Prop)->Prop
abbrev qC:=List V->St->Hp->(St->Hp->Prop)->Prop
def PG(X:Cx)(target:Expr)(t:TG):Prop:=
 ∀(pins:List (Addr×Obj)) (s:Shared) (σ:St) (H:Hp) (v:V) (u:Value) (Q:St->Hp->Prop),Inv X pins σ H s->RelV v u->t v σ H Q->
  wpAny (model X.prog X.w) X.A (assign target X.env u) (λ_ s'=>∃σ' H',Inv X pins σ' H' s'/\Q σ' H') X.xe s
def ud(X:Cx)(ts:List Expr)(t:qC):Prop:=
 ∀(pins:List (Addr×Obj)) (s:Shared) (σ:St) (H:Hp) (vs:List V) (us:List Value) (Q:St->Hp->Prop),Inv X pins σ H s->Vals vs us->t vs σ H Q->
  wpAny (model X.prog X.w) X.A (assignInOrder ((assignEach ts X.env).map (·.2)) us) (λ_ s'=>∃σ' H',Inv X pins σ' H' s'/\Q σ' H') X.xe s
abbrev qD:=V->V->V->Hp->(Hp->Prop)->Prop
def ue(X:Cx)(t:qD):Prop:=
 ∀(pins:List (Addr×Obj)) (s:Shared) (σ:St) (H:Hp) (o i v:V) (ov iv u:Value) (Q:Hp->Prop),Inv X pins σ H s->RelV o ov->RelV i iv->RelV v u->t o i v H Q->
  wpAny (model X.prog X.w) X.A (setItem ov iv u) (λ_ s'=>∃H',Inv X pins σ H' s'/\Q H') X.xe s
abbrev w6:=V->V->Hp->VK->Prop
def Du(X:Cx)(op:Operator)(t:w6):Prop:=
 ∀(pins:List (Addr×Obj)) (s:Shared) (σ:St) (H:Hp) (x y:V) (v u:Value) (Q:VK),Inv X pins σ H s->RelV x v->RelV y u->t x y H Q->
  wpAny (model X.prog X.w) X.A (inplaceOp op v u) (EP X pins σ Q) X.xe s
variable {pos:Pos}
def kH(i:Nat):TG:=λv σ H Q=>Q (σ.set i (some v)) H
theorem nY{i:Nat}{x:Str}(hN:X.N.Nodup)(hi:X.N[i]? = some x)(hx:ml X.env.scope x)(hf:X.fn x=true\/X.env.scope.names.lookup x=some .local:=by first|exact .inl rfl|exact .inr rfl|assumption):PG X (.Name x pos) (kH i):=by
 intro pins s σ H v u Q I r h;exact wpAny_assign_Name (dk I hN hi hx r (λs' I'=>⟨_,H,I',h⟩) hf)
def z6:qC:=λvs σ H Q=>vs=[]/\Q σ H
def uf(t:TG)(u:qC):qC:=λvs σ H Q=>∃v r,vs=v::r/\t v σ H λσ' H'=>u r σ' H' Q
theorem nZ:ud X [] z6:=by
 intro pins s σ H vs us Q I r h;obtain⟨e,h⟩:=h;subst e;cases r;exact assignInOrder_nil ⟨σ,H,I,h⟩
theorem mo{e:Expr}{es:List Expr}{t:TG}{u:qC}(h1:PG X e t)(h2:ud X es u)
  (hs:(assignEach (e::es) X.env).map (·.2)=assign e X.env::(assignEach es X.env).map (·.2):=by rfl):ud X (e::es) (uf t u):=by
 intro pins s σ H vs us Q I r h;obtain⟨v,vr,e1,h⟩:=h;subst e1;cases r with
 |cons r rr=>
  rw[hs];refine assignInOrder_cons (aI (h1 pins s σ H _ _ _ I r h) λ_ s1 ⟨σ1,H1,I1,q1⟩=>?_);exact h2 pins s1 σ1 H1 _ _ Q I1 rr q1
def z7(K:Oq)(n:Nat)(t:qC):TG:=λv σ H Q=>∃a xs,v=.ref a/\SqT K H a xs/\xs.length=n/\t xs σ H Q
theorem qE{es:List Expr}{k:Nat}{t:qC}{n:Nat}(hc:X.calm=true)(h:ud X es t)
  (hn:(assignEach es X.env).length=n:=by rfl) (hst:(assignEach es X.env).findIdx? (·.1)=none:=by rfl):PG X (.Tuple es k pos) (z7 X.K n t):=by
 intro pins s σ H v u Q I r hw;obtain⟨a,xs,e1,hq,hl,hw⟩:=hw;subst e1;cases r;obtain⟨its,rv,ht,hz⟩:=I.tuple hq;refine assign_Tuple_tuple (I.ok.hd hc) ht (by simp[hn,<-hl,rv.length]) hst λh' hx=>?_;have I1:Inv X pins σ H { s with heap:=h' }:=I.kept (t':=s.toks) λb o e=>hx b o (eJ (bX e)) e;exact h pins _ σ H xs _ Q I1 (by simpa using rv) hw
def z8(to ti:TE)(t:qD):TG:=λv σ H Q=>to σ H λo H1=>ti σ H1 λi H2=>t o i v H2 λH3=>Q σ H3
theorem mq{o i:Expr}{to ti:TE}{t:qD}(ho:PE X o to)(hi:PE X i ti)(hs:ue X t)
  (ha:∀ v,assign (.Subscript o i pos) X.env v=(do
   let ov <-holding [v] (eval o X.env)
   let iv <-holding [v,ov] (eval i X.env)
   standAt pos
   holding [v,ov,iv] (setItem ov iv v)
   release [v,ov,iv] []):=by intro _;rfl):PG X (.Subscript o i pos) (z8 to ti t):=by
 intro pins s σ H v u Q I r h;rw[ha];refine Op (OF (aI (ho pins s σ H _ I h) λov s1 ⟨x,H1,I1,r1,q1⟩=>?_));refine Op (OF (aI (hi pins s1 σ H1 _ I1 q1) λiv s2 ⟨y,H2,I2,r2,q2⟩=>?_));refine Op (OB (Op (OF (aI (hs pins s2 σ H2 x y v ov iv u _ I2 r1 r2 r q2) λ_ s3 ⟨H3,I3,q3⟩=>?_))));exact wpAny_release ⟨σ,H3,I3,q3⟩
def qF(te:TE)(g:TG):TS:=λD σ H=>te σ H λx H1=>g x σ H1 D.nx
theorem jU{tg e:Expr}{te:TE}{g:TG}(he:PE X e te)(hg:PG X tg g)(hs:swapsWithSole [tg] e pos.line X.env=pure false:=by rfl)(hw:swappedStores [tg] e X.env=pure none:=by rfl)
  (h1:(assignEach [tg] X.env).map (·.2)=[assign tg X.env]:=by rfl):PS X (.Assign [tg] e pos) (qF te g):=by
 intro pins s σ H D I h;refine wpAny_Assign_stores (aI (he pins s σ H _ I h) λv s1 ⟨x,H1,I1,r1,q1⟩=>?_) hs hw;rw[h1];exact aI (hg pins s1 σ H1 x v _ I1 r1 q1) λ_ s2 q=>q
theorem gI{i:Nat}{x:Str}{e:Expr}{te:TE}{pos':Pos}(hN:X.N.Nodup)(hi:X.N[i]? = some x)(hx:ml X.env.scope x)(he:PE X e te)(hs:swapsWith e (some (.Name x pos')) pos.line X.env=pure false:=by rfl)(hf:X.fn x=true\/X.env.scope.names.lookup x=some .local:=by first|exact .inl rfl|exact .inr rfl|assumption) :
  PS X (.Assign [.Name x pos'] e pos) (qF te (kH i)):=by
 intro pins s σ H D I h;refine wpAny_Assign_Name (aI (he pins s σ H _ I h) λv s1 ⟨y,H1,I1,r1,q1⟩=>?_) hs;exact dk I1 hN hi hx r1 (λs2 I2=>⟨_,H1,I2,q1⟩) hf
def z9(i j:Nat)(ta:TA):TS:=λD σ H=>ta σ H λvs H1=>∃v w,vs=[v,w]/\D.nx ((σ.set i (some v)).set j (some w)) H1
theorem qG{i j:Nat}{x y:Str}{a b:Expr}{ta:TA}{px py pt:Pos}{kt k2 pt2}(hc:X.calm=true)(hN:X.N.Nodup)(hi:X.N[i]? = some x)(hj:X.N[j]? = some y)(hij:i≠j)
  (hx:X.env.scope.names.lookup x=some .local) (hy:X.env.scope.names.lookup y=some .local) (ha:PA X [a,b] ta)
  (hw:swappedStores [.Tuple [.Name x px,.Name y py] kt pt] (.Tuple [a,b] k2 pt2) X.env=pure (some [x,y]))
  (hs:swapsWithSole [.Tuple [.Name x px,.Name y py] kt pt] (.Tuple [a,b] k2 pt2) pos.line X.env=pure false:=by rfl) :
  PS X (.Assign [.Tuple [.Name x px,.Name y py] kt pt] (.Tuple [a,b] k2 pt2) pos) (z9 i j ta):=by
 intro pins s σ H D I h;rw[exec_Assign_arm];refine Op (OB ?_);rw[hs];refine Op (Os ?_);rw[if_neg (by decide)];refine Op (Tuple_ (aI (ha _ pins s σ H _ I h) λus s1 ⟨vs,H1,I1,r1,q1⟩=>?_));obtain⟨v,w,e1,q1⟩:=q1;subst e1;obtain⟨u1,u2,rfl,rv,rw'⟩:∃u1 u2,us=[u1,u2]/\RelV v u1/\RelV w u2:=by
  cases r1 with
  |cons p q=>
   cases q with
   |cons p' q'=>
    cases q';exact⟨_,_,rfl,p,p'⟩
 refine OA ?_ (by show 2<=sizeLine;decide);have I2:Inv X pins σ H1 { s1 with heap:=s1.heap.push { cls:=.type "tuple",data:=.seq [u1,u2].toArray } }:=I1.kept (t':=s1.toks) λb o e=>bZ _ e;rw[hw];refine Op (Os ?_);show wpAny (model X.prog X.w) X.A (do rule "assign.swapped-stores";let items <-unpackItems (.ref s1.heap.objs.size) 2 none;assignInOrder [λv=>bindName X.env y v,λv=>bindName X.env x v] items.reverse;pure Flow.next) _ _ _;refine Op (OO (Op (unpackItems_tuple (items:=#[u1,u2]) (I.ok.hd hc) (IsTup.new s1.heap _) λh' hx'=>?_)));have I3:=I2.kept (h':=h') (t':=s1.toks) λb o e=>hx' b o (eJ (bX e)) e;show wpAny _ _ (assignInOrder [λv=>bindName X.env y v,λv=>bindName X.env x v] [u2,u1] >>= λ_=>pure Flow.next) _ _ _;refine Op (assignInOrder_cons (wpAny_bindName (dk I3 hN hj (.inl hy) rw' (λs2 I4=>?_) (.inr hy))));refine assignInOrder_cons (wpAny_bindName (dk I4 hN hi (.inl hx) rv (λs3 I5=>assignInOrder_nil (Os ?_)) (.inr hx)));rw[List.set_comm _ _ (Oy hij)] at I5;exact⟨_,H1,I5,q1⟩
def Aa(i:Nat)(te:TE)(ti:w6):TS:=λD σ H=>∃x,σ[i]? = some (some x)/\te σ H λy H1=>ti x y H1 λz H2=>D.nx (σ.set i (some z)) H2
theorem qH{i:Nat}{x:Str}{e:Expr}{te:TE}{op:Operator}{ti:w6}{pos':Pos}(hN:X.N.Nodup)(hi:X.N[i]? = some x)(hx:ml X.env.scope x)(he:PE X e te)(ho:Du X op ti)(hf:X.fn x=true\/X.env.scope.names.lookup x=some .local:=by first|exact .inl rfl|exact .inr rfl|assumption) :
  PS X (.AugAssign (.Name x pos') op e pos) (Aa i te ti):=by
 intro pins s σ H D I h;obtain⟨v,e1,h⟩:=h;obtain⟨m,hn,hl⟩:=I.loc;have vis:nC X.env.scope x:=by rcases hx with k|k;exact .inl k;exact .inr (.inl k)
 obtain⟨u,r,l⟩:=hl i x v hi e1 vis;refine wpAny_AugAssign_Name ?_;have go:wpAny (model X.prog X.w) X.A (eval e X.env) (λw s₂=>wpAny (model X.prog X.w) X.A (inplaceOp op u w) (λr s₃=>wpAny (model X.prog X.w) X.A (storeName X.env x r) (λ_=>SP X pins D .next) X.xe s₃) X.xe s₂) X.xe s:=by
  refine aI (he pins s σ H _ I h) λw s1 ⟨y,H1,I1,r1,q1⟩=>?_;refine aI (ho pins s1 σ H1 v y u w _ I1 r r1 q1) λz s2 ⟨zv,H2,I2,r2,q2⟩=>?_;exact dk I2 hN hi hx r2 (λs3 I3=>⟨_,H2,I3,q2⟩) hf
 rcases l with⟨hk,hm⟩|⟨hk,c,hc,hcell⟩
 .exact wpAny_loadName_local I.ok.kind hk hn hm go
 .rcases hk with hk|hk
  .exact wpAny_loadName_cell I.ok.kind hk hc hcell go
  .rcases hx with k|k
   .have:X.env.scope.names.lookup x=some .free:=hk
    rw[k] at this;cases this
   .have:X.env.scope.names.lookup x=some .free:=hk
    rw[k] at this;cases this
def Hz(f:Int->Int->Int):w6:=λx y H Q=>∃i j,x=.int i/\y=.int j/\Q (.int (f i j)) H
theorem qI:Du X .Add (Hz λi j=>i+j):=by
 intro pins s σ H x y v u Q I r1 r2 h;obtain⟨i,j,e1,e2,q⟩:=h;subst e1;subst e2;obtain⟨t,rfl⟩:=r1;obtain⟨t',rfl⟩:=r2;exact iadd_int ⟨.int _,H,I.tok _,⟨_,rfl⟩,q⟩
def qJ(c:TT)(tb:TS):TS:=λD σ H=>∃W:Nat->St->Hp->Prop,(∃m,W m σ H)/\∀m σ H,W m σ H->
 c σ H λb H1=>if b=true then∃N:St->Hp->Prop,(∀σ' H',N σ' H'->∃m',m'<m/\W m' σ' H')/\tb { D with nx:=N,ct:=N,bk:=D.nx } σ H1 else D.nx σ H1
theorem mr{c:Expr}{body:List Stmt}{tc:TT}{tb:TS}(hp:PassesOwn (model X.prog X.w) X.A X.env X.xe)(hc:PT X c tc)(hb:PSs X body tb):PS X (.While c body [] pos) (qJ tc tb):=by
 intro pins s σ H D I h;obtain⟨W,⟨m0,w0⟩,turn⟩:=h;refine wpAny_While (codeAny_whileLoop (λn s'=>∃σ' H',Inv X pins σ' H' s'/\W n σ' H') ?_ m0 ⟨σ,H,I,w0⟩);rintro n s1 ⟨σ1,H1,I1,w1⟩;refine ON hp (aI (hc pins s1 σ1 H1 _ I1 (turn n σ1 H1 w1)) λb s2 ⟨H2,I2,q2⟩=>?_);cases b with
 |true=>
  obtain⟨N,hN,q2⟩:=q2;rw[if_pos rfl];refine ON hp (aI (hb pins s2 σ1 H2 _ I2 q2) λf s3 q3=>?_);cases f with
  |next=>
   obtain⟨σ3,H3,I3,n3⟩:=q3;obtain⟨m',hm,w3⟩:=hN σ3 H3 n3;exact⟨m',hm,σ3,H3,I3,w3⟩
  |cont=>
   obtain⟨σ3,H3,I3,n3⟩:=q3;obtain⟨m',hm,w3⟩:=hN σ3 H3 n3;exact⟨m',hm,σ3,H3,I3,w3⟩
  |brk=>exact q3
  |ret v=>exact q3
 |false=>
  rw[if_neg l4];exact OV ⟨σ1,H2,I2,q2⟩
structure It where
 go:Nat->Hp->Prop
 yld:Nat->Hp->V->Hp->Prop
 stop:Nat->Hp->Prop
def cR(X:Cx)(pins:List (Addr×Obj))(H:Hp)(b:Addr):Prop:=
 H b=none/\b≠X.env.locals/\b∉X.fs/\(b∈X.ex\/X.s₀.heap.objs.size<=b)/\(∀x c,X.env.cells.lookup x=some c->c≠b)/\∀p∈X.pn++pins,p.1≠b
theorem Inv.fpOk{X:Cx}{pins:List (Addr×Obj)}{σ:St}{H H':Hp}{s:Shared}{b:Addr}(I:Inv X pins σ H s)(hb:s.heap.objs.size<=b)(hn:H' b=none):cR X pins H' b:=by
 refine⟨hn,wm (cv I.lt hb),I.nofs hb,.inr (gb I.sz hb),λx c e z=>?_,λp hp z=>?_⟩
 .obtain⟨v,q⟩:=I.cell x c e
  exact Ot (cv q.lt (by rw[z];exact hb)) (f9 _)
 .exact Ot (cv (bX (I.pin p hp).1) (by rw[z];exact hb)) (f9 _)
structure fL(P:Program)(w:World)(K:Oq)(tg:Expr)(J:It)(fp:List Addr)(it:Addr)(tn:Nat->Heap->Prop):Prop where
 mem:it∈fp
 obj:∀i h,tn i h->∀b∈fp,∃o,h.get? b=some o/\∀v,o.data≠.cell v
 keep:∀i h h',tn i h->(∀b∈fp,∀o,h.get? b=some o->h'.get? b=some o)->tn i h'
 item:∀(X:Cx),X.prog=P->X.w=w->X.K=K->X.calm=true->∀(i:Nat) (pins:List (Addr×Obj)) (s:Shared) (σ:St) (H:Hp) (E:Value->Shared->Prop),Inv X pins σ H s->(∀b∈fp,cR X pins H b)->tn i s.heap->J.go i H->
  wpAny (model P w) X.A (pyNext (.ref it)) (λr s1=>∃ u,r=some u/\
   wpAny (model P w) X.A (letOwnedTupleGo tg (.ref it) u) (λ_ s2=>∃x H',Inv X pins σ H' s2/\RelV x u/\J.yld i H x H'/\tn (i+1) s2.heap/\∀b∈fp,H' b=none) E s1) E s
 done:∀(X:Cx),X.prog=P->X.w=w->X.K=K->X.calm=true->∀(i:Nat) (pins:List (Addr×Obj)) (s:Shared) (σ:St) (H:Hp) (E:Value->Shared->Prop),Inv X pins σ H s->(∀b∈fp,cR X pins H b)->tn i s.heap->J.stop i H->
  wpAny (model P w) X.A (pyNext (.ref it)) (λr s1=>r=none/\Inv X pins σ H s1) E s
 self:∀(A:Around) (i:Nat) (s:Shared) (Q:Value->Shared->Prop) (E:Value->Shared->Prop),tn i s.heap->Q (.ref it) s->wpAny (model P w) A (pyIter (.ref it)) Q E s
abbrev TI:=St->Hp->(It->Hp->Prop)->Prop
def Dv(X:Cx)(pins:List (Addr×Obj))(σ:St)(tg:Expr)(R:It->Hp->Prop)(itv:Value)(s2:Shared):Prop:=
 ∃(it:Addr) (fp:List Addr) (tn:Nat->Heap->Prop) (J:It) (H':Hp),itv=.ref it/\Inv X pins σ H' s2/\fL X.prog X.w X.K tg J fp it tn/\tn 0 s2.heap/\(∀b∈fp,cR X pins H' b)/\R J H'
def PI(X:Cx)(tg iter:Expr)(wi:TI):Prop:=
 ∀(pins:List (Addr×Obj)) (s:Shared) (σ:St) (H:Hp) (R:It->Hp->Prop),Inv X pins σ H s->wi σ H R->
  wpAny (model X.prog X.w) X.A (eval iter X.env) (λv s1=>wpAny (model X.prog X.w) X.A (pyIter v) (Dv X pins σ tg R) X.xe s1) X.xe s
theorem ms{M:Model}{A:Around}{E:Value->Shared->Prop}{s:Shared}{tg:Expr}{it:Addr}{u:Value}{o:Obj}{n:String}{vs:Array Value}{Q:Unit->Shared->Prop}(ho:s.heap.get? it=some o)(hc:o.cls = .type n)(hd:o.data = .fields vs)
    (hn:["enumerate", "zip", "dict_itemiterator", "dict_reverseitemiterator", "odict_iterator", "itertools.zip_longest", "itertools.pairwise"].contains n=false) (hQ:Q () s):wpAny M A (letOwnedTupleGo tg (.ref it) u) Q E s:=by
  unfold letOwnedTupleGo;cases tg<;>first
    |exact Os hQ
    | (cases u<;>first
        |exact Os hQ
        | (refine Op (wpAny_load ho ?_)
           rw[hc,hd];show wpAny M A (if(["enumerate", "zip", "dict_itemiterator", "dict_reverseitemiterator", "odict_iterator", "itertools.zip_longest", "itertools.pairwise"].contains n&&vs[0]? == some (rawInt _))=true then _ else _) Q E s;rw[if_neg (by intro h;rw[hn,Bool.false_and] at h;cases h)];exact Os hQ))
def Dw(K:Oq)(a:Addr):It:=
 ⟨λi H=>∃xs x,SqL K H a xs/\xs[i]? = some x,λi H x H'=>H'=H/\∀xs,SqL K H a xs->xs[i]? = some x,λi H=>∃xs,SqL K H a xs/\xs.length<=i⟩
def Ab(K:Oq)(a:Addr):It:=
 ⟨λi H=>∃xs x,SqT K H a xs/\xs[i]? = some x,λi H x H'=>H'=H/\∀xs,SqT K H a xs->xs[i]? = some x,λi H=>∃xs,SqT K H a xs/\xs.length<=i⟩
def ug(lo:Int)(n:Nat):It:=⟨λi _=>i<n,λi H x H'=>H'=H/\x=.int (lo+i),λi _=>n<=i⟩
theorem lb{P:Program}{w:World}{K:Oq}{tg:Expr}(a it:Addr):fL P w K tg (Dw K a) [it] it (λi h=>h.IsListIter it a i) where
 mem:=by simp
 obj:=λi h st b hb=>by
  have e:b=it:=by simpa using hb
  subst e;obtain⟨o,e,c,d⟩:=st;exact⟨o,e,λv z=>by rw[d] at z;cases z⟩
 keep:=λi h h' st k=>st.at λo e=>k it (by simp) o e
 item:=by
  intro X hP hw hK hc i pins s σ H E I hf st hg;subst hP hw hK;obtain⟨xs,x,hq,hx⟩:=hg;obtain⟨its,rv,p,hz⟩:=I.list hq;obtain⟨u,hu,ru⟩:=rv.get hx;obtain⟨f0,f1,f2,f3,f4,f5⟩:=hf it (by simp);refine wpAny_pyNext_list_item st p.isList (x:=u) (by simpa using hu) λh' st' sb=>?_;have I1:Inv X pins σ H { s with heap:=h' }:=I.turned (t':=s.toks) (λb o hb e=>(sb.2 b hb).trans e) f0 f1 f3 f4 f5;obtain⟨o,e,c,d⟩:=id st';exact⟨u,rfl,ms (s:={ s with heap:=h' }) e c d (by decide) ⟨x,H,I1,ru,⟨rfl,λys hy=>by rw[I.list_inj hy hq];exact hx⟩,st',λb hb=>(hf b hb).1⟩⟩
 done:=by
  intro X hP hw hK hc i pins s σ H E I hf st hg;subst hP hw hK;obtain⟨xs,hq,hx⟩:=hg;obtain⟨its,rv,p,hz⟩:=I.list hq;obtain⟨f0,f1,f2,f3,f4,f5⟩:=hf it (by simp);have hl:=rv.length;exact wpAny_pyNext_list_end (I.ok.hd hc) st p.isList (by simp;omega) λh' eb=>⟨rfl,I.turned (t':=s.toks) (λb o hb e=>eb b o hb e) f0 f1 f3 f4 f5⟩
 self:=λ_ _ _ _ _ st h=>wpAny_pyIter_listiter st h
theorem jV{P:Program}{w:World}{K:Oq}{tg:Expr}(a it:Addr):fL P w K tg (Ab K a) [it] it (λi h=>h.IsTupleIter it a i) where
 mem:=by simp
 obj:=λi h st b hb=>by
  have e:b=it:=by simpa using hb
  subst e;obtain⟨o,e,c,d⟩:=st;exact⟨o,e,λv z=>by rw[d] at z;cases z⟩
 keep:=λi h h' st k=>st.at λo e=>k it (by simp) o e
 item:=by
  intro X hP hw hK hc i pins s σ H E I hf st hg;subst hP hw hK;obtain⟨xs,x,hq,hx⟩:=hg;obtain⟨its,rv,p,hz⟩:=I.tuple hq;obtain⟨u,hu,ru⟩:=rv.get hx;obtain⟨f0,f1,f2,f3,f4,f5⟩:=hf it (by simp);refine wpAny_pyNext_tuple_item st (show s.heap.IsTuple a its.toArray from p) (x:=u) (by simpa using hu) λh' st' sb=>?_;have I1:Inv X pins σ H { s with heap:=h' }:=I.turned (t':=s.toks) (λb o hb e=>(sb.2 b hb).trans e) f0 f1 f3 f4 f5;obtain⟨o,e,c,d⟩:=id st';exact⟨u,rfl,ms (s:={ s with heap:=h' }) e c d (by decide) ⟨x,H,I1,ru,⟨rfl,λys hy=>by rw[I.tuple_inj hy hq];exact hx⟩,st',λb hb=>(hf b hb).1⟩⟩
 done:=by
  intro X hP hw hK hc i pins s σ H E I hf st hg;subst hP hw hK;obtain⟨xs,hq,hx⟩:=hg;obtain⟨its,rv,p,hz⟩:=I.tuple hq;obtain⟨f0,f1,f2,f3,f4,f5⟩:=hf it (by simp);have hl:=rv.length;exact wpAny_pyNext_tuple_end (I.ok.hd hc) st (show s.heap.IsTuple a its.toArray from p) (by simp;omega) λh' eb=>⟨rfl,I.turned (t':=s.toks) (λb o hb e=>eb b o hb e) f0 f1 f3 f4 f5⟩
 self:=λ_ _ _ _ _ st h=>wpAny_pyIter_tupleiter st h
theorem jW{P:Program}{w:World}{K:Oq}{tg:Expr}(it:Addr)(lo:Int)(n:Nat):fL P w K tg (ug lo n) [it] it (λi h=>IsRangeIter h it (lo+(i:Nat)*1) ((n:Int)-(i:Nat)) 1) where
 mem:=by simp
 obj:=λi h st b hb=>by
  have e:b=it:=by simpa using hb
  subst e;exact ⟨_,st,λv z=>by
   have z':Data.fields _=Data.cell v:=z;cases z'⟩
 keep:=λi h h' st k=>k it (by simp) _ st
 item:=by
  intro X hP hw hK hc i pins s σ H E I hf st hg;subst hP hw hK;obtain⟨f0,f1,f2,f3,f4,f5⟩:=hf it (by simp);have W:=Walks.range (prog:=X.prog) (w:=X.w) (I.ok.hd hc) it lo 1 n;refine W.item i s _ _ hg st λv h' tk hv st' kk=>?_;obtain⟨t,rfl⟩:=hv;have I1:Inv X pins σ H { s with heap:=h',toks:=tk }:=I.turned (λb o hb e=>kk b o (by simpa using hb) e) f0 f1 f3 f4 f5;refine⟨_,rfl,ms (s:={ s with heap:=h',toks:=tk }) (n:= "range_iterator") st' rfl rfl (by decide) ⟨.int (lo+i),H,I1,⟨t,?_⟩,⟨rfl,rfl⟩,st',λb hb=>(hf b hb).1⟩⟩;rw[Int.mul_one]
 done:=by
  intro X hP hw hK hc i pins s σ H E I hf st hg;subst hP hw hK;obtain⟨f0,f1,f2,f3,f4,f5⟩:=hf it (by simp);exact wpAny_pyNext_range_end (I.ok.hd hc) st (by have:n<=i:=hg;omega) λh' eb=>⟨rfl,I.turned (t':=s.toks) (λb o hb e=>eb b o hb e) f0 f1 f3 f4 f5⟩
 self:=λ_ _ _ _ _ st h=>wpAny_pyIter_rangeiter st h
variable {tg:Expr}
theorem jj{pins:List (Addr×Obj)}{σ:St}{H:Hp}{s:Shared}{R:It->Hp->Prop}{E:Value->Shared->Prop}{lo hi:Int}{t u v:Tok}{tk:Nat}(I:Inv X pins σ H s)(h1:-(2^62)<=lo)(h2:lo<2^62)(h3:-(2^62)<=hi)(h4:hi<2^62)
  (q:R (ug lo (hi-lo).toNat) H):wpAny (model X.prog X.w) X.A (pyIter (.ref s.heap.objs.size)) (Dv X pins σ tg R) E { s with heap:=s.heap.push { cls:=.type "range",data:=.fields #[.int lo t,.int hi u,.int 1 v] },toks:=tk }:=by
 refine wpAny_pyIter_range (IsRange.new ..) (small_one h1 h2 h3 h4) ?_;have I1:Inv X pins σ H { s with heap:=s.heap.push { cls:=.type "range",data:=.fields #[.int lo t,.int hi u,.int 1 v] },toks:=tk }:=I.kept λb o e=>bZ _ e;refine ⟨(s.heap.push { cls:=.type "range",data:=.fields #[.int lo t,.int hi u,.int 1 v] }).objs.size,[(s.heap.push { cls:=.type "range",data:=.fields #[.int lo t,.int hi u,.int 1 v] }).objs.size],_,_,H,rfl,
  I1.kept (t':=tk) λb o e=>bZ _ e,jW _ lo (hi-lo).toNat,?_,λb hb=>?_,q⟩
 .have e1:lo+((0:Nat):Int)*1=lo:=by simp
  have e2:(((hi-lo).toNat:Nat):Int)-((0:Nat):Int)=Builtin.Range.rangeSize lo hi 1:=by rw[rangeSize_one];split<;>omega
  show IsRangeIter _ _ (lo+((0:Nat):Int)*1) ((((hi-lo).toNat:Nat):Int)-((0:Nat):Int)) 1;rw[e1,e2];exact eV _ rfl
 .have e:b=(s.heap.push { cls:=.type "range",data:=.fields #[.int lo t,.int hi u,.int 1 v] }).objs.size:=by simpa using hb
  subst e;exact I1.fpOk (bb _) (I1.hok.fresh (bb _))
def uh(ta:TA):TI:=λσ H R=>ta σ H λvs H1=>∃j:Int,vs=[.int j]/\-(2^62)<=j/\j<2^62/\R (ug 0 j.toNat) H1
def ui(ta:TA):TI:=λσ H R=>ta σ H λvs H1=>∃i j:Int,vs=[.int i,.int j]/\(-(2^62)<=i/\i<2^62/\-(2^62)<=j/\j<2^62)/\R (ug i (j-i).toNat) H1
theorem lg{a:Expr}{ta:TA}{p pos:Pos}(hg:Gl X "range")(hm:X.mg "range" = none)(ha:PA X [a] ta)(hs:starEach [a] X.env=[(false,eval a X.env)]:=by rfl):PI X tg (.Call (.Name "range" p) [a] [] pos) (uh ta):=by
 intro pins s σ H R I h;refine Call_ (dm I hg hm boot_range (PyProof.Rows.callWith_type1 (aI (ha pos pins s σ H _ I h) λus s1 ⟨vs,H1,I1,r1,q1⟩=>?_) hs rfl));obtain⟨j,e,q1,q2,q⟩:=q1;subst e;cases r1 with
 |cons r rr=>
  cases rr;obtain⟨t,rfl⟩:=r;exact call_range_1 (jj I1 (by omega) (by omega) q1 q2 (by simpa using q))
theorem lh{a b:Expr}{ta:TA}{p pos:Pos}(hg:Gl X "range")(hm:X.mg "range" = none)(ha:PA X [a,b] ta)(hs:starEach [a,b] X.env=[(false,eval a X.env),(false,eval b X.env)]:=by rfl)(hs2:starEach [b] X.env=[(false,eval b X.env)]:=by rfl) :
  PI X tg (.Call (.Name "range" p) [a,b] [] pos) (ui ta):=by
 intro pins s σ H R I h;refine Call_ (dm I hg hm boot_range (PyProof.Rows.callWith_type1 (aI (ha pos pins s σ H _ I h) λus s1 ⟨vs,H1,I1,r1,q1⟩=>?_) (by rw[hs,hs2]) (by rw[hs2];rfl)));obtain⟨i,j,e,⟨q1,q2,q3,q4⟩,q⟩:=q1;subst e;cases r1 with
 |cons r rr=>
  cases rr with
  |cons r' rr=>
   cases rr;obtain⟨t,rfl⟩:=r;obtain⟨t',rfl⟩:=r';exact call_range_2 (jj I1 q1 q2 q3 q4 q)
def Ac(wi:TI)(g:TG)(tb:TS):TS:=λD σ H=>wi σ H λJ H1=>∃W:Nat->Nat->St->Hp->Prop,(∃m,W 0 m σ H1)/\∀i m σ H,W i m σ H->
 (J.stop i H/\D.nx σ H)\/(J.go i H/\∃N:St->Hp->Prop,(∀σ' H',N σ' H'->∃m',m'<m/\W (i+1) m' σ' H')/\∀x H',J.yld i H x H'->g x σ H' λσ2 H2=>tb { D with nx:=N,ct:=N,bk:=D.nx } σ2 H2)
def dq(fp:List Addr)(h:Heap):List (Addr×Obj):=fp.filterMap λb=>(h.get? b).map λo=>(b,o)
theorem bj{fp:List Addr}{h:Heap}{b:Addr}{o:Obj}(hb:b∈fp)(e:h.get? b=some o):(b,o)∈dq fp h:=YaB.mpr ⟨b,hb,by rw[e];rfl⟩
theorem li{fp:List Addr}{h:Heap}{p:Addr×Obj}(hp:p∈dq fp h):p.1∈fp/\h.get? p.1=some p.2:=by
 obtain⟨b,hb,e⟩:=YaB.mp hp;cases q:h.get? b with
 |none=>rw[q] at e;cases e
 |some o=>
  rw[q] at e;have e':(b,o)=p:=Ow e;subst e';exact⟨hb,q⟩
theorem Inv.pinned{pins:List (Addr×Obj)}{σ:St}{H:Hp}{s:Shared}{fp:List Addr}(I:Inv X pins σ H s)(hf:∀b∈fp,cR X pins H b)(ho:∀b∈fp,∃o,s.heap.get? b=some o/\∀v,o.data≠.cell v):Inv X (pins++dq fp s.heap) σ H s:=
 I.pins_of λp hp=>(Yar.mp hp).elim (λz=>I.pin p (ge _ z)) λz=>by
  obtain⟨hb,e⟩:=li z;obtain⟨f0,f1,f2,_⟩:=hf p.1 hb;obtain⟨o,e',d⟩:=ho p.1 hb;rw[e] at e';cases e';exact⟨e,f0,f1,f2,d⟩
theorem Inv.unpinned{pins pl:List (Addr×Obj)}{σ:St}{H:Hp}{s:Shared}(I:Inv X (pins++pl) σ H s):Inv X pins σ H s:=I.pins_of λp hp=>I.pin p (ge _ (List.mem_append_left _ hp))
theorem qK{iter:Expr}{body:List Stmt}{wi:TI}{g:TG}{tb:TS}{pos:Pos}(hp:PassesOwn (model X.prog X.w) X.A X.env X.xe)(hc:X.calm=true)(hi:PI X tg iter wi)(hg:PG X tg g)(hb:PSs X body tb)
  (hs:∀x,foldedSetIterable iter X.env x=pure x:=by intro _;rfl):PS X (.For tg iter body [] pos) (Ac wi g tb):=by
 intro pins s σ H D I h;refine wpAny_For (aI (hi pins s σ H _ I h) λv s1 h1=>aI h1 λitv s2 h2=>?_) hs;obtain⟨it,fp,tn,J,H2,e,I2,T,st2,f2,W,⟨m0,w0⟩,turn⟩:=h2;subst e
 -- what stays true of the iterator's objects through the loop
 have stat:∀{H':Hp},(∀b∈fp,H' b=none)->∀b∈fp,cR X pins H' b:=λhn b hb=>⟨hn b hb,(f2 b hb).2⟩;refine codeAny_forLoop_any (λn s'=>∃i σ' H',Inv X pins σ' H' s'/\tn i s'.heap/\(∀b∈fp,H' b=none)/\W i n σ' H') ?_ m0 ⟨0,σ,H2,I2,st2,λb hb=>(f2 b hb).1,w0⟩;rintro n s3 ⟨i,σ3,H3,I3,st3,fr3,w3⟩;rcases turn i n σ3 H3 w3 with⟨stop,qn⟩|⟨go,N,hN,step⟩
 .refine ON hp (aI (T.done X rfl rfl rfl hc i pins s3 σ3 H3 X.xe I3 (stat fr3) st3 stop) λr s4 ⟨hr,I4⟩=>?_)
  subst hr;exact OV ⟨σ3,H3,I4,qn⟩
 .refine ON hp (aI (T.item X rfl rfl rfl hc i pins s3 σ3 H3 X.xe I3 (stat fr3) st3 go) λr s4 ⟨u,hr,h4⟩=>?_)
  subst hr;refine ON hp (aI h4 λ_ s5 ⟨x,H5,I5,r5,y5,st5,fr5⟩=>?_);have I5':=I5.pinned (stat fr5) (T.obj _ _ st5);refine ON hp (aI (hg _ s5 σ3 H5 x u _ I5' r5 (step x H5 y5)) λ_ s6 ⟨σ6,H6,I6,q6⟩=>?_);refine ON hp (aI (hb _ s6 σ6 H6 _ I6 q6) λf s7 q7=>?_);have again:∀{σ7:St} {H7:Hp},Inv X (pins++dq fp s5.heap) σ7 H7 s7->N σ7 H7->∃m,m<n/\∃i σ' H',Inv X pins σ' H' s7/\tn i s7.heap/\(∀b∈fp,H' b=none)/\W i m σ' H':=λ{σ7 H7} I7 n7=>by
   obtain⟨m',hm,w7⟩:=hN σ7 H7 n7;refine⟨m',hm,i+1,σ7,H7,I7.unpinned,T.keep _ _ _ st5 λb hb o e=>(I7.pin (b,o) (ge _ (ge _ (bj hb e)))).1,λb hb=>?_,w7⟩;obtain⟨o,e,d⟩:=T.obj _ _ st5 b hb;exact(I7.pin (b,o) (ge _ (ge _ (bj hb e)))).2.1
  cases f with
  |next=>obtain⟨σ7,H7,I7,n7⟩:=q7;exact again I7 n7
  |cont=>obtain⟨σ7,H7,I7,n7⟩:=q7;exact again I7 n7
  |brk=>obtain⟨σ7,H7,I7,q7⟩:=q7;exact⟨σ7,H7,I7.unpinned,q7⟩
  |ret v=>obtain⟨x7,σ7,H7,I7,r7,q7⟩:=q7;exact⟨x7,σ7,H7,I7.unpinned,r7,q7⟩
abbrev R2:=V->V->Hp->VK->Prop
def OpR(X:Cx)(f:Value->Value->Sem Value)(r:R2):Prop:=
 ∀(pins:List (Addr×Obj)) (s:Shared) (σ:St) (H:Hp) (x y:V) (v u:Value) (Q:VK),Inv X pins σ H s->RelV x v->RelV y u->r x y H Q->
  wpAny (model X.prog X.w) X.A (f v u) (EP X pins σ Q) X.xe s
def w8(X:Cx)(f:Value->Sem Value)(r:V->Hp->VK->Prop):Prop:=
 ∀(pins:List (Addr×Obj)) (s:Shared) (σ:St) (H:Hp) (x:V) (v:Value) (Q:VK),Inv X pins σ H s->RelV x v->r x H Q->
  wpAny (model X.prog X.w) X.A (f v) (EP X pins σ Q) X.xe s
def CallR(X:Cx)(f:Value)(r:List V->Hp->VK->Prop):Prop:=
 ∀(pins:List (Addr×Obj)) (s:Shared) (σ:St) (H:Hp) (xs:List V) (us:List Value) (Q:VK),Inv X pins σ H s->Vals xs us->r xs H Q->
  wpAny (model X.prog X.w) X.A (call f us) (EP X pins σ Q) X.xe s
def Ad(X:Cx)(r:V->Hp->(Bool->Hp->Prop)->Prop):Prop:=
 ∀(pins:List (Addr×Obj)) (s:Shared) (σ:St) (H:Hp) (x:V) (v:Value) (Q:Bool->Hp->Prop),Inv X pins σ H s->RelV x v->r x H Q->
  wpAny (model X.prog X.w) X.A (truthy v) (TP X pins σ Q) X.xe s
def xa(r:R2)(ta tb:TE):TE:=λσ H Q=>ta σ H λx H1=>tb σ H1 λy H2=>r x y H2 Q
def HC(r:V->Hp->VK->Prop)(ta:TE):TE:=λσ H Q=>ta σ H λx H1=>r x H1 Q
def rI(C:Int->Int->Prop)(g:Int->Int->V):R2:=λx y H Q=>∃i j,x=.int i/\y=.int j/\C i j/\Q (g i j) H
def n0(g:Int->Int->V):R2:=λx y H Q=>∃i j,x=.int i/\y=.int j/\Q (g i j) H
def rU(g:Int->V):V->Hp->VK->Prop:=λx H Q=>∃i,x=.int i/\Q (g i) H
section
variable{X:Cx}{a b c:Expr}{ta tb tc:TE}{pos:Pos}
theorem qL(ha:PE X a ta)(hb:PE X b tb){pins:List (Addr×Obj)}{s:Shared}{σ:St}{H:Hp}{R:V->V->Hp->Prop}(I:Inv X pins σ H s)
  (h:ta σ H λx H1=>tb σ H1 λy H2=>R x y H2) {Q:Value->Shared->Prop} {f:Value->Value->Sem Value}
  (hf:∀v u s2 x y H2,Inv X pins σ H2 s2->RelV x v->RelV y u->R x y H2->wpAny (model X.prog X.w) X.A (f v u) Q X.xe s2) :
  wpAny (model X.prog X.w) X.A (eval a X.env) (λv s₁=>wpAny (model X.prog X.w) X.A (eval b X.env) (λu s₂=>wpAny (model X.prog X.w) X.A (f v u) Q X.xe s₂) X.xe s₁) X.xe s:=by
 refine aI (ha pins s σ H _ I h) λv s1 ⟨x,H1,I1,r1,q1⟩=>?_;refine aI (hb pins s1 σ H1 _ I1 q1) λu s2 ⟨y,H2,I2,r2,q2⟩=>?_;exact hf v u s2 x y H2 I2 r1 r2 q2
theorem mx{op:Operator}{r:R2}(ho:OpR X (binaryOp op) r)(ha:PE X a ta)(hb:PE X b tb):PE X (.BinOp a op b pos) (xa r ta tb):=by
 intro pins s σ H Q I h;exact wpAny_BinOp (qL ha hb I h λv u s2 x y H2 I2 rx ry q=>ho pins s2 σ H2 x y v u Q I2 rx ry q)
theorem o8{op:UnaryOp}{r:V->Hp->VK->Prop}(ho:w8 X (unaryOp op) r)(ha:PE X a ta):PE X (.UnaryOp op a pos) (HC r ta):=by
 intro pins s σ H Q I h;exact UnaryOp_ (aI (ha pins s σ H _ I h) λv s1 ⟨x,H1,I1,r1,q1⟩=>ho pins s1 σ H1 x v Q I1 r1 q1)
theorem xb{f:Value->Value->Sem Value}{C:Int->Int->Prop}{g:Int->Int->Int}
  (rule:∀(i j:Int) (t u:Tok) (s:Shared) (Q:Value->Shared->Prop) (E:Value->Shared->Prop),C i j->Q (.int (g i j) s.toks) { s with toks:=s.toks+1 }->wpAny (model X.prog X.w) X.A (f (.int i t) (.int j u)) Q E s) :
  OpR X f (rI C λi j=>.int (g i j)):=by
 intro pins s σ H x y v u Q I rx ry h;obtain⟨i,j,rfl,rfl,hc,q⟩:=h;obtain⟨t,rfl⟩:=rx;obtain⟨t',rfl⟩:=ry;exact rule i j t t' s _ _ hc ⟨.int (g i j),H,I.tok _,⟨_,rfl⟩,q⟩
theorem uj{f:Value->Value->Sem Value}{g:Int->Int->Int}
  (rule:∀(i j:Int) (t u:Tok) (s:Shared) (Q:Value->Shared->Prop) (E:Value->Shared->Prop),Q (.int (g i j) s.toks) { s with toks:=s.toks+1 }->wpAny (model X.prog X.w) X.A (f (.int i t) (.int j u)) Q E s) :
  OpR X f (n0 λi j=>.int (g i j)):=by
 intro pins s σ H x y v u Q I rx ry h;obtain⟨i,j,rfl,rfl,q⟩:=h;obtain⟨t,rfl⟩:=rx;obtain⟨t',rfl⟩:=ry;exact rule i j t t' s _ _ ⟨.int (g i j),H,I.tok _,⟨_,rfl⟩,q⟩
theorem n4{f:Value->Value->Sem Value}{g:Int->Int->Bool}
  (rule:∀(i j:Int) (t u:Tok) (s:Shared) (Q:Value->Shared->Prop) (E:Value->Shared->Prop),Q (.bool (g i j)) s->wpAny (model X.prog X.w) X.A (f (.int i t) (.int j u)) Q E s) :
  OpR X f (n0 λi j=>.bl (g i j)):=by
 intro pins s σ H x y v u Q I rx ry h;obtain⟨i,j,rfl,rfl,q⟩:=h;obtain⟨t,rfl⟩:=rx;obtain⟨t',rfl⟩:=ry;exact rule i j t t' s _ _ ⟨.bl (g i j),H,I,rfl,q⟩
def qM(i j:Int):Prop:=0<=j/\j<=1000000/\i.natAbs<2^64
def CMul(i j:Int):Prop:=(-(2^64)<i/\i<2^64)\/(-(2^64)<j/\j<2^64)
theorem CMul.ok{i j:Int}(h:CMul i j):IntMulOk i j:=by
 rcases h with⟨h1,h2⟩|⟨h1,h2⟩
 .exact .of_left (intBits_le_64 h1 h2)
 .exact .of_right (intBits_le_64 h1 h2)
theorem qN:OpR X (binaryOp .Add) (n0 λi j=>.int (i+j)):=uj λ_ _ _ _ _ _ _ q=>add_int q
theorem qO:OpR X (binaryOp .Sub) (n0 λi j=>.int (i-j)):=uj λ_ _ _ _ _ _ _ q=>sub_int q
theorem n6:OpR X (binaryOp .Mod) (rI (λ_ j=>j≠0) λi j=>.int (i.fmod j)):=xb λ_ _ _ _ _ _ _ hc q=>mod_int' hc q
theorem qP:OpR X (binaryOp .Pow) (rI qM λi j=>.int (i^j.toNat)):=xb λ_ _ _ _ _ _ _ hc q=>pow_int_small hc.1 hc.2.1 hc.2.2 q
theorem HD{f:Value->Sem Value}{g:Int->Int}
  (rule:∀(i:Int) (t:Tok) (s:Shared) (Q:Value->Shared->Prop) (E:Value->Shared->Prop),Q (.int (g i) s.toks) { s with toks:=s.toks+1 }->wpAny (model X.prog X.w) X.A (f (.int i t)) Q E s) :
  w8 X f (rU λi=>.int (g i)):=by
 intro pins s σ H x v Q I rx h;obtain⟨i,rfl,q⟩:=h;obtain⟨t,rfl⟩:=rx;exact rule i t s _ _ ⟨.int (g i),H,I.tok _,⟨_,rfl⟩,q⟩
theorem my:w8 X (unaryOp .USub) (rU λi=>.int (-i)):=HD λ_ _ _ _ _ q=>neg_int q
end
def mz:V->V->Bool
 |.non,.non=>true|.non,.int _=>true|.int _,.non=>true|.non,.bl _=>true|.bl _,.non=>true|.non,.str _=>true|.str _,.non=>true
 |.int _,.int _=>true|.bl _,.bl _=>true|.str _,.str _=>true|.byt _,.byt _=>true
 |.int _,.str _=>true|.str _,.int _=>true|.bl _,.str _=>true|.str _,.bl _=>true
 |_,_=>false
section
variable{X:Cx}{a b c:Expr}{ta tb tc:TE}{pos:Pos}
theorem mB{pins:List (Addr×Obj)}{σ:St}{H:Hp}{s:Shared}{Q:VK}{k k':Bool}(I:Inv X pins σ H s)(q:Q (.bl k) H)(e:k=k'):EP X pins σ Q (.bool k') s:=by
 subst e;exact⟨.bl k,H,I,rfl,q⟩
theorem OpR.or{f:Value->Value->Sem Value}{r r':R2}(h:OpR X f r)(h':OpR X f r'):OpR X f (λx y H Q=>r x y H Q\/r' x y H Q):=by
 intro pins s σ H x y v u Q I rx ry q;rcases q with q|q
 .exact h pins s σ H x y v u Q I rx ry q
 .exact h' pins s σ H x y v u Q I rx ry q
theorem mC(b:Expr){op:CmpOp}(h:op≠.In:=by decide)(h2:op≠.NotIn:=by decide):behindInMarks op b=false:=by
 have e1:(op==CmpOp.In)=false:=by cases op<;>first|rfl|exact Ot rfl h
 have e2:(op==CmpOp.NotIn)=false:=by cases op<;>first|rfl|exact Ot rfl h2
 cases b<;>simp[behindInMarks,e1,e2]
theorem n8{op:CmpOp}{r:R2}(ho:OpR X (compareOp op) r)(ha:PE X a ta)(hb:PE X b tb)(hm:behindInMarks op b=false):PE X (.Compare a [op] [b] pos) (xa r ta tb):=by
 intro pins s σ H Q I h;exact wpAny_Compare1 (qL ha hb I h λv u s2 x y H2 I2 rx ry q=>ho pins s2 σ H2 x y v u Q I2 rx ry q) hm
def o9(t:TE):TT:=λσ H Q=>t σ H λx H'=>∃k,x=.bl k/\Q k H'
theorem n9{op:CmpOp}{r:R2}(ho:OpR X (compareOp op) r)(ha:PE X a ta)(hb:PE X b tb)(hm:behindInMarks op b=false):PT X (.Compare a [op] [b] pos) (o9 (xa r ta tb)):=by
 intro pins s σ H Q I h;refine wpAny_isTrue_Compare1 (aI (ha pins s σ H _ I h) λv s1 ⟨x,H1,I1,r1,q1⟩=>aI (hb pins s1 σ H1 _ I1 q1) λu s2 ⟨y,H2,I2,r2,q2⟩=>
  aI (ho pins s2 σ H2 x y v u _ I2 r1 r2 q2) λc s3 ⟨z,H3,I3,r3,k,e,q3⟩=>?_) hm
 subst e;cases r3;exact OH ⟨H3,I3,q3⟩
def mE(r r':R2)(ta tb tc:TE):TE:=λσ H Q=>ta σ H λx H1=>tb σ H1 λy H2=>r x y H2 λz H3=>∃k,z=.bl k/\
 (if k=true then tc σ H3 λw' H4=>r' y w' H4 Q else Q (.bl false) H3)
theorem mF{op op':CmpOp}{r r':R2}(ho:OpR X (compareOp op) r)(ho':OpR X (compareOp op') r')(ha:PE X a ta)(hb:PE X b tb)(hc:PE X c tc)
  (hm:lastMarks [op,op'] [b,c]=false:=by with_unfolding_all rfl):PE X (.Compare a [op,op'] [b,c] pos) (mE r r' ta tb tc):=by
 intro pins s σ H Q I h;refine Compare_chain (aI (ha pins s σ H _ I h) λv s1 ⟨x,H1,I1,r1,q1⟩=>chain_link (aI (hb pins s1 σ H1 _ I1 q1) λu s2 ⟨y,H2,I2,r2,q2⟩=>
  aI (ho pins s2 σ H2 x y v u _ I2 r1 r2 q2) λd s3 ⟨z,H3,I3,r3,k,e,q3⟩=>?_)) hm
 subst e;cases r3;refine OH ?_;cases k with
 |false=>exact ite_ff ⟨.bl false,H3,I3,rfl,q3⟩
 |true=>exact ite_tt (chain_last (aI (hc pins s3 σ H3 _ I3 q3) λw' s4 ⟨z',H4,I4,r4,q4⟩=>ho' pins s4 σ H4 y z' u w' Q I4 r2 r4 q4))
theorem mG{op op':CmpOp}{r r':R2}(ho:OpR X (compareOp op) r)(ho':OpR X (compareOp op') r')(ha:PE X a ta)(hb:PE X b tb)(hc:PE X c tc)
  (hm:lastMarks [op,op'] [b,c]=false:=by with_unfolding_all rfl):PT X (.Compare a [op,op'] [b,c] pos) (o9 (mE r r' ta tb tc)):=by
 intro pins s σ H Q I h;refine isTrue_chain (aI (ha pins s σ H _ I h) λv s1 ⟨x,H1,I1,r1,q1⟩=>test_link (aI (hb pins s1 σ H1 _ I1 q1) λu s2 ⟨y,H2,I2,r2,q2⟩=>
  aI (ho pins s2 σ H2 x y v u _ I2 r1 r2 q2) λd s3 ⟨z,H3,I3,r3,k,e,q3⟩=>?_)) hm
 subst e;cases r3;refine OH ?_;cases k with
 |false=>
  obtain⟨k',e',q'⟩:=q3;cases e';exact ite_ff ⟨H3,I3,q'⟩
 |true=>
  refine ite_tt (test_last (aI (hc pins s3 σ H3 _ I3 q3) λw' s4 ⟨z',H4,I4,r4,q4⟩=>aI (ho' pins s4 σ H4 y z' u w' _ I4 r2 r4 q4) λd' s5 ⟨z2,H5,I5,r5,k2,e2,q5⟩=>?_));subst e2;cases r5;exact OH ⟨H5,I5,q5⟩
def uk(K:Oq)(x:V)(H:Hp)(k:Bool):Prop:=
 match x with
 |.non=>k=false
 |.bl b=>k=b
 |.int i=>k=(i != 0)
 |.str y=>y.length<=sizeLine/\k=((y.length:Int) != 0)
 |.byt y=>y.size<=sizeLine/\k=((y.size:Int) != 0)
 |.ref p=>(∃xs,SqL K H p xs/\k = !xs.isEmpty)\/(∃xs,SqT K H p xs/\k = !xs.isEmpty)\/∃kvs,H p=some (.dK kvs)/\k = !kvs.isEmpty
 |_=>False
theorem jX{κ:Type}{kvs:List (κ×V)}{vs:List (κ×Value)}(r:KV kvs vs):(!vs.isEmpty) = !kvs.isEmpty:=by
 cases r<;>rfl
theorem e8{xs:List V}{its:List Value}(r:Vals xs its):(!its.toArray.isEmpty) = !xs.isEmpty:=by
 cases r<;>simp
theorem et:(sizeLine:Nat)<2^63:=by rw[sizeLine_eq];decide
theorem qQ:Ad X (λx H Q=>∃k,uk X.K x H k/\Q k H):=by
 intro pins s σ H x v Q I rx h;obtain⟨k,e,q⟩:=h;have hl:=et;have hs:sizeLine=16777216:=sizeLine_eq;cases x with
 |non=>
  cases rx;have e':k=false:=e;subst e';exact truthy_none ⟨H,I,q⟩
 |bl b=>
  cases rx;have e':k=b:=e;subst e';exact OH ⟨H,I,q⟩
 |int i=>
  obtain⟨t,rfl⟩:=rx;have e':k=(i != 0):=e;subst e';exact PySem.P.truthy_int ⟨H,I,q⟩
 |str y=>
  obtain⟨t,rfl⟩:=rx;obtain⟨hy,e'⟩:y.length<=sizeLine/\k=((y.length:Int) != 0):=e;subst e';exact PySem.P.truthy_str (by omega) ⟨H,I.tok _,q⟩
 |byt y=>
  obtain⟨t,rfl⟩:=rx;obtain⟨hy,e'⟩:y.size<=sizeLine/\k=((y.size:Int) != 0):=e;subst e';exact PySem.W.truthy_bytes (by omega) ⟨H,I.tok _,q⟩
 |ref p=>
  cases rx;have e':(∃xs,SqL X.K H p xs/\k = !xs.isEmpty)\/(∃xs,SqT X.K H p xs/\k = !xs.isEmpty)\/∃kvs,H p=some (.dK kvs)/\k = !kvs.isEmpty:=e;rcases e' with⟨xs,hx,e'⟩|⟨xs,hx,e'⟩|⟨kvs,hx,e'⟩
  .subst e'
   obtain⟨its,r,pl,hz⟩:=I.list hx;have hlen:=r.length;exact wpAny_truthy_list pl.isList (by simp only[dL];omega) ⟨H,I.tok _,by rw[e8 r];exact q⟩
  .subst e'
   obtain⟨its,r,pl,hz⟩:=I.tuple hx;have hlen:=r.length;exact truthy_tuple pl (by simp only[dL];omega) ⟨H,I.tok _,by rw[e8 r];exact q⟩
  .subst e'
   obtain⟨hz,hS,vs,r,m⟩:kvs.length<=sizeLine/\(p==sysModules)=false/\∃vs,KV kvs vs/\s.heap.DictOf (gG X.prog X.w) p vs:=I.hok p _ hx;have hlen:kvs.length=vs.length:=Paired.length r;exact wpAny_truthy_dict hS m (by omega) ⟨H,I.tok _,by rw[jX r];exact q⟩
 |_=>exact(show False from e).elim
theorem mH(ha:PE X a ta)(he:∀whole,isTrue a X.env whole=(do let v <-whole;standAt a.pos;holding [v] (truthy v))) :
  PT X a (λσ H Q=>ta σ H λx H'=>∃k,uk X.K x H' k/\Q k H'):=by
 intro pins s σ H Q I h;exact isTrue_plain (aI (ha pins s σ H _ I h) λv s1 ⟨x,H1,I1,r1,q1⟩=>qQ pins s1 σ H1 x v Q I1 r1 q1) (he _)
theorem eE{x:V}{us:List Value}(r:Vals [x] us):∃u,us=[u]/\RelV x u:=by
 cases r with
 |cons r1 r2=>cases r2;exact⟨_,rfl,r1⟩
theorem pj{x y:V}{us:List Value}(r:Vals [x,y] us):∃u w',us=[u,w']/\RelV x u/\RelV y w':=by
 cases r with
 |cons r1 r2=>
  cases r2 with
  |cons r3 r4=>cases r4;exact⟨_,_,rfl,r1,r3⟩
theorem mI:CallR X (.builtin "abs") (λxs H Q=>∃i,xs=[.int i]/\Q (.int (if i<0 then -i else i)) H):=by
 intro pins s σ H xs us Q I r h;obtain⟨i,rfl,q⟩:=h;obtain⟨u,rfl,t,rfl⟩:=eE r;exact call_abs_int λu tk=>⟨.int (if i<0 then -i else i),H,I.tok _,⟨_,rfl⟩,q⟩
theorem lj(hc:X.calm=true):CallR X (.builtin "max") (λxs H Q=>∃i j,xs=[.int i,.int j]/\Q (.int (if j>i then j else i)) H):=by
 intro pins s σ H xs us Q I r h;obtain⟨i,j,rfl,q⟩:=h;obtain⟨u,w',rfl,⟨t,rfl⟩,⟨t',rfl⟩⟩:=pj r;refine max_two_ints (I.ok.hd hc) λh' tk k=>⟨_,H,I.kept k,?_,q⟩
 by_cases hj:j>i
 .rw[if_pos hj,if_pos hj];exact⟨_,rfl⟩
 .rw[if_neg hj,if_neg hj];exact⟨_,rfl⟩
theorem lm:CallR X (.type "int") (λxs H Q=>(∃i,xs=[.int i]/\Q (.int i) H)\/∃k,xs=[.bl k]/\Q (.int (if k then 1 else 0)) H):=by
 intro pins s σ H xs us Q I r h;rcases h with⟨i,rfl,q⟩|⟨k,rfl,q⟩
 .obtain⟨u,rfl,t,rfl⟩:=eE r
  exact call_int_int ⟨.int i,H,I,⟨_,rfl⟩,q⟩
 .obtain⟨u,rfl,r1⟩:=eE r
  cases r1;exact call_int_bool ⟨.int (if k then 1 else 0),H,I.tok _,⟨_,rfl⟩,q⟩
end
variable {prog:Program}{w:World}{A:Around}{K:Oq}{x dx C f:Addr}{mA:Str->Option Value}{name:Str}{v:Value}
section
variable{P:Program}{w:World}{H H':Hp}{h h':Heap}{a C dx:Addr}{fs fs':List (Str×V)}
end
structure Cls(K:Oq)(C:Addr):Prop where
 pg:PySem.W.plainGet K C Str.empty=true
 hd:PySem.W.hasDictIn K C=true
 po:PySem.W.plainOver K C=true
 sa:PySem.W.findIn K (.ref C) "__setattr__" = some (some (.builtin "object.__setattr__"))
theorem Cls.get{K:Oq}{C:Addr}(c:Cls K C)(f:Str):PySem.W.plainGet K C f=true:=c.pg
section
variable{X:Cx}{pins:List (Addr×Obj)}{σ:St}{H:Hp}{s:Shared}{a C dx:Addr}{fs:List (Str×V)}{f:Str}{v:V}{A:Around}{E:Value->Shared->Prop}
theorem Inv.made(I:Inv X pins σ H s):Inv X pins σ (upd (upd H s.heap.objs.size (.own (s.heap.objs.size+1))) (s.heap.objs.size+1) (.ins C s.heap.objs.size []))
  { s with heap:=(s.heap.push PySem.W.emptyDict).push (PySem.W.instObj C s.heap.objs.size) }:=by
 have e1:(s.heap.push PySem.W.emptyDict).get? s.heap.objs.size=some PySem.W.emptyDict:=eV s.heap rfl;have e2:((s.heap.push PySem.W.emptyDict).push (PySem.W.instObj C s.heap.objs.size)).get? (s.heap.objs.size+1)=some (PySem.W.instObj C s.heap.objs.size):=by
  have:=eV (s.heap.push PySem.W.emptyDict) (o:=PySem.W.instObj C s.heap.objs.size) rfl
  rwa [kz] at this
 have e3:(s.heap.push PySem.W.emptyDict).Ns s.heap.objs.size (λ_=>none):=⟨PySem.W.emptyDict,#[],_,e1,rfl,(λe he=>Ot he (by simp)),λ_=>rfl⟩
 have I1:=I.laid (a:=s.heap.objs.size) (o:=.own (s.heap.objs.size+1)) (h':=s.heap.push PySem.W.emptyDict) (t':=s.toks) (λb u q=>bZ _ q) (bb _) ⟨_,e1⟩;refine I1.laid (a:=s.heap.objs.size+1) (o:=.ins C s.heap.objs.size []) (t':=s.toks) (λb u q=>bZ _ q) (Nat.le_of_eq (kz _ _)) ?_;have ne:s.heap.objs.size≠s.heap.objs.size+1:=eJ (zd _);refine⟨by rw[af ne,ao],jD _,ne,e2,λ_=>none,(Heap.Ns1.of_empty e3).at λo q=>bZ _ q,λ_=>True.intro,λy hy=>Ot rfl hy⟩
end
section
variable{X:Cx}{o e value:Expr}{f:Str}{pos pos' tpos:Pos}{ta tv:TE}
end
section
variable{X:Cx}{pins:List (Addr×Obj)}{σ:St}{H:Hp}{s:Shared}{A:Around}{E:Value->Shared->Prop}{Q:Value->Shared->Prop}{c:Value}{b:Bool}
end
structure Room(k:Nat)(A:Around):Prop where
 hd:A.handled=none
 gd:A.guards=some []
 dp:A.depth+3*k+5<recursionLimit
 un:A.units+16*k+200<cLine
theorem Room.mono{j k:Nat}{A:Around}(r:Room k A)(h:j<=k):Room j A:=⟨r.hd,r.gd,by have:=r.dp;omega,by have:=r.un;omega⟩
theorem Room.deeper{k:Nat}{A:Around}(r:Room (k+1) A)(env:Env):Room k (A.deeper env):=
 ⟨r.hd,r.gd,by have:=r.dp;show A.depth+1+3*k+5<_;omega,by have:=r.un;show A.units+3+16*k+200<_;omega⟩
theorem Room.in1{k:Nat}{A:Around}(r:Room (k+1) A):Room k A.in1:=
 ⟨r.hd,r.gd,by have:=r.dp;show A.depth+3*k+5<_;omega,by have:=r.un;show A.units+1+16*k+200<_;omega⟩
theorem jY{A:Around}{C:Addr}{us:List Value}{kw:List (Str×Value)}:(A.under (.builtin "type.__call__" ⟨.ref C::us,kw⟩)).depth=A.depth+1:=by
 first|rfl|simp[Around.under,Code.weight,Code.isCreation,Code.isGuard,Code.isCaller,Code.frames,Code.isFrame,guardIds]
theorem jZ{A:Around}{C:Addr}{us:List Value}{kw:List (Str×Value)}:(A.under (.builtin "type.__call__" ⟨.ref C::us,kw⟩)).units=A.units+1:=by
 first|rfl|simp[Around.under,Code.cUnits,Code.frames,Code.isFrame]
theorem Room.make{k:Nat}{A:Around}(r:Room (k+1) A)(C:Addr)(us:List Value)(kw:List (Str×Value)):Room k (A.under (.builtin "type.__call__" ⟨.ref C::us,kw⟩)):=
 ⟨r.hd,by first|exact r.gd|simp[Around.under,Code.weight,Code.isCreation,Code.isGuard,Code.isCaller,Code.frames,Code.isFrame,guardIds,r.gd],by have:=r.dp;rw[jY];omega,by have:=r.un;rw[jZ];omega⟩
theorem Room.depth{k:Nat}{A:Around}(r:Room k A):A.depth<recursionLimit:=by have:=r.dp;omega
theorem Room.units{k:Nat}{A:Around}(r:Room k A):A.units+64<cLine:=by have:=r.un;omega
def um:TA:=λ_ H Q=>Q [] H
def pk(ta:TE)(tr:TA):TA:=λσ H Q=>ta σ H λx H1=>tr σ H1 λxs H2=>Q (x::xs) H2
variable {e:Expr}{es:List Expr}{te:TE}{t:TA}
theorem j0:PA X [] um:=λ_ _ _ _ H Q I h=>Calls.spliced_nil ⟨[],H,I,.nil,h⟩
theorem gJ(ha:PE X e te)(hr:PA X es t)(hs:starEach (e::es) X.env=(false,eval e X.env)::starEach es X.env:=by rfl):PA X (e::es) (pk te t):=by
 intro pos pins s σ H Q I h;rw[hs];show wpAny _ _ (spliced ((false,eval e X.env)::backTo pos (starEach es X.env))) _ _ s;refine Calls.spliced_cons (aI (ha pins s σ H _ I h) λu s1 ⟨x,H1,I1,r1,q1⟩=>?_);exact aI (hr pos pins s1 σ H1 _ I1 q1) λus s2 ⟨xs,H2,I2,r2,q2⟩=>⟨x::xs,H2,I2,.cons r1 r2,q2⟩
def Ae(t:TA):TE:=λσ H Q=>t σ H λxs H1=>xs.length<=sizeLine/\∀p,H1 p=none->Q (.ref p) (upd H1 p (.tup xs))
def Af(t:TA):TE:=λσ H Q=>t σ H λxs H1=>xs.length<=sizeLine/\∀p,H1 p=none->Q (.ref p) (upd H1 p (.lst xs))
theorem qR{x1}(h:PA X es t):PE X (.Tuple es x1 pos) (Ae t):=by
 intro pins s σ H Q I hq;refine wpAny_Tuple_spliced (aI (h pos pins s σ H _ I hq) λus s1 ⟨xs,H1,I1,r,z,q⟩=>⟨by rw[<-r.length];exact z,?_⟩);have hf:H1 s1.heap.objs.size=none:=I1.hok.fresh (bb _);refine⟨.ref s1.heap.objs.size,upd H1 s1.heap.objs.size (.tup xs),I1.laid (t':=s1.toks) (λb u e=>bZ _ e) (bb _) ?_,rfl,q _ hf⟩;exact⟨z,us,r,⟨_,eV _ rfl,rfl,_,rfl⟩⟩
theorem qS(h:PA X es t):PE X (.List es pos) (Af t):=by
 intro pins s σ H Q I hq;refine wpAny_List_spliced (aI (h pos pins s σ H _ I hq) λus s1 ⟨xs,H1,I1,r,z,q⟩=>⟨by rw[<-r.length];exact z,?_⟩);have hf:H1 s1.heap.objs.size=none:=I1.hok.fresh (bb _);refine⟨.ref s1.heap.objs.size,upd H1 s1.heap.objs.size (.lst xs),I1.laid (t':=s1.toks) (λb u e=>bZ _ e) (bb _) ?_,rfl,q _ hf⟩;exact⟨z,us,0,r,eV _ rfl⟩
abbrev Sp:=List V->Hp->VK->XK->Prop
abbrev jH:=List Env->Hp->Shared->XK->Value->Shared->Prop
structure Env0(P:Program)(w:World)(K:Oq)(mg:Str->Option Value)(base:Heap)(A:Around)(outer:List Env)(s:Shared)(H:Hp):Prop where
 frames:A.frames=some outer
 mod:Mod K mg base
 bs:∀b o,base.get? b=some o->s.heap.get? b=some o/\H b=none
 bsz:base.objs.size<=s.heap.objs.size
 funs:s.heap.FunFrames base outer
 frf:∀b∈cu outer,H b=none
 hok:HOk P w H s.heap
 bare:AllBare s.gens
 sysn:∀xs,H sysModules≠some (.lst xs)
def CE(outer:List Env)(P:Program)(w:World)(H:Hp)(s:Shared)(Q:VK)(u:Value)(s':Shared):Prop:=
 ∃v H',s'.os=s.os/\AllBare s'.gens/\Un (cu outer) [] H H' s.heap s'.heap/\HOk P w H' s'.heap/\RelV v u/\Q v H'
def CR(CX:jH)(outer:List Env)(P:Program)(w:World)(H:Hp)(s:Shared)(Q:VK)(E:XK)(r:Result)(s':Shared):Prop:=
 match r with
 |.ok (.ret u)=>CE outer P w H s Q u s'
 |.ok _=>False
 |.error e=>CX outer H s E e s'
structure FnOk(P:Program)(w:World)(K:Oq)(mg:Str->Option Value)(base:Heap)(CX:jH)(k:Nat)(f:Addr)(fd:FuncData)(ps:List Str)(sp:Sp):Prop where
 len:∀vs H Q E,sp vs H Q E->vs.length=ps.length
 run:∀(A:Around) (outer:List Env) (s:Shared) (H:Hp) (args:Args) (us:List Value) (vs:List V) (Q:VK) (E:XK),Room k A->Env0 P w K mg base A outer s H->BindsTo s fd args (ps.zip us)->Vals vs us->sp vs H Q E->
  codeAny (model P w) A (.call (.ref f) args) (CR CX outer P w H s Q E) s
theorem FnOk.mono{P:Program}{w:World}{K:Oq}{mg:Str->Option Value}{base:Heap}{CX:jH}{j k:Nat}{f:Addr}{fd:FuncData}{ps:List Str}{sp:Sp}(F:FnOk P w K mg base CX j f fd ps sp)(h:j<=k) :
  FnOk P w K mg base CX k f fd ps sp:=⟨F.len,λA outer s H args us vs Q E hr=>F.run A outer s H args us vs Q E (hr.mono h)⟩
theorem FnOk.imp{P:Program}{w:World}{K:Oq}{mg:Str->Option Value}{base:Heap}{CX:jH}{k:Nat}{f:Addr}{fd:FuncData}{ps:List Str}{sp sp':Sp}(F:FnOk P w K mg base CX k f fd ps sp)
  (h:∀vs H Q E,sp' vs H Q E->sp vs H Q E):FnOk P w K mg base CX k f fd ps sp':=
 ⟨λvs H Q E q=>F.len vs H Q E (h _ _ _ _ q),λA outer s H args us vs Q E hr he hb hv hs=>F.run A outer s H args us vs Q E hr he hb hv (h _ _ _ _ hs)⟩
theorem Env0.make{P:Program}{w:World}{K:Oq}{mg:Str->Option Value}{base:Heap}{A:Around}{outer:List Env}{s:Shared}{H:Hp}(e:Env0 P w K mg base A outer s H)(C:Addr)(us:List Value)(kw:List (Str×Value)) :
  Env0 P w K mg base (A.under (.builtin "type.__call__" ⟨.ref C::us,kw⟩)) outer s H:=⟨by first|exact e.frames|(simpa[Around.under,Code.envs,Code.isFrame,pushEnvs] using e.frames),e.mod,e.bs,e.bsz,e.funs,e.frf,e.hok,e.bare,e.sysn⟩
theorem Env0.in1{P:Program}{w:World}{K:Oq}{mg:Str->Option Value}{base:Heap}{A:Around}{outer:List Env}{s:Shared}{H:Hp}(e:Env0 P w K mg base A outer s H) :
  Env0 P w K mg base A.in1 outer s H:=⟨e.frames,e.mod,e.bs,e.bsz,e.funs,e.frf,e.hok,e.bare,e.sysn⟩
variable {s':Shared}
theorem Inv.env0(I:Inv X pins σ H s):Env0 X.prog X.w X.K X.mg X.base X.A X.stack s H:=
 ⟨I.ok.frames,I.ok.mod,I.bs,gb I.ok.bsz I.sz,I.stack,I.stkFree,I.hok,I.bare,I.sysn⟩
theorem Inv.after{Q:VK}{u:Value}(I:Inv X pins σ H s)(h:CE X.stack X.prog X.w H s Q u s'):EP X pins σ Q u s':=by
 obtain⟨v,H',os,bare,un,hok,r,q⟩:=h;obtain⟨hh,g,d,t,os'⟩:=s';obtain rfl:os'=s.os:=os;exact⟨v,H',I.call (h':=hh) (g':=g) (d':=d) (t':=t) (ch:=[]) un hok bare (λb z=>Ot z (by simp)),r,q⟩
def uo(sp:Sp)(dvs:List V)(E:XK)(t:TA):TE:=λσ H Q=>t σ H λvs H1=>sp (vs++dvs) H1 Q E
def Binds(K:Oq)(fd:FuncData)(ps:List Str)(ds:List Value):Prop:=
 ∀(s:Shared) (us:List Value),K.In s.heap->(us++ds).length=ps.length->BindsTo s fd ⟨us,[]⟩ (ps.zip (us++ds))
theorem Binds.all{K:Oq}{fd:FuncData}{ps:List Str}(h:∀us:List Value,us.length=ps.length->bindArgs fd ⟨us,[]⟩=pure (ps.zip us)):Binds K fd ps []:=λs us _ hl=>by
 rw[p8] at hl ⊢;exact .of_eq (h us hl)
def cX(CX:jH)(X:Cx)(E:XK):Prop:=∀(pins:List (Addr×Obj)) (σ:St) (H:Hp) (s:Shared) (e:Value) (s':Shared),Inv X pins σ H s->CX X.stack H s E e s'->X.xe e s'
section
variable{X:Cx}{CX:jH}{k:Nat}{f C:Addr}{fd:FuncData}{ps:List Str}{sp:Sp}{dvs:List V}{ds:List Value}{E:XK}{x m:Str}{p pos apos:Pos}{e o:Expr}{es:List Expr}{ta:TE}{t:TA}
theorem qT{pins:List (Addr×Obj)}{σ:St}{H:Hp}{s:Shared}{Q:VK}{us:List Value}{vs:List V}(F:FnOk X.prog X.w X.K X.mg X.base CX k f fd ps sp)(hr:Room k X.A)(hb:Binds X.K fd ps ds)(hd:Vals dvs ds)(hx:cX CX X E)
  (I:Inv X pins σ H s) (r:Vals vs us) (h:sp (vs++dvs) H Q E):wpAny (model X.prog X.w) X.A (call (.ref f) us) (EP X pins σ Q) X.xe s:=by
 have r2:Vals (vs++dvs) (us++ds):=r.append hd;have hl:(us++ds).length=ps.length:=by rw[<-r2.length];exact F.len _ _ _ _ h
 refine wpAny_call (codeAny_mono (F.run X.A X.stack s H ⟨us,[]⟩ (us++ds) (vs++dvs) Q E hr I.env0 (hb s us I.kIn hl) r2 h) λr s' hq=>?_);cases r with
 |error e=>exact hx pins σ H s e s' I hq
 |ok fl=>
  cases fl with
  |ret u=>exact I.after hq
  |next=>exact OE hq
  |brk=>exact OE hq
  |cont=>exact OE hq
theorem oa(F:FnOk X.prog X.w X.K X.mg X.base CX k f fd ps sp)(hr:Room k X.A)(hg:Gl X x)(hm:X.mg x=some (.ref f))(hk:PySem.W.keepIn X.K (.ref f)=true)(hb:Binds X.K fd ps ds)(hd:Vals dvs ds)(hx:cX CX X E)
  (ha:PA X (e::es) t) (hdb:(x==("__debug__" : Str))=false:=by decide) (he:starEach (e::es) X.env=(false,eval e X.env)::starEach es X.env:=by rfl) (hpl:(backTo pos (starEach es X.env)).any (·.1)=false:=by rfl) :
  PE X (.Call (.Name x p) (e::es) [] pos) (uo sp dvs E t):=by
 intro pins s σ H Q I h;refine OR (eX I hg hm ?_ hdb);refine PySem.W.callWith_K (h₀:=X.base) I.ok.mod.kin hk (aI (ha pos pins s σ H _ I h) λus s1 ⟨vs,H1,I1,r,q⟩=>⟨I1.kIn,?_⟩) he hpl;exact qT F hr hb hd hx I1 r q
end
section
variable{X:Cx}{CX:jH}{k:Nat}{f C:Addr}{fd:FuncData}{ps ks:List Str}{sp:Sp}{E:XK}{x m:Str}{p pos apos kpos:Pos}{e o:Expr}{es:List Expr}{kws:List Keyword}{te ta:TE}{t tk:TA}{nm:Option Str}
variable{g:List Value->List Value->List Value}{gV:List V->List V->List V}
end
structure cB(N P:List Str)(sc:Scope):Prop where
 kind:sc.kind=.function
 co:sc.isCoroutine=false
 gen:sc.isGenerator=false
 nd:N.Nodup
 pre:N.take P.length=P
 par:∀x∈P,sc.names.lookup x=some .local\/sc.names.lookup x=some .cell
 nofree:∀y∈sc.names,y.2≠.free
theorem gp{kindOf:Str->Option NameKind}{x:Str}:∀{binds:List (Str×Value)} {m:Str->Option Value},(∀v,(x,v)∉binds)->bindL kindOf binds m x=m x
 |[],_,_=>rfl
 |(n,v)::r,m,h=>by
  unfold bindL;rw[gp λw hw=>h w (fG _ hw)];split
  .have:x≠n:=by rintro rfl;exact h v jL
   simp[this]
  .rfl
theorem gu{kindOf:Str->Option NameKind}{x:Str}:∀{binds:List (Str×Value)} {m:Str->Option Value},(∀v,(x,v)∉binds)->bindC kindOf binds m x=m x
 |[],_,_=>rfl
 |(n,v)::r,m,h=>by
  unfold bindC;rw[gu λw hw=>h w (fG _ hw)];split
  .rfl
  .have:x≠n:=by rintro rfl;exact h v jL
   simp[this]
theorem gv{kindOf:Str->Option NameKind}{x:Str}{v:Value}:∀{P:List Str} {vs:List Value} {i:Nat} {m:Str->Option Value},P.Nodup->P[i]? = some x->vs[i]? = some v->kindOf x=some .local->
  bindL kindOf (P.zip vs) m x=some v
 |[],_,_,_,_,h,_,_=>by simp at h
 |_::_,[],_,_,_,_,h,_=>by simp at h
 |p::P,w::vs,0,m,nd,h1,h2,hk=>by
  simp at h1 h2;subst h1;subst h2;show bindL kindOf ((p,w)::P.zip vs) m p=_;unfold bindL;rw[gp λv hv=>(YaI.mp nd).1 (wn hv).1,if_pos hk];simp
 |p::P,w::vs,i+1,m,nd,h1,h2,hk=>by
  show bindL kindOf ((p,w)::P.zip vs) m x=_;unfold bindL;exact gv (i:=i) (YaI.mp nd).2 (by simpa using h1) (by simpa using h2) hk
theorem gw{kindOf:Str->Option NameKind}{x:Str}{v:Value}:∀{P:List Str} {vs:List Value} {i:Nat} {m:Str->Option Value},P.Nodup->P[i]? = some x->vs[i]? = some v->kindOf x≠some .local->
  bindC kindOf (P.zip vs) m x=some v
 |[],_,_,_,_,h,_,_=>by simp at h
 |_::_,[],_,_,_,_,h,_=>by simp at h
 |p::P,w::vs,0,m,nd,h1,h2,hk=>by
  simp at h1 h2;subst h1;subst h2;show bindC kindOf ((p,w)::P.zip vs) m p=_;unfold bindC;rw[gu λv hv=>(YaI.mp nd).1 (wn hv).1,if_neg hk];simp
 |p::P,w::vs,i+1,m,nd,h1,h2,hk=>by
  show bindC kindOf ((p,w)::P.zip vs) m x=_;unfold bindC;exact gw (i:=i) (YaI.mp nd).2 (by simpa using h1) (by simpa using h2) hk
def start(N:List Str)(vs:List V):St:=vs.map some++List.replicate (N.length-vs.length) none
def cY(CX:jH)(P:Program)(w:World)(K:Oq)(mg:Str->Option Value)(base:Heap)(N:List Str)(qual:Str)(scope:Scope)(f:Addr)(cd:Value)(A:Around)(outer:List Env)(s:Shared)(H:Hp)(E:XK):Cx where
 prog:=P
 w:=w
 K:=K
 mg:=mg
 base:=base
 A:=A.deeper (envOfC qual scope s.heap.objs.size f cd)
 N:=N
 s₀:=s
 H₀:=H
 env:=envOfC qual scope s.heap.objs.size f cd
 outer:=outer
 stack:=envOfC qual scope s.heap.objs.size f cd::outer
 ex:=[]
 calm:=true
 fn:=λ_=>true
 pn:=[]
 xe:=λe s'=>wpAny (model P w) (A.deeper (envOfC qual scope s.heap.objs.size f cd)) (leaving (envOfC qual scope s.heap.objs.size f cd) e) (λ_ s''=>CX outer H s E e s'') (λe' s''=>CX outer H s E e' s'') s'
theorem e9{sc:Scope}{n:Nat}{x:Str}(h:sc.names.lookup x=some .cell):∃c,(cellsFrom n sc.names []).lookup x=some c:=by
 have q:=PySem.W.cellsFrom_some sc.names n [] (.inl h);exact Option.isSome_iff_exists.mp q
theorem lq{CX:jH}{P:Program}{w:World}{K:Oq}{mg:Str->Option Value}{base:Heap}{N ps:List Str}{qual:Str}{scope:Scope}{f:Addr}{cd:Value}{A:Around}{outer:List Env}{s s1:Shared}{H:Hp}{E:XK}{us:List Value}{vs:List V}
  (S:cB N ps scope) (hd:A.handled=none) (e0:Env0 P w K mg base A outer s H) (hl:vs.length=ps.length) (r:Vals vs us)
  (x:InCallC s s.heap.objs.size (bindL (envOfC qual scope s.heap.objs.size f cd).kindOf (ps.zip us) λ_=>none) (cellsFrom (s.heap.objs.size+1) scope.names []) (bindC (envOfC qual scope s.heap.objs.size f cd).kindOf (ps.zip us) λ_=>none) s1) :
  Inv (cY CX P w K mg base N qual scope f cd A outer s H E) [] (start N vs) H s1:=by
 have hpl:ps.length<=N.length:=by have:=congrArg List.length S.pre;rw[jf] at this;omega
 obtain⟨h1,tk,rfl,hk⟩:=x.done;have noA:∀b:Addr,b∉(cY CX P w K mg base N qual scope f cd A outer s H E).ex:=λb z=>Ot (show b∈([]:List Addr) from z) (by simp);refine ⟨⟨e0.mod,S.kind,rfl,rfl,bb _,λy z c h1 h2=>?_,λy hy=>?_,λy c _ h=>?_,λ_=>hd,Around.frames_deeper e0.frames,.inr ⟨rfl,rfl⟩,λb z=>Ot z (noA b),e0.bs,e0.bsz,λb _ _=>noA b,λb z=>Ot z (noA b),e0.funs,e0.frf,e0.sysn⟩,
  rfl,e0.bare,Un.kept hk,⟨_,x.toInCall.ns,λi y v h1 h2 h3=>?_⟩,λy c h=>⟨_,x.cell y c h⟩,e0.hok.fresh (bb _),λy c h=>?_,λp hp=>Ot (show p∈([]:List (Addr×Obj)) from hp) (by simp),e0.hok.kept hk,?_⟩
 .exact name_of_addr x.apart (OC h1) (OC h2)
 .have hy:scope.names.lookup y=some .cell\/scope.names.lookup y=some .free:=hy
  rcases hy with hy|hy
  .exact e9 hy
  .exact Ot rfl (S.nofree _ (OC hy))
 .exact jC (x.above y c (OC h))
 .have hi:i<vs.length:=by
   unfold start at h2
   by_cases hi:i<vs.length
   .exact hi
   .rw[lT (by simpa using hi)] at h2
    rw[nN] at h2;split at h2<;>cases h2
  have ha:vs[i]? = some v:=by
   unfold start at h2;rw[l5 (by simpa using hi),cc] at h2;cases e:vs[i]? with
   |none=>rw[e] at h2;cases h2
   |some a=>rw[e] at h2;cases h2;rfl
  obtain⟨u,hu,rv⟩:=r.get ha;have hp:ps[i]? = some y:=by
   rw[<-S.pre,List.getElem?_take_of_lt (by omega)];exact h1
  have ndP:ps.Nodup:=by rw[<-S.pre];exact S.nd.sublist (List.take_sublist _ _)
  refine⟨u,rv,?_⟩;rcases S.par y (jE hp) with k|k
  .exact .inl ⟨k,gv ndP hp hu k⟩
  .obtain⟨c,e⟩:=e9 (n:=s.heap.objs.size+1) k
   refine .inr ⟨.inl k,c,e,?_⟩;have q:=x.cell y c e;rw[gw ndP hp hu (by show scope.names.lookup y≠_;rw[k];decide)] at q;exact q
 .exact e0.hok.fresh (jC (x.above y c (OC h)))
 .unfold start
  show _=N.length;rw[dj,aW,p9];omega
theorem mJ{CX:jH}{P:Program}{w:World}{K:Oq}{mg:Str->Option Value}{base:Heap}{k:Nat}{f:Addr}{name qual:Str}{params:Arguments}{body:List Stmt}{scope:Scope}{dV kV doc pm cdv ct oc:Value}{an od:Option Addr}
  {osl:Array (Option Value)} {N ps:List Str} {sp:Sp} (lk:K.lookup f=some ⟨oc,od,.func (PySem.W.fnOf name qual params body scope dV kV doc pm an cdv ct),osl⟩) (hcd:PySem.W.codeIn K cdv qual=true) (S:cB N ps scope)
  (len:∀vs H Q E,sp vs H Q E->vs.length=ps.length)
  (hbody:∀ (A:Around) (outer:List Env) (s:Shared) (H:Hp) (vs:List V) (Q:VK) (E:XK),Room k (A.deeper (envOfC qual scope s.heap.objs.size f cdv))->sp vs H Q E->
   ∃t,PSs (cY CX P w K mg base N qual scope f cdv A outer s H E) body t/\t { nx:=λ_ H'=>Q .non H',rt:=Q } (start N vs) H) :
  FnOk P w K mg base CX (k+1) f (PySem.W.fnOf name qual params body scope dV kV doc pm an cdv ct) ps sp:=by
 refine⟨len,λA outer s H args us vs Q E hr e0 hb r hsp=>?_⟩;have hl:=len _ _ _ _ hsp;have KX:K.In s.heap:=e0.mod.kin.keeps λb o e=>(e0.bs b o e).1;have lim:s.heap.NoLimit:=e0.mod.nolimit.keeps λb o e=>(e0.bs b o e).1;have hkind:∀y∈ps.zip us,scope.names.lookup y.1=some .local\/(scope.names.lookup y.1=some .cell/\((cellsFrom (s.heap.objs.size+1) scope.names []).lookup y.1).isSome=true):=λ⟨n,v⟩ hy=>by
  rcases S.par n (wn hy).1 with q|q
  .exact .inl q
  .exact .inr ⟨q,PySem.W.cellsFrom_some _ _ _ (.inl q)⟩
 refine codeAny_call_function hr.depth (KX _ _ lk) rfl S.co S.gen rfl (PySem.W.codeRec_of KX hcd) (hb _ _ _ _ ?_);refine wpAny_newFunctionEnv_cells S.kind hkind λenv he s1 x=>?_;subst he;refine⟨lim.keeps x.toInCall.keep,codeAny_func ?_⟩;obtain⟨t,ht,hq⟩:=hbody A outer s H vs Q E (hr.deeper _) hsp;have I:Inv (cY CX P w K mg base N qual scope f cdv A outer s H E) [] (start N vs) H s1:=lq S hr.hd e0 hl r x;refine Ov (ht [] s1 (start N vs) H _ I hq) (λfl s' hs=>?_) λe s' hs=>hs;have fin:∀{σ':St} {H':Hp} {v:V} {u:Value},Inv (cY CX P w K mg base N qual scope f cdv A outer s H E) [] σ' H' s'->RelV v u->Q v H'->CE outer P w H s Q u s':=
  λ{σ' H' v u} J rv q=>⟨v,H',J.os,J.bare,J.base,J.hok,rv,q⟩
 cases fl with
 |ret u=>
  obtain⟨v,σ',H',J,rv,q⟩:=hs;exact fin J rv q
 |next=>
  obtain⟨σ',H',J,q⟩:=hs;exact fin (v:=V.non) (u:=Value.none) J rfl q
 |brk=>
  obtain⟨_,_,_,q⟩:=hs;exact OE q
 |cont=>
  obtain⟨_,_,_,q⟩:=hs;exact OE q
section
variable{X:Cx}{x:Str}{p pos:Pos}{e:Expr}{es:List Expr}{t:TA}{id T:String}{r:List V->Hp->VK->Prop}
def Dx(r:List V->Hp->VK->Prop)(t:TA):TE:=λσ H Q=>t σ H λvs H1=>r vs H1 Q
theorem mK(hc:CallR X (.builtin id) r)(hg:Gl X x)(hm:X.mg x=none)(hv:bootBuiltins x=some (.builtin id))(ha:PA X (e::es) t)(hn:x≠ "__name__" :=by decide)(hdb:(x==("__debug__" : Str))=false:=by decide)
  (he:starEach (e::es) X.env=(false,eval e X.env)::starEach es X.env:=by rfl) (hpl:(backTo pos (starEach es X.env)).any (·.1)=false:=by rfl):PE X (.Call (.Name x p) (e::es) [] pos) (Dx r t):=by
 intro pins s σ H Q I h;refine OR (dm I hg hm hv ?_ hn hdb);exact PyProof.Rows.callWith_builtin1 (aI (ha pos pins s σ H _ I h) λus s1 ⟨vs,H1,I1,r1,q1⟩=>hc pins s1 σ H1 vs us Q I1 r1 q1) he hpl
theorem gx(hc:CallR X (.type T) r)(hg:Gl X x)(hm:X.mg x=none)(hv:bootBuiltins x=some (.type T))(ha:PA X (e::es) t)(hn:x≠ "__name__" :=by decide)(hdb:(x==("__debug__" : Str))=false:=by decide)
  (he:starEach (e::es) X.env=(false,eval e X.env)::starEach es X.env:=by rfl) (hpl:(backTo pos (starEach es X.env)).any (·.1)=false:=by rfl):PE X (.Call (.Name x p) (e::es) [] pos) (Dx r t):=by
 intro pins s σ H Q I h;refine OR (dm I hg hm hv ?_ hn hdb);exact PyProof.Rows.callWith_type1 (aI (ha pos pins s σ H _ I h) λus s1 ⟨vs,H1,I1,r1,q1⟩=>hc pins s1 σ H1 vs us Q I1 r1 q1) he hpl
end
end L2
namespace HT
open PySem PyProof.Rows
section
open PySem.SeqAt
open PySem.AutoSeq1 (wpAny_loadPart')
open PySem.MeetsSeq PySem.MeetsSeq2 PySem.MeetsSeq3
end
variable {prog:Program}{w:World}{A:Around}{E:Value->Shared->Prop}{s:Shared}
theorem cat_tup{t b:Addr}{vs ws:List Value}{Q:Value->Shared->Prop}(ht:IsTup s.heap t vs.toArray)(hb:IsTup s.heap b ws.toArray)(hv:vs≠[])
  (h1:ws=[]->Q (.ref t) s) (h2:ws≠[]->Q (.ref s.heap.objs.size) { s with heap:=s.heap.push { cls:=.type "tuple",data:=.seq (vs++ws).toArray } })
  (hsz:vs.length+ws.length<=sizeLine):wpAny (model prog w) A (binaryOp .Add (.ref t) (.ref b)) Q E s:=by
 obtain⟨⟨cls,dd,data,sl⟩,ho,hc,n,hd⟩:=id ht;obtain⟨⟨cls2,dd2,data2,sl2⟩,ho2,hc2,n2,hd2⟩:=id hb;simp only at hc hd hc2 hd2;subst hc hd hc2 hd2;have e:vs.toArray++ws.toArray=(vs++ws).toArray:=by simp
 by_cases hw:ws=[]
 .exact concat_meets ⟨_,ho,rfl⟩ ⟨_,ho2,rfl⟩ noFill_tuple_add seq_tuple_add PySem.F.slot_tuple_add PySem.F.entry_tuple_add (PySem.F.args_tuple_add_2 _ _)
   (tuple_addW1 t b vs.toArray ws.toArray n n2 dd dd2 sl sl2 (by simpa using hv) (by simp[hw])) ⟨ho,ho2,h1 hw⟩
 .refine concat_meets ⟨_,ho,rfl⟩ ⟨_,ho2,rfl⟩ noFill_tuple_add seq_tuple_add PySem.F.slot_tuple_add PySem.F.entry_tuple_add (PySem.F.args_tuple_add_2 _ _)
   (tuple_addW2 t b vs.toArray ws.toArray n n2 dd dd2 sl sl2 (by simpa using hv) (by simpa using hw) (by rw[dL,dL];exact hsz)) ⟨ho,ho2,?_⟩
  rw[e];exact h2 hw
def sIx(n d:Nat):Option Int->Nat
 |none=>d
 |some v=>if v<0 then(v+(n:Int)).toNat else min v.toNat n
theorem sIx_none(n d:Nat):sIx n d none=d:=rfl
theorem sIx_nat(n d k:Nat):sIx n d (some (k:Int))=min k n:=by
 show(if(k:Int)<0 then((k:Int)+(n:Int)).toNat else min (k:Int).toNat n)=min k n;rw[if_neg (by omega),eK]
theorem qU(n d:Nat)(hd:d<=n)(o:Option Int):sIx n d o<=n:=by
 cases o with
 |none=>exact hd
 |some v=>
  show(if v<0 then(v+(n:Int)).toNat else min v.toNat n)<=n
  by_cases hv:v<0
  .rw[if_pos hv];omega
  .rw[if_neg hv];exact Nat.min_le_right _ _
theorem kI(v:Int)(n d:Nat):(if v<0 then max (v+(n:Int)) 0 else min v (n:Int))=((sIx n d (some v):Nat):Int):=by
 show(if v<0 then max (v+(n:Int)) 0 else min v (n:Int))=(((if v<0 then(v+(n:Int)).toNat else min v.toNat n):Nat):Int)
 by_cases hv:v<0
 .simp only[if_pos hv];omega
 .simp only[if_neg hv];omega
theorem j3(lo hi:Option Int)(n:Nat):Builtin.Slice.sliceAdjust lo hi 1 (n:Int)=(((sIx n 0 lo:Nat):Int),((sIx n n hi:Nat):Int)):=by
 have h1:¬((1:Int)<0):=by omega
 unfold Builtin.Slice.sliceAdjust;simp only[h1,if_false];refine Prod.ext ?_ ?_
 .cases lo with
  |none=>rfl
  |some v=>exact kI v n 0
 .cases hi with
  |none=>rfl
  |some v=>exact kI v n n
theorem j4(i j:Nat):Builtin.Slice.slicePlaces (i:Int) (j:Int) 1=j-i:=by
 unfold Builtin.Slice.slicePlaces;have h1:(1:Int)>0:=by omega
 simp only[h1,if_true,Int.ediv_one];split<;>omega
theorem fb{v:Value}{o:Option Int}{Q:Option Int->Shared->Prop}(p:IsPart v o)(h:Q o s):wpAny (model prog w) A (Builtin.Slice.slicePartIndex v) Q E s:=by
 cases p with
 |none=>exact slicePart_none h
 |int i t=>exact slicePart_int h
theorem cS{sl:Addr}{vl vu:Value}{lo hi:Option Int}{n:Nat}{Q:Int×Int×Nat->Shared->Prop}(hs:s.heap.IsSliceOf sl vl vu .none)(pl:IsPart vl lo)(pu:IsPart vu hi)
  (h:Q (((sIx n 0 lo:Nat):Int),1,sIx n n hi-sIx n 0 lo) s):wpAny (model prog w) A (Builtin.Slice.sliceApplied (.ref sl) (pure (n:Int))) Q E s:=by
 obtain⟨os,hos,hcs,hds⟩:=id hs;unfold Builtin.Slice.sliceApplied Builtin.Slice.sliceFields;refine Op (Op (Oz hos hds (x:=vl) rfl (Op (Oz hos hds (x:=vu) rfl (Op (Oz hos hds (x:=.none) rfl (Os ?_)))))));refine Op (slicePart_none ?_);show wpAny _ _ (if((1:Int)==0)=true then _ else _) _ _ s;rw[if_neg (by decide)];refine Op (fb pl (Op (fb pu (Op (Os ?_)))));show wpAny _ _ (match Builtin.Slice.sliceAdjust lo hi 1 (n:Int) with|(lo,hi)=>pure (lo,(1:Int),Builtin.Slice.slicePlaces lo hi 1)) _ _ s;rw[j3 lo hi n];show wpAny _ _ (pure (((sIx n 0 lo:Nat):Int),(1:Int),Builtin.Slice.slicePlaces ((sIx n 0 lo:Nat):Int) ((sIx n n hi:Nat):Int) 1)) _ _ s;rw[j4];exact Os h
theorem mL(xs:Array Value)(i k:Nat):((List.range k).filterMap λ(m:Nat)=>xs[((i:Int)+(m:Int)*1).toNat]?).toArray=((xs.toList.drop i).take k).toArray:=by
 have e:(λ(m:Nat)=>xs[((i:Int)+(m:Int)*1).toNat]?)=λm=>xs[i+m]?:=by
  funext m;have:((i:Int)+(m:Int)*1).toNat=i+m:=by omega
  rw[this]
 rw[e];have:=pick_run xs i k;rw[List.filterMap_map] at this;have e2:((λx=>xs[x]?)∘λx=>i+x)=λm=>xs[i+m]?:=rfl;rw[e2] at this;rw[this]
theorem getItem_tuple_cut{t sl:Addr}{items:Array Value}{vl vu:Value}{lo hi:Option Int}{Q:Value->Shared->Prop}(ht:IsTup s.heap t items)(hs:s.heap.IsSliceOf sl vl vu .none)(pl:IsPart vl lo)(pu:IsPart vu hi)
  (hw:¬(sIx items.size 0 lo=0/\sIx items.size items.size hi=items.size))
  (h:Q (.ref s.heap.objs.size) { s with heap:=s.heap.push { cls:=.type "tuple",data:=.seq ((items.toList.drop (sIx items.size 0 lo)).take (sIx items.size items.size hi-sIx items.size 0 lo)).toArray } })
  (hsz:items.size<=sizeLine):wpAny (model prog w) A (getItem (.ref t) (.ref sl)) Q E s:=by
 have htake:sizeOk (.seq ((items.toList.drop (sIx items.size 0 lo)).take (sIx items.size items.size hi-sIx items.size 0 lo)).toArray):=by
  show((items.toList.drop (sIx items.size 0 lo)).take (sIx items.size items.size hi-sIx items.size 0 lo)).toArray.size<=sizeLine;rw[dL,jf,jM,za];omega
 have hj:sIx items.size items.size hi<=items.size:=qU _ _ (bb _) hi;obtain⟨os,hos,hcs,hds⟩:=id hs;have hTs:s.TypeIs (.ref sl) "slice" :=⟨os,hos,hcs⟩
 unfold getItem
 try with_reducible refine OF ?_
 first|refine Op (Os ?_)|skip
 refine Op (wpAny_sequenceKey ht.typeIs (by decide) ?_);refine Op (wpAny_callSpecial?_slot (name:=Str.ofString "__getitem__") ht.typeIs PyProof.Rows.slot_tuple_getitem
  (OK PyProof.Rows.slot_tuple_getitem ht.typeIs entry_tuple_getitem ?_ (args_tuple_getitem _ _)))
 show wpAny _ _ (Builtin.Tuple.tupleItemsOf (.ref t) >>= _) _ _ s;refine Op (tupleItemsOf_ ht ?_);refine Op (OW hTs ?_);rw[if_pos (by decide)];refine Op (cS hs pl pu ?_);have hno:¬((((sIx items.size 0 lo:Nat):Int)==0&&(1:Int)==1&&(sIx items.size items.size hi-sIx items.size 0 lo)==items.size)=true):=by
  intro q;rw[cQ,cQ] at q;have q1:((sIx items.size 0 lo:Nat):Int)=0:=eq_of_beq q.1.1;have q2:sIx items.size items.size hi-sIx items.size 0 lo=items.size:=eq_of_beq q.2;exact hw ⟨by omega,by omega⟩
 show wpAny _ _ (if(((sIx items.size 0 lo:Nat):Int)==0&&(1:Int)==1&&(sIx items.size items.size hi-sIx items.size 0 lo)==items.size)=true then _ else _) _ _ s;rw[if_neg hno,mL]
 first
  |exact Op (m:=Builtin.Tuple.tupleExact _) (OA (Os ⟨_,rfl,Os h⟩) htake)
  |exact Op (m:=Builtin.Tuple.tupleExact _) (OA (Op (Os (Os ⟨_,rfl,Os h⟩))) htake)
  |exact Op (Op (m:=Builtin.Tuple.tupleExact _) (OA (Os (Os ⟨_,rfl,Os h⟩)) htake))
  |exact Op (Op (m:=Builtin.Tuple.tupleExact _) (OA (Os ⟨_,rfl,Os h⟩) htake))
end HT
namespace L2
open PySem PySem.Spec PyProof.Rows
abbrev TO:=St->Hp->(Option Int->Hp->Prop)->Prop
def PO(X:Cx)(e:Option Expr)(t:TO):Prop:=
 ∀(pins:List (Addr×Obj)) (s:Shared) (σ:St) (H:Hp) (Q:Option Int->Hp->Prop),Inv X pins σ H s->t σ H Q->
  wpAny (model X.prog X.w) X.A (evalPart e X.env) (λu s'=>∃o H',Inv X pins σ H' s'/\IsPart u o/\Q o H') X.xe s
def oh:TO:=λ_ H Q=>Q none H
def uq(t:TE):TO:=λσ H Q=>t σ H λx H1=>∃i,x=.int i/\Q (some i) H1
variable {X:Cx}{e:Expr}{te:TE}{lo hi:Option Expr}{tl th:TO}{pos p2:Pos}
theorem oj:PO X none oh:=by
 intro pins s σ H Q I h;rw[evalPart_none];exact Os ⟨none,H,I,.none,h⟩
theorem ol(h:PE X e te):PO X (some e) (uq te):=by
 intro pins s σ H Q I hw;rw[evalPart_some];refine aI (h pins s σ H _ I hw) λu s1 ⟨x,H1,I1,r1,q1⟩=>?_;obtain⟨i,rfl,q⟩:=q1;obtain⟨t,rfl⟩:=r1;exact⟨some i,H1,I1,.int i t,q⟩
def SlR(X:Cx)(r:V->Option Int->Option Int->Hp->VK->Prop):Prop:=
 ∀(pins:List (Addr×Obj)) (s:Shared) (σ:St) (H:Hp) (x:V) (v vl vu:Value) (lo hi:Option Int) (sl:Addr) (Q:VK),Inv X pins σ H s->RelV x v->s.heap.IsSliceOf sl vl vu .none->IsPart vl lo->IsPart vu hi->r x lo hi H Q->
  ∃T id,typeLookup (.type T) "__getitem__" = pure (some (.builtin id))/\s.TypeIs v T/\wpAny (model X.prog X.w) X.A (getItem v (.ref sl)) (EP X pins σ Q) X.xe s
theorem SlR.or{r r':V->Option Int->Option Int->Hp->VK->Prop}(h:SlR X r)(h':SlR X r'):SlR X (λx lo hi H Q=>r x lo hi H Q\/r' x lo hi H Q):=by
 intro pins s σ H x v vl vu lo hi sl Q I rx hs pl pu q;rcases q with q|q
 .exact h pins s σ H x v vl vu lo hi sl Q I rx hs pl pu q
 .exact h' pins s σ H x v vl vu lo hi sl Q I rx hs pl pu q
def HE(r:V->Option Int->Option Int->Hp->VK->Prop)(te:TE)(tl th:TO):TE:=λσ H Q=>te σ H λx H1=>tl σ H1 λl H2=>th σ H2 λu H3=>r x l u H3 Q
theorem mM{r:V->Option Int->Option Int->Hp->VK->Prop}(hr:SlR X r)(he:PE X e te)(hl:PO X lo tl)(hu:PO X hi th):PE X (.Subscript e (.Slice lo hi none p2) pos) (HE r te tl th):=by
 intro pins s σ H Q I h;refine Subscript_ (aI (he pins s σ H _ I h) λv s1 ⟨x,H1,I1,r1,q1⟩=>?_);refine wpAny_Slice (aI (hl pins s1 σ H1 _ I1 q1) λvl s2 ⟨l,H2,I2,pl,q2⟩=>aI (hu pins s2 σ H2 _ I2 q2) λvu s3 ⟨u,H3,I3,pu,q3⟩=>?_);rw[evalPart_none];refine Os ?_;have I4:Inv X pins σ H3 { s3 with heap:=s3.heap.push { cls:=.type "slice",data:=.fields #[vl,vu,.none] } }:=I3.kept (t':=s3.toks) λb ob q=>bZ _ q;obtain⟨T,id,hT,ht,hg⟩:=hr pins { s3 with heap:=s3.heap.push { cls:=.type "slice",data:=.fields #[vl,vu,.none] } } σ H3 x v vl vu l u s3.heap.objs.size Q I4 r1 (Heap.IsSliceOf.new ..) pl pu q3;show wpAny (model X.prog X.w) X.A (subscriptTail e (.Slice lo hi none p2) v (.ref s3.heap.objs.size)) (EP X pins σ Q) X.xe { s3 with heap:=s3.heap.push { cls:=.type "slice",data:=.fields #[vl,vu,.none] } };exact tail_any (ops:=[.ref s3.heap.objs.size,v]) ht hT hg (by with_unfolding_all rfl)
def jl(xs:List V)(lo hi:Option Int):List V:=(xs.drop (HT.sIx xs.length 0 lo)).take (HT.sIx xs.length xs.length hi-HT.sIx xs.length 0 lo)
theorem eG(xs:List V)(lo hi:Option Int):(jl xs lo hi).length<=xs.length:=by
 unfold jl;rw[jf,jM];omega
def Ag(K:Oq):V->Option Int->Option Int->Hp->VK->Prop:=λx lo hi H Q=>∃a xs,x=.ref a/\SqT K H a xs/\
 ¬(HT.sIx xs.length 0 lo=0/\HT.sIx xs.length xs.length hi=xs.length)/\∀p,H p=none->Q (.ref p) (upd H p (.tup (jl xs lo hi)))
theorem sl_tup:SlR X (Ag X.K):=by
 intro pins s σ H x v vl vu lo hi sl Q I rx hs pl pu h;obtain⟨a,xs,rfl,hx,hw,q⟩:=h;cases rx;obtain⟨its,r,ht,hz⟩:=I.tuple hx;have hlen:its.toArray.size=xs.length:=by rw[dL];exact r.length.symm
 refine⟨"tuple",_,PyProof.Rows.slot_tuple_getitem.lookup,ht.typeIs,?_⟩;refine HT.getItem_tuple_cut ht hs pl pu (by rw[hlen];exact hw) ?_ (by rw[hlen];exact hz);rw[hlen];refine⟨.ref s.heap.objs.size,_,I.laid (t':=s.toks) (o:=.tup (jl xs lo hi)) (λb ob q=>bZ _ q) (bb _) ?_,rfl,q _ (I.hok.fresh (bb _))⟩;exact⟨gb (eG xs lo hi) hz,_,(r.drop (HT.sIx xs.length 0 lo)).take (HT.sIx xs.length xs.length hi-HT.sIx xs.length 0 lo),IsTup.new _ _⟩
def ur(K:Oq):R2:=λx y H Q=>∃a b xs ys,x=.ref a/\y=.ref b/\SqT K H a xs/\SqT K H b ys/\xs≠[]/\xs.length+ys.length<=sizeLine/\
 (ys=[]->Q (.ref a) H)/\(ys≠[]->∀p,H p=none->Q (.ref p) (upd H p (.tup (xs++ys))))
theorem Vals.nil_iff{xs:List V}{us:List Value}(r:Vals xs us):us=[]↔xs=[]:=by
 cases r with
 |nil=>simp
 |cons _ _=>simp
theorem om:OpR X (binaryOp .Add) (ur X.K):=by
 intro pins s σ H x y v u Q I rx ry h;obtain⟨a,b,xs,ys,rfl,rfl,ha,hb,hx,hz,q1,q2⟩:=h;cases rx;cases ry;obtain⟨its,r1,p1,_⟩:=I.tuple ha;obtain⟨its2,r2,p2,_⟩:=I.tuple hb;refine HT.cat_tup p1 p2 (λz=>hx (r1.nil_iff.mp z)) (λz=>⟨.ref a,H,I,rfl,q1 (r2.nil_iff.mp z)⟩) (λz=>?_) (by rw[<-r1.length,<-r2.length];exact hz);refine⟨.ref s.heap.objs.size,_,I.laid (t':=s.toks) (o:=.tup (xs++ys)) (λb ob q=>bZ _ q) (bb _) ?_,rfl,q2 (λw=>z (r2.nil_iff.mpr w)) _ (I.hok.fresh (bb _))⟩;exact⟨by rw[dj];exact hz,_,r1.append r2,IsTup.new _ _⟩
def lV(n:Nat)(i:Int):Option Nat:=if 0<=i then(if i<n then some i.toNat else none) else if -(n:Int)<=i then some (i+n).toNat else none
def ee{α:Type}(xs:List α)(i:Int):Option α:=(lV xs.length i).bind λj=>xs[j]?
theorem kJ{n:Nat}{i:Int}{j:Nat}(h:lV n i=some j):seqIndex? i n=some j/\j<n/\-(n:Int)<=i/\i<n:=by
 unfold lV at h
 by_cases h0:0<=i
 .rw[if_pos h0] at h
  by_cases h1:i<n
  .rw[if_pos h1] at h
   have e:i.toNat=j:=Ow h;exact⟨by rw[seqIndex_of h0 h1,e],by omega,by omega,h1⟩
  .rw[if_neg h1] at h;cases h
 .rw[if_neg h0] at h
  by_cases h1:-(n:Int)<=i
  .rw[if_pos h1] at h
   have e:(i+n).toNat=j:=Ow h;exact⟨by rw[seqIndex_neg (by omega) h1,e],by omega,h1,by omega⟩
  .rw[if_neg h1] at h;cases h
theorem gK{α:Type}{xs:List α}{i:Int}{v:α}(h:ee xs i=some v):∃j,seqIndex? i xs.length=some j/\xs[j]? = some v/\j<xs.length/\-(xs.length:Int)<=i/\i<xs.length:=by
 unfold ee at h;cases e:lV xs.length i with
 |none=>rw[e] at h;cases h
 |some j=>
  rw[e] at h;obtain⟨h1,h2,h3,h4⟩:=kJ e;exact⟨j,h1,h,h2,h3,h4⟩
theorem cD{α:Type}{xs:List α}{j:Nat}{v:α}(h:xs[j]? = some v):ee xs (j:Int)=some v:=by
 have hj:j<xs.length:=(Yas.mp h).1;have e:lV xs.length (j:Int)=some j:=by
  unfold lV;rw[if_pos (by omega),if_pos (by omega)];simp
 unfold ee;rw[e];exact h
def kK(b:Expr):Prop:=∀o i,subscripted b false o i=operate [o,i] (getItem o i)
def IxR(X:Cx)(r:R2):Prop:=
 ∀(value slice:Expr) (pins:List (Addr×Obj)) (s:Shared) (σ:St) (H:Hp) (x y:V) (v u:Value) (Q:VK),Inv X pins σ H s->RelV x v->RelV y u->r x y H Q->
  subscripted slice false v u=operate [v,u] (getItem v u)->wpAny (model X.prog X.w) X.A (subscriptTail value slice v u) (EP X pins σ Q) X.xe s
def MtR(X:Cx)(id:String)(r:V->List V->Hp->VK->Prop):Prop:=
 ∀(pins:List (Addr×Obj)) (s:Shared) (σ:St) (H:Hp) (x:V) (xs:List V) (v:Value) (us:List Value) (Q:VK),Inv X pins σ H s->RelV x v->Vals xs us->r x xs H Q->
  wpAny (model X.prog X.w) X.A (call (.builtin id) (v::us)) (EP X pins σ Q) X.xe s
variable {a b:Expr}{ta tb:TE}
theorem IxR.or{r r':R2}(h:IxR X r)(h':IxR X r'):IxR X (λx y H Q=>r x y H Q\/r' x y H Q):=by
 intro value slice pins s σ H x y v u Q I rx ry q hs;rcases q with q|q
 .exact h value slice pins s σ H x y v u Q I rx ry q hs
 .exact h' value slice pins s σ H x y v u Q I rx ry q hs
theorem MtR.or{id:String}{r r':V->List V->Hp->VK->Prop}(h:MtR X id r)(h':MtR X id r'):MtR X id (λx xs H Q=>r x xs H Q\/r' x xs H Q):=by
 intro pins s σ H x xs v us Q I rx rs q;rcases q with q|q
 .exact h pins s σ H x xs v us Q I rx rs q
 .exact h' pins s σ H x xs v us Q I rx rs q
theorem ut{r:R2}(hr:IxR X r)(ha:PE X a ta)(hb:PE X b tb)(hs:kK b):PE X (.Subscript a b pos) (xa r ta tb):=by
 intro pins s σ H Q I h;exact Subscript_ (qL ha hb I h λv u s2 x y H2 I2 rx ry q=>hr a b pins s2 σ H2 x y v u Q I2 rx ry q (hs _ _))
def uu(K:Oq):R2:=λx y H Q=>∃p xs i v,x=.ref p/\y=.int i/\SqL K H p xs/\ee xs i=some v/\Q v H
def uv(K:Oq):R2:=λx y H Q=>∃p xs i v,x=.ref p/\y=.int i/\SqT K H p xs/\ee xs i=some v/\Q v H
def uw:R2:=λx y H Q=>∃z i c,x=.str z/\y=.int i/\z.length<=sizeLine/\ee z.cps.toList i=some c/\Q (.str ⟨#[c]⟩) H
theorem ix_list:IxR X (uu X.K):=by
 intro value slice pins s σ H x y v u Q I rx ry h hs;obtain⟨p,xs,i,z,rfl,rfl,hq,he,q⟩:=h;cases rx;obtain⟨t,rfl⟩:=ry;obtain⟨its,r,pl,hz⟩:=I.list hq;obtain⟨j,h1,h2,h3,h4,h5⟩:=gK he;obtain⟨w,ew,rw'⟩:=r.get h2;have hl:=r.length;have hn:=et;have fin:EP X pins σ Q w s:=⟨z,H,I,rw',q⟩
 by_cases h0:0<=i
 .have hj:i.toNat=j:=by
   rw[seqIndex_of h0 h5] at h1;exact Ow h1
  exact item_listR pl.isList h0 (by omega) (by rw[hj];simpa using ew) fin hs
 .have hj:(i+(its.toArray.size:Int)).toNat=j:=by
   rw[seqIndex_neg (by omega) h4] at h1;rw[dL,<-hl];exact Ow h1
  exact subscriptTail_builtinR (x:=w) pl.isList.typeIs slot_list_getitem.lookup
   (wpAny_getItem_list_neg (Q:=λr s'=>r=w/\EP X pins σ Q r s') pl.isList (by omega) (by rw[dL]<;>omega) (by omega) (by rw[hj];simpa using ew) ⟨rfl,fin⟩) hs
theorem ix_tup:IxR X (uv X.K):=by
 intro value slice pins s σ H x y v u Q I rx ry h hs;obtain⟨p,xs,i,z,rfl,rfl,hq,he,q⟩:=h;cases rx;obtain⟨t,rfl⟩:=ry;obtain⟨its,r,pl,hz⟩:=I.tuple hq;obtain⟨j,h1,h2,h3,h4,h5⟩:=gK he;obtain⟨w,ew,rw'⟩:=r.get h2;have hl:=r.length;have hn:=et;have fin:EP X pins σ Q w s:=⟨z,H,I,rw',q⟩
 exact subscriptTail_builtinR (x:=w) pl.typeIs slot_tuple_getitem.lookup
  (getItem_tuple (j:=j) (Q:=λr s'=>r=w/\EP X pins σ Q r s') pl (by omega) (by omega) (by rw[dL,<-hl];exact h1) (by simpa using ew) ⟨rfl,fin⟩) hs
theorem qV:IxR X uw:=by
 intro value slice pins s σ H x y v u Q I rx ry h hs;obtain⟨z,i,c,rfl,rfl,hz,he,q⟩:=h;obtain⟨t,rfl⟩:=rx;obtain⟨t',rfl⟩:=ry;obtain⟨j,h1,h2,h3,h4,h5⟩:=gK he;have hl:z.cps.toList.length=z.length:=by simp[Str.length]
 rw[hl] at h1 h4 h5;have hn:=et;exact tail_any (typeIs_str s z t) slot_str_getitem.lookup (getItem_str (c:=c) (by
  have e1:decide (i < -(2^63:Int))=false:=Ox (by omega);have e2:decide (i ≥ 2^63)=false:=Ox (by omega);rw[e1,e2,Bool.or_false]) (by rw[h1];simpa using h2) ⟨.str ⟨#[c]⟩,H,I.tok _,⟨_,rfl⟩,q⟩) hs
def Dy(K:Oq):R2:=λx y H Q=>uu K x y H Q\/uv K x y H Q\/uw x y H Q
theorem mO:IxR X (Dy X.K):=ix_list.or (ix_tup.or qV)
theorem j5(its:List Value)(n j:Nat)(u:Value):Obj.mapSeq (·.setIfInBounds j u) { cls:=.type "list",data:=.seq its.toArray n }={ cls:=.type "list",data:=.seq (its.set j u).toArray n }:=by
 simp[Obj.mapSeq]
theorem Inv.lst{pins:List (Addr×Obj)}{σ:St}{H:Hp}{s:Shared}{p:Addr}{xs:List V}(I:Inv X pins σ H s)(h:H p=some (.lst xs)) :
  ∃(its:List Value) (n:Nat),Vals xs its/\s.heap.get? p=some { cls:=.type "list",data:=.seq its.toArray n }/\xs.length<=sizeLine:=by
 obtain⟨z,its,n,r,e⟩:=I.hok p _ h;exact⟨its,n,r,e,z⟩
theorem Inv.lstUpd{pins:List (Addr×Obj)}{σ:St}{H:Hp}{s:Shared}{p:Addr}{xs ys:List V}{its its':List Value}{n n':Nat}{f:Obj->Obj}(I:Inv X pins σ H s)(h:H p=some (.lst xs))
  (ho:s.heap.get? p=some { cls:=.type "list",data:=.seq its.toArray n }) (hf:f { cls:=.type "list",data:=.seq its.toArray n }={ cls:=.type "list",data:=.seq its'.toArray n' }) (r:Vals ys its') (hz:ys.length<=sizeLine) (t:Nat) :
  Inv X pins σ (upd H p (.lst ys)) { s with heap:=s.heap.update p f,toks:=t }:=by
 have e:(s.heap.update p f).get? p=some { cls:=.type "list",data:=.seq its'.toArray n' }:=by
  rw[sZ f ho (by rw[hf]<;>rfl),hf]
 refine I.write (x:=p) (e:=p) (by rw[h];trivial) (.inl rfl) (λb u hb q=>(qa _ _ (Oy hb)).trans q) ⟨_,e⟩ ?_ (.inl ⟨_,h⟩);exact⟨hz,its',n',r,e⟩
def uz:V->V->V->Hp->(Hp->Prop)->Prop:=λo i v H Q=>∃p xs k j,o=.ref p/\i=.int k/\H p=some (.lst xs)/\lV xs.length k=some j/\Q (upd H p (.lst (xs.set j v)))
theorem jm:ue X uz:=by
 intro pins s σ H o i v ov iv u Q I ro ri rv h;obtain⟨p,xs,k,j,rfl,rfl,hp,hj,q⟩:=h;cases ro;obtain⟨t,rfl⟩:=ri;obtain⟨its,n,r,ho,hz⟩:=I.lst hp;obtain⟨h1,h2,h3,h4⟩:=kJ hj;have hl:=r.length;have hn:=et;have I':Inv X pins σ (upd H p (.lst (xs.set j v))) { s with heap:=s.heap.update p (Obj.mapSeq (·.setIfInBounds j u)) }:=
  I.lstUpd hp ho (j5 its n j u) (r.set rv j) (by rw[dI];exact hz) s.toks
 by_cases h0:0<=k
 .have hk:k.toNat=j:=by
   rw[seqIndex_of h0 h4] at h1;exact Ow h1
  exact PySem.W.ki_setAt ho h0 (by omega) (by rw[dL,<-hl];exact h4) (by rw[hk];exact⟨_,I',q⟩)
 .have hk:(k+(its.toArray.size:Int)).toNat=j:=by
   rw[seqIndex_neg (by omega) h3] at h1;rw[dL,<-hl];exact Ow h1
  exact PySem.W.ki_setBack ho (by omega) (by rw[dL,<-hl];exact h3) (by omega) (by rw[hk];exact⟨_,I',q⟩)
theorem gL(lo hi:Option Int)(n:Nat):(sliceBounds lo hi none n).1=((HT.sIx n 0 lo:Nat):Int)/\(sliceBounds lo hi none n).2.1=((HT.sIx n n hi:Nat):Int)/\(sliceBounds lo hi none n).2.2=1:=by
 refine⟨?_,?_,rfl⟩
 .cases lo with
  |none=>simp[sliceBounds,HT.sIx]
  |some i=>
   simp only[sliceBounds,HT.sIx,Option.getD_none,show(1:Int)>0 by decide,if_true]
   by_cases h:i<0
   .simp only[h,if_true]<;>omega
   .simp only[h,if_false]<;>omega
 .cases hi with
  |none=>simp[sliceBounds,HT.sIx]
  |some i=>
   simp only[sliceBounds,HT.sIx,Option.getD_none,show(1:Int)>0 by decide,if_true]
   by_cases h:i<0
   .simp only[h,if_true]<;>omega
   .simp only[h,if_false]<;>omega
theorem fM(its:List Value)(lo hi:Option Int):slicePick its.toArray lo hi none=((its.drop (HT.sIx its.length 0 lo)).take (HT.sIx its.length its.length hi-HT.sIx its.length 0 lo)).toArray:=by
 obtain⟨h1,h2,h3⟩:=gL lo hi its.toArray.size;unfold slicePick;rw[h1,h2,h3];simp only[sliceRange_one,pick_run,dL]<;>rfl
def Ah(K:Oq):V->Option Int->Option Int->Hp->VK->Prop:=λx lo hi H Q=>∃a xs,x=.ref a/\SqL K H a xs/\∀p,H p=none->Q (.ref p) (upd H p (.lst (jl xs lo hi)))
theorem sl_list:SlR X (Ah X.K):=by
 intro pins s σ H x v vl vu lo hi sl Q I rx hs pl pu h;obtain⟨a,xs,rfl,hx,q⟩:=h;cases rx;obtain⟨its,r,ht,hz⟩:=I.list hx;have hlen:=r.length;refine⟨"list",_,slot_list_getitem.lookup,ht.isList.typeIs,?_⟩;refine wpAny_getItem_list_slice ht.isList hs pl pu .none (by simp) ?_ (by rw[dL]<;>omega);rw[fM,<-hlen];refine⟨.ref s.heap.objs.size,_,I.laid (t':=s.toks) (o:=.lst (jl xs lo hi)) (λb ob q=>bZ _ q) (bb _) ?_,rfl,q _ (I.hok.fresh (bb _))⟩;exact⟨gb (eG xs lo hi) hz,_,0,(r.drop (HT.sIx xs.length 0 lo)).take (HT.sIx xs.length xs.length hi-HT.sIx xs.length 0 lo),eV _ rfl⟩
def dY:V->Bool
 |.non=>true
 |.bl _=>true
 |.int _=>true
 |.str _=>true
 |_=>false
def pp:V->V->Bool
 |.non,.non=>true
 |.bl a,.bl b=>a==b
 |.bl a,.int b=>(if a then 1 else 0)==b
 |.int a,.bl b=>a==(if b then 1 else 0)
 |.int a,.int b=>a==b
 |.str a,.str b=>a==b
 |_,_=>false
theorem qW{A:Around}{s:Shared}{y x:V}{u v:Value}(ry:RelV y u)(rx:RelV x v)(fy:dY y=true)(fx:dY x=true):SeqAt.EqAt A s u v (pp y x):=by
 cases y with
 |non=>
  cases ry;cases x with
  |non=>cases rx;exact SeqAt.EqAt.same _
  |bl b=>cases rx;exact SeqAt.EqAt.none_bool b
  |int b=>obtain⟨t,rfl⟩:=rx;exact SeqAt.EqAt.none_int b t
  |str b=>obtain⟨t,rfl⟩:=rx;exact SeqAt.EqAt.none_str b t
  |_=>exact Ot (show false=true from fx) l4
 |bl a=>
  cases ry;cases x with
  |non=>cases rx;exact SeqAt.EqAt.bool_none a
  |bl b=>cases rx;exact SeqAt.EqAt.bool_bool a b
  |int b=>obtain⟨t,rfl⟩:=rx;exact SeqAt.EqAt.bool_int a b t
  |str b=>obtain⟨t,rfl⟩:=rx;exact SeqAt.EqAt.bool_str a b t
  |_=>exact Ot (show false=true from fx) l4
 |int a=>
  obtain⟨t',rfl⟩:=ry;cases x with
  |non=>cases rx;exact SeqAt.EqAt.int_none a t'
  |bl b=>cases rx;exact SeqAt.EqAt.int_bool a t' b
  |int b=>obtain⟨t,rfl⟩:=rx;exact SeqAt.EqAt.int_int a t' b t
  |str b=>obtain⟨t,rfl⟩:=rx;exact SeqAt.EqAt.int_str a t' b t
  |_=>exact Ot (show false=true from fx) l4
 |str a=>
  obtain⟨t',rfl⟩:=ry;cases x with
  |non=>cases rx;exact SeqAt.EqAt.str_none a t'
  |bl b=>cases rx;exact SeqAt.EqAt.str_bool a t' b
  |int b=>obtain⟨t,rfl⟩:=rx;exact SeqAt.EqAt.str_int a t' b t
  |str b=>obtain⟨t,rfl⟩:=rx;exact SeqAt.EqAt.str_str a t' b t
  |_=>exact Ot (show false=true from fx) l4
 |_=>exact Ot (show false=true from fy) l4
def oq(x:V)(u:Value):Bool:=match u with
 |.none=>pp .non x
 |.bool b=>pp (.bl b) x
 |.int i _=>pp (.int i) x
 |.str z _=>pp (.str z) x
 |_=>false
theorem mP{x y:V}{u:Value}(r:RelV y u)(f:dY y=true):oq x u=pp y x:=by
 cases y with
 |non=>cases r;rfl
 |bl b=>cases r;rfl
 |int i=>obtain⟨t,rfl⟩:=r;rfl
 |str z=>obtain⟨t,rfl⟩:=r;rfl
 |_=>exact Ot (show false=true from f) l4
theorem gM{x:V}:∀{xs:List V} {us:List Value},Vals xs us->xs.all dY=true->us.any (oq x)=xs.any λy=>pp y x
 |_,_,.nil,_=>rfl
 |y::xs,u::us,.cons r t,f=>by
  rw[wq,cQ] at f;rw[wu,wu,mP r f.1,gM t f.2]
theorem fc{A:Around}{s:Shared}{x:V}{v:Value}(rx:RelV x v)(fx:dY x=true):∀{xs:List V} {us:List Value},Vals xs us->xs.all dY=true->∀u∈us,SeqAt.EqAt A s u v (oq x u)
 |_,_,.nil,_=>λu hu=>by cases hu
 |y::xs,u::us,.cons r t,f=>λu' hu=>by
  rw[wq,cQ] at f;rcases Yaq.mp hu with rfl|hu
  .rw[mP r f.1];exact qW r rx f.1 fx
  .exact fc rx fx t f.2 u' hu
def xc(x:V)(xs:List V):Bool:=xs.any λy=>pp y x
def Dz(K:Oq)(neg:Bool):R2:=λx y H Q=>∃p xs,y=.ref p/\(SqL K H p xs\/SqT K H p xs)/\dY x=true/\xs.all dY=true/\Q (.bl (if neg then !xc x xs else xc x xs)) H
theorem gO:OpR X (compareOp .NotIn) (Dz X.K true):=by
 intro pins s σ H x y v u Q I rx ry h;obtain⟨p,xs,rfl,hq,fx,fs,q⟩:=h;cases ry;rcases hq with hq|hq
 .obtain⟨its,r,pl,hz⟩:=I.list hq
  refine SeqAt.notIn_listAt (oq x) pl.isList (λw hw=>fc rx fx r fs w (by simpa using hw)) ⟨.bl _,H,I,rfl,?_⟩;rw[show its.toArray.any (oq x)=its.any (oq x) by simp,gM r fs];exact q
 .obtain⟨its,r,pl,hz⟩:=I.tuple hq
  refine SeqAt.notIn_tupleAt (oq x) pl (λw hw=>fc rx fx r fs w (by simpa using hw)) ⟨.bl _,H,I,rfl,?_⟩;rw[show its.toArray.any (oq x)=its.any (oq x) by simp,gM r fs];exact q
theorem gP:CallR X (.builtin "len") (λxs H Q=>∃p ys,xs=[.ref p]/\(SqL X.K H p ys\/SqT X.K H p ys)/\Q (.int ys.length) H):=by
 intro pins s σ H xs us Q I r h;obtain⟨p,ys,rfl,hq,q⟩:=h;obtain⟨u,rfl,rx⟩:=eE r;cases rx;have hn:=et;rcases hq with hq|hq
 .obtain⟨its,r',pl,hz⟩:=I.list hq
  have hlen:=r'.length;exact Calls.call_len_list pl.isList (by simp only[dL]<;>omega) ⟨.int ys.length,H,I.tok _,⟨s.toks+1,by rw[dL,hlen]⟩,q⟩
 .obtain⟨its,r',pl,hz⟩:=I.tuple hq
  have hlen:=r'.length;exact len_tuple pl (by simp only[dL]<;>omega) ⟨.int ys.length,H,I.tok _,⟨s.toks+1,by rw[dL,hlen]⟩,q⟩
theorem CallR.or{f:Value}{r r':List V->Hp->VK->Prop}(h:CallR X f r)(h':CallR X f r'):CallR X f (λxs H Q=>r xs H Q\/r' xs H Q):=by
 intro pins s σ H xs us Q I rs q;rcases q with q|q
 .exact h pins s σ H xs us Q I rs q
 .exact h' pins s σ H xs us Q I rs q
theorem gQ:CallR X (.type "list") (λxs H Q=>∃p ys,xs=[.ref p]/\(SqL X.K H p ys\/SqT X.K H p ys)/\∀l,H l=none->Q (.ref l) (upd H l (.lst ys))):=by
 intro pins s σ H xs us Q I r h;obtain⟨p,ys,rfl,hq,q⟩:=h;obtain⟨u,rfl,rx⟩:=eE r;cases rx;have fin:∀(its:List Value),Vals ys its->ys.length<=sizeLine->∀(h':Heap) (c':Nat),(∀b o',s.heap.get? b=some o'->h'.get? b=some o')->
   h'.get? s.heap.objs.size=some { cls:=.type "list",dict:=none,data:=.seq its.toArray c',slots:=#[] }->EP X pins σ Q (.ref s.heap.objs.size) { s with heap:=h' }:=λits r' hz h' c' kp e=>
  ⟨.ref s.heap.objs.size,_,I.laid (t':=s.toks) kp (bb _) (show ObjOk X.prog X.w _ h' _ (.lst ys) from⟨hz,its,c',r',e⟩),rfl,q _ (I.hok.fresh (bb _))⟩
 rcases hq with hq|hq
 .obtain⟨its,r',pl,hz⟩:=I.list hq
  have hlen:=r'.length;obtain⟨o,ho,hc,n,hd⟩:=pl.isList;exact call_list_seq p (.inl rfl) ho hc hd (λh' c' kp e=>fin its r' hz h' c' kp e) (by simp only[dL]<;>omega)
 .obtain⟨its,r',pl,hz⟩:=I.tuple hq
  have hlen:=r'.length;obtain⟨o,ho,hc,n,hd⟩:=pl;exact call_list_seq p (.inr rfl) ho hc hd (λh' c' kp e=>fin its r' hz h' c' kp e) (by simp only[dL]<;>omega)
theorem fN:CallR X (.type "tuple") (λxs H Q=>∃p ys,xs=[.ref p]/\((SqL X.K H p ys/\∀l,H l=none->Q (.ref l) (upd H l (.tup ys)))\/(SqT X.K H p ys/\Q (.ref p) H))):=by
 intro pins s σ H xs us Q I r h;obtain⟨p,ys,rfl,h⟩:=h;obtain⟨u,rfl,rx⟩:=eE r;cases rx;rcases h with⟨hq,q⟩|⟨hq,q⟩
 .obtain⟨its,r',pl,hz⟩:=I.list hq
  have hlen:=r'.length;refine call_tuple_list pl.isList (λh' kp=>?_) (by simp only[dL]<;>omega);have I1:Inv X pins σ H { s with heap:=h' }:=I.kept (t':=s.toks) kp;have I2:Inv X pins σ (upd H h'.objs.size (.tup ys)) { s with heap:=h'.push { cls:=.type "tuple",data:=.seq its.toArray } }:=
   I1.laid (t':=s.toks) (λb o e=>bZ _ e) (bb _) (show ObjOk X.prog X.w _ _ _ (.tup ys) from⟨hz,its,r',IsTup.new _ _⟩)
  exact⟨.ref h'.objs.size,_,I2,rfl,q _ (I1.hok.fresh (bb _))⟩
 .obtain⟨its,r',pl,hz⟩:=I.tuple hq
  exact call_tuple_same pl ⟨.ref p,H,I,rfl,q⟩
def DA(K:Oq)(T:String)(x:V)(H:Hp):Prop:=match x with
 |.str _=>T = "str"
 |.int _=>T = "int"
 |.ref p=>(T = "list" /\∃xs,SqL K H p xs)\/(T = "tuple" /\∃o,K.lookup p=some o/\o.cls=.type "tuple" /\o.dict=none)\/
   (T = "dict" /\((∃kvs,H p=some (.dK kvs))\/∃kvs,H p=some (.dT kvs)))\/(T = "set" /\∃S n,H p=some (.set S n))
 |_=>False
theorem qX{pins:List (Addr×Obj)}{σ:St}{H:Hp}{s:Shared}{T:String}{x:V}{v:Value}(I:Inv X pins σ H s)(r:RelV x v)(ty:DA X.K T x H) :
  s.TypeIs v T/\∀a,v=.ref a->∃ob,s.heap.get? a=some ob/\ob.dict=none:=by
 cases x with
 |str z=>
  obtain⟨t,rfl⟩:=r;cases(show T = "str" from ty);exact⟨typeIs_str s z t,λ_ e=>nomatch e⟩
 |int i=>
  obtain⟨t,rfl⟩:=r;cases(show T = "int" from ty);exact⟨typeIs_int s i t,λ_ e=>nomatch e⟩
 |ref p=>
  cases r;rcases ty with⟨rfl,xs,hq⟩|⟨rfl,o,hk,hc,hd⟩|⟨rfl,hk⟩|⟨rfl,S,n,hk⟩
  .obtain⟨its,_,pl,_⟩:=I.list hq
   refine⟨pl.isList.typeIs,λa e=>?_⟩;cases e;obtain⟨o,n,e,c,hd,_⟩:=pl;exact⟨o,e,hd⟩
  .refine⟨⟨o,I.kIn p o hk,hc⟩,λa e=>?_⟩
   cases e;exact⟨o,I.kIn _ o hk,hd⟩
  .have z:∃o,s.heap.get? p=some o/\o.ExactDict:=by
    rcases hk with⟨kvs,hk⟩|⟨kvs,hk⟩
    .obtain⟨_,_,_,_,o,_,_,e,ex,_⟩:=I.hok p _ hk
     exact⟨o,e,ex⟩
    .obtain⟨_,_,_,_,o,_,_,e,ex,_⟩:=I.hok p _ hk
     exact⟨o,e,ex⟩
   obtain⟨o,e,ex⟩:=z;refine⟨⟨o,e,ex.1⟩,λa e2=>?_⟩;cases e2;exact⟨o,e,ex.2.1⟩
  .obtain⟨o,_,_,_,e,ex,_⟩:=I.hok p _ hk
   refine⟨⟨o,e,ex.1⟩,λa e2=>?_⟩;cases e2;exact⟨o,e,ex.2.1⟩
 |_=>exact OE ty
def HF(K:Oq)(T:String)(r:V->List V->Hp->VK->Prop)(to:TE)(t:TA):TE:=λσ H Q=>to σ H λx H1=>DA K T x H1/\t σ H1 λxs H2=>r x xs H2 Q
variable {o:Expr}{es:List Expr}{to:TE}{t:TA}{name:Str}{apos cpos:Pos}{T id:String}{r:V->List V->Hp->VK->Prop}
theorem pv(pa:PlainAttrs T)(slot:Slot T name id)(hty:typeOf (.builtin id)=pure (.type "method_descriptor"))(hm:MtR X id r)(ho:PE X o to)(ha:PA X (e::es) t)
  (hbase:attributeBase o name X.env (eval o X.env)=eval o X.env:=by rfl)
  (hfew:((backTo cpos (starEach (e::es) X.env)).all (λx=>!x.1) && (backToKw cpos (keywordEach [] X.env)).all (λx=>x.1.isSome)
   && decide ((e::es).length+([]:List Keyword).length+(if([]:List Keyword).isEmpty then 0 else 1)<30))=true:=by rfl)
  (hline:(apos.endLine==cpos.line)=true:=by rfl) (hs:starEach (e::es) X.env=(false,eval e X.env)::starEach es X.env:=by rfl) (hplain:(backTo cpos (starEach es X.env)).any (·.1)=false:=by rfl) :
  PE X (.Call (.Attribute o name apos) (e::es) [] cpos) (HF X.K T r to t):=by
 intro pins s σ H Q I h;refine wpAny_Call_method_late hbase hfew hline rfl (aI (ho pins s σ H _ I h) λv s1 ⟨x,H1,I1,r1,ty,q1⟩=>?_);obtain⟨h1,h2⟩:=qX I1 r1 ty;refine⟨T,id,pa,slot,hty,h1,h2,?_⟩;have hA:=ha cpos pins s1 σ H1 _ I1 q1;rw[hs] at hA ⊢;refine Calls.callWith_builtin (by show(false||(backTo cpos (starEach es X.env)).any (·.1))=false;rw[hplain]<;>rfl) (Calls.evalArgs_plain ?_);exact aI hA λus s2 ⟨vs,H2,I2,r2,q2⟩=>hm pins s2 σ H2 x vs v us Q I2 r1 r2 q2
/- xs.append(e),list.index on a module's tuple .. are MtR facts of 06m -/
def HG(X:Cx)(id:String)(r:V->List V->Hp->VK->Prop):Prop:=
 ∀(pins:List (Addr×Obj)) (s:Shared) (σ:St) (H:Hp) (x:V) (xs:List V) (v:Value) (us:List Value) (Q:VK),Inv X pins σ H s->RelV x v->Vals xs us->r x xs H Q->
  wpAny (model X.prog X.w) X.A (call (.builtin id) (v::us)) (EP X pins σ Q) X.xe s
theorem Vals.one:∀{x:V} {us:List Value},Vals [x] us->∃u,us=[u]/\RelV x u
 |_,_,.cons r .nil=>⟨_,rfl,r⟩
theorem Vals.two:∀{x y:V} {us:List Value},Vals [x,y] us->∃u v,us=[u,v]/\RelV x u/\RelV y v
 |_,_,_,.cons r (.cons q .nil)=>⟨_,_,rfl,r,q⟩
theorem Vals.zero:∀{us:List Value},Vals [] us->us=[]
 |_,.nil=>rfl
theorem Vals.reverse{xs:List V}{us:List Value}(h:Vals xs us):Vals xs.reverse us.reverse:=by
 induction h with
 |nil=>exact .nil
 |cons r t ih=>rw[sh,sh];exact Vals.append ih (.cons r .nil)
theorem Vals.rep{xs:List V}{us:List Value}(h:Vals xs us):∀k:Nat,Vals (List.replicate k xs).flatten (List.replicate k us).flatten
 |0=>.nil
 |k+1=>by
  rw[dJ,dJ,oY,oY];exact Vals.append h (Vals.rep h k)
theorem gy(its:List Value):∀(k:Nat) (acc:List Value),
  List.foldl (λx1 x2=>x1++x2) acc.toArray (List.replicate k its.toArray)=(acc++(List.replicate k its).flatten).toArray
 |0,acc=>by simp
 |k+1,acc=>by
  have e:acc.toArray++its.toArray=(acc++its).toArray:=by simp
  have e2:(acc++its)++(List.replicate k its).flatten=acc++(List.replicate (k+1) its).flatten:=by
   rw[dJ,oY,nu]
  rw[<-e2,<-gy its k (acc++its),<-e,dJ,List.foldl_cons]
section
variable{X:Cx}{pins:List (Addr×Obj)}{σ:St}{H:Hp}{s:Shared}{l b:Addr}{xs ys zs:List V}
theorem Inv.lset{its its':List Value}{n:Nat}{f:Array Value->Array Value}{t':Nat}(I:Inv X pins σ H s)(hH:H l=some (.lst xs))
  (e:s.heap.get? l=some { cls:=.type "list",data:=.seq its.toArray n }) (hf:f its.toArray=its'.toArray) (hv:Vals ys its') (hz:ys.length<=sizeLine) :
  Inv X pins σ (upd H l (.lst ys)) { s with heap:=s.heap.update l (Obj.mapSeq f),toks:=t' }:=by
 have q:=PySem.IsL.update e f;rw[hf] at q;refine I.write (x:=l) (e:=l) (by rw[hH];exact trivial) (.inl rfl) (λb' u hb hu=>(qa s.heap (Obj.mapSeq f) (Oy hb)).trans hu) ⟨_,q⟩ ?_ (.inl ⟨_,hH⟩);exact⟨hz,its',_,hv,q⟩
theorem Inv.lnew{its:List Value}{t':Nat}(I:Inv X pins σ H s)(hv:Vals ys its)(hz:ys.length<=sizeLine) :
  Inv X pins σ (upd H s.heap.objs.size (.lst ys)) { s with heap:=s.heap.push { cls:=.type "list",data:=.seq its.toArray },toks:=t' }:=
 I.laid (λ_ _ q=>bZ _ q) (bb _) ⟨hz,its,0,hv,eV _ rfl⟩
theorem Inv.fresh(I:Inv X pins σ H s):H s.heap.objs.size=none:=I.hok.fresh (bb _)
theorem Inv.lstM(I:Inv X pins σ H s)(hH:H l=some (.lst xs)):xs.length<=sizeLine/\∃(its:List Value) (n:Nat),Vals xs its/\xs.length=its.length/\s.heap.get? l=some { cls:=.type "list",data:=.seq its.toArray n }:=by
 obtain⟨z,its,n,r,e⟩:=I.hok l _ hH;exact⟨z,its,n,r,r.length,e⟩
theorem mQ{n:Nat}(h:n<=sizeLine):Builtin.List.listTooLong n=false:=by
 unfold Builtin.List.listTooLong;exact Ox (by omega)
end
def ot:V->List V->Hp->VK->Prop:=λx vs H Q=>∃l xs y,x=.ref l/\vs=[y]/\H l=some (.lst xs)/\xs.length<sizeLine/\Q .non (upd H l (.lst (xs++[y])))
theorem lu:HG X "list.append" ot:=by
 intro pins s σ H x vs v us Q I rx rv h;obtain⟨l,xs,y,rfl,rfl,hH,hz,q⟩:=h;cases rx;obtain⟨u,rfl,ru⟩:=rv.one;obtain⟨z,its,n,r,hl,e⟩:=I.lstM hH;refine call_meets F.slot_list_append ⟨_,e,rfl⟩ F.entry_list_append (F.args_list_append_2 _ _) (PySem.list_append l its.toArray n u (by rw[dL];omega)) ⟨e,?_⟩;refine⟨.non,_,I.lset (its':=its++[u]) hH e (by simp) (r.append (.cons ru .nil)) ?_,rfl,q⟩;rw[dj,kS];omega
def Ai:R2:=λx y H Q=>∃l k xs,x=.ref l/\y=.int k/\H l=some (.lst xs)/\-(2^63)<=k/\k<2^63/\xs.length*k.toNat<=sizeLine/\
 ∀p,H p=none->Q (.ref p) (upd H p (.lst (List.replicate k.toNat xs).flatten))
theorem ou{α:Type}(xs:List α)(k:Nat):(List.replicate k xs).flatten.length=k*xs.length:=by
 induction k with
 |zero=>simp
 |succ k ih=>rw[dJ,oY,dj,ih,nw,td]
theorem mR:OpR X (binaryOp .Mult) Ai:=by
 intro pins s σ H x y v u Q I rx ry h;obtain⟨l,k,xs,rfl,rfl,hH,h1,h2,hz,q⟩:=h;cases rx;obtain⟨t,rfl⟩:=ry;obtain⟨z,its,n,r,hl,e⟩:=I.lstM hH;have hlen:its.toArray.size*k.toNat<=sizeLine:=by rw[dL,<-hl];exact hz
 have hcap:¬its.toArray.size*k.toNat>(2^63-1)/8:=by
  have:(sizeLine:Nat)<=(2^63-1)/8:=by decide
  omega
 have hfit:¬(!Builtin.List.listFitsIndex k)=true:=by
  rw[fitsIndex_both h1 h2];exact l4
 have hlong:¬Builtin.List.listTooLong (its.toArray.size*k.toNat)=true:=by
  rw[mQ hlen];exact l4
 have hnew:List.foldl (λx1 x2=>x1++x2) #[] (List.replicate (if its.toArray.isEmpty=true then 0 else k.toNat) its.toArray)=(List.replicate k.toNat its).flatten.toArray:=by
  have f0:∀m:Nat,List.foldl (λx1 x2=>x1++x2) #[] (List.replicate m its.toArray)=(List.replicate m its).flatten.toArray:=λm=>by
   have:=gy its m [];rw[c9] at this;exact this
  rw[f0];cases its with
  |nil=>simp
  |cons a r'=>rw[if_neg (by simp)]
 refine wpAny_binaryOp_repeat_ref (T:= "list") (U:= "int") (by decide) ⟨_,e,rfl⟩ (λs'=>typeIs_int s' k t) noFill_list_mul F.fills_int_mul F.slot_int_rmul repeat_list F.slot_int_index.lookup
  (call_meets F.slot_int_rmul (typeIs_int s k t) F.entry_int_rmul (F.args_int_rmul_2 _ _) (int___rmul___int_list k t l its.toArray n)
   ⟨e,rfl,⟨_,e,rfl⟩,call_meets F.slot_list_mul ⟨_,e,rfl⟩ F.entry_list_mul (F.args_list_mul_2 _ _) (AutoListH.list___mul___list_int_3 l its.toArray n k t hfit hcap hlong) ⟨e,?_⟩⟩)
 rw[hnew];exact⟨.ref _,_,I.lnew (t':=s.toks) (r.rep k.toNat) (by rw[ou,Nat.mul_comm];exact hz),rfl,q _ I.fresh⟩
variable {prog:Program}{w:World}{A:Around}{E:Value->Shared->Prop}{s:Shared}
end L2
namespace Att
open PySem PySem.W PySem.Calls PyProof.Rows
theorem eM{P:Params}{h:Heap}:∀(ns:List Int) (vs:List Value),WellAll P h vs (ns.map WData.int)->IntsAre vs ns:=by
 intro ns
 induction ns with
 |nil=>
  intro vs w;rw[dM] at w;cases w;exact .nil
 |cons n ns ih=>
  intro vs w;rw[bL] at w;cases w with
  |cons a b=>
   cases a;exact .cons _ _ (ih _ b)
theorem lv{l:OpenLaw}{n:Nat}(hn:l.most=some n){P:Params}{h:Heap}{args:List WData}{vals:List Value}
  (hpre:l.row.toRowW.claim.pre args=true) (hwl:WellAll P h vals args) :
  ∃a vs ns,vals=[Value.ref a]/\args=[WData.list (ns.map WData.int)]/\h.get? a=some { cls:=.type "list",data:=.seq vs.toArray }/\IntsAre vs ns/\ns.length<=n:=by
 have hsh:WShape.hasAll [] args [.list .int]=true:=(pre_splitW hpre).1;have hc:l.pre.holds [] { args:=args }=true:=(pre_splitW hpre).2;obtain⟨d,r,rfl,h1,h2⟩:=hasAllW_cons hsh;obtain rfl:=hasAllW_nil h2;obtain⟨xs,rfl,h3⟩:=hasW_list h1;obtain⟨ns,rfl⟩:=items_int h3;have hlen:ns.length<=n:=by
  unfold OpenLaw.pre at hc;have h4:(WTm.not (.lt (.lit (.int (n:Int))) (.len (.arg 0)))).holds [] { args:=[.list (ns.map .int)] }=true:=by
   have h4:=(holds_andW hc).1;rw[hn] at h4;exact h4
  have h5:=condW_of h4 (w_not (w_lt w_lit (w_len_list (w_arg rfl))));rw[aW] at h5;refine ze λq=>?_;have q':(n:Int)<((ns.length:Nat):Int):=by omega
  first
   |(rw[decide_eq_true q'] at h5;exact Ot h5 (by decide))
   |(simp at h5;omega)
 cases hwl with
 |cons w1 w2=>
  cases w2;cases w1 with
  |list ho hall=>exact⟨_,_,ns,rfl,rfl,ho,eM ns _ hall,hlen⟩
theorem ly(l:OpenLaw)(args:List WData):l.row.toRowW.claim.post args (.bool true) args=true:=
 postW_of (r:=l.row.toRowW) (X:=(true==true))
  (show WShape.has [] (.bool true) .bool=true by first|rfl|decide|simp[WShape.has,WShape.arms,WShape.armsAll])
  (show(WTm.eq .res (.lit (.bool true))).value [] { args:=args,res:=some (.bool true),after:=args }=some (.bool (true==true)) from w_eq_bool (w_res rfl) w_lit) rfl
theorem attach_call{l:OpenLaw}{n:Nat}{q:Program}{loose:List Str}{XP:(Str->Option Value)->Heap->Prop}{YP:World->Heap->Prop}{d:DefRec}
  (hn:l.most=some n) (hdf:d.params.defaults=[])
  (call:∀ (w:World) (s₀ s₁:Shared) (mg mb:Str->Option Value) (fa:Addr) (o:Obj) (pm cd doc:Value) (a:Addr) (vs:List Value) (ns:List Int),
   Ground q loose [] XP w s₀ mg mb s₁.heap->YP w s₁.heap->
   s₁.heap.get? fa=some o->o.data=.func (docDef d.name d.params d.body d.scope pm cd doc)->s₁.heap.CodeRec cd d.name->mg d.name=some (.ref fa)->
   s₁.heap.get? a=some { cls:=.type "list",data:=.seq vs.toArray }->IntsAre vs ns->ns.length<=n->(a==sysModules)=false->s₁.gens = #[]->
   codeAny (model l.prog w) callerA (.call (.ref fa) ⟨[.ref a],[]⟩) (λr s'=>r=.ok (.ret (.bool true))/\OldK s₁.heap s'.heap/\s'.os=s₁.os/\AllBare s'.gens) s₁) :
  WalkO q loose XP YP l.row.toRowW d [] (λf vs=>PySem.call f vs):=by
 intro w s₀ s₁ mg mb G Y fa o pm cd doc dV kV ho hd hcd hD hmg hg args vals as hpre hlay hrd hwl hlo;obtain rfl:dV=.none:=Dflts.none hD hdf;obtain rfl:kV=.none:=Dflts.noKw hD;obtain⟨a,vs,ns,rfl,rfl,hobj,hints,hlen⟩:=lv hn hpre hwl;have hsy:(a == sysModules)=false:=hlo a (by
  cases hrd with
  |cons h1 h2=>cases h1;simp)
 refine enter_call (codeAny_mono (call w s₀ s₁ mg mb fa o pm cd doc a vs ns G Y ho (fd_plain hd) hcd hmg hobj hints hlen hsy hg) λr s' hq=>?_);obtain⟨rfl,h2,h3,h4⟩:=hq;exact⟨.inl ⟨.bool true,.bool true,[],rfl,λ_=>rfl,.bool true,ly l _,λ_=>⟨List.Pairwise.nil,λ_ hm=>(nomatch hm)⟩⟩,h2,h3,h4⟩
variable {prog:Program}{w:World}{A:Around}{E:Value->Shared->Prop}{s:Shared}{K:Frag}
end Att
namespace L2
open PySem PySem.Spec PyProof.Rows
theorem gz:∀{vs:List Value} {ns:List Int},IntsAre vs ns->Vals (ns.map V.int) vs
 |_,_,.nil=>.nil
 |_,_,.cons n t h=>.cons ⟨t,rfl⟩ (gz h)
def oy(H:Hp):Prop:=∀b,H b=none\/∃o xs,H b=some (.frz o (.lst xs))
theorem mS{P:Program}{w:World}{K:Oq}{mg mb:Str->Option Value}{CX:jH}{k:Nat}{fa a:Addr}{fd:FuncData}{x:Str}{sp:Sp}{s₁:Shared}{vs:List Value}{ns:List Int}
  (KX:K.In s₁.heap) (hns:s₁.heap.Ns mainGlobals mg) (hb:s₁.heap.Ns builtinsNs mb) (hbb:∀x:Str,x≠ "__name__" ->mb x=bootBuiltins x) (hlim:s₁.heap.NoLimit) (hg:s₁.gens = #[])
  (ha:s₁.heap.get? a=some { cls:=.type "list",data:=.seq vs.toArray }) (hi:IntsAre vs ns) (hl:ns.length<=sizeLine) (hsy:(a==sysModules)=false) (hr:Room k callerA)
  (F:∀base:Heap,K.In base->base.Ns mainGlobals mg->FnOk P w K mg base CX k fa fd [x] sp) (hbind:∀(s:Shared) (u:Value),BindsTo s fd ⟨[u],[]⟩ [(x,u)])
  (hsp:∀H:Hp,oy H->SqL K H a (ns.map V.int)->sp [.ref a] H (λv _=>v=.bl true) λ_ _ _=>False)
  (hCX:∀H e s',CX [] H s₁ (λ_ _ _=>False) e s'->False) :
  codeAny (model P w) callerA (.call (.ref fa) ⟨[.ref a],[]⟩) (λr s'=>r=.ok (.ret (.bool true))/\OldK s₁.heap s'.heap/\s'.os=s₁.os/\AllBare s'.gens) s₁:=by
 have rv:=gz hi;have lenV:=hi.length
 -- from an abstract heap in which nothing but the script may be tracked
 have core:∀H:Hp,oy H->SqL K H a (ns.map V.int)->HOk P w H s₁.heap->(∀b,H b≠none->b=a)->(H a≠none->K.lookup a=none)->
   codeAny (model P w) callerA (.call (.ref fa) ⟨[.ref a],[]⟩) (λr s'=>r=.ok (.ret (.bool true))/\OldK s₁.heap s'.heap/\s'.os=s₁.os/\AllBare s'.gens) s₁:=by
  intro H hO hS hok hA hK;have base_of:∀{b:Addr} {o:Obj},s₁.heap.get? b=some o->H b=none->(gH s₁.heap H).get? b=some o:=λe n=>mj e n;have noA:∀{b:Addr} {o:Obj} {es:Array DictEntry} {ep:Nat},s₁.heap.get? b=some o->o.data=.dict es ep->H b=none:=λ{b o es ep} e d=>by
   cases q:H b with
   |none=>rfl
   |some u=>
    have e':b=a:=hA b (by rw[q];simp);subst e';rw[ha] at e;cases e;have d':Data.seq vs.toArray _=Data.dict es ep:=d;cases d'
  have nsK:∀{b:Addr} {m:Str->Option Value},s₁.heap.Ns b m->(gH s₁.heap H).Ns b m:=λ{b m} ⟨o,es,ep,e,d,r⟩=>⟨o,es,ep,base_of e (noA e d),d,r⟩;have hKb:K.In (gH s₁.heap H):=λb o e=>base_of (KX b o e) (by
   cases q:H b with
   |none=>rfl
   |some u=>
    have e':b=a:=hA b (by rw[q];simp);subst e';rw[hK (by rw[q];simp)] at e;cases e)
  have hM:Mod K mg (gH s₁.heap H):=⟨hKb,nsK hns,⟨mb,nsK hb,hbb⟩,let⟨mc,h1,h2⟩:=hlim;⟨mc,nsK h1,h2⟩⟩
  have e0:Env0 P w K mg (gH s₁.heap H) callerA [] s₁ H:=⟨rfl,hM,λb o e=>nR e,Nat.le_of_eq (k6 _ _),trivial,λb hb=>Ot (show b∈([]:List Addr) from hb) (by simp),hok,.of_eq hg,λxs q=>Ot (hA sysModules (by rw[q];simp)).symm (beq_eq_false_iff_ne.mp hsy)⟩
  refine codeAny_mono ((F _ hKb (nsK hns)).run callerA [] s₁ H ⟨[.ref a],[]⟩ [.ref a] [.ref a] _ _ hr e0 (hbind s₁ (.ref a)) (.cons rfl .nil) (hsp H hO hS)) λr s' h=>?_;cases r with
  |error e=>exact(hCX H e s' h).elim
  |ok fl=>
   cases fl with
   |next=>exact OE h
   |brk=>exact OE h
   |cont=>exact OE h
   |ret u=>
    obtain⟨v,H',os,bare,un,hok',r',q⟩:=h;have q':v=.bl true:=q;subst q';obtain rfl:u=Value.bool true:=r';refine⟨rfl,OldK.of_keep λb o e=>?_,os,bare⟩;cases q:H b with
    |none=>exact un.keep b o e q (by intro z;exact Ot (show b∈([]:List Addr) from z) (by simp)) (by simp)
    |some u=>
     rcases hO b with z|⟨ob,xs,z⟩
     .rw[q] at z;cases z
     .have z2:=un.frzs b ob _ z
      obtain⟨e1,_⟩:=hok b _ z;obtain⟨e2,_⟩:=hok' b _ z2;rw[e] at e1;cases e1;exact e2
 cases hk:K.lookup a with
 |some o=>
  -- the script is one of the module's own objects
  have e:=KX a o hk;rw[ha] at e;cases e;refine core (λ_=>none) (λ_=>.inl rfl) (.inr ⟨_,vs.toArray,_,hk,rfl,rfl,rfl,by rw[dL,lenV];exact hl,by simpa using rv⟩) (λb u z=>by have z':(none:Option HO)=some u:=z;cases z') (λb z=>Ot rfl z) λz=>Ot rfl z
 |none=>
  refine core (λb=>if b=a then some (.frz { cls:=.type "list",data:=.seq vs.toArray } (.lst (ns.map V.int))) else none) (λb=>?_) (.inl (.inr ⟨{ cls:=.type "list",data:=.seq vs.toArray },if_pos rfl⟩)) (λb u z=>?_) (λb z=>?_) λ_=>hk
  .by_cases hb:b=a
   .exact .inr ⟨_,_,if_pos hb⟩
   .exact .inl (if_neg hb)
  .by_cases hb:b=a
   .have z':=(if_pos hb).symm.trans z
    cases z';subst hb;exact⟨ha,by rw[aW];exact hl,vs,_,rv,ha⟩
   .have z':=(if_neg hb).symm.trans z
    cases z'
  .by_cases hb:b=a
   .exact hb
   .exact Ot (if_neg hb) z
theorem walk_of{l:PySem.W.OpenLaw}{n k:Nat}{q:Program}{loose:List Str}{XP:(Str->Option Value)->Heap->Prop}{YP:World->Heap->Prop}{d:DefRec}{K:Params->Oq}{CX:World->jH}{sp:World->Sp}{x:Str}
  (hn:l.most=some n) (hn2:n<=sizeLine) (hdf:d.params.defaults=[]) (hr:Room k callerA)
  (hY:∀(w:World) (h:Heap),YP w h->(K w.params).In h)
  (F:∀ (w:World) (mg:Str->Option Value) (fa:Addr) (h:Heap),(K w.params).In h->h.Ns mainGlobals mg->mg d.name=some (.ref fa)->
   ∃fd:FuncData,(∀(s:Shared) (u:Value),BindsTo s fd ⟨[u],[]⟩ [(x,u)])/\
    ∀base:Heap,(K w.params).In base->base.Ns mainGlobals mg->FnOk l.prog w (K w.params) mg base (CX w) k fa fd [x] (sp w))
  (hsp:∀(w:World) (H:Hp) (a:Addr) (ns:List Int),ns.length<=n->oy H->SqL (K w.params) H a (ns.map V.int)->sp w [.ref a] H (λv _=>v=.bl true) λ_ _ _=>False)
  (hCX:∀(w:World) (H:Hp) (s:Shared) (e:Value) (s':Shared),CX w [] H s (λ_ _ _=>False) e s'->False) :
  PySem.W.WalkO q loose XP YP l.row.toRowW d [] (λf vs=>PySem.call f vs):=by
 refine Att.attach_call hn hdf λw s₀ s₁ mg mb fa o pm cd doc a vs ns G Y ho hd hcd hmg hobj hints hlen hsy hg=>?_;have KX:=hY w _ Y;obtain⟨fd,hb,hF⟩:=F w mg fa _ KX G.T.g hmg;exact mS KX G.T.g G.T.b G.T.builtins G.T.nolimit hg hobj hints (gb hlen hn2) hsy hr hF hb (λH hO hS=>hsp w H a ns hlen hO hS) λH e s'=>hCX w H s₁ e s'
def bQ(s:Stmt):Arguments:=match s with
 |.FunctionDef _ a _ _ _ _ _ _ _ _=>a
 |_=>{ posonlyargs:=[],args:=[],vararg:=none,kwonlyargs:=[],kw_defaults:=[],kwarg:=none,defaults:=[] }
def aR(s:Stmt):List Stmt:=match s with
 |.FunctionDef _ _ b _ _ _ _ _ _ _=>b
 |_=>[]
def aq(s:Stmt):Scope:=match s with
 |.FunctionDef _ _ _ _ _ _ sc _ _ _=>sc
 |_=>{ kind:=.function,names:=[],isGenerator:=false,isCoroutine:=false }
abbrev DB:jH:=λ_ _ _ _ _ _=>False
abbrev E0:XK:=λ_ _ _=>False
structure Fun(K:Oq)(x qual:Str)(st:Stmt)(f:Addr)(fd:FuncData):Prop where
 ex:∃(oc:Value) (od:Option Addr) (kV doc pm:Value) (an:Option Addr) (cdv ct:Value) (osl:Array (Option Value)),
  fd=PySem.W.fnOf x qual (bQ st) (aR st) (aq st) .none kV doc pm an cdv ct/\K.lookup f=some ⟨oc,od,.func fd,osl⟩/\PySem.W.codeIn K cdv qual=true
 kp:PySem.W.keepIn K (.ref f)=true
variable {P:Program}{w:World}{K:Oq}{mg:Str->Option Value}{base:Heap}
theorem Fun.ok{x qual:Str}{st:Stmt}{f:Addr}{fd:FuncData}{N ps:List Str}{k:Nat}{sp:Sp}(F:Fun K x qual st f fd)(S:cB N ps (aq st))(len:∀vs H Q E,sp vs H Q E->vs.length=ps.length)
  (hbody:∀ (cdv:Value) (A:Around) (outer:List Env) (s:Shared) (H:Hp) (vs:List V) (Q:VK) (E:XK),Room k (A.deeper (envOfC qual (aq st) s.heap.objs.size f cdv))->sp vs H Q E->
   ∃t,PSs (cY DB P w K mg base N qual (aq st) f cdv A outer s H E).nox (aR st) t/\t { nx:=λ_ H'=>Q .non H',rt:=Q } (start N vs) H):FnOk P w K mg base DB (k+1) f fd ps sp:=by
 obtain⟨oc,od,kV,doc,pm,an,cdv,ct,osl,rfl,lk,hcd⟩:=F.ex;refine mJ lk hcd S len λA outer s H vs Q E hr hsp=>?_;obtain⟨t,h,q⟩:=hbody cdv A outer s H vs Q E hr hsp;exact⟨t,h.nox,q⟩
theorem Fun.binds{x qual:Str}{st:Stmt}{f:Addr}{fd:FuncData}{ps:List Str}(F:Fun K x qual st f fd)
  (h:∀(kV doc pm:Value) (an:Option Addr) (cdv ct:Value) (us:List Value),us.length=ps.length->bindArgs (PySem.W.fnOf x qual (bQ st) (aR st) (aq st) .none kV doc pm an cdv ct) ⟨us,[]⟩=pure (ps.zip us)):Binds K fd ps []:=by
 obtain⟨oc,od,kV,doc,pm,an,cdv,ct,osl,rfl,lk,hcd⟩:=F.ex;exact .all (h kV doc pm an cdv ct)
theorem mT{x qual:Str}{st:Stmt}{f:Addr}{oc:Value}{od an:Option Addr}{osl:Array (Option Value)}{kV doc pm cdv ct:Value}(l:K.lookup f=some ⟨oc,od,.func (PySem.W.fnOf x qual (bQ st) (aR st) (aq st) .none kV doc pm an cdv ct),osl⟩)
  (c:PySem.W.codeIn K cdv qual=true) (k:PySem.W.keepIn K (.ref f)=true):Fun K x qual st f (PySem.W.fnOf x qual (bQ st) (aR st) (aq st) .none kV doc pm an cdv ct):=⟨⟨oc,od,kV,doc,pm,an,cdv,ct,osl,rfl,l,c⟩,k⟩
variable {X:Cx}
def Same(H H':Hp):Prop:=∀b o,H b=some o->H' b=some o
theorem Same.refl(H:Hp):Same H H:=λ_ _ h=>h
theorem Same.trans{H H1 H2:Hp}(a:Same H H1)(b:Same H1 H2):Same H H2:=λc o h=>b c o (a c o h)
theorem Same.free{H H':Hp}(e:Same H H'){l:Addr}(h:H' l=Option.none):H l=Option.none:=by
 cases q:H l with
 |none=>rfl
 |some o=>
  rw[e l o q] at h;cases h
theorem Same.seq{K:Oq}{H H':Hp}{a:Addr}{xs:List V}(e:Same H H')(h:SqL K H a xs):SqL K H' a xs:=by
 rcases h with(h|⟨o,h⟩)|h
 .exact .inl (.inl (e _ _ h))
 .exact .inl (.inr ⟨o,e _ _ h⟩)
 .exact .inr h
def pz:List (Str×NameKind)->Bool
 |[]=>true
 |(n,_)::r=>!(r.any λy=>y.1==n)&&pz r
def j6(sc outer:Scope):Bool:=
 decide (sc.kind=.function)&&pz sc.names&&sc.names.all λy=>!decide (y.2=.free)||(decide (outer.names.lookup y.1=some .cell)||decide (outer.names.lookup y.1=some .free))
theorem Aj{α:Type}:∀{l:List (Str×α)} {n:Str},(l.any λy=>y.1==n)=false->l.lookup n=none
 |[],_,_=>rfl
 |(k,v)::r,n,h=>by
  simp only[wu,Bool.or_eq_false_iff] at h;have e:(n==k)=false:=by
   have:=h.1;simp only[beq_eq_false_iff_ne] at this ⊢;exact λz=>this z.symm
  rw[lU,e];exact Aj h.2
theorem xg:∀{l:List (Str×NameKind)} {n:Str} {k:NameKind},pz l=true->(n,k)∈l->l.lookup n=some k
 |(m,j)::r,n,k,nd,h=>by
  simp only[pz,cQ,qb] at nd;rcases Yaq.mp h with e|h2
  .cases e;simp
  .have hm:n≠m:=by
    rintro rfl;have:(r.any λy=>y.1==n)=true:=List.any_eq_true.mpr ⟨_,h2,by simp⟩;rw[nd.1] at this;cases this
   rw[lU,beq_eq_false_iff_ne.mpr hm];exact xg nd.2 h2
def ca(cells:List (Str×Addr)):List (Str×NameKind)->List (Str×Addr)->List (Str×Addr)
 |[],acc=>acc
 |(n,k)::r,acc=>if k==.free then ca cells r ((n,(cells.lookup n).getD 0)::acc) else ca cells r acc
theorem uA{cells:List (Str×Addr)}{x:Str}:∀{names:List (Str×NameKind)} {acc:List (Str×Addr)},pz names=true->
  ((names.lookup x=some .free->∃c,(ca cells names acc).lookup x=some c/\(cells.lookup x).getD 0=c)/\(names.lookup x≠some .free->(ca cells names acc).lookup x=acc.lookup x))
 |[],acc,_=>⟨λh=>by simp at h,λ_=>rfl⟩
 |(m,k)::r,acc,nd=>by
  simp only[pz,cQ,qb] at nd
  by_cases hm:x=m
  .subst hm
   have hr:r.lookup x=none:=Aj nd.1;rw[show List.lookup x ((x,k)::r)=some k by simp];have ih:=@uA cells x r
   by_cases hk:k=.free
   .subst hk
    refine⟨λ_=>⟨_,?_,rfl⟩,λh=>Ot rfl h⟩;show(ca cells r ((x,_)::acc)).lookup x=_;rw[(ih nd.2).2 (by rw[hr];simp)];simp
   .refine⟨λh=>Ot (Ow h) hk,λ_=>?_⟩
    have:ca cells ((x,k)::r) acc=ca cells r acc:=by
     show(if k==.free then _ else _)=_;rw[if_neg (by simpa using hk)]
    rw[this,(ih nd.2).2 (by rw[hr];simp)]
  .have e:List.lookup x ((m,k)::r)=r.lookup x:=by rw[lU,beq_eq_false_iff_ne.mpr hm]
   rw[e]
   by_cases hk:k=.free
   .subst hk
    have ih:=@uA cells x r ((m,(cells.lookup m).getD 0)::acc) nd.2;have e2:List.lookup x ((m,(cells.lookup m).getD 0)::acc)=acc.lookup x:=by rw[lU,beq_eq_false_iff_ne.mpr hm]
    rw[e2] at ih;exact ih
   .have:ca cells ((m,k)::r) acc=ca cells r acc:=by
     show(if k==.free then _ else _)=_;rw[if_neg (by simpa using hk)]
    rw[this];exact @uA cells x r acc nd.2
theorem Ak{scope:Scope}{env:Env}(h:∀y∈scope.names,y.2=.free->∃c,env.cells.lookup y.1=some c):closureFor scope env=pure (ca env.cells scope.names []):=by
  have gen:∀ (names:List (Str×NameKind)) (acc:List (Str×Addr)),(∀ y∈names,y.2 = .free->∃ c,env.cells.lookup y.1=some c)->
      (forIn names acc (fun (x:Str×NameKind) (r:List (Str×Addr))=>(if (x.2 == NameKind.free)=true then (do
        let c <-cellOf env x.1
        pure (ForInStep.yield ((x.1,c)::r))) else pure (ForInStep.yield r):Sem (ForInStep (List (Str×Addr))))))=(pure (ca env.cells names acc):Sem (List (Str×Addr))):=by
    intro names
    induction names with
    |nil=>intro acc _;rfl
    |cons y r ih=>
      intro acc hh;obtain⟨n,k⟩:=y;rw[zg]
      by_cases hk:k=.free
      · subst hk
        obtain⟨c,hc⟩:=hh (n,.free) jL rfl;have hc':env.cells.lookup n=some c:=hc;have e:cellOf env n=pure c:=by unfold cellOf;rw[hc']
        simp only[OG,if_true,e];have:=ih ((n,c)::acc) λy hy=>hh y (fG _ hy);have e3:ca env.cells ((n,.free)::r) acc=ca env.cells r ((n,c)::acc):=by
          show(if _ then _ else _)=_;rw[hc'];rfl
        rw[e3,<-this];rfl
      · have hb:(k==NameKind.free)=false:=by simpa using hk
        simp only[hb,da,if_false];have:=ih acc λy hy=>hh y (fG _ hy);have e3:ca env.cells ((n,k)::r) acc=ca env.cells r acc:=by
          show(if _ then _ else _)=_;rw[if_neg (by simpa using hk)]
        rw[e3,<-this];rfl
  unfold closureFor;have:=gen scope.names [] h
  first
    |exact this
    | (show (forIn scope.names [] _ >>= λcs=>pure cs)=_
       refine Eq.trans (congrArg (· >>= λcs=>pure cs) this) rfl)
theorem pA{x:Str}:∀(names:List (Str×NameKind)) (n:Nat) (acc acc':List (Str×Addr)),pz names=true->
  ((names.lookup x=some .cell->(cellsFrom n names acc).lookup x=(cellsFrom n names acc').lookup x)/\(names.lookup x≠some .cell->(cellsFrom n names acc).lookup x=acc.lookup x))
 |[],_,_,_,_=>⟨λh=>by simp at h,λ_=>rfl⟩
 |(m,k)::r,n,acc,acc',nd=>by
  simp only[pz,cQ,qb] at nd
  by_cases hm:x=m
  .subst hm
   have hr:r.lookup x=none:=Aj nd.1;rw[show List.lookup x ((x,k)::r)=some k by simp]
   by_cases hk:k=.cell
   .subst hk
    refine⟨λ_=>?_,λh=>Ot rfl h⟩;have a:=(@pA x r (n+1) ((x,n)::acc) acc' nd.2).2 (by rw[hr];simp);have b:=(@pA x r (n+1) ((x,n)::acc') acc' nd.2).2 (by rw[hr];simp);show(cellsFrom (n+1) r ((x,n)::acc)).lookup x=(cellsFrom (n+1) r ((x,n)::acc')).lookup x;rw[a,b];simp
   .refine⟨λh=>Ot (Ow h) hk,λ_=>?_⟩
    have e:cellsFrom n ((x,k)::r) acc=cellsFrom n r acc:=by
     show(if k==.cell then _ else _)=_;rw[if_neg (by simpa using hk)]
    rw[e,(@pA x r n acc acc' nd.2).2 (by rw[hr];simp)]
  .have e:List.lookup x ((m,k)::r)=r.lookup x:=by rw[lU,beq_eq_false_iff_ne.mpr hm]
   rw[e]
   by_cases hk:k=.cell
   .subst hk
    have ih:=@pA x r (n+1) ((m,n)::acc) ((m,n)::acc') nd.2;have e2:List.lookup x ((m,n)::acc)=acc.lookup x:=by rw[lU,beq_eq_false_iff_ne.mpr hm]
    rw[e2] at ih;exact ih
   .have e3:∀a:List (Str×Addr),cellsFrom n ((m,k)::r) a=cellsFrom n r a:=λa=>by
     show(if k==.cell then _ else _)=_;rw[if_neg (by simpa using hk)]
    rw[e3,e3];exact @pA x r n acc acc' nd.2
theorem DC{sc:Scope}{env:Env}{x:Str}:(relabel sc env).names.lookup x=(sc.names.lookup x).map λk=>if(k==NameKind.free&&env.scope.kind==.function&&env.kindOf x==some .cell)=true then .cell else k:=by
 show List.lookup x (sc.names.map _)=_;generalize sc.names=l
 induction l with
 |nil=>rfl
 |cons y r ih=>
  obtain⟨m,k⟩:=y
  by_cases hx:x=m
  .subst hx
   simp only[bL]
   by_cases hc:(k==NameKind.free&&env.scope.kind==.function&&env.kindOf x==some .cell)=true
   .rw[if_pos hc]
    simp only[lU,OG,tj];rw[if_pos hc]
   .rw[if_neg hc]
    simp only[lU,OG,tj];rw[if_neg hc]
  .have hb:(x==m)=false:=beq_eq_false_iff_ne.mpr hx
   simp only[bL]
   by_cases hc:(k==NameKind.free&&env.scope.kind==.function&&env.kindOf m==some .cell)=true
   .rw[if_pos hc];simp only[lU,hb];exact ih
   .rw[if_neg hc];simp only[lU,hb];exact ih
def gA(sc:Scope)(env:Env)(C:Addr):Env:=
 { scope:=relabel sc env,locals:=C,globals:=env.globals,cells:=cellsFrom (C+1) sc.names (ca env.cells sc.names []),qual:=env.qual,func:=none,code:=env.code,frame:=env.frame,builtins:=env.builtins }
theorem DD{M:Model}{A:Around}{E:Value->Shared->Prop}{s:Shared}{sc:Scope}{env:Env}{Q:Env->Shared->Prop}
  (h:Q { scope:=sc,locals:=s.heap.objs.size,globals:=env.globals,cells:=cellsFrom (s.heap.objs.size+1) sc.names (ca env.cells sc.names []),qual:=env.qual,func:=none,code:=env.code,frame:=env.frame,builtins:=env.builtins }
   { s with heap:=pushCells (s.heap.push { cls:=.type "dict",data:=.dict #[] }) sc.names }) :
  wpAny M A (newFunctionEnv sc env.globals (ca env.cells sc.names []) [] env.qual none .none (some env)) Q E s:=by
 simp only[newFunctionEnv,Option.isSome_some,if_true];refine Op (wpAny_alloc ?_);refine Op (wpAny_layCells _ (λname kind cells=>by cases hkc:kind==NameKind.cell<;>simp[hkc]) _ _ _ _ ?_);rw[show({ s with heap:=s.heap.push { cls:=.type "dict",data:=.dict #[] } }:Shared).heap.objs.size=s.heap.objs.size+1 from kz ..];exact Op (Os (Os h))
def Cx.lc(X:Cx)(sc:Scope)(vars:List Str)(sel:List Nat)(s:Shared)(H:Hp)(fp:List Addr):Cx where
 prog:=X.prog
 w:=X.w
 K:=X.K
 mg:=X.mg
 base:=X.base
 A:=X.A
 N:=vars++sel.map λj=>X.N.getD j ""
 s₀:=s
 H₀:=H
 env:=gA sc X.env s.heap.objs.size
 outer:=X.stack
 stack:=X.stack
 ex:=fp
 fn:=λx=>decide (sc.names.lookup x=some .cell)
 calm:=X.calm
 pn:=[]
 xe:=λ_ _=>False
def oA(N:List Str)(sc:Scope)(sel:List Nat):Bool:=sel.all λj=>match N[j]? with
 |some x=>decide (sc.names.lookup x=some .free)
 |none=>false
def eN(nv:Nat)(sel:List Nat)(σ:St):St:=List.replicate nv none++sel.map λj=>(σ[j]?).getD none
variable {pins:List (Addr×Obj)}{σ:St}{H:Hp}{s:Shared}{sc:Scope}{vars:List Str}{sel:List Nat}{fp:List Addr}
theorem xh(I:Inv X pins σ H s)(ok:j6 sc X.env.scope=true):∀y∈sc.names,y.2=.free->∃c,X.env.cells.lookup y.1=some c:=λy hy hk=>by
 simp only[j6,cQ,Ybh,zj,qb,Ou,decide_eq_false_iff_not] at ok;rcases ok.2 y hy with z|z
 .exact Ot hk z
 .exact I.ok.has y.1 z
theorem DE(I:Inv X pins σ H s)(ok:j6 sc X.env.scope=true)(so:oA X.N sc sel=true)(hf:∀b∈fp,cR X pins H b)(ho:∀b∈fp,∃o,s.heap.get? b=some o)(ha:X.env.scope.kind=.function:=by rfl) :
  Inv (X.lc sc vars sel s H fp) [] (eN vars.length sel σ) H { s with heap:=pushCells (s.heap.push { cls:=.type "dict",data:=.dict #[] }) sc.names }:=by
 have hcl:=xh I ok;have ok':=ok;simp only[j6,cQ,Ybh,zj,qb,Ou,decide_eq_false_iff_not] at ok';obtain⟨⟨hk,nd⟩,hfree⟩:=ok';have szp:(s.heap.push { cls:=.type "dict",data:=.dict #[] }).objs.size=s.heap.objs.size+1:=kz ..;have keep:∀b o,s.heap.get? b=some o->(pushCells (s.heap.push { cls:=.type "dict",data:=.dict #[] }) sc.names).get? b=some o:=λb o e=>pushCells_keeps _ _ _ _ (bZ _ e);have okc:=cellsFrom_ok sc.names (s.heap.push { cls:=.type "dict",data:=.dict #[] }) (s.heap.objs.size+1) [] ⟨λ_ _ hm=>(nomatch hm),List.Pairwise.nil⟩ (by rw[szp];exact bb _);rw[szp] at okc
 -- the cells of the block
 have own:∀x,sc.names.lookup x=some .cell->∃c,(gA sc X.env s.heap.objs.size).cells.lookup x=some c/\(x,c)∈cellsFrom (s.heap.objs.size+1) sc.names []:=λx hx=>by
  have e:=(pA sc.names (s.heap.objs.size+1) (ca X.env.cells sc.names []) [] nd).1 hx;obtain⟨c,hc⟩:=e9 (sc:=sc) (n:=s.heap.objs.size+1) hx;exact⟨c,by show(cellsFrom _ _ _).lookup x=_;rw[e];exact hc,OC hc⟩
 have clo:∀x,sc.names.lookup x=some .free->∃c,(gA sc X.env s.heap.objs.size).cells.lookup x=some c/\X.env.cells.lookup x=some c:=λx hx=>by
  have e:=(pA sc.names (s.heap.objs.size+1) (ca X.env.cells sc.names []) [] nd).2 (by rw[hx];decide);obtain⟨c,h1,h2⟩:=(@uA X.env.cells x sc.names [] nd).1 hx;obtain⟨c',h3⟩:=hcl (x,.free) (OC hx) rfl;have h3':X.env.cells.lookup x=some c':=h3;rw[h3'] at h2;have h4:c'=c:=h2;subst h4;exact⟨c',by show(cellsFrom _ _ _).lookup x=_;rw[e];exact h1,h3'⟩
 have oth:∀x c,(gA sc X.env s.heap.objs.size).cells.lookup x=some c->sc.names.lookup x=some .cell\/sc.names.lookup x=some .free:=λx c hc=>by
  by_cases h1:sc.names.lookup x=some .cell
  .exact .inl h1
  .by_cases h2:sc.names.lookup x=some .free
   .exact .inr h2
   .have e:=(pA sc.names (s.heap.objs.size+1) (ca X.env.cells sc.names []) [] nd).2 h1
    have e2:=(@uA X.env.cells x sc.names [] nd).2 h2;have hc':(cellsFrom (s.heap.objs.size+1) sc.names (ca X.env.cells sc.names [])).lookup x=some c:=hc;rw[e,e2] at hc';simp at hc'
 have ownC:∀x c,(x,c)∈cellsFrom (s.heap.objs.size+1) sc.names []->(pushCells (s.heap.push { cls:=.type "dict",data:=.dict #[] }) sc.names).IsCell c none/\s.heap.objs.size+1<=c:=λx c h=>okc.empty x c h;have cloLt:∀x c,X.env.cells.lookup x=some c->c<s.heap.objs.size:=λx c h=>by
  obtain⟨v,q⟩:=I.cell x c h;exact q.lt
 have noA:∀b∈fp,b<s.heap.objs.size:=λb hb=>by obtain⟨o,e⟩:=ho b hb;exact bX e
 refine ⟨⟨I.ok.mod,hk,I.ok.glob,I.ok.blt,bb _,λx y c h1 h2=>?_,λx hx=>?_,λx c hx h=>?_,I.ok.hd,I.ok.frames,.inl rfl,λb hb=>⟨eJ (noA b hb),λx c h=>?_⟩,I.bs,gb I.ok.bsz I.sz,λb o e hb=>?_,λb hb hq=>?_,I.stack,I.stkFree,I.sysn⟩,
  rfl,I.bare,Un.kept keep,⟨λ_=>none,?_,λi x v h1 h2 h3=>?_⟩,λx c h=>?_,I.hok.fresh (bb _),λx c h=>?_,λp hp=>Ot (show p∈([]:List (Addr×Obj)) from hp) (by simp),I.hok.kept keep,?_⟩
 ·-- inj
  replace h1:(gA sc X.env s.heap.objs.size).cells.lookup x=some c:=h1;replace h2:(gA sc X.env s.heap.objs.size).cells.lookup y=some c:=h2;rcases oth x c h1 with k1|k1<;>rcases oth y c h2 with k2|k2
  .obtain⟨c1,e1,m1⟩:=own x k1
   obtain⟨c2,e2,m2⟩:=own y k2;rw[h1] at e1;rw[h2] at e2;cases e1;cases e2;exact name_of_addr okc.apart m1 m2
  .obtain⟨c1,e1,m1⟩:=own x k1
   obtain⟨c2,e2,m2⟩:=clo y k2;rw[h1] at e1;rw[h2] at e2;cases e1;cases e2;exact Ot (cv (cloLt y c m2) (zk (ownC x c m1).2)) (f9 _)
  .obtain⟨c1,e1,m1⟩:=clo x k1
   obtain⟨c2,e2,m2⟩:=own y k2;rw[h1] at e1;rw[h2] at e2;cases e1;cases e2;exact Ot (cv (cloLt x c m1) (zk (ownC y c m2).2)) (f9 _)
  .obtain⟨c1,e1,m1⟩:=clo x k1
   obtain⟨c2,e2,m2⟩:=clo y k2;rw[h1] at e1;rw[h2] at e2;cases e1;cases e2;exact I.ok.inj x y c m1 m2
 ·-- has
  have hx':(relabel sc X.env).names.lookup x=some .cell\/(relabel sc X.env).names.lookup x=some .free:=hx;rw[DC] at hx';cases q:sc.names.lookup x with
  |none=>rw[q] at hx';simp at hx'
  |some k=>
   cases k with
   |cell=>obtain⟨c,e,_⟩:=own x q;exact⟨c,e⟩
   |free=>obtain⟨c,e,_⟩:=clo x q;exact⟨c,e⟩
   | «local»=>rw[q] at hx';simp at hx'
   |globalExplicit=>rw[q] at hx';simp at hx'
   |globalImplicit=>rw[q] at hx';simp at hx'
 .have hx':sc.names.lookup x=some .cell:=of_decide_eq_true hx
  obtain⟨c1,e1,m1⟩:=own x hx';have h':(gA sc X.env s.heap.objs.size).cells.lookup x=some c:=h;rw[h'] at e1;cases e1;have:=(ownC x c m1).2;show s.heap.objs.size<=c;omega
 .rcases oth x c h with k|k
  .obtain⟨c1,e1,m1⟩:=own x k
   rw[show(gA sc X.env s.heap.objs.size).cells.lookup x=some c from h] at e1;cases e1;exact λz=>Ot (cv (noA b hb) (zk (ownC x c m1).2)) (by rw[z];exact f9 _)
  .obtain⟨c1,e1,m1⟩:=clo x k
   rw[show(gA sc X.env s.heap.objs.size).cells.lookup x=some c from h] at e1;cases e1;exact(hf b hb).2.2.2.2.1 x c m1
 .have q:=(hf b hb).2.2.2.1
  rcases q with q|q
  .exact I.ok.noex b o e q
  .exact Ot (cv (bX (I.ok.bs b o e).1) q) (f9 _)
 .rcases Yaq.mp (I.stkSub b hq) with z|z
  .exact(hf b hb).2.1 z
  .exact(hf b hb).2.2.1 z
 ·-- the names' dict
  refine Heap.Ns.keeps (h:=s.heap.push { cls:=.type "dict",data:=.dict #[] }) ?_ (λb o e=>pushCells_keeps _ _ _ _ e);exact⟨_,#[],_,eV _ rfl,rfl,λe he=>Ot he (by simp),λ_=>rfl⟩
 ·-- what is seen
  have hi:vars.length<=i:=by
   rcases gg i vars.length with z|z
   .exfalso
    unfold eN at h2;rw[l5 (by simpa using z),nN] at h2;split at h2<;>cases h2
   .exact z
  unfold eN at h2;rw[lT (by simpa using hi),p9,cc] at h2;have h1':(vars++sel.map λj=>X.N.getD j "")[i]? = some x:=h1;rw[lT hi,cc] at h1';cases q:sel[i-vars.length]? with
  |none=>rw[q] at h2;cases h2
  |some j=>
   rw[q] at h1' h2;have e1:X.N.getD j "" = x:=Ow h1';have e2:(σ[j]?).getD none=some v:=Ow h2;have hj:∃y,X.N[j]? = some y/\sc.names.lookup y=some .free:=by
    have:=Ybh.mp so j (jE q);cases z:X.N[j]? with
    |none=>rw[z] at this;cases this
    |some y=>rw[z] at this;exact⟨y,rfl,of_decide_eq_true this⟩
   obtain⟨y,hy,hyf⟩:=hj;have:y=x:=by
    rw[<-e1,aM,hy];rfl
   subst this;have e3:σ[j]? = some (some v):=by
    cases z:σ[j]? with
    |none=>rw[z] at e2;cases e2
    |some w=>rw[z] at e2;exact congrArg some e2
   obtain⟨c,k1,k2⟩:=clo y hyf;have vis:nC X.env.scope y:=by
    rcases hfree (y,.free) (OC hyf) with z|z|z
    .exact Ot rfl z
    .exact .inr (.inl z)
    .exact .inr (.inr z)
   obtain⟨m,hn,hl⟩:=I.loc;obtain⟨u,r,l⟩:=hl j y v hy e3 vis;refine⟨u,r,?_⟩;have notloc:X.env.kindOf y≠some .local:=by
    rcases hfree (y,.free) (OC hyf) with z|z|z
    .exact Ot rfl z
    .show X.env.scope.names.lookup y≠_;rw[z];decide
    .show X.env.scope.names.lookup y≠_;rw[z];decide
   rcases l with⟨z,_⟩|⟨_,c',e',q'⟩
   .exact Ot z notloc
   .rw[k2] at e';cases e'
    have kk:(gA sc X.env s.heap.objs.size).kindOf y=some .cell\/(gA sc X.env s.heap.objs.size).kindOf y=some .free:=by
     show(relabel sc X.env).names.lookup y=_\/(relabel sc X.env).names.lookup y=_;rw[DC,hyf];simp only[tj];split
     .exact .inl rfl
     .exact .inr rfl
    exact .inr ⟨kk,c,k1,q'.keeps keep⟩
 .rcases oth x c h with k|k
  .obtain⟨c1,e1,m1⟩:=own x k
   rw[show(gA sc X.env s.heap.objs.size).cells.lookup x=some c from h] at e1;cases e1;exact⟨none,(ownC x c m1).1⟩
  .obtain⟨c1,e1,m1⟩:=clo x k
   rw[show(gA sc X.env s.heap.objs.size).cells.lookup x=some c from h] at e1;cases e1;obtain⟨v,q⟩:=I.cell x c m1;exact⟨v,q.keeps keep⟩
 .rcases oth x c h with k|k
  .obtain⟨c1,e1,m1⟩:=own x k
   rw[show(gA sc X.env s.heap.objs.size).cells.lookup x=some c from h] at e1;cases e1;exact I.hok.fresh (by have:=(ownC x c m1).2;omega)
  .obtain⟨c1,e1,m1⟩:=clo x k
   rw[show(gA sc X.env s.heap.objs.size).cells.lookup x=some c from h] at e1;cases e1;exact I.freeC x c m1
 .show(eN vars.length sel σ).length=(vars++sel.map _).length
  unfold eN;simp
def PF(X:Cx)(ifs:List Expr)(t:TT):Prop:=
 ∀(pins:List (Addr×Obj)) (s:Shared) (σ:St) (H:Hp) (Q:Bool->Hp->Prop),Inv X pins σ H s->t σ H Q->
  wpAny (model X.prog X.w) X.A (forIn ifs true λc r=>if r=true then do let ok <-isTrue c X.env (eval c X.env);pure (ForInStep.yield ok) else pure (ForInStep.yield r)) (TP X pins σ Q) X.xe s
def uB:TT:=λ_ H Q=>Q true H
theorem HH{X:Cx}:PF X [] uB:=λ_ _ _ H _ I h=>wpAny_tests_nil ⟨H,I,h⟩
theorem HI{X:Cx}{c:Expr}{t:TT}(h:PT X c t):PF X [c] t:=λpins s σ H Q I q=>wpAny_tests_one (h pins s σ H Q I q)
def uC(g:TG)(tf:TT)(te:TE)(J:It)(D:Addr)(Q:Hp->Prop)(W:Nat->Nat->List V->St->Hp->Prop):Prop:=
 ∀ i m ys σ2 H2,W i m ys σ2 H2->H2 D=some (.lst ys)/\((J.stop i H2/\Q H2)\/(J.go i H2/\∀ x H3,J.yld i H2 x H3->g x σ2 H3 λσ4 H4=>tf σ4 H4 λb H5=>
  if b=true then te σ4 H5 λv H6=>H6 D=some (.lst ys)/\ys.length<sizeLine/\∃m',m'<m/\W (i+1) m' (ys++[v]) σ4 (upd H6 D (.lst (ys++[v]))) else∃m',m'<m/\W (i+1) m' ys σ4 H5))
def Al(wi:TI)(nv:Nat)(sel:List Nat)(g:TG)(tf:TT)(te:TE):TE:=λσ H Q=>wi σ H λJ H1=>∀D,H1 D=none->
 ∃W:Nat->Nat->List V->St->Hp->Prop,(∃m,W 0 m [] (eN nv sel σ) (upd H1 D (.lst [])))/\uC g tf te J D (Q (.ref D)) W
variable {H1:Hp}{s2:Shared}{elt target iter:Expr}{ifs:List Expr}{pos:Pos}{g:TG}{tf:TT}{te:TE}
theorem HJ{prog:Program}{w:World}{A:Around}{R:Result->Shared->Prop}{s:Shared}{scope:Scope}{it acc:Value}{env:Env}(I:Nat->Shared->Prop)
  (turn:∀ n s,I n s->wpAny (model prog w) A (pyNext it) (λr s₁=>match r with
   |none=>R (.ok .next) s₁
   | some v=>wpAny (model prog w) A (letOwnedTupleGo target it v) (λ_ s₁'=>wpAny (model prog w) A (assign target env v) (λ_ s₂=>
     wpAny (model prog w) A (forIn ifs true λc r=>if r=true then do let ok <- isTrue c env (eval c env);pure (ForInStep.yield ok) else pure (ForInStep.yield r)) (λok s₃=>
      if ok=true then wpAny (model prog w) A (eval elt env) (λx s₄=>
       wpAny (model prog w) A (call (.builtin "list.append") [acc,x]) (λ_ s₅=>∃m,m<n/\I m s₅) (λ_ _=>False) s₄) (λ_ _=>False) s₃
      else∃m,m<n/\I m s₃) (λ_ _=>False) s₂) (λ_ _=>False) s₁') (λ_ _=>False) s₁) (λ_ _=>False) s)
  (n:Nat) (h:I n s) :
  codeAny (model prog w) A (.compLoop (.ListComp elt [⟨target,iter,ifs,0⟩] scope pos) 0 it acc env) R s:=by
 refine codeAny_loop rfl I (λn s hI=>?_) n h;show wpAny _ A ((compTurn (.ListComp elt [⟨target,iter,ifs,0⟩] scope pos) 0 it acc env).onRaise (λx=>do noteFrame x env;theTreesLotGoes x)) _ _ s;refine wpAny_noted ?_;rw[compTurn_list];refine Op (OB (Op (Ov (turn n s hI) (λr s₁ h₁=>?_) λ_ _ h'=>h'.elim)));cases r with
 |none=>exact Os h₁
 |some v=>
  refine Op (Ov h₁ (λ_ s₁' h₁'=>?_) λ_ _ h'=>h'.elim);refine Op (Ov h₁' (λ_ s₂ h₂=>Op (Ov h₂ (λok s₃ h₃=>?_) λ_ _ h'=>h'.elim)) λ_ _ h'=>h'.elim);cases ok with
  |false=>exact Os ⟨rfl,h₃⟩
  |true=>
   exact Op (Op (Ov h₃ (λx s₄ h₄=>Op (Ov h₄ (λ_ s₅ h₅=>Os (Os ⟨rfl,h₅⟩)) λ_ _ h'=>h'.elim)) λ_ _ h'=>h'.elim))
theorem DF{J:It}{fp:List Addr}{it:Addr}{tn:Nat->Heap->Prop}{Q:VK}{E:Value->Shared->Prop}{R:Value->Addr->Result->Shared->Prop}(hc:X.calm=true)
  (hg:∀s H fp,PG (X.lc sc vars sel s H fp) target g) (hf:∀s H fp,PF (X.lc sc vars sel s H fp) ifs tf) (he:∀s H fp,PE (X.lc sc vars sel s H fp) elt te)
  (ok:j6 sc X.env.scope=true) (so:oA X.N sc sel=true)
  (I2:Inv X pins σ H1 s2) (T:fL X.prog X.w X.K target J fp it tn) (st2:tn 0 s2.heap) (f2:∀b∈fp,cR X pins H1 b)
  (q:∀D,H1 D=none->∃W:Nat->Nat->List V->St->Hp->Prop,(∃m,W 0 m [] (eN vars.length sel σ) (upd H1 D (.lst [])))/\uC g tf te J D (Q (.ref D)) W)
  (hR:∀D C H' s',Inv X pins σ H' s'->Q (.ref D) H'->(∃m,s'.heap.Ns C m)->cR X pins H' C->R (.ref D) C (.ok .next) s') :
  wpAny (model X.prog X.w) X.A (newList []) (λacc s₃=>wpAny (model X.prog X.w) X.A (newFunctionEnv sc X.env.globals (ca X.env.cells sc.names []) [] X.env.qual none .none (some X.env)) (λcenv s₄=>
   codeAny (model X.prog X.w) X.A (.compStart (.ListComp elt [⟨target,iter,ifs,0⟩] sc pos) 0 (.ref it) acc { cenv with scope:=relabel sc X.env }) (R acc cenv.locals) s₄) E s₃) E s2:=by
 refine OA ?_;have hD0:H1 s2.heap.objs.size=none:=I2.hok.fresh (bb _);obtain⟨W,⟨m0,w0⟩,turn⟩:=q _ hD0;have I3:Inv X pins σ (upd H1 s2.heap.objs.size (.lst [])) { s2 with heap:=s2.heap.push { cls:=.type "list",data:=.seq ([]:List Value).toArray },toks:=s2.toks }:=I2.lnew (ys:=[]) .nil (jD _);have ho2:∀b∈fp,∃o,s2.heap.get? b=some o/\∀v,o.data≠.cell v:=T.obj _ _ st2;have lt2:∀b∈fp,b<s2.heap.objs.size:=λb hb=>by obtain⟨o,e,_⟩:=ho2 b hb;exact bX e
 have f3:∀b∈fp,cR X pins (upd H1 s2.heap.objs.size (.lst [])) b:=λb hb=>⟨by rw[af (eJ (lt2 b hb))];exact(f2 b hb).1,(f2 b hb).2⟩;have ho3:∀b∈fp,∃o,(s2.heap.push { cls:=.type "list",data:=.seq ([]:List Value).toArray }).get? b=some o:=λb hb=>by obtain⟨o,e,_⟩:=ho2 b hb;exact⟨o,bZ _ e⟩
 refine DD (s:={ s2 with heap:=s2.heap.push { cls:=.type "list",data:=.seq ([]:List Value).toArray },toks:=s2.toks }) ?_;generalize hs3:({ s2 with heap:=s2.heap.push { cls:=.type "list",data:=.seq ([]:List Value).toArray },toks:=s2.toks }:Shared)=s3 at I3 ⊢;have kp23:∀b o,s2.heap.get? b=some o->s3.heap.get? b=some o:=λb o e=>by rw[<-hs3];exact bZ _ e
 have sz3:s3.heap.objs.size=s2.heap.objs.size+1:=by rw[<-hs3];exact kz ..
 have os3:s3.os=s2.os:=by rw[<-hs3]
 have ho3':∀b∈fp,∃o,s3.heap.get? b=some o:=λb hb=>by rw[<-hs3];exact ho3 b hb
 have I4:=DE (vars:=vars) I3 ok so f3 ho3' I2.ok.kind;have kp4:∀b o,s3.heap.get? b=some o->(pushCells (s3.heap.push { cls:=.type "dict",data:=.dict #[] }) sc.names).get? b=some o:=λb o e=>pushCells_keeps _ _ _ _ (bZ _ e);have st4:tn 0 (pushCells (s3.heap.push { cls:=.type "dict",data:=.dict #[] }) sc.names):=T.keep _ _ _ st2 λb hb o e=>kp4 b o (kp23 b o e)
 -- what stays true of the iterator
 have stat:∀{H':Hp},(∀b∈fp,H' b=none)->∀b∈fp,cR (X.lc sc vars sel s3 (upd H1 s2.heap.objs.size (.lst [])) fp) [] H' b:=λ{H'} hn b hb=>by
  refine⟨hn b hb,(I4.ok.exf b hb).1,I4.ok.exfs b hb,.inl hb,λx c e z=>(I4.ok.exf b hb).2 x c e z,λp hp=>Ot (show p∈([]:List (Addr×Obj)) from hp) (by simp)⟩
 have loop:codeAny (model X.prog X.w) X.A (.compLoop (.ListComp elt [⟨target,iter,ifs,0⟩] sc pos) 0 (.ref it) (.ref s2.heap.objs.size) (gA sc X.env s3.heap.objs.size))
   (R (.ref s2.heap.objs.size) s3.heap.objs.size) { s3 with heap:=pushCells (s3.heap.push { cls:=.type "dict",data:=.dict #[] }) sc.names }:=by
  refine HJ (λn s'=>∃i ys σ' H',Inv (X.lc sc vars sel s3 (upd H1 s2.heap.objs.size (.lst [])) fp) [] σ' H' s'/\tn i s'.heap/\(∀b∈fp,H' b=none)/\W i n ys σ' H') ?_ m0
   ⟨0,[],_,_,I4,st4,λb hb=>(f3 b hb).1,w0⟩
  rintro n s5 ⟨i,ys,σ5,H5,I5,st5,fr5,w5⟩;obtain⟨hD,⟨stop,qn⟩|⟨go,step⟩⟩:=turn i n ys σ5 H5 w5
  .refine aI (T.done (X.lc sc vars sel s3 (upd H1 s2.heap.objs.size (.lst [])) fp) rfl rfl rfl hc i [] s5 σ5 H5 _ I5 (stat fr5) st5 stop) λr s6 ⟨hr,I6⟩=>?_
   subst hr;have un:Un (cu X.stack) fp H1 H5 s2.heap s6.heap:=by
    have a:Un (cu X.stack) fp H1 (upd H1 s2.heap.objs.size (.lst [])) s2.heap s3.heap:=Un.laid kp23 (bb _) hD0;exact a.trans I6.base
   have I7:Inv X pins σ H5 s6:=I2.call' (ch:=fp) (I6.os.trans os3) un I6.hok I6.bare λb hb=>⟨(f2 b hb).2.2.2.1,(f2 b hb).2.1,(f2 b hb).2.2.2.2.1,(f2 b hb).2.2.2.2.2⟩;refine hR _ _ H5 s6 I7 qn ?_ ?_
   .obtain⟨m,hn,_⟩:=I6.loc
    exact⟨m,hn⟩
   .exact I3.fpOk (bb _) I6.free
  .refine aI (T.item (X.lc sc vars sel s3 (upd H1 s2.heap.objs.size (.lst [])) fp) rfl rfl rfl hc i [] s5 σ5 H5 _ I5 (stat fr5) st5 go) λr s6 ⟨u,hr,h6⟩=>?_
   subst hr;refine aI h6 λ_ s7 ⟨x,H7,I7,r7,y7,st7,fr7⟩=>?_;have I7':=I7.pinned (stat fr7) (T.obj _ _ st7);refine aI (hg _ _ _ _ s7 σ5 H7 x u _ I7' r7 (step x H7 y7)) λ_ s8 ⟨σ8,H8,I8,q8⟩=>?_;refine aI (hf _ _ _ _ s8 σ8 H8 _ I8 q8) λb s9 ⟨H9,I9,q9⟩=>?_;have back:∀{σ':St} {H':Hp} {s':Shared},Inv (X.lc sc vars sel s3 (upd H1 s2.heap.objs.size (.lst [])) fp) ([]++dq fp s7.heap) σ' H' s'->tn (i+1) s'.heap/\∀b∈fp,H' b=none:=λ{σ' H' s'} I'=>by
    refine⟨T.keep _ _ _ st7 λb hb o e=>(I'.pin (b,o) (ge _ (ge _ (bj hb e)))).1,λb hb=>?_⟩;obtain⟨o,e,d⟩:=T.obj _ _ st7 b hb;exact(I'.pin (b,o) (ge _ (ge _ (bj hb e)))).2.1
   cases b with
   |false=>
    rw[if_neg (by decide)] at q9 ⊢;obtain⟨m',hm,w9⟩:=q9;exact⟨m',hm,i+1,ys,σ8,H9,I9.unpinned,(back I9).1,(back I9).2,w9⟩
   |true=>
    rw[if_pos rfl] at q9 ⊢;refine aI (he _ _ _ _ s9 σ8 H9 _ I9 q9) λv sA ⟨y,HA,IA,rA,hDA,hz,m',hm,wA⟩=>?_;obtain⟨z,its,nn,rr,hl,e⟩:=IA.lstM hDA;refine call_meets F.slot_list_append ⟨_,e,rfl⟩ F.entry_list_append (F.args_list_append_2 _ _) (PySem.list_append _ its.toArray nn v (by rw[dL];omega)) ⟨e,?_⟩;have IB:=IA.lset (its':=its++[v]) (f:=(·.push v)) (t':=sA.toks) hDA e (by simp) (rr.append (.cons rA .nil)) (by rw[dj,kS];omega);exact⟨m',hm,i+1,ys++[y],σ8,_,IB.unpinned,(back IB).1,(back IB).2,wA⟩
 exact codeAny_compStart_list loop (T.self _ 0 _ _ _ st4 loop)
theorem uD{wi:TI}(vars:List Str)(sel:List Nat)(hc:X.calm=true)(hi:PI X target iter wi)
  (ok:j6 sc X.env.scope=true) (so:oA X.N sc sel=true)
  (hg:∀s H fp,PG (X.lc sc vars sel s H fp) target g) (hf:∀s H fp,PF (X.lc sc vars sel s H fp) ifs tf) (he:∀s H fp,PE (X.lc sc vars sel s H fp) elt te)
  (hs:∀x,foldedSetIterable iter X.env x=pure x:=by intro _;rfl):PE X (.ListComp elt [⟨target,iter,ifs,0⟩] sc pos) (Al wi vars.length sel g tf te):=by
 intro pins s σ H Q I h;rw[eval_ListComp];have ok':=ok;simp only[j6,cQ,Ou] at ok';refine OS (use:=none) rfl hs (Ak (xh I ok)) ok'.1.1 (λx hx hl=>?_) ?_
 .obtain⟨n,k⟩:=x
  have hl':k=.local:=hl;subst hl';exact xg ok'.1.2 hx
 .refine aI (hi pins s σ H _ I h) λv s1 h1=>aI h1 λitv s2 h2=>?_
  obtain⟨it,fp,tn,J,H2,e,I2,T,st2,f2,q⟩:=h2;subst e;refine DF (Q:=Q) hc hg hf he ok so I2 T st2 f2 q λD C H' s' I' q' hn fC=>?_;obtain⟨m,hn⟩:=hn;refine⟨m,hn,λh' hs'=>?_⟩;obtain⟨f0,f1,f2,f3,f4,f5⟩:=fC;exact⟨.ref D,H',I'.turned (t':=s'.toks) (λb o hb e=>(hs'.2 b hb).trans e) f0 f1 f3 f4 f5,rfl,q'⟩
theorem uE{wi:TI}{i:Nat}{x:Str}{pos' spos:Pos}(vars:List Str)(sel:List Nat)(hc:X.calm=true)(hN:X.N.Nodup)(hix:X.N[i]? = some x)(hx:ml X.env.scope x)(hi:PI X target iter wi)
  (ok:j6 sc X.env.scope=true) (so:oA X.N sc sel=true)
  (hg:∀s H fp,PG (X.lc sc vars sel s H fp) target g) (hf:∀s H fp,PF (X.lc sc vars sel s H fp) ifs tf) (he:∀s H fp,PE (X.lc sc vars sel s H fp) elt te)
  (hsw:swapsWith (.ListComp elt [⟨target,iter,ifs,0⟩] sc pos) (some (.Name x pos')) spos.line X.env=pure true)
  (hs:∀x,foldedSetIterable iter X.env x=pure x:=by intro _;rfl) (hfn:X.fn x=true\/X.env.scope.names.lookup x=some .local:=by first|exact .inl rfl|exact .inr rfl|assumption) :
  PS X (.Assign [.Name x pos'] (.ListComp elt [⟨target,iter,ifs,0⟩] sc pos) spos) (qF (Al wi vars.length sel g tf te) (kH i)):=by
 intro pins s σ H D I h;rw[exec_Assign_Name_used _ _ _ _ hsw];refine Op (OB (Op ?_));show wpAny _ X.A (do let _ <-comprehension (.ListComp elt [⟨target,iter,ifs,0⟩] sc pos) sc X.env _ (newList []) false (eval iter X.env) (some (assign (.Name x pos') X.env))) _ _ s;have ok':=ok;simp only[j6,cQ,Ou] at ok';refine Op (Ov (OS (use:=some (assign (.Name x pos') X.env)) (Q:=λ_ s'=>SP X pins D .next s') rfl hs (Ak (xh I ok)) ok'.1.1 (λx hx hl=>?_) ?_) (λ_ s' q=>Os (Os q)) λ_ _ e=>e)
 .obtain⟨n,k⟩:=x
  have hl':k=.local:=hl;subst hl';exact xg ok'.1.2 hx
 .refine aI (hi pins s σ H _ I h) λv s1 h1=>aI h1 λitv s2 h2=>?_
  obtain⟨it,fp,tn,J,H2,e,I2,T,st2,f2,q⟩:=h2;subst e;refine DF (Q:=λv H'=>kH i v σ H' D.nx) hc hg hf he ok so I2 T st2 f2 q λD' C H' s' I' q' hn fC=>?_;obtain⟨m,hn⟩:=hn;obtain⟨f0,f1,f2,f3,f4,f5⟩:=id fC;refine wpAny_assign_Name (gk I' hN hix hx (v:=.ref D') rfl (λs'' I'' ⟨a,sb,ha⟩=>?_) hfn);have hCa:C≠a:=by
   rcases ha with z|z
   .rw[z];exact f1
   .exact Oy (f4 x a z)
  refine⟨m,hn.sameBut sb hCa,λh' hs'=>?_⟩;exact⟨_,H',I''.turned (t':=s''.toks) (λb o hb e=>(hs'.2 b hb).trans e) f0 f1 f3 f4 f5,q'⟩
end L2
namespace LP
open PySem PySem.Spec PyProof.Rows L2
inductive D where
 |non|bl (b:Bool)|int (i:Int)|str (x:Str)|tup (xs:List D)|lst (xs:List D)|dic|pen|cls (n:Str)|exc (n:Str)|ty (n:String)|scr (xs:List D)
structure Wd where
 G:Hp
 Pn:Addr->Prop
def KT(K:Oq)(a:Addr)(vs:List V):Prop:=
 ∃(o:Obj) (its:Array Value) (n:Nat),K.lookup a=some o/\o.cls=.type "tuple" /\o.data=.seq its n/\its.size<=sizeLine/\Vals vs its.toList
def j7(K:Oq)(n:Str):Option Addr:=match PySem.W.nsIn K mainGlobals n with
 |some (some (.ref a))=>some a
 |_=>none
def xtab:List (Str×Str×Str×Int):=[("NotStrong1", "NotStrong", "size",1),("NotStrong2", "NotStrong", "size",2),("NotStrong3", "NotStrong", "size",3),("NotStrong4", "NotStrong", "size",4),("NotStrong5", "NotStrong", "size",5),("NoText0", "NoText", "row",0),("NoText1", "NoText", "row",1),("NoText2", "NoText", "row",2),("NoText3", "NoText", "row",3),("NoText4", "NoText", "row",4),("NoText5", "NoText", "row",5),("NoText6", "NoText", "row",6),("NoText7", "NoText", "row",7),("NoText8", "NoText", "row",8),("NoText9", "NoText", "row",9),("NoText10", "NoText", "row",10),("NoText11", "NoText", "row",11),("NoText12", "NoText", "row",12),("NoText13", "NoText", "row",13),("NoText14", "NoText", "row",14),("NoText15", "NoText", "row",15)]
def jn(n:Str):Option (Str×Str×Int):=(xtab.find? λr=>r.1==n).map (·.2)
def oB(n:Str):Str:=match jn n with
 |some r=>r.1
 |none=>n
def uF(C a:Addr)(dx:Option Addr):HO:=.ext λh=>∃oe,h.get? a=some oe/\oe.cls=.ref C/\PySem.W.notCls oe=true/\oe.dict=dx/\∃vs,oe.data=.fields vs
def XD(W:Wd)(n:Str)(dx:Option Addr):Prop:=∀c f k,jn n=some (c,f,k)->∃d,dx=some d/\W.G d=some (.xd [(f,.int k)])
theorem XD.none{W:Wd}{n:Str}{dx:Option Addr}(h:jn n=none):XD W n dx:=λc f k e=>by rw[h] at e;cases e
theorem XD.mono{W W':Wd}{n:Str}{dx:Option Addr}(g:∀a o,W.G a=some o->W'.G a=some o)(h:XD W n dx):XD W' n dx:=λc f k e=>let⟨d,e1,e2⟩:=h c f k e;⟨d,e1,g _ _ e2⟩
theorem HK{n:Str}(h:jn n=none):oB n=n:=by unfold oB;rw[h]
def KL(K:Oq)(a:Addr)(vs:List V):Prop:=
 ∃(o:Obj) (its:Array Value) (n:Nat),K.lookup a=some o/\o.cls=.type "list" /\o.dict=none/\o.data=.seq its n/\its.size<=sizeLine/\Vals vs its.toList
mutual
inductive Rep (K:Oq) (W:Wd):V->D->Prop
 |non:Rep K W .non .non
 |bl (b:Bool):Rep K W (.bl b) (.bl b)
 |int (i:Int):Rep K W (.int i) (.int i)
 |str (x:Str):Rep K W (.str x) (.str x)
 |tup {a:Addr} {vs:List V} {ds:List D}:W.G a=some (.tup vs)->Reps K W vs ds->Rep K W (.ref a) (.tup ds)
 |ktup {a:Addr} {vs:List V} {ds:List D}:KT K a vs->Reps K W vs ds->Rep K W (.ref a) (.tup ds)
 |lst {a:Addr} {vs:List V} {ds:List D}:W.G a=some (.lst vs)->Reps K W vs ds->Rep K W (.ref a) (.lst ds)
 |scr {a:Addr} {vs:List V} {ds:List D}:((∃o,W.G a=some (.frz o (.lst vs)))\/KL K a vs)->Reps K W vs ds->Rep K W (.ref a) (.scr ds)
 |dic {a:Addr}:W.G a=some (.dK [])->Rep K W (.ref a) .dic
 |pen {a:Addr}:W.Pn a->Rep K W (.ref a) .pen
 |cls {a:Addr} {n:Str}:j7 K n=some a->Rep K W (.ref a) (.cls n)
 |exc {a C:Addr} {n:Str} {dx:Option Addr}:W.G a=some (uF C a dx)->j7 K (oB n)=some C->XD W n dx->Rep K W (.ref a) (.exc n)
 |ty (n:String):Rep K W (.ty n) (.ty n)
inductive Reps (K:Oq) (W:Wd):List V->List D->Prop
 |nil:Reps K W [] []
 |cons {v:V} {d:D} {vs:List V} {ds:List D}:Rep K W v d->Reps K W vs ds->Reps K W (v::vs) (d::ds)
end
variable {K:Oq}{W W':Wd}
mutual
theorem Rep.mono(g:∀a o,W.G a=some o->W'.G a=some o)(p:∀a,W.Pn a->W'.Pn a):∀{v:V} {d:D},Rep K W v d->Rep K W' v d
 |_,_,.non=>.non
 |_,_,.bl b=>.bl b
 |_,_,.int i=>.int i
 |_,_,.str x=>.str x
 |_,_,.tup e r=>.tup (g _ _ e) (Reps.mono g p r)
 |_,_,.ktup e r=>.ktup e (Reps.mono g p r)
 |_,_,.lst e r=>.lst (g _ _ e) (Reps.mono g p r)
 |_,_,.scr e r=>.scr (e.elim (λ⟨o,z⟩=>.inl ⟨o,g _ _ z⟩) .inr) (Reps.mono g p r)
 |_,_,.dic e=>.dic (g _ _ e)
 |_,_,.pen e=>.pen (p _ e)
 |_,_,.cls e=>.cls e
 |_,_,.exc e h x=>.exc (g _ _ e) h (x.mono g)
 |_,_,.ty n=>.ty n
theorem Reps.mono(g:∀a o,W.G a=some o->W'.G a=some o)(p:∀a,W.Pn a->W'.Pn a):∀{vs:List V} {ds:List D},Reps K W vs ds->Reps K W' vs ds
 |_,_,.nil=>.nil
 |_,_,.cons r t=>.cons (Rep.mono g p r) (Reps.mono g p t)
end
theorem Reps.length:∀{vs:List V} {ds:List D},Reps K W vs ds->vs.length=ds.length
 |_,_,.nil=>rfl
 |_,_,.cons _ t=>by simp[Reps.length t]
theorem Reps.get:∀{vs:List V} {ds:List D} {i:Nat} {d:D},Reps K W vs ds->ds[i]? = some d->∃v,vs[i]? = some v/\Rep K W v d
 |_,_,_,_,.nil,e=>by simp at e
 |_,_,0,_,.cons r _,e=>by simp at e;subst e;exact⟨_,rfl,r⟩
 |_,_,i+1,d,.cons _ t,e=>by
  obtain⟨u,h1,h2⟩:=Reps.get (i:=i) (d:=d) t (by simpa using e);exact⟨u,by simpa using h1,h2⟩
theorem Reps.append:∀{vs us:List V} {ds es:List D},Reps K W vs ds->Reps K W us es->Reps K W (vs++us) (ds++es)
 |_,_,_,_,.nil,s=>s
 |_,_,_,_,.cons r t,s=>.cons r (Reps.append t s)
theorem Reps.take:∀{vs:List V} {ds:List D} (n:Nat),Reps K W vs ds->Reps K W (vs.take n) (ds.take n)
 |_,_,0,_=>.nil
 |_,_,_+1,.nil=>.nil
 |_,_,n+1,.cons r t=>.cons r (Reps.take n t)
theorem Reps.drop:∀{vs:List V} {ds:List D} (n:Nat),Reps K W vs ds->Reps K W (vs.drop n) (ds.drop n)
 |_,_,0,r=>r
 |_,_,_+1,.nil=>.nil
 |_,_,n+1,.cons _ t=>Reps.drop n t
theorem Reps.set{v:V}{d:D}(r:Rep K W v d):∀{vs:List V} {ds:List D} (i:Nat),Reps K W vs ds->Reps K W (vs.set i v) (ds.set i d)
 |_,_,_,.nil=>.nil
 |_,_,0,.cons _ t=>.cons r t
 |_,_,i+1,.cons q t=>.cons q (Reps.set r i t)
theorem Reps.rev{vs:List V}{ds:List D}(r:Reps K W vs ds):Reps K W vs.reverse ds.reverse:=by
 induction vs generalizing ds with
 |nil=>cases r;exact .nil
 |cons v vs ih=>cases r with|cons r t=>rw[sh,sh];exact(ih t).append (.cons r .nil)
theorem Reps.one{us:List V}{d:D}(r:Reps K W us [d]):∃v,us=[v]/\Rep K W v d:=by
 cases r with|cons r t=>cases t;exact⟨_,rfl,r⟩
theorem Reps.two{us:List V}{d e:D}(r:Reps K W us [d,e]):∃v u,us=[v,u]/\Rep K W v d/\Rep K W u e:=by
 cases r with|cons r t=>cases t with|cons r' t=>cases t;exact⟨_,_,rfl,r,r'⟩
def ZoV(H:Hp)(a:Addr):Prop:=∃i j k:Int,H a=some (.lst [.int i,.int j,.int k])
structure WOk(W:Wd)(H:Hp):Prop where
 g:∀a o,W.G a=some o->H a=some o
 p:∀a,W.Pn a->ZoV H a/\W.G a=none
structure Ext(W:Wd)(H:Hp)(W':Wd)(H':Hp):Prop where
 ok:WOk W' H'
 g:∀a o,W.G a=some o->W'.G a=some o
 p:∀a,W.Pn a->W'.Pn a
 gf:∀a,W.G a=none->W'.G a≠none->H a=none
 pf:∀a,¬W.Pn a->W'.Pn a->H a=none
 h:∀a o,H a=some o->¬W.Pn a->H' a=some o
variable {W1 W2 W0:Wd}{H H1 H2 H0:Hp}
theorem Ext.refl(ok:WOk W H):Ext W H W H:=⟨ok,λ_ _ e=>e,λ_ e=>e,λ_ e n=>Ot e n,λ_ n e=>Ot e n,λ_ _ e _=>e⟩
theorem ZoV.ne{a:Addr}(p:ZoV H a):H a≠none:=by obtain⟨_,_,_,e⟩:=p;rw[e];simp
theorem Ext.isN(x:Ext W H W1 H1){a:Addr}(h:H1 a=none):H a=none:=by
 cases q:H a with
 |none=>rfl
 |some o=>
  by_cases hp:W.Pn a
  .exact Ot h ((x.ok.p a (x.p a hp)).1.ne)
  .rw[x.h a o q hp] at h;cases h
theorem Ext.trans(x:Ext W H W1 H1)(y:Ext W1 H1 W2 H2):Ext W H W2 H2 where
 ok:=y.ok
 g:=λa o e=>y.g a o (x.g a o e)
 p:=λa e=>y.p a (x.p a e)
 gf:=λa e n=>by
  cases q:W1.G a with
  |none=>exact x.isN (y.gf a q n)
  |some o=>exact x.gf a e (by rw[q];simp)
 pf:=λa e n=>by
  by_cases q:W1.Pn a
  .exact x.pf a e q
  .exact x.isN (y.pf a q n)
 h:=λa o e n=>y.h a o (x.h a o e n) λq=>by have:=x.pf a n q;rw[e] at this;cases this
theorem Ext.rep(x:Ext W H W1 H1){v:V}{d:D}(r:Rep K W v d):Rep K W1 v d:=r.mono x.g x.p
theorem Ext.reps(x:Ext W H W1 H1){v:List V}{d:List D}(r:Reps K W v d):Reps K W1 v d:=r.mono x.g x.p
def Wd.put(W:Wd)(a:Addr)(o:HO):Wd:=⟨upd W.G a o,W.Pn⟩
theorem Ext.put{a:Addr}{o:HO}(ok:WOk W H)(h:H a=none):Ext W H (W.put a o) (upd H a o) where
 ok:=⟨λb u e=>by
   unfold Wd.put at e;dsimp only at e
   by_cases hb:b=a
   .subst hb;rw[ao] at e ⊢;exact e
   .rw[af hb] at e ⊢;exact ok.g b u e,
  λb hb=>by
   have⟨p1,p2⟩:=ok.p b hb;have hne:b≠a:=λz=>p1.ne (by rw[z];exact h);refine⟨?_,by unfold Wd.put;dsimp only;rw[af hne];exact p2⟩;obtain⟨i,j,k,e⟩:=p1;exact⟨i,j,k,by rw[af hne];exact e⟩⟩
 g:=λb u e=>by
  have:b≠a:=λz=>by have:=ok.g b u e;rw[z,h] at this;cases this
  unfold Wd.put;dsimp only;rw[af this];exact e
 p:=λb e=>e
 gf:=λb e n=>by
  by_cases hb:b=a
  .rw[hb];exact h
  .unfold Wd.put at n;dsimp only at n;rw[af hb] at n;exact Ot e n
 pf:=λb n e=>Ot e n
 h:=λb u e _=>by
  have:b≠a:=λz=>by rw[z,h] at e;cases e
  rw[af this];exact e
theorem Ext.new{a:Addr}{o:HO}(ok:WOk W H)(h:H a=none):Ext W H W (upd H a o) where
 ok:=⟨λb u e=>by
   have q:=ok.g b u e;have:b≠a:=λz=>by rw[z,h] at q;cases q
   rw[af this];exact q,
  λb hb=>by
   have⟨p1,p2⟩:=ok.p b hb;have hne:b≠a:=λz=>p1.ne (by rw[z];exact h);obtain⟨i,j,k,e⟩:=p1;exact⟨⟨i,j,k,by rw[af hne];exact e⟩,p2⟩⟩
 g:=λ_ _ e=>e
 p:=λ_ e=>e
 gf:=λ_ e n=>Ot e n
 pf:=λ_ n e=>Ot e n
 h:=λb u e _=>by
  have:b≠a:=λz=>by rw[z,h] at e;cases e
  rw[af this];exact e
theorem WOk.fresh(ok:WOk W H){a:Addr}(h:H a=none):W.G a=none/\¬W.Pn a:=by
 refine⟨?_,λp=>(ok.p a p).1.ne h⟩;cases q:W.G a with
 |none=>rfl
 |some o=>have:=ok.g a o q;rw[h] at this;cases this
theorem Ext.pub{a:Addr}{o:HO}(x:Ext W H W1 H1)(h:H a=none)(e:H1 a=some o)(n:¬W1.Pn a)(ng:W1.G a=none):Ext W H (W1.put a o) H1 where
 ok:=⟨λb u q=>by
   unfold Wd.put at q
   by_cases hb:b=a
   .subst hb;dsimp only at q;rw[ao] at q;cases q;exact e
   .dsimp only at q;rw[af hb] at q;exact x.ok.g b u q,
  λb hb=>by
   have⟨p1,p2⟩:=x.ok.p b hb;have hne:b≠a:=λz=>n (by rw[<-z];exact hb);exact⟨p1,by unfold Wd.put;dsimp only;rw[af hne];exact p2⟩⟩
 g:=λb u q=>by
  have q1:=x.g b u q;have:b≠a:=λz=>by rw[z,ng] at q1;cases q1
  unfold Wd.put;dsimp only;rw[af this];exact q1
 p:=x.p
 gf:=λb q m=>by
  by_cases hb:b=a
  .rw[hb];exact h
  .unfold Wd.put at m;dsimp only at m;rw[af hb] at m;exact x.gf b q m
 pf:=x.pf
 h:=x.h
theorem oC{a:Addr}{o:HO}(ng:W.G a=none):∀b u,W.G b=some u->(W.put a o).G b=some u:=λb u q=>by
 have:b≠a:=λz=>by rw[z,ng] at q;cases q
 unfold Wd.put;dsimp only;rw[af this];exact q
theorem Ext.chg{a:Addr}{o o':HO}(x:Ext W H W1 H1)(h:H a=none)(e:H1 a=some o)(n:¬W1.Pn a)(ng:W1.G a=none):Ext W H W1 (upd H1 a o') where
 ok:=⟨λb u q=>by
   have:b≠a:=λz=>by rw[z,ng] at q;cases q
   rw[af this];exact x.ok.g b u q,
  λb hb=>by
   have⟨p1,p2⟩:=x.ok.p b hb;have hne:b≠a:=λz=>n (by rw[<-z];exact hb);obtain⟨i,j,k,e⟩:=p1;exact⟨⟨i,j,k,by rw[af hne];exact e⟩,p2⟩⟩
 g:=x.g
 p:=x.p
 gf:=x.gf
 pf:=x.pf
 h:=λb u q m=>by
  have:b≠a:=λz=>by rw[z,h] at q;cases q
  rw[af this];exact x.h b u q m
inductive SV where
 |un|d (x:D)|ow (xs:List D)|oo (xss:List (List D))
abbrev aN:=List SV
def Own1(K:Oq)(H0:Hp)(W:Wd)(H:Hp)(b:Addr)(xs:List D):Prop:=∃vs,H b=some (HO.lst vs)/\W.G b=none/\¬W.Pn b/\H0 b=none/\Reps K W vs xs
structure OwnT(K:Oq)(H0:Hp)(W:Wd)(H:Hp)(a:Addr)(bs:List Addr)(xss:List (List D)):Prop where
 a1:H a=some (HO.lst (bs.map V.ref))
 a2:W.G a=none
 a3:¬W.Pn a
 a4:H0 a=none
 nd:(a::bs).Nodup
 len:bs.length=xss.length
 row:∀(i:Nat) b,bs[i]? = some b->∃xs,xss[i]? = some xs/\Own1 K H0 W H b xs
structure OOs(K:Oq)(H0:Hp)(W:Wd)(σ:L2.St)(H:Hp)(ρ:aN):Prop where
 t:∀(i:Nat) xss,ρ[i]? = some (SV.oo xss)->∃a bs,σ[i]? = some (some (V.ref a))/\OwnT K H0 W H a bs xss/\∀(j:Nat) ys c,ρ[j]? = some (SV.ow ys)->σ[j]? = some (some (V.ref c))->c∉a::bs
 u:∀(i j:Nat) xss yss,ρ[i]? = some (SV.oo xss)->ρ[j]? = some (SV.oo yss)->i=j
structure SOk(K:Oq)(W0:Wd)(H0:Hp)(W:Wd)(σ:L2.St)(H:Hp)(ρ:aN):Prop where
 ext:Ext W0 H0 W H
 len:ρ.length=σ.length
 d:∀(i:Nat) x,ρ[i]? = some (SV.d x)->∃v:V,σ[i]? = some (some v)/\Rep K W v x
 o:∀(i:Nat) xs,ρ[i]? = some (SV.ow xs)->∃a vs,σ[i]? = some (some (V.ref a))/\H a=some (HO.lst vs)/\W.G a=none/\¬W.Pn a/\H0 a=none/\Reps K W vs xs
 ne:∀(i j:Nat) xs ys a,i≠j->ρ[i]? = some (SV.ow xs)->ρ[j]? = some (SV.ow ys)->σ[i]? = some (some (V.ref a))->σ[j]?≠some (some (V.ref a))
 oo:OOs K H0 W σ H ρ
variable {σ:L2.St}{ρ:aN}
theorem SOk.ok(s:SOk K W0 H0 W σ H ρ):WOk W H:=s.ext.ok
theorem Own1.step{b:Addr}{xs:List D}(o:Own1 K H0 W H b xs)(x:Ext W H W1 H1):Own1 K H0 W1 H1 b xs:=by
 obtain⟨vs,e2,e3,e4,e5,r⟩:=o;refine⟨vs,x.h b _ e2 e4,?_,λq=>?_,e5,x.reps r⟩
 .cases q:W1.G b with
  |none=>rfl
  |some o=>have:=x.gf b e3 (by rw[q];simp);rw[e2] at this;cases this
 .have:=x.pf b e4 q;rw[e2] at this;cases this
theorem OwnT.step{a:Addr}{bs:List Addr}{xss:List (List D)}(o:OwnT K H0 W H a bs xss)(x:Ext W H W1 H1):OwnT K H0 W1 H1 a bs xss:=by
 refine⟨x.h a _ o.a1 o.a3,?_,λq=>?_,o.a4,o.nd,o.len,λi b e=>let⟨xs,e1,q⟩:=o.row i b e;⟨xs,e1,q.step x⟩⟩
 .cases q:W1.G a with
  |none=>rfl
  |some u=>have:=x.gf a o.a2 (by rw[q];simp);rw[o.a1] at this;cases this
 .have:=x.pf a o.a3 q;rw[o.a1] at this;cases this
theorem OwnT.here{a c:Addr}{bs:List Addr}{xss:List (List D)}(o:OwnT K H0 W H a bs xss)(h:H c=none):c∉a::bs:=λq=>by
 rcases Yaq.mp q with rfl|q
 .rw[o.a1] at h;cases h
 .obtain⟨i,hi,rfl⟩:=Ybm.mp q
  obtain⟨xs,_,vs,e,_⟩:=o.row i _ (bG hi);rw[e] at h;cases h
theorem OwnT.noPen{a c:Addr}{bs:List Addr}{xss:List (List D)}(o:OwnT K H0 W H a bs xss)(h:W.Pn c):c∉a::bs:=λq=>by
 rcases Yaq.mp q with rfl|q
 .exact o.a3 h
 .obtain⟨i,hi,rfl⟩:=Ybm.mp q
  obtain⟨xs,_,vs,_,_,e,_⟩:=o.row i _ (bG hi);exact e h
theorem OwnT.upd{a c:Addr}{o':HO}{bs:List Addr}{xss:List (List D)}(o:OwnT K H0 W H a bs xss)(h:c∉a::bs):OwnT K H0 W (upd H c o') a bs xss:=by
 have ha:a≠c:=λz=>h (by rw[z];simp);refine⟨by rw[af ha];exact o.a1,o.a2,o.a3,o.a4,o.nd,o.len,λi b e=>?_⟩;obtain⟨xs,e1,vs,q⟩:=o.row i b e;have hb:b≠c:=λz=>h (by rw[<-z];exact fG _ (jE e));exact⟨xs,e1,vs,by rw[af hb];exact q⟩
theorem OwnT.put{a c:Addr}{o':HO}{bs:List Addr}{xss:List (List D)}(o:OwnT K H0 W H a bs xss)(h:c∉a::bs)(hc:W.G c=none):OwnT K H0 (W.put c o') H a bs xss:=by
 have ha:a≠c:=λz=>h (by rw[z];simp);refine⟨o.a1,by unfold Wd.put;dsimp only;rw[af ha];exact o.a2,o.a3,o.a4,o.nd,o.len,λi b e=>?_⟩;obtain⟨xs,e1,vs,q1,q2,q3,q4,q5⟩:=o.row i b e;have hb:b≠c:=λz=>h (by rw[<-z];exact fG _ (jE e));exact⟨xs,e1,vs,q1,by unfold Wd.put;dsimp only;rw[af hb];exact q2,q3,q4,q5.mono (oC hc) λ_ z=>z⟩
theorem OOs.none(h:∀(i:Nat) xss,ρ[i]?≠some (SV.oo xss)):OOs K H0 W σ H ρ:=⟨λi xss e=>Ot e (h i xss),λi j xss yss e=>Ot e (h i xss)⟩
theorem OOs.step(o:OOs K H0 W σ H ρ)(x:Ext W H W1 H1):OOs K H0 W1 σ H1 ρ:=⟨λi xss e=>let⟨a,bs,e1,q,n⟩:=o.t i xss e;⟨a,bs,e1,q.step x,n⟩,o.u⟩
theorem OOs.set{σ':L2.St}(o:OOs K H0 W σ H ρ){i:Nat}{y:SV}(hy:∀xss,y≠.oo xss)(hσ:∀j,i≠j->σ'[j]? = σ[j]?)(hw:∀ys c,y=.ow ys->σ'[i]? = some (some (V.ref c))->∀(j:Nat) xss a bs,i≠j->ρ[j]? = some (SV.oo xss)->σ[j]? = some (some (V.ref a))->OwnT K H0 W H a bs xss->(∀(j:Nat) ys c,ρ[j]? = some (SV.ow ys)->σ[j]? = some (some (V.ref c))->c∉a::bs)->c∉a::bs):OOs K H0 W σ' H (ρ.set i y):=by
 have nt:∀{j:Nat} {xss:List (List D)},(ρ.set i y)[j]? = some (SV.oo xss)->i≠j/\ρ[j]? = some (SV.oo xss):=λ{j xss} e=>by
  by_cases h:i=j
  .subst h
   by_cases hi:i<ρ.length
   .rw[d9 hi] at e;cases e;exact Ot rfl (hy xss)
   .rw[dN (by rw[dI];omega)] at e;cases e
  .rw[dD h] at e;exact⟨h,e⟩
 refine⟨λj xss e=>?_,λj k xss yss e1 e2=>o.u j k xss yss (nt e1).2 (nt e2).2⟩;obtain⟨h,e'⟩:=nt e;clear e;obtain⟨a,bs,e1,q,n⟩:=o.t j xss e';refine⟨a,bs,by rw[hσ j h];exact e1,q,λk ys c ek ec=>?_⟩
 by_cases hk:i=k
 .subst hk
  by_cases hi:i<ρ.length
  .rw[d9 hi] at ek;cases ek;exact hw ys c rfl ec j xss a bs h e' e1 q n
  .rw[dN (by rw[dI];omega)] at ek;cases ek
 .rw[dD hk] at ek
  rw[hσ k hk] at ec;exact n k ys c ek ec
theorem SOk.step(s:SOk K W0 H0 W σ H ρ)(x:Ext W H W1 H1):SOk K W0 H0 W1 σ H1 ρ where
 ext:=s.ext.trans x
 len:=s.len
 d:=λi y e=>let⟨v,e1,r⟩:=s.d i y e;⟨v,e1,x.rep r⟩
 o:=λi ys e=>by
  obtain⟨a,vs,e1,e2,e3,e4,e5,r⟩:=s.o i ys e;refine⟨a,vs,e1,x.h a _ e2 e4,?_,λq=>?_,e5,x.reps r⟩
  .cases q:W1.G a with
   |none=>rfl
   |some o=>have:=x.gf a e3 (by rw[q];simp);rw[e2] at this;cases this
  .have:=x.pf a e4 q;rw[e2] at this;cases this
 ne:=s.ne
 oo:=s.oo.step x
abbrev Ex:=Str
def Am(K:Oq)(W:Wd)(_:Hp)(cls:Value)(dx:Option Addr)(ex:Ex):Prop:=∃C,j7 K (oB ex)=some C/\cls=.ref C/\XD W ex dx
def kL(K:Oq)(W0:Wd)(H0:Hp)(E:Ex->Prop)(EX:XK):Prop:=∀ex W' H' cls dx,E ex->Ext W0 H0 W' H'->Am K W' H' cls dx ex->EX cls dx H'
abbrev WE:=(Ex->Prop)->aN->(D->Prop)->Prop
abbrev WT:=(Ex->Prop)->aN->(Bool->Prop)->Prop
abbrev WA:=(Ex->Prop)->aN->(List D->Prop)->Prop
def RQ(K:Oq)(W:Wd)(H:Hp)(Q:VK)(d:D):Prop:=∀v W' H',Ext W H W' H'->Rep K W' v d->Q v H'
structure PX(X:Cx)(EX:XK)(e:Expr)(w:WE):Prop where
 t:∃t,PE X e t/\∀W0 H0 W σ H ρ E Q,SOk X.K W0 H0 W σ H ρ->kL X.K W0 H0 E EX->w E ρ (RQ X.K W H Q)->t σ H Q
 mono:∀E ρ P P',(∀d,P d->P' d)->w E ρ P->w E ρ P'
structure kM(X:Cx)(EX:XK)(e:Expr)(w:WT):Prop where
 t:∃t,PT X e t/\∀W0 H0 W σ H ρ E Q,SOk X.K W0 H0 W σ H ρ->kL X.K W0 H0 E EX->w E ρ (λb=>∀W' H',Ext W H W' H'->Q b H')->t σ H Q
 mono:∀E ρ P P',(∀d,P d->P' d)->w E ρ P->w E ρ P'
structure jo(X:Cx)(EX:XK)(es:List Expr)(w:WA):Prop where
 t:∃t,PA X es t/\∀W0 H0 W σ H ρ E Q,SOk X.K W0 H0 W σ H ρ->kL X.K W0 H0 E EX->w E ρ (λds=>∀vs W' H',Ext W H W' H'->Reps X.K W' vs ds->Q vs H')->t σ H Q
 mono:∀E ρ P P',(∀d,P d->P' d)->w E ρ P->w E ρ P'
structure PXL(X:Cx)(EX:XK)(e:Expr)(w:WA):Prop where
 t:∃t,PE X e t/\∀W0 H0 W σ H ρ E Q,SOk X.K W0 H0 W σ H ρ->kL X.K W0 H0 E EX->
  w E ρ (λds=>∀a vs W' H',Ext W H W' H'->H' a=some (.lst vs)->W'.G a=none->¬W'.Pn a->H a=none->Reps X.K W' vs ds->Q (.ref a) H')->t σ H Q
 mono:∀E ρ P P',(∀d,P d->P' d)->w E ρ P->w E ρ P'
structure Nds where
 nx:aN->Prop
 rt:D->Prop
 bk:aN->Prop:=λ_=>False
 ct:aN->Prop:=λ_=>False
structure Wle(F W:Wd):Prop where
 g:∀a o,F.G a=some o->W.G a=some o
 p:∀a,F.Pn a->W.Pn a
theorem Wle.refl(F:Wd):Wle F F:=⟨λ_ _ e=>e,λ_ e=>e⟩
theorem Wle.trans{F W V:Wd}(a:Wle F W)(b:Wle W V):Wle F V:=⟨λx o e=>b.g x o (a.g x o e),λx e=>b.p x (a.p x e)⟩
theorem Wle.ext{F W W1:Wd}{H H1:Hp}(a:Wle F W)(x:Ext W H W1 H1):Wle F W1:=a.trans ⟨x.g,x.p⟩
structure DG(K:Oq)(W0:Wd)(H0:Hp)(F:Wd)(Dn:k9)(N:Nds):Prop where
 nx:∀W σ H ρ,SOk K W0 H0 W σ H ρ->Wle F W->N.nx ρ->Dn.nx σ H
 rt:∀d v W H,Ext W0 H0 W H->Rep K W v d->N.rt d->Dn.rt v H
 bk:∀W σ H ρ,SOk K W0 H0 W σ H ρ->Wle F W->N.bk ρ->Dn.bk σ H
 ct:∀W σ H ρ,SOk K W0 H0 W σ H ρ->Wle F W->N.ct ρ->Dn.ct σ H
structure Nds.le(N N':Nds):Prop where
 nx:∀ρ,N.nx ρ->N'.nx ρ
 rt:∀d,N.rt d->N'.rt d
 bk:∀ρ,N.bk ρ->N'.bk ρ
 ct:∀ρ,N.ct ρ->N'.ct ρ
theorem Nds.le.refl(N:Nds):N.le N:=⟨λ_ h=>h,λ_ h=>h,λ_ h=>h,λ_ h=>h⟩
abbrev WS:=(Ex->Prop)->Nds->aN->Prop
structure PZ(X:Cx)(EX:XK)(st:Stmt)(z:WS):Prop where
 t:∃t,PS X st t/\∀W0 H0 F W σ H ρ E Dn N,SOk X.K W0 H0 W σ H ρ->Wle F W->kL X.K W0 H0 E EX->DG X.K W0 H0 F Dn N->z E N ρ->t Dn σ H
 mono:∀E ρ N N',N.le N'->z E N ρ->z E N' ρ
structure lA(X:Cx)(EX:XK)(st:List Stmt)(z:WS):Prop where
 t:∃t,PSs X st t/\∀W0 H0 F W σ H ρ E Dn N,SOk X.K W0 H0 W σ H ρ->Wle F W->kL X.K W0 H0 E EX->DG X.K W0 H0 F Dn N->z E N ρ->t Dn σ H
 mono:∀E ρ N N',N.le N'->z E N ρ->z E N' ρ
variable {Q:VK}{d:D}
theorem RQ.ext(h:RQ K W H Q d)(x:Ext W H W1 H1):RQ K W1 H1 Q d:=λv W' H' y r=>h v W' H' (x.trans y) r
theorem RQ.now(h:RQ K W H Q d)(ok:WOk W H){v:V}(r:Rep K W v d):Q v H:=h v W H (.refl ok) r
theorem RQ.tup{vs:List V}{ds:List D}(h:RQ K W H Q (.tup ds))(ok:WOk W H)(r:Reps K W vs ds){p:Addr}(hp:H p=none):Q (.ref p) (upd H p (.tup vs)):=by
 have x:=Ext.put (o:=.tup vs) ok hp;exact h _ _ _ x (.tup (by unfold Wd.put;dsimp only;rw[ao]) (x.reps r))
theorem RQ.lst{vs:List V}{ds:List D}(h:RQ K W H Q (.lst ds))(ok:WOk W H)(r:Reps K W vs ds){p:Addr}(hp:H p=none):Q (.ref p) (upd H p (.lst vs)):=by
 have x:=Ext.put (o:=.lst vs) ok hp;exact h _ _ _ x (.lst (by unfold Wd.put;dsimp only;rw[ao]) (x.reps r))
theorem Rep.sqt{a:V}{ds:List D}(r:Rep K W a (.tup ds))(ok:WOk W H):∃p vs,a=.ref p/\SqT K H p vs/\Reps K W vs ds:=by
 cases r with
 |tup e r=>exact⟨_,_,rfl,.inl (.inl (ok.g _ _ e)),r⟩
 |ktup e r=>exact⟨_,_,rfl,.inr e,r⟩
theorem Rd.up{a:Addr}{u:HO}(r:Rd W.G a u)(ok:WOk W H):Rd H a u:=r.elim (λz=>.inl (ok.g _ _ z)) λ⟨o,z⟩=>.inr ⟨o,ok.g _ _ z⟩
theorem Rep.sql{a:V}{ds:List D}(r:Rep K W a (.lst ds))(ok:WOk W H):∃p vs,a=.ref p/\SqL K H p vs/\Reps K W vs ds:=by
 cases r with
 |lst e r=>exact⟨_,_,rfl,.inl (.inl (ok.g _ _ e)),r⟩
theorem Rep.sqs{a:V}{ds:List D}(r:Rep K W a (.scr ds))(ok:WOk W H):∃p vs,a=.ref p/\SqL K H p vs/\Reps K W vs ds:=by
 cases r with
 |scr e r=>exact⟨_,_,rfl,e.elim (λ⟨o,e⟩=>.inl (.inr ⟨o,ok.g _ _ e⟩)) .inr,r⟩
variable {X:Cx}{EX:XK}{pos:Pos}
def wN(i:Nat):WE:=λ_ ρ Q=>match ρ[i]? with
 |some (.d x)=>Q x
 |_=>False
theorem ac(i:Nat){x:Str}(hN:X.N[i]? = some x:=by rfl)(hv:nC X.env.scope x:=by first|exact Or.inl rfl|exact Or.inr (Or.inl rfl)|exact Or.inr (Or.inr rfl))(hd:(x==("__debug__" : Str))=false:=by decide)
  (hcd:(x==("__classdict__" : Str))=false:=by decide):PX X EX (.Name x pos) (wN i):=by
 refine⟨⟨_,ei hN hv hd hcd,λW0 H0 W σ H ρ E Q s _ h=>?_⟩,λE ρ P P' hp h=>?_⟩
 .unfold wN at h
  split at h
  .rename_i x e
   obtain⟨v,e1,r⟩:=s.d i x e;exact⟨v,e1,h.now s.ok r⟩
  .exact h.elim
 .unfold wN at h ⊢
  split at h
  .exact hp _ h
  .exact h.elim
def wC(d:D):WE:=λ_ _ Q=>Q d
theorem wC.mono{d:D}:∀(E:Ex->Prop) ρ P P',(∀d,P d->P' d)->wC d E ρ P->wC d E ρ P':=λ_ _ _ _ hp h=>hp _ h
theorem av{i j}:PX X EX (.Constant (.int i) j pos) (wC (.int i)):=⟨⟨_,jT,λ_ _ _ _ _ _ _ _ s _ h=>RQ.now h s.ok (.int i)⟩,wC.mono⟩
theorem kN{b j}:PX X EX (.Constant (.bool b) j pos) (wC (.bl b)):=⟨⟨_,t6,λ_ _ _ _ _ _ _ _ s _ h=>RQ.now h s.ok (.bl b)⟩,wC.mono⟩
theorem qY{j}:PX X EX (.Constant .none j pos) (wC .non):=⟨⟨_,qu,λ_ _ _ _ _ _ _ _ s _ h=>RQ.now h s.ok .non⟩,wC.mono⟩
theorem DH{x:Str}{v:V}{d:D}{u:Value}(hm:X.mg x=some u)(r:RelV v u)(rd:∀W,Rep X.K W v d)(hg:Gl X x:=by rfl)(hd:(x==("__debug__" : Str))=false:=by decide):PX X EX (.Name x pos) (wC d):=
 ⟨⟨_,nU hg hm r hd,λ_ _ _ _ _ _ _ _ s _ h=>RQ.now h s.ok (rd _)⟩,wC.mono⟩
theorem HL{x:Str}{v:V}{d:D}{u:Value}(hm:X.mg x=none)(hv:bootBuiltins x=some u)(r:RelV v u)(rd:∀W,Rep X.K W v d)(hg:Gl X x:=by rfl)(hn:x≠ "__name__" :=by decide)(hd:(x==("__debug__" : Str))=false:=by decide):PX X EX (.Name x pos) (wC d):=
 ⟨⟨_,nV hg hm hv r hn hd,λ_ _ _ _ _ _ _ _ s _ h=>RQ.now h s.ok (rd _)⟩,wC.mono⟩
abbrev G2:=D->D->(D->Prop)->Prop
structure fe(X:Cx)(f:Value->Value->Sem Value)(g:G2):Prop where
 t:∃r,OpR X f r/\∀W H x y dx dy Q,WOk W H->Rep X.K W x dx->Rep X.K W y dy->g dx dy (RQ X.K W H Q)->r x y H Q
 mono:∀x y P P',(∀d,P d->P' d)->g x y P->g x y P'
variable {a b c:Expr}{wa wb wc:WE}
def w2(g:G2)(wa wb:WE):WE:=λE ρ Q=>wa E ρ λx=>wb E ρ λy=>g x y Q
theorem w2.mono{g:G2}(ha:PX X EX a wa)(hb:PX X EX b wb)(hg:∀x y P P',(∀d,P d->P' d)->g x y P->g x y P'):∀E ρ P P',(∀d,P d->P' d)->w2 g wa wb E ρ P->w2 g wa wb E ρ P':=
 λE ρ P P' hp h=>ha.mono E ρ _ _ (λx hx=>hb.mono E ρ _ _ (λy hy=>hg x y _ _ hp hy) hx) h
theorem lB{ta tb:TE}{R:V->V->Hp->Prop}{G:D->D->Prop}{W0 W:Wd}{H0 H:Hp}{σ:L2.St}{ρ:aN}{E:Ex->Prop}(hma:∀E ρ P P',(∀d,P d->P' d)->wa E ρ P->wa E ρ P')(hmb:∀E ρ P P',(∀d,P d->P' d)->wb E ρ P->wb E ρ P')
  (ka:∀W0 H0 W σ H ρ E Q,SOk X.K W0 H0 W σ H ρ->kL X.K W0 H0 E EX->wa E ρ (RQ X.K W H Q)->ta σ H Q) (kb:∀W0 H0 W σ H ρ E Q,SOk X.K W0 H0 W σ H ρ->kL X.K W0 H0 E EX->wb E ρ (RQ X.K W H Q)->tb σ H Q)
  (s:SOk X.K W0 H0 W σ H ρ) (eo:kL X.K W0 H0 E EX) (h:wa E ρ λx=>wb E ρ λy=>G x y)
  (k:∀W2 H2 x y dx dy,Ext W H W2 H2->Rep X.K W2 x dx->Rep X.K W2 y dy->G dx dy->R x y H2):ta σ H λx H1=>tb σ H1 λy H2=>R x y H2:=
 ka W0 H0 W σ H ρ E _ s eo (hma E ρ _ _ (λdx hx v W1 H1 x1 r1=>kb W0 H0 W1 σ H1 ρ E _ (s.step x1) eo (hmb E ρ _ _ (λdy hy u W2 H2 x2 r2=>k W2 H2 v u dx dy (x1.trans x2) (x2.rep r1) r2 hy) hx)) h)
theorem aG{op:Operator}{g:G2}(ho:fe X (binaryOp op) g)(ha:PX X EX a wa)(hb:PX X EX b wb):PX X EX (.BinOp a op b pos) (w2 g wa wb):=by
 obtain⟨ta,pa,ka⟩:=ha.t;obtain⟨tb,pb,kb⟩:=hb.t;obtain⟨r,pr,kr⟩:=ho.t;refine⟨⟨_,mx pr pa pb,λW0 H0 W σ H ρ E Q s eo h=>?_⟩,w2.mono ha hb ho.mono⟩;exact lB ha.mono hb.mono ka kb s eo h λW2 H2 x y dx dy x2 rx ry hg=>kr W2 H2 x y dx dy Q x2.ok rx ry (ho.mono _ _ _ _ (λd hd=>RQ.ext hd x2) hg)
theorem oE{op:CmpOp}{g:G2}(ho:fe X (compareOp op) g)(ha:PX X EX a wa)(hb:PX X EX b wb)(hm:behindInMarks op b=false:=by first|exact mC _|with_unfolding_all rfl):PX X EX (.Compare a [op] [b] pos) (w2 g wa wb):=by
 obtain⟨ta,pa,ka⟩:=ha.t;obtain⟨tb,pb,kb⟩:=hb.t;obtain⟨r,pr,kr⟩:=ho.t;refine⟨⟨_,n8 pr pa pb hm,λW0 H0 W σ H ρ E Q s eo h=>?_⟩,w2.mono ha hb ho.mono⟩;exact lB ha.mono hb.mono ka kb s eo h λW2 H2 x y dx dy x2 rx ry hg=>kr W2 H2 x y dx dy Q x2.ok rx ry (ho.mono _ _ _ _ (λd hd=>RQ.ext hd x2) hg)
def isB(Q:Bool->Prop):D->Prop
 |.bl b=>Q b
 |_=>False
theorem isB.mono{Q Q':Bool->Prop}(h:∀b,Q b->Q' b):∀d,isB Q d->isB Q' d
 |.bl b,z=>h b z
 |.non,z=>z|.int _,z=>z|.str _,z=>z|.tup _,z=>z|.lst _,z=>z|.dic,z=>z|.pen,z=>z|.cls _,z=>z|.exc _,z=>z|.ty _,z=>z|.scr _,z=>z
def wT(w:WE):WT:=λE ρ Q=>w E ρ (isB Q)
theorem qZ{Q:Bool->Prop}{d:D}(h:isB Q d):∃b,d=.bl b/\Q b:=by
 cases d with
 |bl b=>exact⟨b,rfl,h⟩
 |_=>exact h.elim
theorem wT.mono{w:WE}(h:∀E ρ P P',(∀d,P d->P' d)->w E ρ P->w E ρ P'):∀E ρ P P',(∀d,P d->P' d)->wT w E ρ P->wT w E ρ P':=λE ρ _ _ hp z=>h E ρ _ _ (isB.mono hp) z
theorem cE{op:CmpOp}{g:G2}(ho:fe X (compareOp op) g)(ha:PX X EX a wa)(hb:PX X EX b wb)(hm:behindInMarks op b=false:=by first|exact mC _|with_unfolding_all rfl):kM X EX (.Compare a [op] [b] pos) (wT (w2 g wa wb)):=by
 obtain⟨ta,pa,ka⟩:=ha.t;obtain⟨tb,pb,kb⟩:=hb.t;obtain⟨r,pr,kr⟩:=ho.t;refine⟨⟨_,n9 pr pa pb hm,λW0 H0 W σ H ρ E Q s eo h=>?_⟩,wT.mono (w2.mono ha hb ho.mono)⟩;refine lB ha.mono hb.mono ka kb s eo h λW2 H2 x y dx dy x2 rx ry hg=>kr W2 H2 x y dx dy _ x2.ok rx ry (ho.mono _ _ _ _ (λd hd v W' H' x' r'=>?_) hg);obtain⟨b,rfl,q⟩:=qZ hd;cases r';exact⟨b,rfl,q W' H' (x2.trans x')⟩
theorem j8(ha:PX X EX a wa)(he:∀whole,isTrue a X.env whole=(do let v <-whole;standAt a.pos;holding [v] (truthy v)):=by intro _;rfl):kM X EX a (wT wa):=by
 obtain⟨ta,pa,ka⟩:=ha.t;refine⟨⟨_,mH pa he,λW0 H0 W σ H ρ E Q s eo h=>?_⟩,wT.mono ha.mono⟩;refine ka W0 H0 W σ H ρ E _ s eo (ha.mono _ _ _ _ (λd hd v W' H' x' r'=>?_) h);obtain⟨b,rfl,q⟩:=qZ hd;cases r';exact⟨b,rfl,q W' H' x'⟩
def aX(w:WT):WT:=λE ρ Q=>w E ρ λb=>Q (!b)
theorem jI{w:WT}(ha:kM X EX a w):kM X EX (.UnaryOp .Not a pos) (aX w):=by
 obtain⟨ta,pa,ka⟩:=ha.t;refine⟨⟨_,qw pa,λW0 H0 W σ H ρ E Q s eo h=>?_⟩,λE ρ P P' hp h=>ha.mono _ _ _ _ (λb hb=>hp _ hb) h⟩;exact ka W0 H0 W σ H ρ E _ s eo h
structure PXW(X:Cx)(EX:XK)(e:Expr)(w:WT):Prop where
 t:∃t,PW X e t/\∀W0 H0 W σ H ρ E Q,SOk X.K W0 H0 W σ H ρ->kL X.K W0 H0 E EX->w E ρ (λb=>∀W' H',Ext W H W' H'->Q b H')->t σ H Q
 mono:∀E ρ P P',(∀d,P d->P' d)->w E ρ P->w E ρ P'
theorem PXW.pxt{w:WT}(h:PXW X EX a w):kM X EX a w:=let⟨t,p,k⟩:=h.t;⟨⟨t,p.pt,k⟩,h.mono⟩
variable {rest:List Expr}
def cG(w w':WT):WT:=λE ρ Q=>w E ρ λb=>if b=true then w' E ρ Q else Q false
def dB(w w':WT):WT:=λE ρ Q=>w E ρ λb=>if b=true then Q true else w' E ρ Q
theorem Oh{w:WT}(ha:kM X EX a w):PXW X EX (.BoolOp .And [a] pos) w:=let⟨t,p,k⟩:=ha.t;⟨⟨t,nW p,k⟩,ha.mono⟩
theorem nD{w:WT}(ha:kM X EX a w):PXW X EX (.BoolOp .Or [a] pos) w:=let⟨t,p,k⟩:=ha.t;⟨⟨t,qv p,k⟩,ha.mono⟩
theorem mU{w w':WT}(ha:kM X EX a w)(hb:PXW X EX (.BoolOp .Or (b::rest) pos) w'):PXW X EX (.BoolOp .Or (a::b::rest) pos) (dB w w'):=by
 obtain⟨ta,pa,ka⟩:=ha.t;obtain⟨tb,pb,kb⟩:=hb.t;refine⟨⟨_,t7 pa pb,λW0 H0 W σ H ρ E Q s eo h=>?_⟩,λE ρ P P' hp h=>ha.mono _ _ _ _ (λb hb'=>?_) h⟩
 .refine ka W0 H0 W σ H ρ E _ s eo (ha.mono _ _ _ _ (λb hb' W1 H1 x1=>?_) h)
  cases b with
  |true=>rw[if_pos rfl] at hb' ⊢;exact hb' W1 H1 x1
  |false=>
   rw[if_neg (by decide)] at hb' ⊢;exact kb W0 H0 W1 σ H1 ρ E _ (s.step x1) eo (hb.mono _ _ _ _ (λb hq W' H' x'=>hq W' H' (x1.trans x')) hb')
 .cases b with
  |true=>rw[if_pos rfl] at hb' ⊢;exact hp _ hb'
  |false=>rw[if_neg (by decide)] at hb' ⊢;exact hb.mono _ _ _ _ hp hb'
variable {p:Pos}{es:List Expr}{e:Expr}{x:Str}
def eu(wa wb:WE):WE:=λE ρ Q=>wa E ρ (isB λb=>if b=true then wb E ρ Q else Q (.bl false))
def cH(wa wb:WE):WE:=λE ρ Q=>wa E ρ (isB λb=>if b=true then Q (.bl true) else wb E ρ Q)
def fg(wa:WE):WE:=λE ρ Q=>wa E ρ (isB λb=>Q (.bl (!b)))
theorem uG{op}(h:PX X EX a wa):PX X EX (.BoolOp op [a] pos) wa:=let⟨t,q,k⟩:=h.t;⟨⟨t,qx q,k⟩,h.mono⟩
theorem uH(ha:PX X EX a wa)(hb:PX X EX (.BoolOp .And (b::rest) pos) wb):PX X EX (.BoolOp .And (a::b::rest) pos) (eu wa wb):=by
 obtain⟨ta,pa,ka⟩:=ha.t;obtain⟨tb,pb,kb⟩:=hb.t;refine⟨⟨_,qy pa pb,λW0 H0 W σ H ρ E Q s eo h=>?_⟩,λE ρ P P' hp h=>ha.mono _ _ _ _ (isB.mono λb hb'=>?_) h⟩
 .refine ka W0 H0 W σ H ρ E _ s eo (ha.mono _ _ _ _ (λd hd v W1 H1 x1 r1=>?_) h)
  obtain⟨b,rfl,q⟩:=qZ hd;cases r1;refine⟨b,rfl,?_⟩;cases b with
  |true=>rw[if_pos rfl] at q ⊢;exact kb W0 H0 W1 σ H1 ρ E _ (s.step x1) eo (hb.mono _ _ _ _ (λd hd=>RQ.ext hd x1) q)
  |false=>rw[if_neg (by decide)] at q ⊢;exact q _ W1 H1 x1 (.bl false)
 .cases b with
  |true=>rw[if_pos rfl] at hb' ⊢;exact hb.mono _ _ _ _ hp hb'
  |false=>rw[if_neg (by decide)] at hb' ⊢;exact hp _ hb'
theorem HM(ha:PX X EX a wa):PX X EX (.UnaryOp .Not a pos) (fg wa):=by
 obtain⟨ta,pa,ka⟩:=ha.t;refine⟨⟨_,qA pa,λW0 H0 W σ H ρ E Q s eo h=>?_⟩,λE ρ P P' hp h=>ha.mono _ _ _ _ (isB.mono λb hb'=>hp _ hb') h⟩;refine ka W0 H0 W σ H ρ E _ s eo (ha.mono _ _ _ _ (λd hd v W1 H1 x1 r1=>?_) h);obtain⟨b,rfl,q⟩:=qZ hd;cases r1;exact⟨b,rfl,q _ W1 H1 x1 (.bl _)⟩
def eO(wt:WT)(wa wb:WE):WE:=λE ρ Q=>wt E ρ λb=>if b=true then wa E ρ Q else wb E ρ Q
theorem DI{wt:WT}(hc:kM X EX c wt)(ha:PX X EX a wa)(hb:PX X EX b wb):PX X EX (.IfExp c a b pos) (eO wt wa wb):=by
 obtain⟨ta,pa,ka⟩:=ha.t;obtain⟨tb,pb,kb⟩:=hb.t;obtain⟨tc,pc,kc⟩:=hc.t;refine⟨⟨_,mm pc pa pb,λW0 H0 W σ H ρ E Q s eo h=>?_⟩,λE ρ P P' hp h=>hc.mono _ _ _ _ (λb hb'=>?_) h⟩
 .refine kc W0 H0 W σ H ρ E _ s eo (hc.mono _ _ _ _ (λb q W1 H1 x1=>?_) h)
  cases b with
  |true=>rw[if_pos rfl] at q ⊢;exact ka W0 H0 W1 σ H1 ρ E _ (s.step x1) eo (ha.mono _ _ _ _ (λd hd=>RQ.ext hd x1) q)
  |false=>rw[if_neg (by decide)] at q ⊢;exact kb W0 H0 W1 σ H1 ρ E _ (s.step x1) eo (hb.mono _ _ _ _ (λd hd=>RQ.ext hd x1) q)
 .cases b with
  |true=>rw[if_pos rfl] at hb' ⊢;exact ha.mono _ _ _ _ hp hb'
  |false=>rw[if_neg (by decide)] at hb' ⊢;exact hb.mono _ _ _ _ hp hb'
def ZaM(g g':G2)(wa wb wc:WE):WE:=λE ρ Q=>wa E ρ λx=>wb E ρ λy=>g x y (isB λk=>if k=true then wc E ρ λz=>g' y z Q else Q (.bl false))
theorem ZaM.mono{g g':G2}(ha:PX X EX a wa)(hb:PX X EX b wb)(hc:PX X EX c wc)(hg:∀x y P P',(∀d,P d->P' d)->g x y P->g x y P')(hg':∀x y P P',(∀d,P d->P' d)->g' x y P->g' x y P') :
  ∀E ρ P P',(∀d,P d->P' d)->ZaM g g' wa wb wc E ρ P->ZaM g g' wa wb wc E ρ P':=λE ρ P P' hp h=>
 ha.mono _ _ _ _ (λx hx=>hb.mono _ _ _ _ (λy hy=>hg x y _ _ (isB.mono λk hk=>by
  cases k with
  |true=>rw[if_pos rfl] at hk ⊢;exact hc.mono _ _ _ _ (λz hz=>hg' y z _ _ hp hz) hk
  |false=>rw[if_neg (by decide)] at hk ⊢;exact hp _ hk) hy) hx) h
theorem HN{op op':CmpOp}{g g':G2}(ho:fe X (compareOp op) g)(ho':fe X (compareOp op') g')(ha:PX X EX a wa)(hb:PX X EX b wb)(hc:PX X EX c wc)
  (hm:lastMarks [op,op'] [b,c]=false:=by with_unfolding_all rfl):PX X EX (.Compare a [op,op'] [b,c] pos) (ZaM g g' wa wb wc):=by
 obtain⟨ta,pa,ka⟩:=ha.t;obtain⟨tb,pb,kb⟩:=hb.t;obtain⟨tc,pc,kc⟩:=hc.t;obtain⟨r,pr,kr⟩:=ho.t;obtain⟨r',pr',kr'⟩:=ho'.t;refine⟨⟨_,mF pr pr' pa pb pc hm,λW0 H0 W σ H ρ E Q s eo h=>?_⟩,ZaM.mono ha hb hc ho.mono ho'.mono⟩;refine lB ha.mono hb.mono ka kb s eo h λW2 H2 x y dx dy x2 rx ry hg=>kr W2 H2 x y dx dy _ x2.ok rx ry (ho.mono _ _ _ _ (λd hd v W3 H3 x3 r3=>?_) hg);obtain⟨k,rfl,q⟩:=qZ hd;cases r3;refine⟨k,rfl,?_⟩;cases k with
 |true=>
  rw[if_pos rfl] at q ⊢;refine kc W0 H0 W3 σ H3 ρ E _ (s.step (x2.trans x3)) eo (hc.mono _ _ _ _ (λdz hz w W4 H4 x4 r4=>?_) q);exact kr' W4 H4 y w dy dz Q x4.ok (x4.rep (x3.rep ry)) r4 (ho'.mono _ _ _ _ (λd hd=>RQ.ext hd (x2.trans (x3.trans x4))) hz)
 |false=>rw[if_neg (by decide)] at q ⊢;exact q _ W3 H3 (x2.trans x3) (.bl false)
theorem Zm{op op':CmpOp}{g g':G2}(ho:fe X (compareOp op) g)(ho':fe X (compareOp op') g')(ha:PX X EX a wa)(hb:PX X EX b wb)(hc:PX X EX c wc)
  (hm:lastMarks [op,op'] [b,c]=false:=by with_unfolding_all rfl):kM X EX (.Compare a [op,op'] [b,c] pos) (wT (ZaM g g' wa wb wc)):=by
 obtain⟨ta,pa,ka⟩:=ha.t;obtain⟨tb,pb,kb⟩:=hb.t;obtain⟨tc,pc,kc⟩:=hc.t;obtain⟨r,pr,kr⟩:=ho.t;obtain⟨r',pr',kr'⟩:=ho'.t;refine⟨⟨_,mG pr pr' pa pb pc hm,λW0 H0 W σ H ρ E Q s eo h=>?_⟩,wT.mono (ZaM.mono ha hb hc ho.mono ho'.mono)⟩;refine lB ha.mono hb.mono ka kb s eo h λW2 H2 x y dx dy x2 rx ry hg=>kr W2 H2 x y dx dy _ x2.ok rx ry (ho.mono _ _ _ _ (λd hd v W3 H3 x3 r3=>?_) hg);obtain⟨k,rfl,q⟩:=qZ hd;cases r3;refine⟨k,rfl,?_⟩;cases k with
 |true=>
  rw[if_pos rfl] at q ⊢;refine kc W0 H0 W3 σ H3 ρ E _ (s.step (x2.trans x3)) eo (hc.mono _ _ _ _ (λdz hz w W4 H4 x4 r4=>?_) q);refine kr' W4 H4 y w dy dz _ x4.ok (x4.rep (x3.rep ry)) r4 (ho'.mono _ _ _ _ (λd hd v5 W5 H5 x5 r5=>?_) hz);obtain⟨b,rfl,q'⟩:=qZ hd;cases r5;exact⟨b,rfl,q' W5 H5 (x2.trans (x3.trans (x4.trans x5)))⟩
 |false=>rw[if_neg (by decide)] at q ⊢;exact⟨false,rfl,q W3 H3 (x2.trans x3)⟩
def aa:WA:=λ_ _ Q=>Q []
def ad(w:WE)(t:WA):WA:=λE ρ Q=>w E ρ λx=>t E ρ λxs=>Q (x::xs)
theorem ah:jo X EX [] aa:=⟨⟨_,j0,λ_ _ W _ H _ _ _ s _ h=>h [] W H (.refl s.ok) .nil⟩,λ_ _ _ _ hp h=>hp _ h⟩
theorem Za{w:WE}{t:WA}(ha:PX X EX e w)(hr:jo X EX es t)(hs:starEach (e::es) X.env=(false,eval e X.env)::starEach es X.env:=by rfl):jo X EX (e::es) (ad w t):=by
 obtain⟨ta,pa,ka⟩:=ha.t;obtain⟨tr,pr,kr⟩:=hr.t;refine⟨⟨_,gJ pa pr hs,λW0 H0 W σ H ρ E Q s eo h=>?_⟩,λE ρ P P' hp h=>ha.mono _ _ _ _ (λd hd=>hr.mono _ _ _ _ (λds hds=>hp _ hds) hd) h⟩;refine ka W0 H0 W σ H ρ E _ s eo (ha.mono _ _ _ _ (λd hd v W1 H1 x1 r1=>?_) h);exact kr W0 H0 W1 σ H1 ρ E _ (s.step x1) eo (hr.mono _ _ _ _ (λds hds vs W2 H2 x2 r2=>hds _ W2 H2 (x1.trans x2) (.cons (x2.rep r1) r2)) hd)
def aw:Nat:=10000
theorem nE{n:Nat}(h:n<=aw):n<=sizeLine:=gb h (by rw[sizeLine_eq];decide)
def aQ(t:WA):WE:=λE ρ Q=>t E ρ λxs=>xs.length<=aw/\Q (.tup xs)
def bh(t:WA):WA:=λE ρ Q=>t E ρ λxs=>xs.length<=aw/\Q xs
theorem kO{t:WA}{x1}(h:jo X EX es t):PX X EX (.Tuple es x1 pos) (aQ t):=by
 obtain⟨ta,pa,ka⟩:=h.t;refine⟨⟨_,qR pa,λW0 H0 W σ H ρ E Q s eo hw=>?_⟩,λE ρ P P' hp z=>h.mono _ _ _ _ (λds hds=>⟨hds.1,hp _ hds.2⟩) z⟩;refine ka W0 H0 W σ H ρ E _ s eo (h.mono _ _ _ _ (λds hds vs W1 H1 x1 r1=>?_) hw);refine⟨by rw[r1.length];exact nE hds.1,λq hq=>?_⟩;exact(RQ.ext hds.2 x1).tup x1.ok r1 hq
theorem lW{t:WA}(h:jo X EX es t):PXL X EX (.List es pos) (bh t):=by
 obtain⟨ta,pa,ka⟩:=h.t;refine⟨⟨_,qS pa,λW0 H0 W σ H ρ E Q s eo hw=>?_⟩,λE ρ P P' hp z=>h.mono _ _ _ _ (λds hds=>⟨hds.1,hp _ hds.2⟩) z⟩;refine ka W0 H0 W σ H ρ E _ s eo (h.mono _ _ _ _ (λds hds vs W1 H1 x1 r1=>?_) hw);refine⟨by rw[r1.length];exact nE hds.1,λq hq=>?_⟩;exact hds.2 q vs W1 _ (x1.trans (.new x1.ok hq)) ao (x1.ok.fresh hq).1 (x1.ok.fresh hq).2 (x1.isN hq) r1
def wL(t:WA):WE:=λE ρ Q=>t E ρ λds=>Q (.lst ds)
theorem PXL.px{t:WA}(h:PXL X EX e t):PX X EX e (wL t):=by
 obtain⟨ta,pa,ka⟩:=h.t;refine⟨⟨_,pa,λW0 H0 W σ H ρ E Q s eo hw=>?_⟩,λE ρ P P' hp z=>h.mono _ _ _ _ (λds hds=>hp _ hds) z⟩;refine ka W0 H0 W σ H ρ E _ s eo (h.mono _ _ _ _ (λds hds a vs W1 H1 x1 e1 e2 e3 e4 r1=>?_) hw);refine hds _ _ _ (x1.pub e4 e1 e3 e2) (.lst (by unfold Wd.put;dsimp only;rw[ao]) (r1.mono (oC e2) λ_ z=>z))
structure dZ(X:Cx)(f:Value)(g:List D->(D->Prop)->Prop):Prop where
 t:∃r,CallR X f r/\∀W H vs ds Q,WOk W H->Reps X.K W vs ds->g ds (RQ X.K W H Q)->r vs H Q
 mono:∀ds P P',(∀d,P d->P' d)->g ds P->g ds P'
structure pB(X:Cx)(f:Value)(g:List D->(List D->Prop)->Prop):Prop where
 t:∃r,CallR X f r/\∀W H vs ds Q,WOk W H->Reps X.K W vs ds->g ds (λes=>∀a us,H a=none->Reps X.K W us es->Q (.ref a) (upd H a (.lst us)))->r vs H Q
 mono:∀ds P P',(∀d,P d->P' d)->g ds P->g ds P'
def wB(g:List D->(D->Prop)->Prop)(t:WA):WE:=λE ρ Q=>t E ρ λds=>g ds Q
def aB(g:List D->(List D->Prop)->Prop)(t:WA):WA:=λE ρ Q=>t E ρ λds=>g ds Q
variable {id T:String}{t:WA}
theorem du{g:List D->(D->Prop)->Prop}(hc:dZ X (.builtin id) g)(hm:X.mg x=none)(hv:bootBuiltins x=some (.builtin id))(ha:jo X EX (e::es) t)(hg:Gl X x:=by rfl)(hn:x≠ "__name__" :=by decide)(hdb:(x==("__debug__" : Str))=false:=by decide)
  (he:starEach (e::es) X.env=(false,eval e X.env)::starEach es X.env:=by rfl) (hpl:(backTo pos (starEach es X.env)).any (·.1)=false:=by rfl):PX X EX (.Call (.Name x p) (e::es) [] pos) (wB g t):=by
 obtain⟨ta,pa,ka⟩:=ha.t;obtain⟨r,pr,kr⟩:=hc.t;refine⟨⟨_,mK pr hg hm hv pa hn hdb he hpl,λW0 H0 W σ H ρ E Q s eo h=>?_⟩,λE ρ P P' hp z=>ha.mono _ _ _ _ (λds hds=>hc.mono _ _ _ hp hds) z⟩;exact ka W0 H0 W σ H ρ E _ s eo (ha.mono _ _ _ _ (λds hds vs W1 H1 x1 r1=>kr W1 H1 vs ds Q x1.ok r1 (hc.mono _ _ _ (λd hd=>RQ.ext hd x1) hds)) h)
theorem Zc{g:List D->(D->Prop)->Prop}(hc:dZ X (.type T) g)(hm:X.mg x=none)(hv:bootBuiltins x=some (.type T))(ha:jo X EX (e::es) t)(hg:Gl X x:=by rfl)(hn:x≠ "__name__" :=by decide)(hdb:(x==("__debug__" : Str))=false:=by decide)
  (he:starEach (e::es) X.env=(false,eval e X.env)::starEach es X.env:=by rfl) (hpl:(backTo pos (starEach es X.env)).any (·.1)=false:=by rfl):PX X EX (.Call (.Name x p) (e::es) [] pos) (wB g t):=by
 obtain⟨ta,pa,ka⟩:=ha.t;obtain⟨r,pr,kr⟩:=hc.t;refine⟨⟨_,gx pr hg hm hv pa hn hdb he hpl,λW0 H0 W σ H ρ E Q s eo h=>?_⟩,λE ρ P P' hp z=>ha.mono _ _ _ _ (λds hds=>hc.mono _ _ _ hp hds) z⟩;exact ka W0 H0 W σ H ρ E _ s eo (ha.mono _ _ _ _ (λds hds vs W1 H1 x1 r1=>kr W1 H1 vs ds Q x1.ok r1 (hc.mono _ _ _ (λd hd=>RQ.ext hd x1) hds)) h)
theorem An{g:List D->(List D->Prop)->Prop}(hc:pB X (.type T) g)(hm:X.mg x=none)(hv:bootBuiltins x=some (.type T))(ha:jo X EX (e::es) t)(hg:Gl X x:=by rfl)(hn:x≠ "__name__" :=by decide)(hdb:(x==("__debug__" : Str))=false:=by decide)
  (he:starEach (e::es) X.env=(false,eval e X.env)::starEach es X.env:=by rfl) (hpl:(backTo pos (starEach es X.env)).any (·.1)=false:=by rfl):PXL X EX (.Call (.Name x p) (e::es) [] pos) (aB g t):=by
 obtain⟨ta,pa,ka⟩:=ha.t;obtain⟨r,pr,kr⟩:=hc.t;refine⟨⟨_,gx pr hg hm hv pa hn hdb he hpl,λW0 H0 W σ H ρ E Q s eo h=>?_⟩,λE ρ P P' hp z=>ha.mono _ _ _ _ (λds hds=>hc.mono _ _ _ hp hds) z⟩;refine ka W0 H0 W σ H ρ E _ s eo (ha.mono _ _ _ _ (λds hds vs W1 H1 x1 r1=>kr W1 H1 vs ds Q x1.ok r1 (hc.mono _ _ _ (λes' hd a us hn' r2=>?_) hds)) h);exact hd a us W1 _ (x1.trans (.new x1.ok hn')) ao (x1.ok.fresh hn').1 (x1.ok.fresh hn').2 (x1.isN hn') r2
abbrev aS:=List D->(Ex->Prop)->(D->Prop)->Prop
def oF(S:aS):Prop:=∀ds E E' Q Q',(∀ex,E ex->E' ex)->(∀d,Q d->Q' d)->S ds E Q->S ds E' Q'
def fO(K:Oq)(S:aS):Sp:=λvs H Q EX=>∃ds W,WOk W H/\Reps K W vs ds/\S ds (λex=>∀W' H' cls dx,Ext W H W' H'->Am K W' H' cls dx ex->EX cls dx H') (RQ K W H Q)
def wF(S:aS)(t:WA):WE:=λE ρ Q=>t E ρ λds=>S ds E Q
theorem HP{CX:jH}{k:Nat}{f:Addr}{fd:FuncData}{ps:List Str}{S:aS}(F:FnOk X.prog X.w X.K X.mg X.base CX k f fd ps (fO X.K S))(hS:oF S)(hr:Room k X.A)(hm:X.mg x=some (.ref f))(hk:PySem.W.keepIn X.K (.ref f)=true)(hb:Binds X.K fd ps [])
  (hx:cX CX X EX) (ha:jo X EX (e::es) t) (hg:Gl X x:=by rfl) (hdb:(x==("__debug__" : Str))=false:=by decide) (he:starEach (e::es) X.env=(false,eval e X.env)::starEach es X.env:=by rfl) (hpl:(backTo pos (starEach es X.env)).any (·.1)=false:=by rfl) :
  PX X EX (.Call (.Name x p) (e::es) [] pos) (wF S t):=by
 obtain⟨ta,pa,ka⟩:=ha.t;refine⟨⟨_,oa F hr hg hm hk hb .nil hx pa hdb he hpl,λW0 H0 W σ H ρ E Q s eo h=>?_⟩,λE ρ P P' hp z=>ha.mono _ _ _ _ (λds hds=>hS _ _ _ _ _ (λ_ q=>q) hp hds) z⟩;refine ka W0 H0 W σ H ρ E _ s eo (ha.mono _ _ _ _ (λds hds vs W1 H1 x1 r1=>?_) h);refine⟨ds,W1,x1.ok,by rw[p8];exact r1,hS _ _ _ _ _ (λex hex W' H' cls dx x' r'=>?_) (λd hd=>RQ.ext hd x1) hds⟩;exact eo ex W' H' cls dx hex (s.ext.trans (x1.trans x')) r'
structure Ao(X:Cx)(g:G2):Prop where
 t:∃r,IxR X r/\∀W H x y dx dy Q,WOk W H->Rep X.K W x dx->Rep X.K W y dy->g dx dy (RQ X.K W H Q)->r x y H Q
 mono:∀x y P P',(∀d,P d->P' d)->g x y P->g x y P'
theorem ci{g:G2}(ho:Ao X g)(ha:PX X EX a wa)(hb:PX X EX b wb)(hs:kK b:=by exact λ_ _=>rfl):PX X EX (.Subscript a b pos) (w2 g wa wb):=by
 obtain⟨ta,pa,ka⟩:=ha.t;obtain⟨tb,pb,kb⟩:=hb.t;obtain⟨r,pr,kr⟩:=ho.t;refine⟨⟨_,ut pr pa pb hs,λW0 H0 W σ H ρ E Q s eo h=>?_⟩,w2.mono ha hb ho.mono⟩;exact lB ha.mono hb.mono ka kb s eo h λW2 H2 x y dx dy x2 rx ry hg=>kr W2 H2 x y dx dy Q x2.ok rx ry (ho.mono _ _ _ _ (λd hd=>RQ.ext hd x2) hg)
structure DJ(X:Cx)(f:Value->Sem Value)(g:D->(D->Prop)->Prop):Prop where
 t:∃r,w8 X f r/\∀W H x dx Q,WOk W H->Rep X.K W x dx->g dx (RQ X.K W H Q)->r x H Q
 mono:∀x P P',(∀d,P d->P' d)->g x P->g x P'
def w1(g:D->(D->Prop)->Prop)(wa:WE):WE:=λE ρ Q=>wa E ρ λx=>g x Q
theorem nF{op:UnaryOp}{g:D->(D->Prop)->Prop}(ho:DJ X (unaryOp op) g)(ha:PX X EX a wa):PX X EX (.UnaryOp op a pos) (w1 g wa):=by
 obtain⟨ta,pa,ka⟩:=ha.t;obtain⟨r,pr,kr⟩:=ho.t;refine⟨⟨_,o8 pr pa,λW0 H0 W σ H ρ E Q s eo h=>?_⟩,λE ρ P P' hp z=>ha.mono _ _ _ _ (λd hd=>ho.mono _ _ _ hp hd) z⟩;exact ka W0 H0 W σ H ρ E _ s eo (ha.mono _ _ _ _ (λd hd v W1 H1 x1 r1=>kr W1 H1 v d Q x1.ok r1 (ho.mono _ _ _ (λd hd=>RQ.ext hd x1) hd)) h)
structure sr(X:Cx)(EX:XK)(e:Option Expr)(w:(Ex->Prop)->aN->(Option Int->Prop)->Prop):Prop where
 t:∃t,PO X e t/\∀W0 H0 W σ H ρ E Q,SOk X.K W0 H0 W σ H ρ->kL X.K W0 H0 E EX->w E ρ (λo=>∀W' H',Ext W H W' H'->Q o H')->t σ H Q
 mono:∀E ρ P P',(∀d,P d->P' d)->w E ρ P->w E ρ P'
def isI(Q:Int->Prop):D->Prop
 |.int i=>Q i
 |_=>False
theorem isI.mono{Q Q':Int->Prop}(h:∀b,Q b->Q' b):∀d,isI Q d->isI Q' d
 |.int b,z=>h b z
 |.non,z=>z|.bl _,z=>z|.str _,z=>z|.tup _,z=>z|.lst _,z=>z|.dic,z=>z|.pen,z=>z|.cls _,z=>z|.exc _,z=>z|.ty _,z=>z|.scr _,z=>z
theorem rc{Q:Int->Prop}{d:D}(h:isI Q d):∃b,d=.int b/\Q b:=by
 cases d with
 |int b=>exact⟨b,rfl,h⟩
 |_=>exact h.elim
def cP:(Ex->Prop)->aN->(Option Int->Prop)->Prop:=λ_ _ Q=>Q none
def bV(w:WE):(Ex->Prop)->aN->(Option Int->Prop)->Prop:=λE ρ Q=>w E ρ (isI λi=>Q (some i))
theorem jp:sr X EX none cP:=⟨⟨_,oj,λ_ _ W _ H _ _ _ s _ h=>h W H (.refl s.ok)⟩,λ_ _ _ _ hp h=>hp _ h⟩
theorem eP(ha:PX X EX a wa):sr X EX (some a) (bV wa):=by
 obtain⟨ta,pa,ka⟩:=ha.t;refine⟨⟨_,ol pa,λW0 H0 W σ H ρ E Q s eo h=>?_⟩,λE ρ P P' hp z=>ha.mono _ _ _ _ (isI.mono λi hi=>hp _ hi) z⟩;refine ka W0 H0 W σ H ρ E _ s eo (ha.mono _ _ _ _ (λd hd v W1 H1 x1 r1=>?_) h);obtain⟨i,rfl,q⟩:=rc hd;cases r1;exact⟨i,rfl,q W1 H1 x1⟩
def bn{α:Type}(xs:List α)(lo hi:Option Int):List α:=(xs.drop (HT.sIx xs.length 0 lo)).take (HT.sIx xs.length xs.length hi-HT.sIx xs.length 0 lo)
def gCut(x:D)(lo hi:Option Int)(Q:D->Prop):Prop:=match x with
 |.tup xs=>Q (.tup (bn xs lo hi))
 |.lst xs=>Q (.lst (bn xs lo hi))
 |.scr xs=>Q (.lst (bn xs lo hi))
 |_=>False
end LP
namespace HT
open PySem PySem.Spec PyProof.Rows
variable {prog:Program}{w:World}{A:Around}{E:Value->Shared->Prop}{s:Shared}
theorem getItem_tuple_whole{t sl:Addr}{items:Array Value}{vl vu:Value}{lo hi:Option Int}{Q:Value->Shared->Prop}(ht:IsTup s.heap t items)(hs:s.heap.IsSliceOf sl vl vu .none)(pl:IsPart vl lo)(pu:IsPart vu hi)
  (hw:sIx items.size 0 lo=0/\sIx items.size items.size hi=items.size) (h:Q (.ref t) s):wpAny (model prog w) A (getItem (.ref t) (.ref sl)) Q E s:=by
 obtain⟨os,hos,hcs,hds⟩:=id hs;have hTs:s.TypeIs (.ref sl) "slice" :=⟨os,hos,hcs⟩
 unfold getItem
 try with_reducible refine OF ?_
 first|refine Op (Os ?_)|skip
 refine Op (wpAny_sequenceKey ht.typeIs (by decide) ?_);refine Op (wpAny_callSpecial?_slot (name:=Str.ofString "__getitem__") ht.typeIs PyProof.Rows.slot_tuple_getitem
  (OK PyProof.Rows.slot_tuple_getitem ht.typeIs entry_tuple_getitem ?_ (args_tuple_getitem _ _)))
 show wpAny _ _ (Builtin.Tuple.tupleItemsOf (.ref t) >>= _) _ _ s;refine Op (tupleItemsOf_ ht ?_);refine Op (OW hTs ?_);rw[if_pos (by decide)];refine Op (cS hs pl pu ?_);have hyes:(((sIx items.size 0 lo:Nat):Int)==0&&(1:Int)==1&&(sIx items.size items.size hi-sIx items.size 0 lo)==items.size)=true:=by
  rw[hw.1,hw.2];simp
 show wpAny _ _ (if(((sIx items.size 0 lo:Nat):Int)==0&&(1:Int)==1&&(sIx items.size items.size hi-sIx items.size 0 lo)==items.size)=true then _ else _) _ _ s;rw[if_pos hyes];have ex:Builtin.Tuple.tupleIsExact (.ref t)=(do return(<-typeOf (.ref t))==.type "tuple"):=rfl;rw[ex];refine Op (Op (OW ht.typeIs (Os ?_)));rw[if_pos (by decide)]
 first
  |exact Op (OO (Op (Os (Os ⟨_,rfl,Os h⟩))))
  |exact Op (OO (Os ⟨_,rfl,Os h⟩))
  |exact Op (OO (Op (Os ⟨_,rfl,Os h⟩)))
theorem HQ{sl:Addr}{tk:Tok}{n:Nat}{Q:Int×Int×Nat->Shared->Prop}(hs:s.heap.IsSliceOf sl .none .none (.int (-1) tk))
  (h:Q ((n:Int)-1,-1,n) s):wpAny (model prog w) A (Builtin.Slice.sliceApplied (.ref sl) (pure (n:Int))) Q E s:=by
 obtain⟨os,hos,hcs,hds⟩:=id hs;unfold Builtin.Slice.sliceApplied Builtin.Slice.sliceFields;refine Op (Op (Oz hos hds (x:=.none) rfl (Op (Oz hos hds (x:=.none) rfl (Op (Oz hos hds (x:=.int (-1) tk) rfl (Os ?_)))))));refine Op (slicePart_int ?_);show wpAny _ _ (if((-1:Int)==0)=true then _ else _) _ _ s;rw[if_neg (by decide)];refine Op (slicePart_none (Op (slicePart_none (Op (Os ?_)))));show wpAny _ _ (match Builtin.Slice.sliceAdjust none none (-1) (n:Int) with|(lo,hi)=>pure (lo,(-1:Int),Builtin.Slice.slicePlaces lo hi (-1))) _ _ s;have e:Builtin.Slice.sliceAdjust none none (-1) (n:Int)=((n:Int)-1,-1):=by
  unfold Builtin.Slice.sliceAdjust;simp
 rw[e];have e2:Builtin.Slice.slicePlaces ((n:Int)-1) (-1) (-1)=n:=by
  unfold Builtin.Slice.slicePlaces;simp
  try omega
 show wpAny _ _ (pure ((n:Int)-1,(-1:Int),Builtin.Slice.slicePlaces ((n:Int)-1) (-1) (-1))) _ _ s;rw[e2];exact Os h
theorem pick_rev(xs:Array Value):((List.range xs.size).filterMap λ(m:Nat)=>xs[((xs.size:Int)-1+(m:Int)*(-1)).toNat]?)=xs.toList.reverse:=by
 refine si λi=>?_;have gen:∀(l:List Nat),(∀m∈l,m<xs.size)->(l.filterMap λ(m:Nat)=>xs[((xs.size:Int)-1+(m:Int)*(-1)).toNat]?)=l.map λm=>xs.toList.getD (xs.size-1-m) .none:=by
  intro l
  induction l with
  |nil=>intro _;rfl
  |cons m r ih=>
   intro hm;have h1:m<xs.size:=hm m jL;have h2:((xs.size:Int)-1+(m:Int)*(-1)).toNat=xs.size-1-m:=by omega
   have h3:xs.size-1-m<xs.size:=by omega
   rw[wj,h2,Array.getElem?_eq_getElem h3,bL,ih λk hk=>hm k (fG _ hk)];simp[aM,h3]
 rw[gen _ λm hm=>Yaj.mp hm]
 by_cases hi:i<xs.size
 .rw[cc,jg hi,List.getElem?_reverse (by simpa using hi)]
  simp[aM];rw[Array.getElem?_eq_getElem (by omega)];simp
 .rw[dN (by simp;omega),dN (by simp;omega)]
theorem getItem_tuple_rev{t sl:Addr}{items:Array Value}{tk:Tok}{Q:Value->Shared->Prop}(ht:IsTup s.heap t items)(hs:s.heap.IsSliceOf sl .none .none (.int (-1) tk))(hsz:items.size<=sizeLine)
  (h:Q (.ref s.heap.objs.size) { s with heap:=s.heap.push { cls:=.type "tuple",data:=.seq items.toList.reverse.toArray } }):wpAny (model prog w) A (getItem (.ref t) (.ref sl)) Q E s:=by
 have htake:sizeOk (.seq items.toList.reverse.toArray):=by
  show items.toList.reverse.toArray.size<=sizeLine;simpa using hsz
 obtain⟨os,hos,hcs,hds⟩:=id hs;have hTs:s.TypeIs (.ref sl) "slice" :=⟨os,hos,hcs⟩
 unfold getItem
 try with_reducible refine OF ?_
 first|refine Op (Os ?_)|skip
 refine Op (wpAny_sequenceKey ht.typeIs (by decide) ?_);refine Op (wpAny_callSpecial?_slot (name:=Str.ofString "__getitem__") ht.typeIs PyProof.Rows.slot_tuple_getitem
  (OK PyProof.Rows.slot_tuple_getitem ht.typeIs entry_tuple_getitem ?_ (args_tuple_getitem _ _)))
 show wpAny _ _ (Builtin.Tuple.tupleItemsOf (.ref t) >>= _) _ _ s;refine Op (tupleItemsOf_ ht ?_);refine Op (OW hTs ?_);rw[if_pos (by decide)];refine Op (HQ hs ?_);show wpAny _ _ (if((((items.size:Int)-1)==0&&(-1:Int)==1&&items.size==items.size)=true) then _ else _) _ _ s;rw[if_neg (by simp),pick_rev]
 first
  |exact Op (m:=Builtin.Tuple.tupleExact _) (OA (Os ⟨_,rfl,Os h⟩) htake)
  |exact Op (m:=Builtin.Tuple.tupleExact _) (OA (Op (Os (Os ⟨_,rfl,Os h⟩))) htake)
  |exact Op (Op (m:=Builtin.Tuple.tupleExact _) (OA (Os (Os ⟨_,rfl,Os h⟩)) htake))
  |exact Op (Op (m:=Builtin.Tuple.tupleExact _) (OA (Os ⟨_,rfl,Os h⟩) htake))
end HT
namespace L2
open PySem PySem.Spec PyProof.Rows
variable {X:Cx}{e:Expr}{te:TE}{pos p2:Pos}
def uI(K:Oq):V->Option Int->Option Int->Hp->VK->Prop:=λx lo hi H Q=>∃a xs,x=.ref a/\SqT K H a xs/\
 (HT.sIx xs.length 0 lo=0/\HT.sIx xs.length xs.length hi=xs.length)/\Q (.ref a) H
theorem HR:SlR X (uI X.K):=by
 intro pins s σ H x v vl vu lo hi sl Q I rx hs pl pu h;obtain⟨a,xs,rfl,hx,hw,q⟩:=h;cases rx;obtain⟨its,r,ht,hz⟩:=I.tuple hx;have hlen:its.toArray.size=xs.length:=by rw[dL];exact r.length.symm
 refine⟨"tuple",_,PyProof.Rows.slot_tuple_getitem.lookup,ht.typeIs,?_⟩;exact HT.getItem_tuple_whole ht hs pl pu (by rw[hlen];exact hw) ⟨.ref a,H,I,rfl,q⟩
def Aq(r:V->Hp->VK->Prop)(te:TE):TE:=λσ H Q=>te σ H λx H1=>r x H1 Q
def Ar(K:Oq):V->Hp->VK->Prop:=λx H Q=>∃a xs,x=.ref a/\((SqT K H a xs/\∀p,H p=none->Q (.ref p) (upd H p (.tup xs.reverse)))\/(SqL K H a xs/\∀p,H p=none->Q (.ref p) (upd H p (.lst xs.reverse))))
theorem Vals.rev{xs:List V}{us:List Value}(r:Vals xs us):Vals xs.reverse us.reverse:=by
 induction xs generalizing us with
 |nil=>cases r;exact .nil
 |cons x xs ih=>cases r with|cons r t=>rw[sh,sh];exact(ih t).append (.cons r .nil)
theorem HS(its:List Value):slicePick its.toArray none none (some (-1))=its.reverse.toArray:=by
 have e:slicePick its.toArray none none (some (-1))=((sliceRange ((its.length:Int)-1) (-1) (-1)).filterMap (its.toArray[·]?)).toArray:=by
  unfold slicePick sliceBounds;simp
 rw[e];congr 1;have h:=HT.pick_rev its.toArray;rw[dL] at h;have h':its.toArray.toList.reverse=its.reverse:=by simp
 rw[h'] at h;rw[<-h];unfold sliceRange;simp only[show¬((-1:Int)>0) by decide,if_false];have hn:(if(-1:Int)<(its.length:Int)-1 then(its.length:Int) else 0).toNat=its.length:=by split<;>omega
 simp;rw[hn];rfl
theorem HU{j pos3 pos4}(he:PE X e te):PE X (.Subscript e (.Slice none none (some (.UnaryOp .USub (.Constant (.int 1) j pos3) pos4)) p2) pos) (Aq (Ar X.K) te):=by
 intro pins s σ H Q I h;refine Subscript_ (aI (he pins s σ H _ I h) λv s1 ⟨x,H1,I1,r1,a,xs,ex,q1⟩=>?_);subst ex;cases r1;refine wpAny_Slice ?_;rw[evalPart_none];refine Os (Os ?_);rw[evalPart_some];refine aI (o8 (my (X:=X)) jT pins s1 σ H1 (λx H'=>x=.int (-1)/\H'=H1) I1 ⟨1,rfl,rfl,rfl⟩) λu s3 ⟨y,H3,I3,r3,e3,e4⟩=>?_;subst e3;obtain rfl:=e4.symm;obtain⟨tk,rfl⟩:=r3;have I4:Inv X pins σ H1 { s3 with heap:=s3.heap.push { cls:=.type "slice",data:=.fields #[.none,.none,.int (-1) tk] } }:=I3.kept (t':=s3.toks) λb ob q=>bZ _ q;show wpAny (model X.prog X.w) X.A (subscriptTail e (.Slice none none (some (.UnaryOp .USub (.Constant (.int 1) j pos3) pos4)) p2) (.ref a) (.ref s3.heap.objs.size)) (EP X pins σ Q) X.xe { s3 with heap:=s3.heap.push { cls:=.type "slice",data:=.fields #[.none,.none,.int (-1) tk] } };rcases q1 with⟨hx,q1⟩|⟨hx,q1⟩
 .obtain⟨its,r,ht,hz⟩:=I4.tuple hx
  have hlen:=r.length;refine tail_any (ops:=[.ref a,.ref s3.heap.objs.size]) ht.typeIs PyProof.Rows.slot_tuple_getitem.lookup (HT.getItem_tuple_rev ht (Heap.IsSliceOf.new ..) (by rw[dL];omega) ?_) (by with_unfolding_all rfl);refine⟨.ref _,_,I4.laid (t':=s3.toks) (o:=.tup xs.reverse) (λb ob q=>bZ _ q) (bb _) ?_,rfl,q1 _ (I4.hok.fresh (bb _))⟩;exact⟨by rw[qc];exact hz,_,r.rev,IsTup.new _ _⟩
 .obtain⟨its,r,ht,hz⟩:=I4.list hx
  have hlen:=r.length;refine tail_any (ops:=[.ref a,.ref s3.heap.objs.size]) ht.isList.typeIs slot_list_getitem.lookup (wpAny_getItem_list_slice ht.isList (Heap.IsSliceOf.new ..) .none .none (.int (-1) tk) (by simp) ?_ (by rw[dL];omega)) (by with_unfolding_all rfl);rw[HS];refine⟨.ref _,_,I4.laid (t':=s3.toks) (o:=.lst xs.reverse) (λb ob q=>bZ _ q) (bb _) ?_,rfl,q1 _ (I4.hok.fresh (bb _))⟩;exact⟨by rw[qc];exact hz,_,0,r.rev,eV _ rfl⟩
end L2
namespace LP
open PySem PySem.Spec PyProof.Rows L2
def Bd(i:Int):Prop:=i.natAbs<2^8990
theorem Bd.log{i:Int}(h:Bd i):i.natAbs.log2<8990:=by
 by_cases h0:i.natAbs=0
 .rw[h0];decide
 .exact(Nat.log2_lt h0).mpr h
theorem Bd.bits{i:Int}(h:Bd i):Builtin.Int.intBits i<=2^20:=by
 unfold Builtin.Int.intBits;have:=h.log;have e:(2:Nat)^20=1048576:=by decide
 split<;>omega
def pC(i j:Int):Prop:=Bd i/\Bd j
def As(_ j:Int):Prop:=j≠0/\Bd j
variable {X:Cx}{EX:XK}{pos:Pos}
theorem ZpM:OpR X (binaryOp .Mult) (rI pC λi j=>.int (i*j)):=xb λ_ _ _ _ _ _ _ hc q=>mul_int q (IntMulOk.of_bits hc.1.bits hc.2.bits)
theorem HV:OpR X (binaryOp .FloorDiv) (rI As λi j=>.int (i.fdiv j)):=xb λ_ _ _ _ _ _ _ hc q=>floordiv_int hc.1 q (.inl (PyProof.noPylong_of_log2 (by have:=hc.2.log;omega)))
def gI2(C:Int->Int->Prop)(kd:Int->Int->D):G2:=λx y Q=>match x,y with
 |.int i,.int j=>C i j/\Q (kd i j)
 |_,_=>False
theorem gI2.mono{C:Int->Int->Prop}{kd:Int->Int->D}:∀x y P P',(∀d,P d->P' d)->gI2 C kd x y P->gI2 C kd x y P':=λx y P P' hp hg=>by
 unfold gI2 at hg ⊢;split at hg
 .exact⟨hg.1,hp _ hg.2⟩
 .exact hg.elim
theorem gI2.get{C:Int->Int->Prop}{kd:Int->Int->D}{x y:D}{Q:D->Prop}(h:gI2 C kd x y Q):∃i j,x=.int i/\y=.int j/\C i j/\Q (kd i j):=by
 unfold gI2 at h;split at h
 .exact⟨_,_,rfl,rfl,h.1,h.2⟩
 .exact h.elim
theorem pE{f:Value->Value->Sem Value}{C:Int->Int->Prop}{k:Int->Int->V}{kd:Int->Int->D}(h:OpR X f (rI C k))(hk:∀W i j,Rep X.K W (k i j) (kd i j)):fe X f (gI2 C kd):=
 ⟨⟨_,h,λW H x y dx dy Q ok rx ry hg=>by
  obtain⟨i,j,rfl,rfl,hc,q⟩:=hg.get;cases rx;cases ry;exact⟨_,_,rfl,rfl,hc,q.now ok (hk _ _ _)⟩⟩,gI2.mono⟩
theorem ss{f:Value->Value->Sem Value}{k:Int->Int->V}(h:OpR X f (n0 k)):OpR X f (rI (λ_ _=>True) k):=λpins s σ H x y v u Q I rx ry ⟨i,j,e1,e2,_,q⟩=>h pins s σ H x y v u Q I rx ry ⟨i,j,e1,e2,q⟩
theorem fv:fe X (binaryOp .Sub) (gI2 (λ_ _=>True) λi j=>.int (i-j)):=pE (ss qO) λ_ _ _=>.int _
theorem pF:fe X (binaryOp .Mod) (gI2 (λ_ j=>j≠0) λi j=>.int (i.fmod j)):=pE n6 λ_ _ _=>.int _
theorem pG:fe X (binaryOp .FloorDiv) (gI2 As λi j=>.int (i.fdiv j)):=pE HV λ_ _ _=>.int _
theorem DK:fe X (binaryOp .Pow) (gI2 qM λi j=>.int (i^j.toNat)):=pE qP λ_ _ _=>.int _
theorem HW:OpR X (compareOp .Lt) (n0 λi j=>.bl (decide (i<j))):=n4 λ_ _ _ _ _ _ _ q=>lt_int q
theorem Zr:OpR X (compareOp .LtE) (n0 λi j=>.bl (decide (i<=j))):=n4 λ_ _ _ _ _ _ _ q=>le_int q
theorem HX:OpR X (compareOp .Gt) (n0 λi j=>.bl (decide (i>j))):=n4 λ_ _ _ _ _ _ _ q=>gt_int q
theorem HY:OpR X (compareOp .GtE) (n0 λi j=>.bl (decide (i ≥ j))):=n4 λ_ _ _ _ _ _ _ q=>ge_int q
theorem oG:fe X (compareOp .Lt) (gI2 (λ_ _=>True) λi j=>.bl (decide (i<j))):=pE (ss HW) λ_ _ _=>.bl _
theorem mV:fe X (compareOp .LtE) (gI2 (λ_ _=>True) λi j=>.bl (decide (i<=j))):=pE (ss Zr) λ_ _ _=>.bl _
theorem oH:fe X (compareOp .Gt) (gI2 (λ_ _=>True) λi j=>.bl (decide (i>j))):=pE (ss HX) λ_ _ _=>.bl _
theorem At:fe X (compareOp .GtE) (gI2 (λ_ _=>True) λi j=>.bl (decide (i ≥ j))):=pE (ss HY) λ_ _ _=>.bl _
theorem nG:DJ X (unaryOp .USub) (λx Q=>isI (λi=>Q (.int (-i))) x):=
 ⟨⟨_,my,λW H x dx Q ok rx hg=>by
  obtain⟨i,rfl,q⟩:=rc hg;cases rx;exact⟨i,rfl,q.now ok (.int _)⟩⟩,λx P P' hp h=>isI.mono (λi hi=>hp _ hi) x h⟩
mutual
def fP:D->Option PyData
 |.non=>some .none
 |.bl b=>some (.bool b)
 |.int i=>some (.int i)
 |.str x=>some (.str x)
 |.tup xs=>(eA xs).map .tuple
 |.lst xs=>(eA xs).map .list
 |.dic=>none
 |.pen=>none
 |.cls _=>none
 |.exc _=>none
 |.ty _=>none
 |.scr _=>none
def eA:List D->Option (List PyData)
 |[]=>some []
 |x::r=>match fP x,eA r with
  |some a,some b=>some (a::b)
  |_,_=>none
end
variable {pins:List (Addr×Obj)}{σ:L2.St}{H:Hp}{s:Shared}{W:Wd}
mutual
theorem uJ(I:Inv X pins σ H s)(ok:WOk W H):∀{v:V} {d:D} {u:Value} {p:PyData},Rep X.K W v d->RelV v u->fP d=some p->∃as,Reads s.heap u p as
 |_,_,u,p,.non,r,e=>by cases e;cases r;exact⟨_,.none⟩
 |_,_,u,p,.bl b,r,e=>by cases e;cases r;exact⟨_,.bool b⟩
 |_,_,u,p,.int i,r,e=>by cases e;obtain⟨t,rfl⟩:=r;exact⟨_,.int i t⟩
 |_,_,u,p,.str x,r,e=>by cases e;obtain⟨t,rfl⟩:=r;exact⟨_,.str x t⟩
 |.ref a,.tup ds,u,p,.tup e0 rs,r,e=>by
  cases r;cases q:eA ds with
  |none=>rw[fP,q] at e;cases e
  |some ps=>
   rw[fP,q] at e;cases e;obtain⟨its,rv,⟨o,h1,h2,n,h3⟩,_⟩:=I.tuple (xs:=_) (SqT.of (ok.g _ _ e0));obtain⟨as,ra⟩:=xi I ok rs rv q;exact⟨_,.tuple h1 h2 h3 (by simpa using ra)⟩
 |.ref a,.tup ds,u,p,.ktup e0 rs,r,e=>by
  cases r;cases q:eA ds with
  |none=>rw[fP,q] at e;cases e
  |some ps=>
   rw[fP,q] at e;cases e;obtain⟨its,rv,⟨o,h1,h2,n,h3⟩,_⟩:=I.tuple (xs:=_) (.inr e0);obtain⟨as,ra⟩:=xi I ok rs rv q;exact⟨_,.tuple h1 h2 h3 (by simpa using ra)⟩
 |.ref a,.lst ds,u,p,.lst e0 rs,r,e=>by
  cases r;cases q:eA ds with
  |none=>rw[fP,q] at e;cases e
  |some ps=>
   rw[fP,q] at e;cases e;obtain⟨its,rv,⟨o,n,h1,h2,h3,h4⟩,_⟩:=I.list (xs:=_) (SqL.of (ok.g _ _ e0));obtain⟨as,ra⟩:=xi I ok rs rv q;exact⟨_,.list h1 h2 h4 (by simpa using ra)⟩
 |_,_,u,p,.dic _,r,e=>by rw[fP] at e;cases e
 |_,_,u,p,.pen _,r,e=>by rw[fP] at e;cases e
 |_,_,u,p,.cls _,r,e=>by rw[fP] at e;cases e
 |_,_,u,p,.exc _ _ _,r,e=>by rw[fP] at e;cases e
 |_,_,u,p,.ty _,r,e=>by rw[fP] at e;cases e
 |_,_,u,p,.scr _ _,r,e=>by rw[fP] at e;cases e
theorem xi(I:Inv X pins σ H s)(ok:WOk W H):∀{vs:List V} {ds:List D} {us:List Value} {ps:List PyData},Reps X.K W vs ds->Vals vs us->eA ds=some ps->∃as,ReadsAll s.heap us ps as
 |_,_,us,ps,.nil,r,e=>by rw[eA] at e;cases e;cases r;exact⟨_,.nil⟩
 |_,d::ds,us,ps,.cons rd rs,r,e=>by
  rw[eA] at e;cases q1:fP d with
  |none=>rw[q1] at e;cases e
  |some a=>
   cases q2:eA ds with
   |none=>rw[q1,q2] at e;cases e
   |some b=>
    rw[q1,q2] at e;cases e;cases r with
    |cons r1 r2=>
     obtain⟨as,ra⟩:=uJ I ok rd r1 q1;obtain⟨bs,rb⟩:=xi I ok rs r2 q2;exact⟨_,.cons ra rb⟩
end
def gEq(neg:Bool):G2:=λx y Q=>∃p q,fP x=some p/\fP y=some q/\PySem.SeqAt.shaped p=true/\PySem.SeqAt.shaped q=true/\Q (.bl (if neg then !PyData.eqv p q else PyData.eqv p q))
theorem gEq.mono{neg:Bool}:∀x y P P',(∀d,P d->P' d)->gEq neg x y P->gEq neg x y P':=λx y P P' hp ⟨p,q,h1,h2,h3,h4,h5⟩=>⟨p,q,h1,h2,h3,h4,hp _ h5⟩
theorem cT(hu:X.A.units+64<cLine):fe X (compareOp .Eq) (gEq false):=by
 refine⟨⟨λx y H Q=>∃W dx dy,WOk W H/\Rep X.K W x dx/\Rep X.K W y dy/\gEq false dx dy (RQ X.K W H Q),?_,λW H x y dx dy Q ok rx ry hg=>⟨W,dx,dy,ok,rx,ry,hg⟩⟩,gEq.mono⟩;rintro pins s σ H x y v u Q I rx ry ⟨W,dx,dy,ok,r1,r2,p,q,h1,h2,h3,h4,h5⟩;obtain⟨as,ra⟩:=uJ I ok r1 rx h1;obtain⟨bs,rb⟩:=uJ I ok r2 ry h2;exact eq_dataH ra rb h3 h4 hu ⟨.bl _,H,I,rfl,h5.now ok (.bl _)⟩
theorem db(hu:X.A.units+64<cLine):fe X (compareOp .NotEq) (gEq true):=by
 refine⟨⟨λx y H Q=>∃W dx dy,WOk W H/\Rep X.K W x dx/\Rep X.K W y dy/\gEq true dx dy (RQ X.K W H Q),?_,λW H x y dx dy Q ok rx ry hg=>⟨W,dx,dy,ok,rx,ry,hg⟩⟩,gEq.mono⟩;rintro pins s σ H x y v u Q I rx ry ⟨W,dx,dy,ok,r1,r2,p,q,h1,h2,h3,h4,h5⟩;obtain⟨as,ra⟩:=uJ I ok r1 rx h1;obtain⟨bs,rb⟩:=uJ I ok r2 ry h2;exact ne_dataH ra rb h3 h4 hu ⟨.bl _,H,I,rfl,h5.now ok (.bl _)⟩
variable {p2:Pos}{a:Expr}{wa:WE}
def gAdd:G2:=λx y Q=>match x,y with
 |.int i,.int j=>Q (.int (i+j))
 |.lst xs,.lst ys=>xs.length+ys.length<=aw/\Q (.lst (xs++ys))
 |.tup xs,.tup ys=>xs.length+ys.length<=aw/\Q (.tup (xs++ys))
 |_,_=>False
theorem gAdd.mono:∀x y P P',(∀d,P d->P' d)->gAdd x y P->gAdd x y P':=λx y P P' hp hg=>by
 unfold gAdd at hg ⊢;split at hg
 .exact hp _ hg
 .exact⟨hg.1,hp _ hg.2⟩
 .exact⟨hg.1,hp _ hg.2⟩
 .exact hg.elim
def uK(K:Oq):R2:=λx y H Q=>∃l b xs zs,x=.ref l/\y=.ref b/\SqL K H l xs/\SqL K H b zs/\xs.length+zs.length<=sizeLine/\∀p,H p=none->Q (.ref p) (upd H p (.lst (xs++zs)))
theorem Znd:OpR X (binaryOp .Add) (uK X.K):=by
 intro pins s σ H x y v u Q I rx ry h;obtain⟨l,b,xs,zs,rfl,rfl,hH,hB,hz,q⟩:=h;cases rx;cases ry;obtain⟨its,r,pl,z⟩:=I.list hH;obtain⟨its2,r2,zF,z2⟩:=I.list hB;have hl:=r.length;have hl2:=r2.length;obtain⟨⟨cls,dd,data,sl⟩,n,ho,hc,_,hd⟩:=pl;obtain⟨⟨cls2,dd2,data2,sl2⟩,n2,ho2,hc2,_,hd2⟩:=zF;simp only at hc hd hc2 hd2;subst hc hd hc2 hd2;have e:its.toArray++its2.toArray=(its++its2).toArray:=by simp
 refine concat_meets ⟨_,ho,rfl⟩ ⟨_,ho2,rfl⟩ noFill_list_add seq_list_add PySem.F.slot_list_add PySem.F.entry_list_add (PySem.F.args_list_add_2 _ _) (list_addW l b its.toArray its2.toArray n n2 dd dd2 sl sl2 (by simp;omega)) ⟨ho,ho2,?_⟩;rw[e];exact⟨.ref _,_,I.lnew (t':=s.toks) (r.append r2) (by rw[dj];omega),rfl,q _ I.fresh⟩
def HZ(K:Oq):R2:=λx y H Q=>∃a b xs ys,x=.ref a/\y=.ref b/\SqT K H a xs/\SqT K H b ys/\xs.length+ys.length<=sizeLine/\
 (xs=[]->Q (.ref b) H)/\(ys=[]->Q (.ref a) H)/\∀p,H p=none->Q (.ref p) (upd H p (.tup (xs++ys)))
theorem Ia:OpR X (binaryOp .Add) (HZ X.K):=by
 intro pins s σ H x y v u Q I rx ry h;obtain⟨a,b,xs,ys,rfl,rfl,ha,hb,hz,q1,q2,q3⟩:=h
 by_cases hx:xs=[]
 .cases rx
  cases ry;obtain⟨its,r1,p1,_⟩:=I.tuple ha;obtain⟨its2,r2,p2,_⟩:=I.tuple hb;have hi:its=[]:=r1.nil_iff.mpr hx;obtain⟨⟨cls,dd,data,sl⟩,ho,hc,n,hd⟩:=id p1;obtain⟨⟨cls2,dd2,data2,sl2⟩,ho2,hc2,n2,hd2⟩:=id p2;simp only at hc hd hc2 hd2;subst hc hd hc2 hd2;exact concat_meets ⟨_,ho,rfl⟩ ⟨_,ho2,rfl⟩ noFill_tuple_add seq_tuple_add PySem.F.slot_tuple_add PySem.F.entry_tuple_add (PySem.F.args_tuple_add_2 _ _)
   (tuple_addW0 a b its.toArray its2.toArray n n2 dd dd2 sl sl2 (by simp[hi])) ⟨ho,ho2,⟨.ref b,H,I,rfl,q1 hx⟩⟩
 .exact om pins s σ H _ _ v u Q I rx ry ⟨a,b,xs,ys,rfl,rfl,ha,hb,hx,hz,q2,λ_=>q3⟩
theorem dR:fe X (binaryOp .Add) gAdd:=by
 refine⟨⟨_,(ss qN).or (Znd.or Ia),λW H x y dx dy Q ok rx ry hg=>?_⟩,gAdd.mono⟩;unfold gAdd at hg;split at hg
 .cases rx;cases ry
  exact .inl ⟨_,_,rfl,rfl,trivial,hg.now ok (.int _)⟩
 .obtain⟨p,vs,rfl,h1,r1⟩:=rx.sql ok
  obtain⟨q,us,rfl,h2,r2⟩:=ry.sql ok;refine .inr (.inl ⟨p,q,vs,us,rfl,rfl,h1,h2,by rw[r1.length,r2.length];exact nE hg.1,λa ha=>hg.2.lst ok (r1.append r2) ha⟩)
 .obtain⟨p,vs,rfl,h1,r1⟩:=rx.sqt ok
  obtain⟨q,us,rfl,h2,r2⟩:=ry.sqt ok;rename_i xs ys;refine .inr (.inr ⟨p,q,vs,us,rfl,rfl,h1,h2,by rw[r1.length,r2.length];exact nE hg.1,λe=>?_,λe=>?_,λa ha=>hg.2.tup ok (r1.append r2) ha⟩)
  .subst e
   cases r1;exact hg.2.now ok ry
  .subst e
   cases r2;rw[p8] at hg;exact hg.2.now ok rx
 .exact hg.elim
def gMul:G2:=λx y Q=>match x,y with
 |.int i,.int j=>pC i j/\Q (.int (i*j))
 |.lst xs,.int k=>k<1000/\-1000<k/\xs.length*k.toNat<=aw/\Q (.lst (List.replicate k.toNat xs).flatten)
 |_,_=>False
theorem gMul.mono:∀x y P P',(∀d,P d->P' d)->gMul x y P->gMul x y P':=λx y P P' hp hg=>by
 unfold gMul at hg ⊢;split at hg
 .exact⟨hg.1,hp _ hg.2⟩
 .exact⟨hg.1,hg.2.1,hg.2.2.1,hp _ hg.2.2.2⟩
 .exact hg.elim
theorem DL{K:Oq}{W:Wd}{vs:List V}{ds:List D}(r:Reps K W vs ds)(n:Nat):Reps K W (List.replicate n vs).flatten (List.replicate n ds).flatten:=by
 induction n with
 |zero=>exact .nil
 |succ n ih=>rw[dJ,dJ,oY,oY];exact r.append ih
theorem dF:fe X (binaryOp .Mult) gMul:=by
 refine⟨⟨_,ZpM.or mR,λW H x y dx dy Q ok rx ry hg=>?_⟩,gMul.mono⟩;unfold gMul at hg;split at hg
 .cases rx;cases ry
  exact .inl ⟨_,_,rfl,rfl,hg.1,hg.2.now ok (.int _)⟩
 .cases ry
  cases rx with
  | @lst l vs _ e r=>
   refine .inr ⟨l,_,vs,rfl,rfl,ok.g _ _ e,by omega,by omega,?_,λp hp=>hg.2.2.2.lst ok (DL r _) hp⟩;rw[r.length];exact nE hg.2.2.1
 .exact hg.elim
theorem Au{vs:List V}{xs:List D}{K:Oq}{W:Wd}(r:Reps K W vs xs){i:Int}{d:D}(h:ee xs i=some d):∃v,ee vs i=some v/\Rep K W v d:=by
 unfold ee at h ⊢;rw[r.length];cases q:lV xs.length i with
 |none=>rw[q] at h;cases h
 |some k=>
  rw[q] at h;obtain⟨v,e,rv⟩:=r.get (show xs[k]? = some d from h);exact⟨v,e,rv⟩
def gIx:G2:=λx y Q=>isI (λi=>match x with
 |.tup xs=>∃d,ee xs i=some d/\Q d
 |.lst xs=>∃d,ee xs i=some d/\Q d
 |.scr xs=>∃d,ee xs i=some d/\Q d
 |_=>False) y
theorem gIx.mono:∀ x y P P',(∀ d,P d->P' d)->gIx x y P->gIx x y P':=λx y P P' hp hg=>isI.mono (λi h=>by
 split at h
 .obtain⟨d,e,q⟩:=h;exact⟨d,e,hp _ q⟩
 .obtain⟨d,e,q⟩:=h;exact⟨d,e,hp _ q⟩
 .obtain⟨d,e,q⟩:=h;exact⟨d,e,hp _ q⟩
 .exact h.elim) y hg
theorem aP:Ao X gIx:=by
 refine⟨⟨_,mO,λW H x y dx dy Q ok rx ry hg=>?_⟩,gIx.mono⟩;obtain⟨i,rfl,h⟩:=rc hg;cases ry;split at h
 .obtain⟨d,e,q⟩:=h
  obtain⟨p,vs,rfl,h1,r1⟩:=rx.sqt ok;obtain⟨v,e1,rv⟩:=Au r1 e;exact .inr (.inl ⟨p,vs,i,v,rfl,rfl,h1,e1,q.now ok rv⟩)
 .obtain⟨d,e,q⟩:=h
  obtain⟨p,vs,rfl,h1,r1⟩:=rx.sql ok;obtain⟨v,e1,rv⟩:=Au r1 e;exact .inl ⟨p,vs,i,v,rfl,rfl,h1,e1,q.now ok rv⟩
 .obtain⟨d,e,q⟩:=h
  obtain⟨p,vs,rfl,h1,r1⟩:=rx.sqs ok;obtain⟨v,e1,rv⟩:=Au r1 e;exact .inl ⟨p,vs,i,v,rfl,rfl,h1,e1,q.now ok rv⟩
 .exact h.elim
theorem Reps.cut{K:Oq}{W:Wd}{vs:List V}{ds:List D}(r:Reps K W vs ds)(lo hi:Option Int):Reps K W (jl vs lo hi) (bn ds lo hi):=by
 unfold jl bn;rw[r.length];exact(r.drop _).take _
theorem Ib{xs:List D}{lo hi:Option Int}(h:HT.sIx xs.length 0 lo=0/\HT.sIx xs.length xs.length hi=xs.length):bn xs lo hi=xs:=by
 unfold bn;rw[h.1,h.2];simp
theorem gCut.mono{lo hi:Option Int}:∀x P P',(∀d,P d->P' d)->gCut x lo hi P->gCut x lo hi P':=λx P P' hp hg=>by
 unfold gCut at hg ⊢;split at hg
 .exact hp _ hg
 .exact hp _ hg
 .exact hp _ hg
 .exact hg.elim
def aJ(wa:WE)(wl wh:(Ex->Prop)->aN->(Option Int->Prop)->Prop):WE:=λE ρ Q=>wa E ρ λx=>wl E ρ λl=>wh E ρ λh=>gCut x l h Q
theorem fQ{lo hi:Option Expr}{wl wh}(ha:PX X EX a wa)(hl:sr X EX lo wl)(hh:sr X EX hi wh):PX X EX (.Subscript a (.Slice lo hi none p2) pos) (aJ wa wl wh):=by
 obtain⟨ta,pa,ka⟩:=ha.t;obtain⟨tl,pl,kl⟩:=hl.t;obtain⟨th,ph,kh⟩:=hh.t;refine⟨⟨_,mM (sl_list.or (sl_tup.or HR)) pa pl ph,λW0 H0 W σ H ρ E Q s eo h=>?_⟩,λE ρ P P' hp h=>ha.mono _ _ _ _ (λx hx=>hl.mono _ _ _ _ (λl hl'=>hh.mono _ _ _ _ (λu hu=>gCut.mono x _ _ hp hu) hl') hx) h⟩;refine ka W0 H0 W σ H ρ E _ s eo (ha.mono _ _ _ _ (λdx hx v W1 H1 x1 r1=>?_) h);refine kl W0 H0 W1 σ H1 ρ E _ (s.step x1) eo (hl.mono _ _ _ _ (λl hl' W2 H2 x2=>?_) hx);refine kh W0 H0 W2 σ H2 ρ E _ ((s.step x1).step x2) eo (hh.mono _ _ _ _ (λu hu W3 H3 x3=>?_) hl');have r3:=(x2.trans x3).rep r1;have hu':=gCut.mono dx _ _ (λd hd=>RQ.ext hd (x1.trans (x2.trans x3))) hu;unfold gCut at hu';split at hu'
 .obtain⟨p,vs,rfl,h1,rr⟩:=r3.sqt x3.ok
  rename_i xs
  by_cases hw:HT.sIx vs.length 0 l=0/\HT.sIx vs.length vs.length u=vs.length
  .refine .inr (.inr ⟨p,vs,rfl,h1,hw,?_⟩)
   rw[rr.length] at hw;rw[Ib hw] at hu';exact hu'.now x3.ok r3
  .exact .inr (.inl ⟨p,vs,rfl,h1,hw,λq hq=>hu'.tup x3.ok (rr.cut l u) hq⟩)
 .obtain⟨p,vs,rfl,h1,rr⟩:=r3.sql x3.ok
  exact .inl ⟨p,vs,rfl,h1,λq hq=>hu'.lst x3.ok (rr.cut l u) hq⟩
 .obtain⟨p,vs,rfl,h1,rr⟩:=r3.sqs x3.ok
  exact .inl ⟨p,vs,rfl,h1,λq hq=>hu'.lst x3.ok (rr.cut l u) hq⟩
 .exact hu'.elim
def gRev:D->(D->Prop)->Prop:=λx Q=>match x with
 |.tup xs=>Q (.tup xs.reverse)
 |.lst xs=>Q (.lst xs.reverse)
 |_=>False
theorem gRev.mono:∀x P P',(∀d,P d->P' d)->gRev x P->gRev x P':=λx P P' hp hg=>by
 unfold gRev at hg ⊢;split at hg
 .exact hp _ hg
 .exact hp _ hg
 .exact hg.elim
theorem xj{j pos3 pos4}(ha:PX X EX a wa):PX X EX (.Subscript a (.Slice none none (some (.UnaryOp .USub (.Constant (.int 1) j pos3) pos4)) p2) pos) (w1 gRev wa):=by
 obtain⟨ta,pa,ka⟩:=ha.t;refine⟨⟨_,HU pa,λW0 H0 W σ H ρ E Q s eo h=>?_⟩,λE ρ P P' hp h=>ha.mono _ _ _ _ (λx hx=>gRev.mono x _ _ hp hx) h⟩;refine ka W0 H0 W σ H ρ E _ s eo (ha.mono _ _ _ _ (λdx hx v W1 H1 x1 r1=>?_) h);have hu':=gRev.mono dx _ _ (λd hd=>RQ.ext hd x1) hx;unfold gRev at hu';split at hu'
 .obtain⟨p,vs,rfl,h1,rr⟩:=r1.sqt x1.ok
  exact⟨p,vs,rfl,.inl ⟨h1,λq hq=>hu'.tup x1.ok rr.rev hq⟩⟩
 .obtain⟨p,vs,rfl,h1,rr⟩:=r1.sql x1.ok
  exact⟨p,vs,rfl,.inr ⟨h1,λq hq=>hu'.lst x1.ok rr.rev hq⟩⟩
 .exact hu'.elim
def bA:List D->(D->Prop)->Prop:=λds Q=>match ds with
 |[.tup xs]=>Q (.int xs.length)
 |[.lst xs]=>Q (.int xs.length)
 |[.scr xs]=>Q (.int xs.length)
 |_=>False
theorem fS:dZ X (.builtin "len") bA:=by
 refine⟨⟨_,gP,λW H vs ds Q ok r hg=>?_⟩,λds P P' hp hg=>?_⟩
 .unfold bA at hg
  split at hg
  .obtain⟨v,rfl,rv⟩:=r.one
   obtain⟨p,us,rfl,h1,rr⟩:=rv.sqt ok;exact⟨p,us,rfl,.inr h1,by rw[rr.length];exact hg.now ok (.int _)⟩
  .obtain⟨v,rfl,rv⟩:=r.one
   obtain⟨p,us,rfl,h1,rr⟩:=rv.sql ok;exact⟨p,us,rfl,.inl h1,by rw[rr.length];exact hg.now ok (.int _)⟩
  .obtain⟨v,rfl,rv⟩:=r.one
   obtain⟨p,us,rfl,h1,rr⟩:=rv.sqs ok;exact⟨p,us,rfl,.inl h1,by rw[rr.length];exact hg.now ok (.int _)⟩
  .exact hg.elim
 .unfold bA at hg ⊢
  split at hg
  .exact hp _ hg
  .exact hp _ hg
  .exact hp _ hg
  .exact hg.elim
def fh{α:Type}:List D->(List D->Prop)->Prop:=λds Q=>match ds with
 |[.tup xs]=>Q xs
 |[.lst xs]=>Q xs
 |[.scr xs]=>Q xs
 |_=>False
theorem Av:pB X (.type "list") (fh (α:=Unit)):=by
 refine⟨⟨_,gQ,λW H vs ds Q ok r hg=>?_⟩,λds P P' hp hg=>?_⟩
 .unfold fh at hg
  split at hg
  .obtain⟨v,rfl,rv⟩:=r.one
   obtain⟨p,us,rfl,h1,rr⟩:=rv.sqt ok;exact⟨p,us,rfl,.inr h1,λl hl=>hg l us hl rr⟩
  .obtain⟨v,rfl,rv⟩:=r.one
   obtain⟨p,us,rfl,h1,rr⟩:=rv.sql ok;exact⟨p,us,rfl,.inl h1,λl hl=>hg l us hl rr⟩
  .obtain⟨v,rfl,rv⟩:=r.one
   obtain⟨p,us,rfl,h1,rr⟩:=rv.sqs ok;exact⟨p,us,rfl,.inl h1,λl hl=>hg l us hl rr⟩
  .exact hg.elim
 .unfold fh at hg ⊢
  split at hg
  .exact hp _ hg
  .exact hp _ hg
  .exact hp _ hg
  .exact hg.elim
def gR:List D->(D->Prop)->Prop:=λds Q=>match ds with
 |[.tup xs]=>Q (.tup xs)
 |[.lst xs]=>Q (.tup xs)
 |_=>False
theorem nI:dZ X (.type "tuple") gR:=by
 refine⟨⟨_,fN,λW H vs ds Q ok r hg=>?_⟩,λds P P' hp hg=>?_⟩
 .unfold gR at hg
  split at hg
  .obtain⟨v,rfl,rv⟩:=r.one
   obtain⟨p,us,rfl,h1,rr⟩:=rv.sqt ok;exact⟨p,us,rfl,.inr ⟨h1,hg.now ok rv⟩⟩
  .obtain⟨v,rfl,rv⟩:=r.one
   obtain⟨p,us,rfl,h1,rr⟩:=rv.sql ok;exact⟨p,us,rfl,.inl ⟨h1,λl hl=>hg.tup ok rr hl⟩⟩
  .exact hg.elim
 .unfold gR at hg ⊢
  split at hg
  .exact hp _ hg
  .exact hp _ hg
  .exact hg.elim
def gS:List D->(D->Prop)->Prop:=λds Q=>match ds with
 |[.int i]=>Q (.int (if i<0 then -i else i))
 |_=>False
theorem Aw:dZ X (.builtin "abs") gS:=by
 refine⟨⟨_,mI,λW H vs ds Q ok r hg=>?_⟩,λds P P' hp hg=>?_⟩
 .unfold gS at hg
  split at hg
  .obtain⟨v,rfl,rv⟩:=r.one
   cases rv;exact⟨_,rfl,hg.now ok (.int _)⟩
  .exact hg.elim
 .unfold gS at hg ⊢
  split at hg
  .exact hp _ hg
  .exact hg.elim
def j9:List D->(D->Prop)->Prop:=λds Q=>match ds with
 |[.int i,.int j]=>Q (.int (if j>i then j else i))
 |_=>False
theorem uL(hc:X.calm=true):dZ X (.builtin "max") j9:=by
 refine⟨⟨_,lj hc,λW H vs ds Q ok r hg=>?_⟩,λds P P' hp hg=>?_⟩
 .unfold j9 at hg
  split at hg
  .obtain⟨v,u,rfl,rv,ru⟩:=r.two
   cases rv;cases ru;exact⟨_,_,rfl,hg.now ok (.int _)⟩
  .exact hg.elim
 .unfold j9 at hg ⊢
  split at hg
  .exact hp _ hg
  .exact hg.elim
def fT:List D->(D->Prop)->Prop:=λds Q=>match ds with
 |[.int i]=>Q (.int i)
 |[.bl b]=>Q (.int (if b then 1 else 0))
 |_=>False
theorem Ax:dZ X (.type "int") fT:=by
 refine⟨⟨_,lm,λW H vs ds Q ok r hg=>?_⟩,λds P P' hp hg=>?_⟩
 .unfold fT at hg
  split at hg
  .obtain⟨v,rfl,rv⟩:=r.one
   cases rv;exact .inl ⟨_,rfl,hg.now ok (.int _)⟩
  .obtain⟨v,rfl,rv⟩:=r.one
   cases rv;exact .inr ⟨_,rfl,hg.now ok (.int _)⟩
  .exact hg.elim
 .unfold fT at hg ⊢
  split at hg
  .exact hp _ hg
  .exact hp _ hg
  .exact hg.elim
def xk:D->Option String
 |.non=>some "NoneType" |.bl _=>some "bool" |.int _=>some "int" |.str _=>some "str" |.tup _=>some "tuple" |.lst _=>some "list" |.dic=>some "dict"
 |.pen=>none|.cls _=>none|.exc _=>none|.ty _=>none|.scr _=>none
def lC(t T:String):Bool:=t==T||(t == "bool" && T == "int")
def xm:List String:=["int", "bool", "str", "tuple", "list"]
theorem Ic(K:Oq){d:D}{t T:String}(ht:xk d=some t)(hT:T∈xm):PySem.W.kitOne K (.type t) (.type T)=some (lC t T):=by
 simp only[xm,Yaq,gh,or_false] at hT;cases d<;>first
  |(cases ht;done)
  |(cases ht;rcases hT with rfl|rfl|rfl|rfl|rfl<;>rfl)
def gIs:List D->(D->Prop)->Prop:=λds Q=>match ds with
 |[x,.ty T]=>∃t,xk x=some t/\T∈xm/\Q (.bl (lC t T))
 |_=>False
theorem gIs.mono:∀ds P P',(∀d,P d->P' d)->gIs ds P->gIs ds P':=λds P P' hp hg=>by
 unfold gIs at hg ⊢;split at hg
 .obtain⟨t,h1,h2,h3⟩:=hg;exact⟨t,h1,h2,hp _ h3⟩
 .exact hg.elim
theorem su:dZ X (.builtin "isinstance") gIs:=by
 refine⟨⟨λvs H Q=>∃W ds,WOk W H/\Reps X.K W vs ds/\gIs ds (RQ X.K W H Q),?_,λW H vs ds Q ok r hg=>⟨W,ds,ok,r,hg⟩⟩,gIs.mono⟩;rintro pins s σ H vs us Q I rv ⟨W,ds,ok,rs,hg⟩;unfold gIs at hg;split at hg
 .rename_i x T
  obtain⟨t,h1,h2,q⟩:=hg;obtain⟨v,w',rfl,r1,r2⟩:=rs.two;cases r2;obtain⟨u,u2,rfl,ru,ru2⟩:=pj rv;obtain rfl:u2=Value.type T:=ru2;have e:=Ic X.K h1 h2;have fin:∀tk,EP X pins σ Q (.bool (lC t T)) { s with toks:=tk }:=λtk=>⟨.bl _,H,I.tok tk,rfl,q.now ok (.bl _)⟩;cases r1 with
  |non=>cases h1;cases ru;exact PySem.W.kia_one PySem.W.kitx_none I.kIn True.intro e (λz=>nomatch z) fin
  |bl b=>cases h1;cases ru;exact PySem.W.kia_one PySem.W.kitx_bool I.kIn True.intro e (λz=>nomatch z) fin
  |int i=>cases h1;obtain⟨t',rfl⟩:=ru;exact PySem.W.kia_one PySem.W.kitx_int I.kIn True.intro e (λz=>nomatch z) fin
  |str i=>cases h1;obtain⟨t',rfl⟩:=ru;exact PySem.W.kia_one PySem.W.kitx_str I.kIn True.intro e (λz=>nomatch z) fin
  |tup e0 rr=>
   cases h1;cases ru;obtain⟨its,_,⟨o,h1,h2,_⟩,_⟩:=I.tuple (SqT.of (ok.g _ _ e0));exact PySem.W.kia_one PySem.W.kitx_tuple I.kIn ⟨o,h1,h2⟩ e (λz=>nomatch z) fin
  |ktup e0 rr=>
   cases h1;cases ru;obtain⟨its,_,⟨o,h1,h2,_⟩,_⟩:=I.tuple (.inr e0);exact PySem.W.kia_one PySem.W.kitx_tuple I.kIn ⟨o,h1,h2⟩ e (λz=>nomatch z) fin
  |lst e0 rr=>
   cases h1;cases ru;obtain⟨its,_,⟨o,n,h1,h2,_⟩,_⟩:=I.list (SqL.of (ok.g _ _ e0));exact PySem.W.kia_one PySem.W.kitx_list I.kIn ⟨o,h1,h2⟩ e (λz=>nomatch z) fin
  | @dic a e0=>
   cases h1;cases ru;obtain⟨_,_,vs,_,p⟩:=(show ObjOk X.prog X.w H s.heap a (.dK []) from I.hok a _ (ok.g _ _ e0))
   obtain⟨o,es,ep,h1,h2,_⟩:=p;exact PySem.W.kia_one PySem.W.kitx_dict I.kIn ⟨o,h1,h2.1⟩ e (λz=>nomatch z) fin
  |pen _=>cases h1
  |cls _=>cases h1
  |exc _ _=>cases h1
  |ty _=>cases h1
  |scr _ _=>cases h1
 .exact hg.elim
theorem Id(hc:X.calm=true):CallR X (.builtin "all") (λxs H Q=>∃(p:Addr) (bs:List Bool),xs=[.ref p]/\SqL X.K H p (bs.map V.bl)/\Q (.bl (bs.all id)) H):=by
 intro pins s σ H xs us Q I r h;obtain⟨p,bs,rfl,hq,q⟩:=h;obtain⟨u,rfl,ru⟩:=eE r;cases ru;obtain⟨its,rv,pl,hz⟩:=I.list hq;have hpl:p<s.heap.objs.size:=by obtain⟨o,n,e,_⟩:=pl;exact bX e
 have hits:its=bs.map Value.bool:=by
  clear hz pl hq q
  induction bs generalizing its with
  |nil=>cases rv;rfl
  |cons b bs ih=>
   cases rv with
   |cons r1 r2=>
    obtain rfl:_=Value.bool b:=r1;rw[bL,ih _ r2]
 subst hits;refine call_all_walk (wpAny_pyIter_list pl.isList ?_);have hh:X.A.in1.handled=none:=I.ok.hd hc;refine⟨s.heap.objs.size,_,_,_,_,_,λi=>(bs[i]?).getD true,rfl,Walks.list hh _ p (eJ hpl) (bs.map Value.bool).toArray,⟨⟨_,eV _ rfl,rfl,rfl⟩,pl.isList.at λo e=>bZ _ e⟩,λi v s' Q' E' hP hQ=>?_,λh' tk hk=>?_⟩
 .have hP':(bs.map Value.bool)[i]? = some v:=by simpa using hP
  rw[cc] at hP';cases e:bs[i]? with
  |none=>rw[e] at hP';cases hP'
  |some b=>
   rw[e] at hP';have:v=Value.bool b:=(Ow hP').symm;subst this;refine OH ?_;have e2:(bs[i]?).getD true=b:=by rw[e];rfl
   dsimp only at hQ;rw[e2] at hQ;exact hQ
 .have e:((List.range (bs.map Value.bool).toArray.size).all λi=>(bs[i]?).getD true)=bs.all id:=by
   rw[dL,aW,jN,Ybh,Ybh];constructor
   .intro h b hb
    obtain⟨i,hi,e⟩:=Ybm.mp hb;have:=h i (Yaj.mpr hi);rw[bG hi] at this;rw[<-e];exact this
   .intro h i hi
    have hi':=Yaj.mp hi;rw[bG hi'];exact h _ (qd hi')
  rw[e];refine⟨.bl (bs.all id),H,?_,rfl,q⟩;refine I.kept λb o e=>hk b o ?_ (bZ _ e);intro z;have:b=s.heap.objs.size:=by simpa using z
  exact Ot (bX e) (by rw[this];exact f9 _)
def jq:List D->(D->Prop)->Prop:=λds Q=>match ds with
 |[.lst xs]=>∃bs:List Bool,xs=bs.map D.bl/\Q (.bl (bs.all id))
 |_=>False
theorem DM{K:Oq}{W:Wd}:∀{vs:List V} {bs:List Bool},Reps K W vs (bs.map D.bl)->vs=bs.map V.bl
 |_,[],.nil=>rfl
 |_,b::bs,.cons r t=>by cases r;rw[bL,DM t]
theorem xn(hc:X.calm=true):dZ X (.builtin "all") jq:=by
 refine⟨⟨_,Id hc,λW H vs ds Q ok r hg=>?_⟩,λds P P' hp hg=>?_⟩
 .unfold jq at hg
  split at hg
  .obtain⟨bs,rfl,q⟩:=hg
   obtain⟨v,rfl,rv⟩:=r.one;obtain⟨p,us,rfl,h1,rr⟩:=rv.sql ok;rw[DM rr] at h1;exact⟨p,bs,rfl,h1,q.now ok (.bl _)⟩
  .exact hg.elim
 .unfold jq at hg ⊢
  split at hg
  .obtain⟨bs,e,q⟩:=hg;exact⟨bs,e,hp _ q⟩
  .exact hg.elim
variable {K:Oq}{W0:Wd}{H0:Hp}{ρ:aN}
theorem SOk.set(s:SOk K W0 H0 W σ H ρ){i:Nat}{v:V}{x:D}(r:Rep K W v x):SOk K W0 H0 W (σ.set i (some v)) H (ρ.set i (.d x)) where
 ext:=s.ext
 len:=by rw[dI,dI];exact s.len
 d:=λj y e=>by
  by_cases h:i=j
  .subst h
   by_cases hi:i<ρ.length
   .rw[d9 hi] at e
    cases e;exact⟨v,d9 (by rw[<-s.len];exact hi),r⟩
   .rw[dN (by rw[dI];omega)] at e;cases e
  .rw[dD h] at e ⊢;exact s.d j y e
 o:=λj ys e=>by
  by_cases h:i=j
  .subst h
   by_cases hi:i<ρ.length
   .rw[d9 hi] at e;cases e
   .rw[dN (by rw[dI];omega)] at e;cases e
  .rw[dD h] at e ⊢;exact s.o j ys e
 ne:=λj k xs ys a hjk e1 e2 e3=>by
  have nj:i≠j:=λh=>by
   subst h
   by_cases hi:i<ρ.length
   .rw[d9 hi] at e1;cases e1
   .rw[dN (by rw[dI];omega)] at e1;cases e1
  have nk:i≠k:=λh=>by
   subst h
   by_cases hi:i<ρ.length
   .rw[d9 hi] at e2;cases e2
   .rw[dN (by rw[dI];omega)] at e2;cases e2
  rw[dD nj] at e1 e3;rw[dD nk] at e2 ⊢;exact s.ne j k xs ys a hjk e1 e2 e3
 oo:=s.oo.set (λ_ h=>by cases h) (λj h=>dD h) λ_ _ h=>by cases h
theorem SOk.own{W1:Wd}{H1:Hp}(s1:SOk K W0 H0 W1 σ H1 ρ)(x:Ext W1 H1 W H){i:Nat}{a:Addr}{vs:List V}{xs:List D}(hz:H1 a=none)(h1:H a=some (.lst vs))(h2:W.G a=none)(h3:¬W.Pn a)(r:Reps K W vs xs):SOk K W0 H0 W (σ.set i (some (.ref a))) H (ρ.set i (.ow xs)):=by
 have s:=s1.step x;have h4:H0 a=none:=s1.ext.isN hz;have hn:∀(j:Nat) ys b,j≠i->ρ[j]? = some (SV.ow ys)->σ[j]? = some (some (V.ref b))->b≠a:=λj ys b _ ej eb q=>by
  obtain⟨b',us,q1,q2,_⟩:=s1.o j ys ej;rw[eb] at q1;cases q1;rw[q,hz] at q2;cases q2
 exact{
  ext:=s.ext
  len:=by rw[dI,dI];exact s.len
  d:=λj y e=>by
    by_cases h:i=j
    · subst h
      by_cases hi:i<ρ.length
      · rw[d9 hi] at e;cases e
      · rw[dN (by rw[dI];omega)] at e;cases e
    · rw[dD h] at e ⊢;exact s.d j y e
  o:=λj ys e=>by
    by_cases h:i=j
    · subst h
      by_cases hi:i<ρ.length
      · rw[d9 hi] at e
        cases e;exact⟨a,vs,d9 (by rw[<-s.len];exact hi),h1,h2,h3,h4,r⟩
      · rw[dN (by rw[dI];omega)] at e;cases e
    · rw[dD h] at e ⊢;exact s.o j ys e
  ne:=λj k ys zs b hjk e1 e2 e3 e4=>by
    by_cases hj:i=j
    · subst hj
      by_cases hi:i<ρ.length
      · rw[d9 (by rw[<-s.len];exact hi)] at e3
        cases e3;rw[dD hjk] at e2 e4;exact hn k zs _ (Oy hjk) e2 e4 rfl
      · rw[dN (by rw[dI];omega)] at e1;cases e1
    · by_cases hk:i=k
      · subst hk
        by_cases hi:i<ρ.length
        · rw[d9 (by rw[<-s.len];exact hi)] at e4
          cases e4;rw[dD hj] at e1 e3;exact hn j ys _ (Oy hj) e1 e3 rfl
        · rw[dN (by rw[dI];omega)] at e2;cases e2
      · rw[dD hj] at e1 e3
        rw[dD hk] at e2 e4;exact s.ne j k ys zs b hjk e1 e2 e3 e4
  oo:=by
    refine⟨λj xss e=>?_,λj k xss yss e1 e2=>?_⟩
    · have h:i≠j:=λh=>by
        subst h
        by_cases hi:i<ρ.length
        · rw[d9 hi] at e;cases e
        · rw[dN (by rw[dI];omega)] at e;cases e
      rw[dD h] at e;obtain⟨a',bs,e1,q,n⟩:=s1.oo.t j xss e;refine⟨a',bs,by rw[dD h];exact e1,q.step x,λk ys c ek ec=>?_⟩
      by_cases hk:i=k
      · subst hk
        by_cases hi:i<ρ.length
        · rw[d9 (by rw[<-s.len];exact hi)] at ec
          cases ec;exact q.here hz
        · rw[dN (by rw[dI];omega)] at ek;cases ek
      · rw[dD hk] at ek ec
        exact n k ys c ek ec
    · have g:∀ {j:Nat} {xss:List (List D)},(ρ.set i (.ow xs))[j]? = some (SV.oo xss)->ρ[j]? = some (SV.oo xss):=fun {j xss} e=>by
        by_cases h:i=j
        · subst h
          by_cases hi:i<ρ.length
          · rw[d9 hi] at e;cases e
          · rw[dN (by rw[dI];omega)] at e;cases e
        · rw[dD h] at e;exact e
      exact s.oo.u j k xss yss (g e1) (g e2) }
def pub(i:Nat)(ρ:aN):aN:=match ρ[i]? with
 |some (.ow xs)=>ρ.set i (.d (.lst xs))
 |_=>ρ
theorem SOk.pub(s:SOk K W0 H0 W σ H ρ)(i:Nat):∃W',SOk K W0 H0 W' σ H (LP.pub i ρ)/\Wle W W':=by
 unfold LP.pub;split
 .rename_i xs e
  obtain⟨a,vs,e1,e2,e3,e4,e5,r⟩:=s.o i xs e;have hi:i<ρ.length:=(Yas.mp e).1;refine⟨W.put a (.lst vs),⟨s.ext.pub e5 e2 e4 e3,by rw[dI];exact s.len,λj y ej=>?_,λj ys ej=>?_,λj k ys zs b hjk ej ek e6=>?_,?_⟩,⟨oC e3,λ_ z=>z⟩⟩
  .by_cases h:i=j
   .subst h
    rw[d9 hi] at ej;cases ej;exact⟨_,e1,.lst (by unfold Wd.put;dsimp only;rw[ao]) (r.mono (oC e3) λ_ z=>z)⟩
   .rw[dD h] at ej
    obtain⟨v,q1,q2⟩:=s.d j y ej;exact⟨v,q1,q2.mono (oC e3) λ_ z=>z⟩
  .have h:i≠j:=λh=>by subst h;rw[d9 hi] at ej;cases ej
   rw[dD h] at ej;obtain⟨b,us,q1,q2,q3,q4,q5,rr⟩:=s.o j ys ej;have hba:b≠a:=λz=>s.ne i j xs ys a h e ej e1 (by rw[<-z];exact q1);refine⟨b,us,q1,q2,?_,q4,q5,rr.mono (oC e3) λ_ z=>z⟩;unfold Wd.put;dsimp only;rw[af hba];exact q3
  .have h:i≠j:=λh=>by subst h;rw[d9 hi] at ej;cases ej
   have h':i≠k:=λh=>by subst h;rw[d9 hi] at ek;cases ek
   rw[dD h] at ej;rw[dD h'] at ek;exact s.ne j k ys zs b hjk ej ek e6
  .exact OOs.set ⟨λj xss ej=>let⟨a',bs,q1,q,n⟩:=s.oo.t j xss ej;⟨a',bs,q1,q.put (n i xs a e e1) e3,n⟩,s.oo.u⟩ (λ_ h=>by cases h) (λ_ _=>rfl) λ_ _ h=>by cases h
 .exact⟨W,s,.refl W⟩
theorem SOk.chg(s:SOk K W0 H0 W σ H ρ){i:Nat}{a:Addr}{xs ys:List D}{us:List V}(e:ρ[i]? = some (.ow xs))(e1:σ[i]? = some (some (.ref a)))(r:Reps K W us ys):SOk K W0 H0 W σ (upd H a (.lst us)) (ρ.set i (.ow ys)):=by
 obtain⟨a',vs,q1,q2,q3,q4,q5,rr⟩:=s.o i xs e;rw[e1] at q1;cases q1;have hi:i<ρ.length:=(Yas.mp e).1;refine⟨s.ext.chg q5 q2 q4 q3,by rw[dI];exact s.len,λj y ej=>?_,λj zs ej=>?_,λj k ys' zs b hjk ej ek e6=>?_,OOs.set ⟨λj xss ej=>let⟨a',bs,p1,q,n⟩:=s.oo.t j xss ej;⟨a',bs,p1,q.upd (n i xs a e e1),n⟩,s.oo.u⟩ (λ_ h=>by cases h) (λ_ _=>rfl) λys c _ ec j xss a' bs _ ej ea _ n=>n i xs c e ec⟩
 .have h:i≠j:=λh=>by subst h;rw[d9 hi] at ej;cases ej
  rw[dD h] at ej;exact s.d j y ej
 .by_cases h:i=j
  .subst h
   rw[d9 hi] at ej;cases ej;exact⟨a,us,e1,ao,q3,q4,q5,r⟩
  .rw[dD h] at ej
   obtain⟨b,ws,p1,p2,p3,p4,p5,pr⟩:=s.o j zs ej;have hba:b≠a:=λz=>s.ne i j xs zs a h e ej e1 (by rw[<-z];exact p1);exact⟨b,ws,p1,by rw[af hba];exact p2,p3,p4,p5,pr⟩
 .by_cases h:i=j
  .subst h
   rw[dD hjk] at ek;exact s.ne i k xs zs b hjk e ek e6
  .rw[dD h] at ej
   by_cases h':i=k
   .subst h'
    intro z;exact s.ne i j xs ys' b h e ej z e6
   .rw[dD h'] at ek
    exact s.ne j k ys' zs b hjk ej ek e6
variable {st:Stmt}{rest:List Stmt}{e b c:Expr}{w wb:WE}{z z':WS}
def bD:WS:=λ_ N ρ=>N.nx ρ
def ai(z z':WS):WS:=λE N ρ=>z E { N with nx:=z' E N } ρ
theorem Nds.le_nx{N N':Nds}(h:N.le N'){n n':aN->Prop}(hn:∀ρ,n ρ->n' ρ):Nds.le { N with nx:=n } { N' with nx:=n' }:=⟨hn,h.rt,h.bk,h.ct⟩
theorem cZ:lA X EX [] bD:=⟨⟨_,nX,λ_ _ _ W σ H ρ _ Dn N s fl _ no h=>no.nx W σ H ρ s fl h⟩,λ_ _ _ _ hl h=>hl.nx _ h⟩
theorem aD(h1:PZ X EX st z)(h2:lA X EX rest z'):lA X EX (st::rest) (ai z z'):=by
 obtain⟨t1,p1,k1⟩:=h1.t;obtain⟨t2,p2,k2⟩:=h2.t;refine⟨⟨_,mn p1 p2,λW0 H0 F W σ H ρ E Dn N s fl eo no h=>?_⟩,λE ρ N N' hl h=>h1.mono _ _ _ _ (Nds.le_nx hl λρ' h'=>h2.mono _ _ _ _ hl h') h⟩;exact k1 W0 H0 F W σ H ρ E _ { N with nx:=z' E N } s fl eo ⟨λW1 σ1 H1 ρ1 s1 f1 hn=>k2 W0 H0 F W1 σ1 H1 ρ1 E Dn N s1 f1 eo no hn,no.rt,no.bk,no.ct⟩ h
theorem aE(h1:PZ X EX st z):lA X EX [st] z:=by
 obtain⟨t1,p1,k1⟩:=h1.t;exact⟨⟨_,kF p1,k1⟩,h1.mono⟩
def aT(i:Nat)(z:WS):WS:=λE N ρ=>z E N (pub i ρ)
theorem ke(i:Nat){sts:List Stmt}(h:lA X EX sts z):lA X EX sts (aT i z):=by
 obtain⟨t,p,k⟩:=h.t;refine⟨⟨t,p,λW0 H0 F W σ H ρ E Dn N s fl eo no h=>?_⟩,λE ρ N N' hl q=>h.mono _ _ _ _ hl q⟩;obtain⟨W',s',f'⟩:=s.pub i;exact k W0 H0 F W' σ H _ E Dn N s' (fl.trans f') eo no h
def dg(w:WE):WS:=λE N ρ=>w E ρ λ_=>N.nx ρ
theorem mW(he:PX X EX e w)(hs:swapsWith e none pos.line X.env=pure false:=by rfl):PZ X EX (.Expr e pos) (dg w):=by
 obtain⟨t,p,k⟩:=he.t;refine⟨⟨_,kG p hs,λW0 H0 F W σ H ρ E Dn N s fl eo no h=>?_⟩,λE ρ N N' hl q=>he.mono _ _ _ _ (λ_=>hl.nx ρ) q⟩;exact k W0 H0 W σ H ρ E _ s eo (he.mono _ _ _ _ (λd hd v W1 H1 x1 r1=>no.nx W1 σ H1 ρ (s.step x1) (fl.ext x1) hd) h)
def aj(w:WE):WS:=λE N ρ=>w E ρ N.rt
theorem aO(he:PX X EX e w):PZ X EX (.Return (some e) pos) (aj w):=by
 obtain⟨t,p,k⟩:=he.t;refine⟨⟨_,qB p,λW0 H0 F W σ H ρ E Dn N s fl eo no h=>?_⟩,λE ρ N N' hl q=>he.mono _ _ _ _ hl.rt q⟩;exact k W0 H0 W σ H ρ E _ s eo (he.mono _ _ _ _ (λd hd v W1 H1 x1 r1=>no.rt d v W1 H1 (s.ext.trans x1) r1 hd) h)
def bE(w:WT)(z z':WS):WS:=λE N ρ=>w E ρ λb=>if b=true then z E N ρ else z' E N ρ
theorem c5{w:WT}{as bs:List Stmt}(hc:kM X EX c w)(ha:lA X EX as z)(hb:lA X EX bs z'):PZ X EX (.If c as bs pos) (bE w z z'):=by
 obtain⟨t,p,k⟩:=hc.t;obtain⟨ta,pa,ka⟩:=ha.t;obtain⟨tb,pb,kb⟩:=hb.t;refine⟨⟨_,uc p pa pb,λW0 H0 F W σ H ρ E Dn N s fl eo no h=>?_⟩,λE ρ N N' hl q=>hc.mono _ _ _ _ (λb hb'=>?_) q⟩
 .refine k W0 H0 W σ H ρ E _ s eo (hc.mono _ _ _ _ (λb hb' W1 H1 x1=>?_) h)
  cases b with
  |true=>rw[if_pos rfl] at hb' ⊢;exact ka W0 H0 F W1 σ H1 ρ E Dn N (s.step x1) (fl.ext x1) eo no hb'
  |false=>rw[if_neg (by decide)] at hb' ⊢;exact kb W0 H0 F W1 σ H1 ρ E Dn N (s.step x1) (fl.ext x1) eo no hb'
 .cases b with
  |true=>rw[if_pos rfl] at hb' ⊢;exact ha.mono _ _ _ _ hl hb'
  |false=>rw[if_neg (by decide)] at hb' ⊢;exact hb.mono _ _ _ _ hl hb'
def ax(i:Nat)(w:WE):WS:=λE N ρ=>w E ρ λx=>N.nx (ρ.set i (.d x))
theorem bH(i:Nat){x:Str}{pos':Pos}(he:PX X EX e w)(hN:X.N.Nodup)(hi:X.N[i]? = some x:=by rfl)(hx:ml X.env.scope x:=by first|exact Or.inl rfl|exact Or.inr rfl)(hs:swapsWith e (some (.Name x pos')) pos.line X.env=pure false:=by rfl)
  (hf:X.fn x=true\/X.env.scope.names.lookup x=some .local:=by first|exact .inl rfl|exact .inr rfl|assumption):PZ X EX (.Assign [.Name x pos'] e pos) (ax i w):=by
 obtain⟨t,p,k⟩:=he.t;refine⟨⟨_,gI hN hi hx p hs hf,λW0 H0 F W σ H ρ E Dn N s fl eo no h=>?_⟩,λE ρ N N' hl q=>he.mono _ _ _ _ (λ_=>hl.nx _) q⟩;exact k W0 H0 W σ H ρ E _ s eo (he.mono _ _ _ _ (λd hd v W1 H1 x1 r1=>no.nx W1 _ H1 _ ((s.step x1).set r1) (fl.ext x1) hd) h)
def aZ(i:Nat)(t:WA):WS:=λE N ρ=>t E ρ λxs=>N.nx (ρ.set i (.ow xs))
theorem pH(i:Nat){t:WA}{x:Str}{pos':Pos}(he:PXL X EX e t)(hN:X.N.Nodup)(hi:X.N[i]? = some x:=by rfl)(hx:ml X.env.scope x:=by first|exact Or.inl rfl|exact Or.inr rfl)(hs:swapsWith e (some (.Name x pos')) pos.line X.env=pure false:=by rfl)
  (hf:X.fn x=true\/X.env.scope.names.lookup x=some .local:=by first|exact .inl rfl|exact .inr rfl|assumption):PZ X EX (.Assign [.Name x pos'] e pos) (aZ i t):=by
 obtain⟨t,p,k⟩:=he.t;refine⟨⟨_,gI hN hi hx p hs hf,λW0 H0 F W σ H ρ E Dn N s fl eo no h=>?_⟩,λE ρ N N' hl q=>he.mono _ _ _ _ (λ_=>hl.nx _) q⟩;refine k W0 H0 W σ H ρ E _ s eo (he.mono _ _ _ _ (λxs hd a vs W1 H1 x1 e1 e2 e3 e4 r1=>no.nx W1 _ H1 _ (s.own x1 e4 e1 e2 e3 r1) (fl.ext x1) hd) h)
def mX(K:Oq)(W:Wd)(J:It)(ds:List D):Prop:=
 ∀W2 H2 (i:Nat),(∀a o,W.G a=some o->W2.G a=some o)->(∀a,W.Pn a->W2.Pn a)->WOk W2 H2->
  (∀d,ds[i]? = some d->J.go i H2/\∀x H3,J.yld i H2 x H3->∃W3,Ext W2 H2 W3 H3/\Rep K W3 x d)/\(ds.length<=i->J.stop i H2)
structure lD(X:Cx)(EX:XK)(tg iter:Expr)(w:WA):Prop where
 t:∃t,PI X tg iter t/\∀W0 H0 W σ H ρ E R,SOk X.K W0 H0 W σ H ρ->kL X.K W0 H0 E EX->w E ρ (λds=>∀W' H' J,Ext W H W' H'->mX X.K W' J ds->R J H')->t σ H R
 mono:∀E ρ P P',(∀d,P d->P' d)->w E ρ P->w E ρ P'
variable {p:Pos}{tg:Expr}
def isL(Q:List D->Prop):D->Prop
 |.lst xs=>Q xs
 |_=>False
theorem xo{Q:List D->Prop}{d:D}(h:isL Q d):∃xs,d=.lst xs/\Q xs:=by
 cases d with
 |lst xs=>exact⟨xs,rfl,h⟩
 |_=>exact h.elim
theorem isL.mono{Q Q':List D->Prop}(h:∀b,Q b->Q' b):∀d,isL Q d->isL Q' d:=λd z=>by
 obtain⟨xs,rfl,q⟩:=xo z;exact h _ q
def isT(Q:List D->Prop):D->Prop
 |.tup xs=>Q xs
 |_=>False
theorem Ie{Q:List D->Prop}{d:D}(h:isT Q d):∃xs,d=.tup xs/\Q xs:=by
 cases d with
 |tup xs=>exact⟨xs,rfl,h⟩
 |_=>exact h.elim
theorem isT.mono{Q Q':List D->Prop}(h:∀b,Q b->Q' b):∀d,isT Q d->isT Q' d:=λd z=>by
 obtain⟨xs,rfl,q⟩:=Ie z;exact h _ q
def iL(w:WE):WA:=λE ρ Q=>w E ρ (isL Q)
def iT(w:WE):WA:=λE ρ Q=>w E ρ (isT Q)
def rng(lo:Int)(n:Nat):List D:=(List.range n).map λ(k:Nat)=>D.int (lo+k)
theorem Zp{K:Oq}{W:Wd}(lo:Int)(n:Nat):mX K W (ug lo n) (rng lo n):=by
 intro W2 H2 i g2 p2 ok2;refine⟨λd hd=>?_,λhi=>?_⟩
 .unfold rng at hd
  rw[cc] at hd
  by_cases hi:i<n
  .rw[jg hi] at hd
   cases hd;refine⟨hi,λx H3 y=>?_⟩;obtain⟨rfl,rfl⟩:=y;exact⟨W2,.refl ok2,.int _⟩
  .rw[dN (by simpa using hi)] at hd;cases hd
 .have:(rng lo n).length=n:=by unfold rng;simp
  rw[this] at hi;exact hi
def i1(Q:List D->Prop):List D->Prop
 |[.int j]=>-10000<=j/\j<10000/\Q (rng 0 j.toNat)
 |_=>False
def i2(Q:List D->Prop):List D->Prop
 |[.int i,.int j]=>(-10000<=i/\i<10000/\-10000<=j/\j<10000)/\Q (rng i (j-i).toNat)
 |_=>False
theorem i1.mono{Q Q':List D->Prop}(h:∀b,Q b->Q' b):∀d,i1 Q d->i1 Q' d:=λd z=>by
 unfold i1 at z ⊢;split at z
 .exact⟨z.1,z.2.1,h _ z.2.2⟩
 .exact z.elim
theorem i2.mono{Q Q':List D->Prop}(h:∀b,Q b->Q' b):∀d,i2 Q d->i2 Q' d:=λd z=>by
 unfold i2 at z ⊢;split at z
 .exact⟨z.1,h _ z.2⟩
 .exact z.elim
def dS(t:WA):WA:=λE ρ Q=>t E ρ (i1 Q)
def eY(t:WA):WA:=λE ρ Q=>t E ρ (i2 Q)
theorem pI{t:WA}(hm:X.mg "range" = none)(ha:jo X EX [a] t)(hg:Gl X "range" :=by rfl)(hs:starEach [a] X.env=[(false,eval a X.env)]:=by rfl):lD X EX tg (.Call (.Name "range" p) [a] [] pos) (dS t):=by
 obtain⟨t,q,k⟩:=ha.t;refine⟨⟨_,lg hg hm q hs,λW0 H0 W σ H ρ E R s eo h=>?_⟩,λE ρ P P' hp h=>ha.mono _ _ _ _ (i1.mono hp) h⟩;refine k W0 H0 W σ H ρ E _ s eo (ha.mono _ _ _ _ (λds hd vs W1 H1 x1 r1=>?_) h);unfold i1 at hd;split at hd
 .obtain⟨v,rfl,rv⟩:=r1.one
  cases rv;exact⟨_,rfl,by omega,by omega,hd.2.2 W1 H1 _ x1 (Zp _ _)⟩
 .exact hd.elim
theorem Ig{t:WA}(hm:X.mg "range" = none)(ha:jo X EX [a,b] t)(hg:Gl X "range" :=by rfl)(hs:starEach [a,b] X.env=[(false,eval a X.env),(false,eval b X.env)]:=by rfl)(hs2:starEach [b] X.env=[(false,eval b X.env)]:=by rfl) :
  lD X EX tg (.Call (.Name "range" p) [a,b] [] pos) (eY t):=by
 obtain⟨t,q,k⟩:=ha.t;refine⟨⟨_,lh hg hm q hs hs2,λW0 H0 W σ H ρ E R s eo h=>?_⟩,λE ρ P P' hp h=>ha.mono _ _ _ _ (i2.mono hp) h⟩;refine k W0 H0 W σ H ρ E _ s eo (ha.mono _ _ _ _ (λds hd vs W1 H1 x1 r1=>?_) h);unfold i2 at hd;split at hd
 .obtain⟨v,u,rfl,rv,ru⟩:=r1.two
  cases rv;cases ru;exact⟨_,_,rfl,⟨by omega,by omega,by omega,by omega⟩,hd.2 W1 H1 _ x1 (Zp _ _)⟩
 .exact hd.elim
abbrev WG:=D->aN->(aN->Prop)->Prop
def ZgY(ρ:aN):Prop:=∀(i:Nat),(∀xs,ρ[i]?≠some (SV.ow xs))/\∀xss,ρ[i]?≠some (SV.oo xss)
structure nJ(X:Cx)(tg:Expr)(g:WG):Prop where
 t:∃t,PG X tg t/\∀W0 H0 W σ H ρ d v Q,SOk X.K W0 H0 W σ H ρ->Rep X.K W v d->g d ρ (λρ'=>∀σ',SOk X.K W0 H0 W σ' H ρ'->Q σ' H)->t v σ H Q
 mono:∀d ρ P P',(∀r,P r->P' r)->g d ρ P->g d ρ P'
 own:∀d ρ P,ZgY ρ->g d ρ P->g d ρ (λr=>ZgY r/\P r)
theorem ZgY.set{ρ:aN}(h:ZgY ρ)(i:Nat)(d:D):ZgY (ρ.set i (.d d)):=λj=>by
 by_cases hj:i=j
 .subst hj
  by_cases hi:i<ρ.length
  .rw[d9 hi];exact⟨λ_ e=>(by cases e),λ_ e=>(by cases e)⟩
  .rw[dN (by rw[dI];omega)];exact⟨λ_ e=>(by cases e),λ_ e=>(by cases e)⟩
 .rw[dD hj];exact h j
def gN(i:Nat):WG:=λd ρ k=>k (ρ.set i (.d d))
theorem br(i:Nat){x:Str}(hN:X.N.Nodup)(hi:X.N[i]? = some x:=by rfl)(hx:ml X.env.scope x:=by first|exact Or.inl rfl|exact Or.inr rfl)(hf:X.fn x=true\/X.env.scope.names.lookup x=some .local:=by first|exact .inl rfl|exact .inr rfl|assumption) :
  nJ X (.Name x pos) (gN i):=
 ⟨⟨_,nY hN hi hx hf,λW0 H0 W σ H ρ d v Q s r h=>h _ (s.set r)⟩,λd ρ P P' hp h=>hp _ h,λd ρ P ho h=>⟨ho.set i d,h⟩⟩
def Zbq(nv:Nat)(sel:List Nat)(ρ:aN):aN:=List.replicate nv .un++sel.map λj=>match ρ[j]? with
 |some (.d x)=>.d x
 |_=>.un
theorem Zbq.own(nv:Nat)(sel:List Nat)(ρ:aN):ZgY (Zbq nv sel ρ):=λi=>by
 have key:∀sv,(Zbq nv sel ρ)[i]? = some sv->sv=.un\/∃x,sv=.d x:=λsv e=>by
  unfold Zbq at e;rcases gg i nv with h|h
  .rw[l5 (by simpa using h),nN] at e
   rw[if_pos h] at e;cases e;exact .inl rfl
  .rw[lT (by simpa using h),cc] at e
   cases q:sel[i-(List.replicate nv SV.un).length]? with
   |none=>rw[q] at e;cases e
   |some j=>
    rw[q] at e;have e':=Ow e;dsimp only at e';split at e'
    .exact .inr ⟨_,e'.symm⟩
    .exact .inl e'.symm
 refine⟨λxs e=>?_,λxs e=>?_⟩
 .rcases key _ e with z|⟨x,z⟩<;>cases z
 .rcases key _ e with z|⟨x,z⟩<;>cases z
def No:Ex->Prop:=λ_=>False
def lcW(g:WG)(wf:WT)(we:WE):List D->aN->List D->(List D->Prop)->Prop
 |[],_,acc,Q=>Q acc
 |d::ds,ρ,acc,Q=>g d ρ λρ2=>wf No ρ2 λb=>if b=true then we No ρ2 λy=>acc.length<aw/\lcW g wf we ds ρ2 (acc++[y]) Q else lcW g wf we ds ρ2 acc Q
structure re(X:Cx)(EX:XK)(ifs:List Expr)(w:WT):Prop where
 t:∃t,PF X ifs t/\∀W0 H0 W σ H ρ E Q,SOk X.K W0 H0 W σ H ρ->kL X.K W0 H0 E EX->w E ρ (λb=>∀W' H',Ext W H W' H'->Q b H')->t σ H Q
 mono:∀E ρ P P',(∀d,P d->P' d)->w E ρ P->w E ρ P'
def bF:WT:=λ_ _ Q=>Q true
variable {sc:Scope}{vars:List Str}{sel:List Nat}{elt target iter:Expr}{ifs:List Expr}{g:WG}{wf:WT}{we:WE}{wi:WA}
theorem eQ:re X EX [] bF:=⟨⟨_,HH,λ_ _ W _ H _ _ _ s _ h=>h W H (.refl s.ok)⟩,λ_ _ _ _ hp h=>hp _ h⟩
theorem xp(h:kM X EX c wf):re X EX [c] wf:=let⟨t,q,k⟩:=h.t;⟨⟨t,HI q,k⟩,h.mono⟩
theorem lcW.mono(hg:∀d ρ P P',(∀r,P r->P' r)->g d ρ P->g d ρ P')(hf:∀E ρ P P',(∀d,P d->P' d)->wf E ρ P->wf E ρ P')(he:∀E ρ P P',(∀d,P d->P' d)->we E ρ P->we E ρ P') :
  ∀ds ρ acc P P',(∀xs,P xs->P' xs)->lcW g wf we ds ρ acc P->lcW g wf we ds ρ acc P'
 |[],_,acc,P,P',hp,h=>hp _ h
 | d::ds,ρ,acc,P,P',hp,h=>hg _ _ _ _ (λr hr=>hf _ _ _ _ (λb hb=>by
   cases b with
   |true=>rw[if_pos rfl] at hb ⊢;exact he _ _ _ _ (λy hy=>⟨hy.1,lcW.mono hg hf he ds r _ P P' hp hy.2⟩) hb
   |false=>rw[if_neg (by decide)] at hb ⊢;exact lcW.mono hg hf he ds r _ P P' hp hb) hr) h
def aLC(wi:WA)(nv:Nat)(sel:List Nat)(g:WG)(wf:WT)(we:WE):WA:=λE ρ Q=>wi E ρ λds=>lcW g wf we ds (Zbq nv sel ρ) [] Q
theorem aLC.mono(hi:lD X EX target iter wi)(hg:∀d ρ P P',(∀r,P r->P' r)->g d ρ P->g d ρ P')(hf:∀E ρ P P',(∀d,P d->P' d)->wf E ρ P->wf E ρ P')(he:∀E ρ P P',(∀d,P d->P' d)->we E ρ P->we E ρ P') :
  ∀E ρ P P',(∀d,P d->P' d)->aLC wi vars.length sel g wf we E ρ P->aLC wi vars.length sel g wf we E ρ P':=λE ρ P P' hp h=>hi.mono _ _ _ _ (λds hds=>lcW.mono hg hf he ds _ _ _ _ hp hds) h
theorem SOk.lc{W0 W:Wd}{H0 H:Hp}{σ:L2.St}{ρ:aN}(s:SOk X.K W0 H0 W σ H ρ)(nv:Nat)(sel:List Nat):SOk X.K W0 H0 W (eN nv sel σ) H (Zbq nv sel ρ) where
 ext:=s.ext
 len:=by unfold Zbq eN;simp
 d:=λi x e=>by
  unfold Zbq at e;rcases gg i nv with h|h
  .rw[l5 (by simpa using h),nN] at e
   split at e<;>cases e
  .rw[lT (by simpa using h),cc,p9] at e
   cases q:sel[i-nv]? with
   |none=>rw[q] at e;cases e
   |some j=>
    rw[q] at e;have e':=Ow e;dsimp only at e';split at e'
    .rename_i y ey
     cases e';obtain⟨v,ev,r⟩:=s.d j x ey;refine⟨v,?_,r⟩;unfold eN;rw[lT (by simpa using h),p9,cc,q];show some ((σ[j]?).getD none)=_;rw[ev];rfl
    .cases e'
 o:=λi xs e=>Ot e ((Zbq.own nv sel ρ i).1 xs)
 ne:=λi j xs ys a _ e=>Ot e ((Zbq.own nv sel ρ i).1 xs)
 oo:=.none λi=>(Zbq.own nv sel ρ i).2
theorem SOk.chgD{K:Oq}{W0 W:Wd}{H0 H:Hp}{σ:L2.St}{ρ:aN}{a:Addr}{o o':HO}(s:SOk K W0 H0 W σ H ρ)(ho:ZgY ρ)(h0:H0 a=none)(h1:H a=some o)(h2:¬W.Pn a)(h3:W.G a=none):SOk K W0 H0 W σ (upd H a o') ρ:=
 ⟨s.ext.chg h0 h1 h2 h3,s.len,s.d,λi xs e=>Ot e ((ho i).1 xs),λi j xs ys a _ e=>Ot e ((ho i).1 xs),.none λi=>(ho i).2⟩
theorem DN(hi:lD X EX target iter wi)(hg:∀s H fp,nJ (X.lc sc vars sel s H fp) target g)(hf:∀s H fp,re (X.lc sc vars sel s H fp) E0 ifs wf)(he:∀s H fp,PX (X.lc sc vars sel s H fp) E0 elt we) :
  ∃(ti:TI) (tg:TG) (tf:TT) (te:TE),PI X target iter ti/\(∀s H fp,PG (X.lc sc vars sel s H fp) target tg)/\(∀s H fp,PF (X.lc sc vars sel s H fp) ifs tf)/\(∀s H fp,PE (X.lc sc vars sel s H fp) elt te)/\
   ∀W0 H0 W σ H ρ E Q,SOk X.K W0 H0 W σ H ρ->kL X.K W0 H0 E EX->
    aLC wi vars.length sel g wf we E ρ (λds=>∀a vs W' H',Ext W H W' H'->H' a=some (.lst vs)->W'.G a=none->¬W'.Pn a->H a=none->Reps X.K W' vs ds->Q (.ref a) H')->Al ti vars.length sel tg tf te σ H Q:=by
 obtain⟨ti,pi,ki⟩:=hi.t;refine ⟨ti,λv σ H Q=>∃ W0 H0 W ρ d,SOk X.K W0 H0 W σ H ρ/\Rep X.K W v d/\g d ρ (λρ'=>∀ σ',SOk X.K W0 H0 W σ' H ρ'->Q σ' H),
  λσ H Q=>∃W0 H0 W ρ,SOk X.K W0 H0 W σ H ρ/\wf No ρ (λb=>∀W' H',Ext W H W' H'->Q b H'),
  λσ H Q=>∃W0 H0 W ρ,SOk X.K W0 H0 W σ H ρ/\we No ρ (RQ X.K W H Q),pi,λs1 H1 fp=>?_,λs1 H1 fp=>?_,λs1 H1 fp=>?_,?_⟩
 .obtain⟨t,q,k⟩:=(hg s1 H1 fp).t
  rintro pins s σ H v u Q I r ⟨W0,H0,W,ρ,d,s',r',h⟩;exact q pins s σ H v u Q I r (k W0 H0 W σ H ρ d v Q s' r' h)
 .obtain⟨t,q,k⟩:=(hf s1 H1 fp).t
  rintro pins s σ H Q I ⟨W0,H0,W,ρ,s',h⟩;exact q pins s σ H Q I (k W0 H0 W σ H ρ No Q s' (λ_ _ _ _ _ z=>z.elim) h)
 .obtain⟨t,q,k⟩:=(he s1 H1 fp).t
  rintro pins s σ H Q I ⟨W0,H0,W,ρ,s',h⟩;exact q pins s σ H Q I (k W0 H0 W σ H ρ No Q s' (λ_ _ _ _ _ z=>z.elim) h)
 .have gm:=(hg {} (λ_=>none) []).mono
  have go:=(hg {} (λ_=>none) []).own;have fm:=(hf {} (λ_=>none) []).mono;have em:=(he {} (λ_=>none) []).mono;intro W0 H0 W σ H ρ E Q s eo h;refine ki W0 H0 W σ H ρ E _ s eo (hi.mono _ _ _ _ (λds hds W1 H1 J x1 it D hD=>?_) h);have hDf:=x1.ok.fresh hD;have hD0:H0 D=none:=s.ext.isN (x1.isN hD);refine ⟨λi m ys σ2 H2=>m=ds.length - i/\i<=ds.length/\∃ W2 ρ2 acc,Ext W1 H1 W2 H2/\SOk X.K W0 H0 W2 σ2 H2 ρ2/\ZgY ρ2/\H2 D=some (.lst ys)/\W2.G D=none/\¬ W2.Pn D/\Reps X.K W2 ys acc/\
   lcW g wf we (ds.drop i) ρ2 acc (λds=>∀a vs W' H',Ext W H W' H'->H' a=some (.lst vs)->W'.G a=none->¬W'.Pn a->H a=none->Reps X.K W' vs ds->Q (.ref a) H'),⟨_,rfl,jD _,W1,_,[],.new x1.ok hD,?_,Zbq.own _ _ ρ,ao,hDf.1,hDf.2,.nil,by rw[qe];exact hds⟩,?_⟩
  .exact(((s.step x1).step (.new x1.ok hD)).lc vars.length sel)
  .rintro i m ys σ2 H2 ⟨rfl,hi',W2,ρ2,acc,x2,s2,no2,hD2,g2,p2,r2,q2⟩
   refine⟨hD2,?_⟩;obtain⟨itg,its⟩:=it W2 H2 i x2.g x2.p x2.ok;rcases gg i ds.length with hlt|hge
   .have hd:ds[i]? = some ds[i]:=bG hlt
    obtain⟨go',yl⟩:=itg _ hd;refine .inr ⟨go',λx H3 y=>?_⟩;obtain⟨W3,x3,r3⟩:=yl x H3 y;rw[qf hlt] at q2;have keepD:∀{W' H'},Ext W2 H2 W' H'->H' D=some (.lst ys)/\W'.G D=none/\¬W'.Pn D:=λ{W' H'} x'=>by
     refine⟨x'.h D _ hD2 p2,?_,λz=>?_⟩
     .cases q:W'.G D with
      |none=>rfl
      |some o=>have:=x'.gf D g2 (by rw[q];simp);rw[hD2] at this;cases this
     .have:=x'.pf D p2 z;rw[hD2] at this;cases this
    refine⟨W0,H0,W3,ρ2,ds[i],s2.step x3,r3,gm _ _ _ _ (λρ4 hr σ4 s4=>?_) (go _ _ _ no2 q2)⟩;obtain⟨no4,hr⟩:=hr;refine⟨W0,H0,W3,ρ4,s4,fm _ _ _ _ (λb hb W5 H5 x5=>?_) hr⟩;cases b with
    |false=>
     rw[if_neg (by decide)] at hb ⊢;have kD:=keepD (x3.trans x5);exact⟨ds.length-(i+1),by omega,rfl,hlt,W5,ρ4,acc,x2.trans (x3.trans x5),s4.step x5,no4,kD.1,kD.2.1,kD.2.2,(x3.trans x5).reps r2,hb⟩
    |true=>
     rw[if_pos rfl] at hb ⊢;refine⟨W0,H0,W5,ρ4,s4.step x5,em _ _ _ _ (λy hy v W6 H6 x6 r6=>?_) hb⟩;have xx:=x3.trans (x5.trans x6);have kD:=keepD xx;have hl:ys.length=acc.length:=r2.length;refine⟨kD.1,by rw[hl];exact cv hy.1 (nE (bb _)),ds.length-(i+1),by omega,rfl,hlt,W6,ρ4,acc++[y],(x2.trans xx).chg hD kD.1 kD.2.2 kD.2.1,?_,no4,ao,kD.2.1,kD.2.2,(xx.reps r2).append (.cons r6 .nil),hy.2⟩;exact((s4.step x5).step x6).chgD no4 hD0 kD.1 kD.2.2 kD.2.1
   .have e:i=ds.length:=by omega
    refine .inl ⟨its hge,?_⟩;rw[ww hge] at q2;exact q2 D ys W2 H2 (x1.trans x2) hD2 g2 p2 (x1.isN hD) r2
theorem fw(vars:List Str)(sel:List Nat)(hc:X.calm=true)(hi:lD X EX target iter wi)(hg:∀s H fp,nJ (X.lc sc vars sel s H fp) target g)(hf:∀s H fp,re (X.lc sc vars sel s H fp) E0 ifs wf)(he:∀s H fp,PX (X.lc sc vars sel s H fp) E0 elt we)
  (ok:j6 sc X.env.scope=true:=by rfl) (so:oA X.N sc sel=true:=by rfl) (hs:∀x,foldedSetIterable iter X.env x=pure x:=by intro _;rfl):PXL X EX (.ListComp elt [⟨target,iter,ifs,0⟩] sc pos) (aLC wi vars.length sel g wf we):=by
 obtain⟨ti,tg,tf,te,pi,pg,pf,pe,k⟩:=DN hi hg hf he;exact⟨⟨_,uD vars sel hc pi ok so pg pf pe hs,k⟩,aLC.mono hi (hg {} (λ_=>none) []).mono (hf {} (λ_=>none) []).mono (he {} (λ_=>none) []).mono⟩
theorem uM(i:Nat){x:Str}{pos' spos:Pos}(vars:List Str)(sel:List Nat)(hc:X.calm=true)(hN:X.N.Nodup)(hi:lD X EX target iter wi)(hg:∀s H fp,nJ (X.lc sc vars sel s H fp) target g)(hf:∀s H fp,re (X.lc sc vars sel s H fp) E0 ifs wf)(he:∀s H fp,PX (X.lc sc vars sel s H fp) E0 elt we)
  (hix:X.N[i]? = some x:=by rfl) (hx:ml X.env.scope x:=by first|exact Or.inl rfl|exact Or.inr rfl)
  (hsw:swapsWith (.ListComp elt [⟨target,iter,ifs,0⟩] sc pos) (some (.Name x pos')) spos.line X.env=pure true:=by rfl)
  (ok:j6 sc X.env.scope=true:=by rfl) (so:oA X.N sc sel=true:=by rfl) (hs:∀x,foldedSetIterable iter X.env x=pure x:=by intro _;rfl) (hfn:X.fn x=true\/X.env.scope.names.lookup x=some .local:=by first|exact .inl rfl|exact .inr rfl|assumption) :
  PZ X EX (.Assign [.Name x pos'] (.ListComp elt [⟨target,iter,ifs,0⟩] sc pos) spos) (aZ i (aLC wi vars.length sel g wf we)):=by
 obtain⟨ti,tg,tf,te,pi,pg,pf,pe,k⟩:=DN hi hg hf he;have am:=aLC.mono (vars:=vars) (sel:=sel) hi (hg {} (λ_=>none) []).mono (hf {} (λ_=>none) []).mono (he {} (λ_=>none) []).mono;refine⟨⟨_,uE vars sel hc hN hix hx pi ok so pg pf pe hsw hs hfn,λW0 H0 F W σ H ρ E Dn N s fl eo no h=>?_⟩,λE ρ N N' hl q=>am _ _ _ _ (λ_=>hl.nx _) q⟩;refine k W0 H0 W σ H ρ E _ s eo (am _ _ _ _ (λxs hd a vs W1 H1 x1 e1 e2 e3 e4 r1=>no.nx W1 _ H1 _ (s.own x1 e4 e1 e2 e3 r1) (fl.ext x1) hd) h)
def ZbW(g:WG)(zb:WS)(E:Ex->Prop)(N:Nds):List D->aN->Prop
 |[],ρ=>N.nx ρ
 |d::ds,ρ=>g d ρ λρ1=>zb E { nx:=ZbW g zb E N ds,rt:=N.rt,bk:=N.nx,ct:=ZbW g zb E N ds } ρ1
def aU(wi:WA)(g:WG)(zb:WS):WS:=λE N ρ=>wi E ρ λds=>ZbW g zb E N ds ρ
theorem ZbW.mono{zb:WS}(hg:∀d ρ P P',(∀r,P r->P' r)->g d ρ P->g d ρ P')(hb:∀E ρ N N',N.le N'->zb E N ρ->zb E N' ρ){E:Ex->Prop}{N N':Nds}(hl:N.le N'):∀ds ρ,ZbW g zb E N ds ρ->ZbW g zb E N' ds ρ
 |[],ρ,h=>hl.nx _ h
 |d::ds,ρ,h=>hg _ _ _ _ (λr hr=>hb E r { nx:=ZbW g zb E N ds,rt:=N.rt,bk:=N.nx,ct:=ZbW g zb E N ds } _ ⟨ZbW.mono hg hb hl ds,hl.rt,hl.nx,ZbW.mono hg hb hl ds⟩ hr) h
theorem kP{body:List Stmt}{zb:WS}(hp:PassesOwn (model X.prog X.w) X.A X.env X.xe)(hc:X.calm=true)(hi:lD X EX target iter wi)(hg:nJ X target g)(hb:lA X EX body zb)
  (hs:∀x,foldedSetIterable iter X.env x=pure x:=by intro _;rfl):PZ X EX (.For target iter body [] pos) (aU wi g zb):=by
 obtain⟨ti,pi,ki⟩:=hi.t;obtain⟨tg,pg,kg⟩:=hg.t;obtain⟨tb,pb,kb⟩:=hb.t;refine⟨⟨_,qK hp hc pi pg pb hs,λW0 H0 F W σ H ρ E Dn N s fl eo no h=>?_⟩,λE ρ N N' hl q=>hi.mono _ _ _ _ (λds hds=>ZbW.mono hg.mono hb.mono hl ds ρ hds) q⟩;refine ki W0 H0 W σ H ρ E _ s eo (hi.mono _ _ _ _ (λds hds W1 H1 J x1 it=>?_) h);refine⟨λi m σ2 H2=>m=ds.length-i/\i<=ds.length/\∃W2 ρ2,SOk X.K W0 H0 W2 σ2 H2 ρ2/\Wle W1 W2/\ZbW g zb E N (ds.drop i) ρ2,⟨_,rfl,jD _,W1,ρ,s.step x1,.refl W1,by rw[qe];exact hds⟩,?_⟩;rintro i m σ2 H2 ⟨rfl,hi',W2,ρ2,s2,f2,q2⟩;obtain⟨itg,its⟩:=it W2 H2 i f2.g f2.p s2.ok;have fF:∀{V:Wd},Wle W1 V->Wle F V:=λf=>(fl.ext x1).trans f;rcases gg i ds.length with hlt|hge
 .have hd:ds[i]? = some ds[i]:=bG hlt
  obtain⟨go',yl⟩:=itg _ hd;rw[qf hlt] at q2;refine .inr ⟨go',λσ3 H3=>∃W3 ρ3,SOk X.K W0 H0 W3 σ3 H3 ρ3/\Wle W1 W3/\ZbW g zb E N (ds.drop (i+1)) ρ3,λσ3 H3 ⟨W3,ρ3,s3,f3,q3⟩=>⟨ds.length-(i+1),by omega,rfl,hlt,W3,ρ3,s3,f3,q3⟩,λx H3 y=>?_⟩;obtain⟨W3,x3,r3⟩:=yl x H3 y;refine kg W0 H0 W3 σ2 H3 ρ2 ds[i] x _ (s2.step x3) r3 (hg.mono _ _ _ _ (λρ4 hr σ4 s4=>?_) q2);refine kb W0 H0 W1 W3 σ4 H3 ρ4 E _ { nx:=ZbW g zb E N (ds.drop (i+1)),rt:=N.rt,bk:=N.nx,ct:=ZbW g zb E N (ds.drop (i+1)) } s4 (f2.ext x3) eo ⟨λW5 σ5 H5 ρ5 s5 f5 h5=>⟨W5,ρ5,s5,f5,h5⟩,no.rt,λW5 σ5 H5 ρ5 s5 f5 h5=>no.nx W5 σ5 H5 ρ5 s5 (fF f5) h5,λW5 σ5 H5 ρ5 s5 f5 h5=>⟨W5,ρ5,s5,f5,h5⟩⟩ hr
 .have e:i=ds.length:=by omega
  refine .inl ⟨its hge,?_⟩;rw[ww hge] at q2;exact no.nx W2 σ2 H2 ρ2 s2 (fF f2) q2
end LP
namespace L2
open PySem PySem.Spec PyProof.Rows
namespace Fl
def lE(P:Obj->Prop):Prop:=∀(o:Obj) f,P o->P (o.mapFields f)
theorem Ih(o:Obj)(f:Array Value->Array Value):(o.mapFields f).dict=o.dict:=by
 unfold Obj.mapFields;split<;>rfl
def Is(cls:Value)(dx:Option Addr)(o:Obj):Prop:=o.cls=cls/\o.dict=dx
theorem Is.firm{cls:Value}{dx:Option Addr}:lE (Is cls dx):=λo f h=>⟨(Obj.cls_mapFields o f).trans h.1,(Ih o f).trans h.2⟩
def Tr(P:Obj->Prop)(base:Heap)(e:Addr)(fl:Value)(h:Heap):Prop:=
 ∃(oe:Obj) (vs:Array Value) (T:Addr) (oT:Obj) (ts:Array Value),h.get? e=some oe/\P oe/\oe.data=.fields vs/\vs[1]? = some (.ref T)/\base.get? T=none/\T≠e/\h.get? T=some oT/\oT.data=.fields ts/\ts[3]? = some fl
structure Up(P:Obj->Prop)(base:Heap)(l:List Env)(e:Addr)(fl:Value)(h:Heap):Prop where
 st:base.StaysIn h
 new:base.get? e=none
 fr:h.FunFrames base l
 tr:Tr P base e fl h
variable {M:Model}{A:Around}{E:Value->Shared->Prop}{s:Shared}{P:Obj->Prop}{base:Heap}{env:Env}{outer l:List Env}{L e:Addr}{fl:Value}{Q:Unit->Shared->Prop}
theorem entry(hP:lE P){oe:Obj}{vs:Array Value}{head:Value}{b:Bool}(hA:A.frames=some (env::outer))(hl:s.heap.FunFrames base (env::outer))(hf:env.frame=some L)(he:s.heap.get? e=some oe)(hp:P oe)
  (st:base.StaysIn s.heap) (new:base.get? e=none) (hd:oe.data=.fields vs) (hz:1<vs.size) (k:∀h',Up P base (env::outer) e (rawInt L) h'->s.heap.UpToSlots h'->Q () { s with heap:=h' }) :
  wpAny M A (do let a <-frameOf env;let pl <-entryPlaceOf L b;let c <-EntryCells.newEntry head a .none (rawInt L) .none pl;setField (.ref e) 1 c) Q E s:=by
 have out:e∉(env::outer).filterMap (·.frame):=λz=>by
  obtain⟨_,o,ho,nf⟩:=hl.mem z;cases he.symm.trans ho;exact nf vs hd
 refine Op (wpAny_frameOf_fun hA hl hf λh1 so=>?_);refine Op (wpAny_entryPlaceOf λpl place=>?_);unfold EntryCells.newEntry newFields;refine Op (OA ?_ (place.sizeOk5 _ _ _ _ _));generalize ho:({ cls:=.type "traceback",dict:=none,data:=.fields ([head,.ref L,.none,rawInt L,.none]++(if pl.isEmpty then List.replicate 6 Value.none else pl)).toArray }:Obj)=ob;have e1:h1.get? e=some oe:=(so.2.1 e out).trans he;have ne:h1.objs.size≠e:=wm (bX e1);have e2:(h1.push ob).get? e=some oe:=bZ ob e1;have fr0:ob.isFreed=false:=by rw[<-ho];exact Obj.isFreed_of_fields rfl
 refine OT e2 hd hz (k _ ?_ ?_)
 .have e3:=sZ (Obj.mapFields (·.setIfInBounds 1 (Value.ref h1.objs.size))) e2 (Obj.isFreed_of_fields (Obj.data_mapFields hd _))
  have oth:∀{c o},c≠e->h1.get? c=some o->((h1.push ob).update e (Obj.mapFields (·.setIfInBounds 1 (Value.ref h1.objs.size)))).get? c=some o:=λne hc=>(qa _ _ (Oy ne)).trans (bZ ob hc);refine⟨λc o hc=>?_,new,hl.of_keeps λc o hc nf=>?_,_,_,h1.objs.size,ob,_,e3,hP _ _ hp,Obj.data_mapFields hd _,by simp[hz],?_,ne,(qa _ _ (Oy ne)).trans (eV h1 fr0),by rw[<-ho],?_⟩
  .exact oth (λz=>by rw[z,new] at hc;cases hc) ((so.2.1 c λz=>by rw[(hl.mem z).1] at hc;cases hc).trans (st c o hc))
  .obtain⟨sl,hs⟩:=so.2.2 c o hc
   exact⟨_,oth (λz=>by rw[z,he] at hc;cases hc;exact nf vs hd) hs,rfl⟩
  .cases q:base.get? h1.objs.size with
   |none=>rfl
   |some o=>
    have:h1.get? h1.objs.size=some o:=(so.2.1 _ λz=>by rw[(hl.mem z).1] at q;cases q).trans (st _ o q);exact Ot (bX this) (f9 _)
  .rcases place with rfl|⟨_,_,_,_,_,_,_,rfl⟩<;>simp
 .intro c o hc nf
  obtain⟨sl,hs⟩:=so.2.2 c o hc;exact⟨sl,(qa _ _ (Oy λz=>by rw[z,he] at hc;cases hc;exact nf vs hd)).trans (bZ ob hs)⟩
theorem Ii(hP:lE P){oe:Obj}{vs:Array Value}(hA:A.frames=some (env::outer))(hl:s.heap.FunFrames base (env::outer))(hf:env.frame=some L)(he:s.heap.get? e=some oe)(hp:P oe)
  (st:base.StaysIn s.heap) (new:base.get? e=none) (hd:oe.data=.fields vs) (h1:vs[1]? = some .none) (k:∀h',Up P base (env::outer) e (rawInt L) h'->s.heap.UpToSlots h'->Q () { s with heap:=h' }) :
  wpAny M A (noteFrame (.ref e) env) Q E s:=by
 unfold noteFrame;simp only[hf];refine Op (Oz he hd h1 ?_);rw[if_neg (by decide)];exact entry hP hA hl hf he hp st new hd (Yby.mp h1).1 k
theorem Ay(hP:lE P)(hA:A.frames=some (env::outer))(hf:env.frame=some L)(u:Up P base (env::outer) e .none s.heap)
  (k:∀h',Up P base (env::outer) e (rawInt L) h'->s.heap.UpToSlots h'->Q () { s with heap:=h' }):wpAny M A (noteFrame (.ref e) env) Q E s:=by
 obtain⟨st,new,fr,oe,vs,T,oT,ts,he,hp,hd,h1,nT,Te,hT,dT,h3⟩:=u;unfold noteFrame;simp only[hf];refine Op (Oz he hd h1 ?_);rw[if_pos (show(Value.ref T != Value.none)=true from by simp)];refine Op (Oz hT dT h3 ?_);rw[if_neg (by simp[rawInt])];refine Op (OT hT dT (Yby.mp h3).1 ?_);have oth:∀{c o},c≠T->s.heap.get? c=some o->(s.heap.update T (Obj.mapFields (·.setIfInBounds 3 Value.none))).get? c=some o:=λne hc=>(qa _ _ (Oy ne)).trans hc;have notT:∀{c o},s.heap.get? c=some o->(∀vs,o.data≠.fields vs)->c≠T:=λhc nf z=>by
  rw[z,hT] at hc;cases hc;exact nf ts dT
 refine entry hP hA (fr.of_keeps λc o hc nf=>⟨o,oth (notT hc nf) hc,rfl⟩) hf (oth (Oy Te) he) hp (λc o hc=>oth (λz=>by rw[z,nT] at hc;cases hc) (st c o hc)) new hd (Yby.mp h1).1 λh' u' up=>k h' u' λc o hc nf=>up c o (oth (notT hc nf) hc) nf
theorem DO(u:Up P base l e fl s.heap)(k:∀h',Up P base l e .none h'->s.heap.UpToSlots h'->Q () { s with heap:=h' }):wpAny M A (setFlight (.ref e) none) Q E s:=by
 obtain⟨st,new,fr,oe,vs,T,oT,ts,he,hp,hd,h1,nT,Te,hT,dT,h3⟩:=u;have oth:∀{c o},c≠T->s.heap.get? c=some o->(s.heap.update T (Obj.mapFields (·.setIfInBounds 3 ((none:Option Addr).elim Value.none λf=>rawInt f)))).get? c=some o:=λne hc=>(qa _ _ (Oy ne)).trans hc;have notT:∀{c o},s.heap.get? c=some o->(∀vs,o.data≠.fields vs)->c≠T:=λhc nf z=>by
  rw[z,hT] at hc;cases hc;exact nf ts dT
 have z3:=(Yby.mp h3).1;unfold setFlight;refine Op (Oz he hd h1 ?_);rw[if_pos (show(Value.ref T != Value.none)=true from by simp)];refine OT hT dT z3 (k _ ⟨λc o hc=>oth (λz=>by rw[z,nT] at hc;cases hc) (st c o hc),new,fr.of_keeps λc o hc nf=>⟨o,oth (notT hc nf) hc,rfl⟩,oe,vs,T,_,_,oth (Oy Te) he,hp,hd,h1,nT,Te,sZ _ hT (Obj.isFreed_of_fields (Obj.data_mapFields dT _)),Obj.data_mapFields dT _,by simp[z3]⟩ λc o hc nf=>⟨o.slots,oth (notT hc nf) hc⟩)
theorem Up.out(u:Up P base (env::outer) e fl s.heap):Up P base outer e fl s.heap:=⟨u.st,u.new,u.fr.2.2,u.tr⟩
theorem Up.there{h:Heap}(u:Up P base l e fl h):∃ob,h.get? e=some ob/\P ob/\∃vs,ob.data=.fields vs:=by
 obtain⟨oe,vs,_,_,_,he,hp,hd,_⟩:=u.tr;exact⟨oe,he,hp,vs,hd⟩
theorem leaves(hP:lE P)(hA:A.frames=some (env::outer))(hf:env.frame=some L)(u:Up P base (env::outer) e .none s.heap)(k:∀h',Up P base outer e .none h'->s.heap.UpToSlots h'->Q () { s with heap:=h' }) :
  wpAny M A (leaving env (.ref e)) Q E s:=by
 unfold leaving;exact Op (Ay hP hA hf u λh1 u1 up1=>DO (s:={ s with heap:=h1 }) u1 λh2 u2 up2=>k h2 ⟨u2.st,u2.new,u2.fr.2.2,u2.tr⟩ (up1.trans up2))
theorem leaves_new(hP:lE P){oe:Obj}{vs:Array Value}(hA:A.frames=some (env::outer))(hl:s.heap.FunFrames base (env::outer))(hf:env.frame=some L)(he:s.heap.get? e=some oe)(hp:P oe)
  (st:base.StaysIn s.heap) (new:base.get? e=none) (hd:oe.data=.fields vs) (h1:vs[1]? = some .none) (k:∀h',Up P base outer e .none h'->s.heap.UpToSlots h'->Q () { s with heap:=h' }):wpAny M A (leaving env (.ref e)) Q E s:=by
 unfold leaving;exact Op (Ii hP hA hl hf he hp st new hd h1 λh1 u1 up1=>DO (s:={ s with heap:=h1 }) u1 λh2 u2 up2=>k h2 ⟨u2.st,u2.new,u2.fr.2.2,u2.tr⟩ (up1.trans up2))
abbrev rf(C t:Addr)(dx:Option Addr):Obj:={ cls:=.ref C,dict:=dx,data:=.fields #[.ref t,.none,.none,.none,.bool false,.none] }
section
variable{M:Model}{prog:Program}{w:World}{A:Around}{E:Value->Shared->Prop}{env:Env}{h:Heap}{g:Array GenState}{d:Drawn}{t:Nat}{os:OsState}{s:Shared}
variable{nm q:Str}{C N fI:Addr}{bs bm bmB:List Value}{hdct:Bool}{sn:List Str}{sub:List Value}{ab:Bool}{col:Option Bool}{dd:Option Addr}{k0 k1 k2 k3 k5:Option Value}{B newId initId:String}{mN:Str->Option Value}{rest:List Value}{oI:Obj}
theorem Ij{x:Sem Value}{Q:Flow->Shared->Prop}(hb:bm.contains (.type "BaseException")=true)(hh:A.handled=none)
  (hx:wpAny M A x (λv s1=>∃e t dx,v=.ref e/\s1.heap.get? C=some (excClassObj nm q C N bs bm hdct sn sub ab col dd k0 k1 k2 k3 k5 newId)/\s1.heap.get? e=some (rf C t dx)/\E (.ref e) s1) E s) :
  wpAny M A (raiseStmt env (some x) none) Q E s:=by
 have isB:(Value.ref C::bm).contains (.type "BaseException")=true:=by
  rw[sj,hb,Bool.or_true]
 unfold raiseStmt;refine Op (Ov hx (λv s1 y=>?_) λ_ _ z=>z);obtain⟨e,t,dx,rfl,cC,ce,k⟩:=y;obtain⟨hp,g,d,tk,os⟩:=s1
 repeat (first|with_reducible refine OI ce ?_|with_reducible refine OI cC ?_|(with_reducible refine OY cC ?_;rw[isB])|wp_step)
 exact wpAny_raiseNew_none hh k
theorem Ik(F:ExcBaseFacts B newId initId bmB)(T:OwnTail h bmB bm){Q:Fin->Shared->Prop}(hC:h.get? C=some (excClassObj nm q C N bs bm hdct sn sub ab col dd k0 k1 k2 k3 k5 newId))(hn:h.Ns N mN)(hi:mN "__init__" = some (.ref fI))
  (hf:h.get? fI=some oI) (hc:oI.cls=.type "function") (k:∀h' e,Heap.MadeExcOf h h' e (.ref C) rest->wpAny (model prog w) A (call (.ref fI) (.ref e::rest)) (λr s'=>r=.none/\Q (.done (.ret (.ref e))) s') E ⟨h',g,d,t,os⟩)
  (hr:rest.length<=sizeLine:=by size_fits):wpAny (model prog w) A (Builtin.«type.__call__» ⟨.ref C::rest,[]⟩) Q E ⟨h,g,d,t,os⟩:=by
 repeat (first|with_reducible refine OI hC ?_|with_reducible refine wpAny_madeBy_exc hC ?_|wp_step)
 refine codeAny_call_builtin_code (Code.quiet_builtin _ F.quiet) (wpAny_check_new_subT F T hC (codeAny_exc_new_subT F T hC ?_ hr));show wpAny _ _ _ _ _ _;generalize e0:h.push { cls:=.type "tuple",data:=.seq rest.toArray }=h0;generalize e1:h0.push (rf C h.objs.size none)=h1;have sz0:h0.objs.size=h.objs.size+1:=by rw[<-e0,kz]
 have up:∀b o,h.get? b=some o->h1.get? b=some o:=λb o z=>by
  rw[<-e1,<-e0];exact bZ _ (bZ _ z)
 have at1:h1.get? (h.objs.size+1)=some (rf C h.objs.size none):=by
  rw[<-e1];exact zm sz0.symm rfl
 have att:h1.get? h.objs.size=some { cls:=.type "tuple",data:=.seq rest.toArray }:=by
  rw[<-e1,<-e0];exact bZ _ (zm rfl rfl)
 have C1:=up _ _ hC;have N1:h1.Ns N mN:=by
  obtain⟨o,es,ep,z,r⟩:=hn;exact⟨o,es,ep,up _ _ z,r⟩
 have T1:OwnTail h1 bmB bm:=T.keeps up;have me:(Value.ref C::bm).contains (.ref C)=true:=by simp
 unfold isInstance
 repeat (first|with_reducible refine OI at1 ?_|(with_reducible refine OY C1 ?_;rw[me])|wp_step)
 show wpAny _ _ (typeLookup (.ref C) _) _ _ _;refine wpAny_typeLookup_tail C1 N1 T1 F.mroIs F.init.lookup ?_;rw[hi];refine OF (Op ?_);unfold bindSpecial;refine Op (OW (T:= "function") ⟨_,up _ _ hf,hc⟩ ?_);rw[if_pos (by decide)];have new1:h.get? (h.objs.size+1)=none:=wk (Nat.le_succ _);have new0:h.get? h.objs.size=none:=wk (bb _);refine Os (Op (Ov (k h1 (h.objs.size+1) ⟨up,new1,h.objs.size,at1,new0,att⟩) (λr s' z=>?_) λ_ _ z=>z));obtain⟨rfl,z⟩:=z
 wp_walk
 exact z
theorem Il(F:ExcBaseFacts B newId initId bmB)(T:OwnTail h bmB bm){Q:Value->Shared->Prop}(hC:h.get? C=some (excClassObj nm q C N bs bm hdct sn sub ab col dd k0 k1 k2 k3 k5 newId))(hn:h.Ns N mN)(hi:mN "__init__" = some (.ref fI))
  (hf:h.get? fI=some oI) (hc:oI.cls=.type "function") (k:∀h' e,Heap.MadeExcOf h h' e (.ref C) rest->wpAny (model prog w) (A.under (.builtin "type.__call__" ⟨.ref C::rest,[]⟩)) (call (.ref fI) (.ref e::rest)) (λr s'=>r=.none/\Q (.ref e) s') E ⟨h',g,d,t,os⟩)
  (hr:rest.length<=sizeLine:=by size_fits):wpAny (model prog w) A (call (.ref C) rest) Q E ⟨h,g,d,t,os⟩:=by
 have q1:=tc_lookup;have q2:=tc_bind (.ref C);have q3:(⟨h,g,d,t,os⟩:Shared).TypeIs (.ref C) "type" :=⟨_,hC,rfl⟩
 refine wpAny_call (codeAny_of_tree ?_);show wpAny _ _ (callAny (.ref C) _) _ _ _
 repeat (any_goals (first|assumption|with_reducible refine OI hC ?_|wp_step))
 refine⟨rfl,codeAny_call_builtin_at (Code.quiet_builtin _ (by decide +kernel)) entry_typeCall (wpAny_check_type_call_sub hC (Ik (hr:=hr) F T hC hn hi hf hc k))⟩
theorem Im(F:ExcBaseFacts B newId initId bmB){x:Str}{np cpos pos:Pos}{args:List Expr}{Q:Flow->Shared->Prop}(hb:bm.contains (.type "BaseException")=true)(hh:A.handled=none)(hp:(backTo cpos (starEach args env)).any (·.1)=false)(hi:mN "__init__" = some (.ref fI))(hc:oI.cls=.type "function")
  (k:wpAny (model prog w) A (eval (.Name x np) env) (λf s1=>f = .ref C/\wpAny (model prog w) A (evalArgs (.ref C) true (backTo cpos (starEach args env)) [])
   (λa s2=>a.kw=[]/\a.pos.length<=sizeLine/\s2.heap.get? C=some (excClassObj nm q C N bs bm hdct sn sub ab col dd k0 k1 k2 k3 k5 newId)/\s2.heap.Ns N mN/\OwnTail s2.heap bmB bm/\s2.heap.get? fI=some oI/\
    ∀h' e,Heap.MadeExcOf s2.heap h' e (.ref C) a.pos->wpAny (model prog w) (A.under (.builtin "type.__call__" ⟨.ref C::a.pos,[]⟩)) (call (.ref fI) (.ref e::a.pos))
     (λr s3=>r=.none/\∃t dx,s3.heap.get? C=some (excClassObj nm q C N bs bm hdct sn sub ab col dd k0 k1 k2 k3 k5 newId)/\s3.heap.get? e=some (rf C t dx)/\E (.ref e) s3) E { s2 with heap:=h' }) E s1) E s) :
  wpAny (model prog w) A (exec (.Raise (some (.Call (.Name x np) args [] cpos)) none pos) env) Q E s:=by
 rw[arm_exec_Raise];refine Op (OB (Ij (C:=C) (nm:=nm) (q:=q) (N:=N) (bs:=bs) (bm:=bm) (hdct:=hdct) (sn:=sn) (sub:=sub) (ab:=ab) (col:=col) (dd:=dd) (k0:=k0) (k1:=k1) (k2:=k2) (k3:=k3) (k5:=k5) (newId:=newId) hb hh ?_));refine Op (Ov (wpAny_Call_ofName (Ov k (λf s1 y=>?_) λ_ _ z=>z)) (λv s3 y=>Op (OB (Os y))) λ_ _ z=>z);obtain⟨rfl,y⟩:=y;unfold callWith;refine Op (OF (Ov y (λa s2 y=>Op (OB ?_)) λ_ _ z=>z));obtain⟨ap,ak⟩:=a;obtain⟨rfl,hl,cC,cN,T,cI,y⟩:=y;obtain⟨hp',g,d,tk,os⟩:=s2;simp only[hp];refine Op (wpAny_keeperOf_exc cC (Op (Il (hr:=hl) F T cC cN hi cI hc λh' e m=>Ov (y h' e m) (λr s3 z=>?_) λ_ _ z=>z)));obtain⟨rfl,t,dx,z1,z2,z3⟩:=z;exact⟨rfl,Op (OF (wpAny_point (Os ⟨e,t,dx,rfl,z1,z2,z3⟩)))⟩
end
end Fl
namespace Fl
open PySem.Builtin PySem.Builtin.ObjectAttr
inductive Tl (h:Heap) (ns:List Str) (bmB:List Value):List Value->Prop
 |last:Tl h ns bmB bmB
 |more {a:Addr} {c:Value} {dd:Option Addr} {cd:ClassData} {sl:Array (Option Value)} {m:Str->Option Value} {l:List Value}:h.get? a=some ⟨c,dd,.cls cd,sl⟩->h.Ns cd.ns m->(∀n∈ns,m n=none)->Tl h ns bmB l->Tl h ns bmB (.ref a::l)
variable {h h':Heap}{ns:List Str}{bmB l:List Value}
theorem Tl.has(T:Tl h ns bmB l){X:String}{b:Bool}(q:bmB.contains (.type X)=b):l.contains (.type X)=b:=by
 induction T with
 |last=>exact q
 |more _ _ _ _ ih=>rw[sj,ih];rfl
theorem Tl.keeps(T:Tl h ns bmB l)(k:∀b o,h.get? b=some o->h'.get? b=some o):Tl h' ns bmB l:=by
 induction T with
 |last=>exact .last
 |more a b c _ ih=>exact .more (k _ _ a) (b.keeps k) c ih
theorem Tl.own(T:Tl h ns bmB l)(i:("__init__" : Str)∈ns):OwnTail h bmB l:=by
 induction T with
 |last=>exact .base
 |more a b c _ ih=>exact .own a b (c _ i) ih
theorem Tl.passes(T:Tl h ns bmB l)(self:Value)(what:Str):refuseLoop self what l=refuseLoop self what bmB:=by
 induction T with
 |last=>rfl
 |more _ _ _ _ ih=>rw[refuseLoop_ref,ih]
section
variable{M:Model}{prog:Program}{w:World}{A:Around}{E:Value->Shared->Prop}{h:Heap}{g:Array GenState}{d:Drawn}{t:Nat}{os:OsState}
variable{nm q:Str}{C N x:Addr}{bs bm bmB:List Value}{hdct:Bool}{sn:List Str}{sub:List Value}{ab:Bool}{col:Option Bool}{dd:Option Addr}{k0 k1 k2 k3 k5:Option Value}{B newId sa owner:String}{mN:Str->Option Value}{ns:List Str}
theorem uN{l:List Value}{n:Str}{y:Option Value}{Q:Option Value->Shared->Prop}(T:Tl h ns bmB l)(i:n∈ns)(r:lookupAlong bmB n=pure y)(k:Q y ⟨h,g,d,t,os⟩):wpAny M A (lookupAlong l n) Q E ⟨h,g,d,t,os⟩:=by
 induction T with
 |last=>
  rw[r];exact Os k
 |more a b c _ ih=>
  rw[lookupAlong_cons];refine Op (wpAny_classOwn_cls a b ?_);rw[c n i];exact ih
theorem uO{n:Str}{y:Option Value}{Q:Option Value->Shared->Prop}(hC:h.get? C=some (excClassObj nm q C N bs bm hdct sn sub ab col dd k0 k1 k2 k3 k5 newId))(hN:h.Ns N mN)(hm:mN n=none)(T:Tl h ns bmB bm)(i:n∈ns)
  (b:mroOf (.type B)=pure bmB) (hB:typeLookup (.type B) n=pure y) (k:Q y ⟨h,g,d,t,os⟩):wpAny M A (typeLookup (.ref C) n) Q E ⟨h,g,d,t,os⟩:=by
 have r:lookupAlong bmB n=pure y:=by
  rw[typeLookup_eq,b] at hB;exact hB
 rw[typeLookup_eq];refine Op (wpAny_mroOf_exc hC ?_);rw[lookupAlong_cons];refine Op (wpAny_classOwn_exc hC hN ?_);rw[hm];exact uN T i r k
theorem Io{name:Str}{v:Value}{o:Obj}{Q:Unit->Shared->Prop}(SF:StoreFacts B bmB sa owner)(hC:h.get? C=some (excClassObj nm q C N bs bm true sn sub ab col dd k0 k1 k2 k3 k5 newId))(hN:h.Ns N mN)(T:Tl h ns bmB bm)
  (m1:mN "__setattr__" = none) (m2:mN name=none) (i1:("__setattr__" : Str)∈ns) (i2:name∈ns) (hB:typeLookup (.type B) name=pure none) (hx:h.get? x=some o) (hc:o.cls=.ref C) (hd:o.dict=none) {vs:Array Value} (hv:o.data=.fields vs)
  (k:∀h' tk dx m,h.get? dx=none->dx≠x->h'.get? x=some { o with dict:=some dx }->h'.Ns1 dx m->m name=some v->(∀n,n≠name->m n=none)->(∀b u,b≠x->h.get? b=some u->h'.get? b=some u)->Q () ⟨h',g,d,tk,os⟩) :
  wpAny (model prog w) A (setAttr (.ref x) name v) Q E ⟨h,g,d,t,os⟩:=by
 have bi:=SF.slot.bind (.ref x);have own:(Value.ref C::bm).contains (.type owner)=true:=by rw[sj,T.has SF.hasOwner,Bool.or_true]
 have pass:=SF.passes (.ref x);unfold setAttr callSpecial? specialOf
 repeat (any_goals (first|assumption|(with_reducible refine OI hx ?_;rw[hc])|with_reducible refine uO hC hN m1 T i1 SF.mro SF.slot.lookup ?_|wp_step))
 refine codeAny_call_builtin SF.slot.plain SF.entry ?_;simp only[checkBuiltinCall,SF.kind,SF.split];refine Op ?_;unfold isInstance
 repeat (first|(with_reducible refine OI hx ?_;rw[hc])|(with_reducible refine OY hC ?_;rw[own])|wp_step)
 have chk:∀{R:Unit->Shared->Prop} {z:Shared},R () z->wpAny (model prog w) A.in1 (match Manifest.signature? sa with|some sig=>Bind.checkArgs sa sig ⟨[.ref x]++[.str name t,v],[]⟩|_=>pure ()) R (λe s'=>E e s') z:=by
  intro R z r;cases e:Manifest.signature? sa with
  |none=>exact Os r
  |some sig=>
   have ar:=SF.args (.ref x) (.str name t) v;simp only[argsOk,e] at ar;have ar':Bind.checkArgs sa sig ⟨[.ref x]++[.str name t,v],[]⟩=pure ():=ar;show wpAny _ _ (Bind.checkArgs sa sig ⟨[.ref x]++[.str name t,v],[]⟩) _ _ _;rw[ar'];exact Os r
 refine chk ?_;clear chk;unfold Builtin.«object.__setattr__»
 repeat (first|rw[refuse_eq]|(rw[refuseLoop_ref,T.passes,pass])|(with_reducible refine OI hx ?_;rw[hc])|with_reducible refine wpAny_mroOf_exc hC ?_|with_reducible refine uO hC hN m2 T i2 SF.mro hB ?_|wp_step)
 rw[hd,if_neg (by simp[typeHasDict]),hv];generalize e1:h.push { cls:=.type "dict",data:=.dict #[] }=h1;have in1:∀b u,h.get? b=some u->h1.get? b=some u:=λb u z=>by rw[<-e1];exact bZ _ z
 have nx:x≠h.objs.size:=eJ (bX hx);refine Op (wpAny_alloc' ?_);rw[e1];refine Op (wpAny_update' (in1 _ _ hx) (Os ?_));have fr:({ o with dict:=some h.objs.size }:Obj).isFreed=false:=Obj.isFreed_of_fields hv;generalize e2:(h1.update x λo=>{ cls:=o.cls,dict:=some h.objs.size,data:=o.data,slots:=o.slots })=h2;have at2:h2.get? x=some { o with dict:=some h.objs.size }:=by rw[<-e2];exact sZ _ (in1 _ _ hx) fr
 have oth:∀b,b≠x->h2.get? b=h1.get? b:=λb ne=>by rw[<-e2];exact Heap.get?_update_ne _ _ _ _ ne
 have new2:h2.get? h.objs.size=some { cls:=.type "dict",data:=.dict #[] }:=by
  rw[oth _ (Oy nx),<-e1];exact zm rfl rfl
 have emp:h2.Ns h.objs.size (λ_=>none):=⟨_,#[],_,new2,rfl,λe z=>Ot z (by simp),λ_=>rfl⟩
 show wpAny _ _ (storeInDict h.objs.size (.str name t) name v) _ _ _;unfold storeInDict newKeyGuard;refine Op (Os (Op (wpAny_nsSet1 (Heap.Ns1.of_empty emp) λh3 n3 same=>?_)));obtain⟨oD,es,ep,g1,g2,g3⟩:=n3.count (Within.cons name v Within.nil);refine Op (wpAny_lookBehind g1 (by rw[g2];exact pastItsLine_dict (gb g3 (by rw[cO,eW,sizeLine_eq];omega))) ?_)
 wp_walk
 refine k h3 _ h.objs.size _ (wk (bb _)) (Oy nx) ((same.2 x nx).trans at2) n3 (by simp) (λn ne=>by simp[ne]) λb u ne z=>?_;exact(same.2 b (eJ (bX z))).trans ((oth b ne).trans (in1 b u z))
end
section
variable{M:Model}{prog:Program}{w:World}{A:Around}{E:Value->Shared->Prop}{h:Heap}{g:Array GenState}{d:Drawn}{t:Nat}{os:OsState}
variable{nm q:Str}{C N a dx:Addr}{bs bm bmB:List Value}{hdct:Bool}{sn:List Str}{sub:List Value}{ab:Bool}{col:Option Bool}{dd:Option Addr}{k0 k1 k2 k3 k5:Option Value}{B newId:String}{mN m:Str->Option Value}{ns:List Str}{name:Str}{v:Value}{o:Obj}
end
end Fl
def dG(P:Program)(w:World):jH:=λouter H s E e s'=>∃(ea:Addr) (cls:Value) (dx:Option Addr) (H':Hp) (B:Heap),e=.ref ea/\Fl.Up (Fl.Is cls dx) B outer ea .none s'.heap/\s'.os=s.os/\AllBare s'.gens/\Un (cu outer) [] H H' s.heap s'.heap/\HOk P w H' s'.heap/\
 (∀b o,s.heap.get? b=some o->b∉cu outer->∃o',B.get? b=some o')/\(∀b u,H' b=some u->∃o,B.get? b=some o)/\E cls dx H'
theorem bo{P:Program}{w:World}{X:Cx}:cX (dG P w) X E0:=λ_ _ _ _ _ _ _ ⟨_,_,_,_,_,_,_,_,_,_,_,_,_,z⟩=>z.elim
theorem HOk.through{P:Program}{w:World}{H:Hp}{B h h2:Heap}(hok:HOk P w H h)(hT:∀ b u,H b=some u->∃ o,B.get? b=some o)(s1:B.StaysIn h)(s2:B.StaysIn h2):HOk P w H h2:=λa o e=>(hok a o e).stay (λb u hb q=>by
  have hb':∃v,H b=some v:=by
   rcases hb with rfl|hb
   .exact⟨_,e⟩
   .exact⟨_,hb⟩
  obtain⟨v,hv⟩:=hb';obtain⟨o',eB⟩:=hT b v hv;have:=s1 b o' eB;rw[q] at this;cases this;exact s2 b _ eB) (λ_ z=>z) λ_ _ z=>z
variable {P:Program}{w:World}{K:Oq}{mg:Str->Option Value}{base:Heap}{N:List Str}{qual:Str}{scope:Scope}{f:Addr}{cd:Value}{A:Around}{outer:List Env}{s:Shared}{H:Hp}{E:XK}
theorem Zh{env:Env}{l:List Env}{b:Addr}(h:b∈cu l):b∈cu (env::l):=by
 unfold cu at h ⊢;obtain⟨e,h1,h2⟩:=YaB.mp h;exact YaB.mpr ⟨e,fG _ h1,h2⟩
theorem Ip:cX (dG P w) (cY (dG P w) P w K mg base N qual scope f cd A outer s H E) E:=by
 rintro pins σ H1 s1 _ s' I ⟨ea,cls,dx,H',B,rfl,fl,hos,hbare,un,hok,hB,hT,hE⟩;have nostk:∀b o,s.heap.get? b=some o->b∉cu outer->b∉cu (envOfC qual scope s.heap.objs.size f cd::outer):=λb o e hb hm=>by
  rcases Yaq.mp (I.stkSub b hm) with z|z
  .have l1:=bX e
   have l2:s.heap.objs.size<=(envOfC qual scope s.heap.objs.size f cd).locals:=I.ok.above;have z':b=(envOfC qual scope s.heap.objs.size f cd).locals:=z;rw[<-z'] at l2;exact Ot (cv l1 l2) (f9 _)
  .exact hb z
 have ib:Un (cu outer) [] H H1 s.heap s1.heap:=I.base;show wpAny (model P w) (A.deeper (envOfC qual scope s.heap.objs.size f cd)) (leaving (envOfC qual scope s.heap.objs.size f cd) (.ref ea)) (λ_ s''=>dG P w outer H s E (.ref ea) s'') _ s';refine Fl.leaves Fl.Is.firm I.ok.frames rfl fl λh2 fl2 up=>?_;have frm:∀b,b∈cu (envOfC qual scope s.heap.objs.size f cd::outer)->∃o,s'.heap.get? b=some o/\∀vs,o.data≠.fields vs:=λb hb=>(fl.fr.mem hb).2;refine⟨ea,cls,dx,H',B,rfl,fl2,hos.trans I.os,hbare,⟨λb o e n hb _=>?_,λb o e n hb _=>?_,λb o e n _=>?_,λb o e _=>?_,λb xs e=>un.tups b xs (ib.tups b xs e),λb o xs e=>un.frzs b o xs (ib.frzs b o xs e),λb ps e=>?_,λ_ ⟨o,e⟩ n=>un.sys (by simp) (ib.there _ o e (by simp)) (ib.sys (by simp) ⟨o,e⟩ n)⟩,hok.through hT fl.st fl2.st,λb o e hb=>?_,hT,hE⟩
 .have e1:=ib.keep b o e n hb (by simp)
  have n1:=ib.free b o e n (by simp);have e2:=un.keep b o e1 n1 (nostk b o e hb) (by simp);obtain⟨o',eB⟩:=hB b o e1 (nostk b o e hb);have:=fl.st b o' eB;rw[e2] at this;cases this;exact fl2.st b _ eB
 .obtain⟨sl,e1⟩:=ib.slot b o e n hb (by simp)
  have n1:=ib.free b o e n (by simp);obtain⟨sl',e2⟩:=un.slot b _ e1 n1 (Zh hb) (by simp);obtain⟨o3,e3,nf⟩:=frm b (Zh hb);rw[e2] at e3;cases e3;obtain⟨sl3,e4⟩:=up b _ e2 nf;exact⟨sl3,e4⟩
 .obtain⟨o',e1⟩:=ib.there b o e (by simp)
  exact un.free b o' e1 (ib.free b o e n (by simp)) (by simp)
 .obtain⟨o',e1⟩:=ib.there b o e (by simp)
  by_cases hb:b∈cu (envOfC qual scope s.heap.objs.size f cd::outer)
  .obtain⟨o3,e3,nf⟩:=frm b hb
   obtain⟨sl3,e4⟩:=up b _ e3 nf;exact⟨_,e4⟩
  .obtain⟨o2,eB⟩:=hB b o' e1 hb
   exact⟨o2,fl2.st b _ eB⟩
 .obtain⟨m1,e1⟩:=ib.tbls b ps e
  obtain⟨m2,e2⟩:=un.tbls b _ e1;exact⟨m1++m2,by rw[e2,y9]⟩
 .obtain⟨o',e1⟩:=ib.there b o e (by simp)
  exact hB b o' e1 (nostk b o e hb)
def lF(X:Cx)(E:XK):Prop:=∀(pins:List (Addr×Obj)) (σ:St) (H:Hp) (s:Shared) (h':Heap) (e:Addr) (cls:Value) (args:List Value),Inv X pins σ H s->Heap.MadeExcOf s.heap h' e cls args->E cls none H->X.xe (.ref e) { s with heap:=h' }
theorem Iq:lF (cY (dG P w) P w K mg base N qual scope f cd A outer s H E) E:=by
 intro pins σ H1 s1 h2 e cls args I hx hE;have ib:Un (cu outer) [] H H1 s.heap s1.heap:=I.base;have neL:∀b o,s.heap.get? b=some o->b∉cu outer->b∉cu (envOfC qual scope s.heap.objs.size f cd::outer):=λb o e hb hm=>by
  rcases Yaq.mp (I.stkSub b hm) with z|z
  .have l1:=bX e
   have l2:s.heap.objs.size<=(envOfC qual scope s.heap.objs.size f cd).locals:=I.ok.above;have z':b=(envOfC qual scope s.heap.objs.size f cd).locals:=z;rw[<-z'] at l2;exact Ot (cv l1 l2) (f9 _)
  .exact hb z
 have stk:s1.heap.FunFrames base (envOfC qual scope s.heap.objs.size f cd::outer):=I.stack;have frm:∀b,b∈cu (envOfC qual scope s.heap.objs.size f cd::outer)->∃o,s1.heap.get? b=some o/\∀vs,o.data≠.fields vs:=λb hb=>(stk.mem hb).2;have inB:∀{b o},s1.heap.get? b=some o->b∉cu (envOfC qual scope s.heap.objs.size f cd::outer)->(PySem.W.hideAll s1.heap (cu (envOfC qual scope s.heap.objs.size f cd::outer))).get? b=some o:=λe hb=>PySem.W.hideAll_get _ e hb;have hT:∀b u,H1 b=some u->∃o,(PySem.W.hideAll s1.heap (cu (envOfC qual scope s.heap.objs.size f cd::outer))).get? b=some o:=λb u hu=>by
  have hb:b∉cu (envOfC qual scope s.heap.objs.size f cd::outer):=λhm=>by
   have:=I.stkFree b hm;rw[hu] at this;cases this
  have l:=I.hok.lt hu;have:∃o,s1.heap.get? b=some o:=by
   have q:=I.hok b u hu;cases u with
   |lst xs=>obtain⟨_,_,_,_,e⟩:=q;exact⟨_,e⟩
   |tup xs=>obtain⟨_,_,_,o,e,_⟩:=q;exact⟨_,e⟩
   |dK kvs=>obtain⟨_,_,_,_,o,_,_,e,_⟩:=q;exact⟨_,e⟩
   |dT kvs=>obtain⟨_,_,_,_,o,_,_,e,_⟩:=q;exact⟨_,e⟩
   |set S n=>obtain⟨o,_,_,_,e,_⟩:=q;exact⟨_,e⟩
   |ins C dx fs=>obtain⟨_,_,_,e,_⟩:=q;exact⟨_,e⟩
   |own y=>obtain⟨o,e⟩:=q;exact⟨_,e⟩
   |xd fs=>obtain⟨_,⟨o,_,_,e,_⟩,_⟩:=q;exact⟨_,e⟩
   |rng lo hi=>obtain⟨_,_,_,e⟩:=q;exact⟨_,e⟩
   |frz ob u=>obtain⟨e,_⟩:=q;exact⟨_,e⟩
   |tbl ps=>exact⟨_,(show s1.heap.get? b=some _ from q)⟩
   |met f y=>exact⟨_,(show s1.heap.get? b=some _ from q)⟩
   |ext φ=>obtain⟨_,⟨o,e⟩,_⟩:=q;exact⟨_,e⟩
  obtain⟨o,e⟩:=this;exact⟨o,inB e hb⟩
 show wpAny (model P w) (A.deeper (envOfC qual scope s.heap.objs.size f cd)) (leaving (envOfC qual scope s.heap.objs.size f cd) (.ref e)) (λ_ s''=>dG P w outer H s E (.ref e) s'') _ _;obtain⟨tt,he,_,_⟩:=hx.there;have newB:(PySem.W.hideAll s1.heap (cu (envOfC qual scope s.heap.objs.size f cd::outer))).get? e=none:=by
  cases q:(PySem.W.hideAll s1.heap (cu (envOfC qual scope s.heap.objs.size f cd::outer))).get? e with
  |none=>rfl
  |some o=>
   have:=PySem.W.of_hideAll _ q;rw[hx.new] at this;cases this
 refine Fl.leaves_new (P:=Fl.Is cls none) (base:=PySem.W.hideAll s1.heap (cu (envOfC qual scope s.heap.objs.size f cd::outer))) Fl.Is.firm I.ok.frames ((PySem.W.funFrames_hide stk λenv he b hb=>YaB.mpr ⟨env,he,hb⟩).of_keeps λb o hb _=>⟨o,hx.keeps b o hb,rfl⟩) rfl he ⟨rfl,rfl⟩
  (λb o q=>hx.keeps b o (PySem.W.of_hideAll _ q)) newB rfl rfl λh3 fl up=>?_
 have st1:(PySem.W.hideAll s1.heap (cu (envOfC qual scope s.heap.objs.size f cd::outer))).StaysIn s1.heap:=λb o q=>PySem.W.of_hideAll _ q;refine⟨e,cls,none,H1,_,rfl,fl,I.os,I.bare,⟨λb o e n hb _=>?_,λb o e n hb _=>?_,λb o e n _=>ib.free b o e n (by simp),λb o e _=>?_,λb xs e=>ib.tups b xs e,λb o xs e=>ib.frzs b o xs e,λb ps e=>ib.tbls b ps e,λ_ eg n=>ib.sys (by simp) eg n⟩,I.hok.through hT st1 fl.st,λb o e hb=>?_,hT,hE⟩
 .exact fl.st b o (inB (ib.keep b o e n hb (by simp)) (neL b o e hb))
 .obtain⟨sl,e1⟩:=ib.slot b o e n hb (by simp)
  obtain⟨o3,e3,nf⟩:=frm b (Zh hb);rw[e1] at e3;cases e3;obtain⟨sl3,e4⟩:=up b _ (hx.keeps b _ e1) nf;exact⟨sl3,e4⟩
 .obtain⟨o',e1⟩:=ib.there b o e (by simp)
  by_cases hb:b∈cu (envOfC qual scope s.heap.objs.size f cd::outer)
  .obtain⟨o3,e3,nf⟩:=frm b hb
   obtain⟨sl3,e4⟩:=up b _ (hx.keeps b _ e3) nf;exact⟨_,e4⟩
  .exact⟨o',fl.st b o' (inB e1 hb)⟩
 .obtain⟨o',e1⟩:=ib.there b o e (by simp)
  exact⟨o',inB e1 (neL b o e hb)⟩
end L2
namespace LP
open PySem PySem.Spec PyProof.Rows L2
def aH(N:List Str)(ds:List D):aN:=ds.map .d++List.replicate (N.length-ds.length) .un
theorem Ir{K:Oq}{W:Wd}{H:Hp}{N:List Str}{vs:List V}{ds:List D}(ok:WOk W H)(r:Reps K W vs ds):SOk K W H W (start N vs) H (aH N ds) where
 ext:=.refl ok
 len:=by unfold aH L2.start;simp[r.length]
 d:=λi x e=>by
  unfold aH at e;rcases gg i ds.length with h|h
  .rw[l5 (by simpa using h),cc] at e
   cases q:ds[i]? with
   |none=>rw[q] at e;cases e
   |some y=>
    rw[q] at e;cases e;obtain⟨v,ev,rv⟩:=r.get q;refine⟨v,?_,rv⟩;unfold L2.start;rw[l5 (by rw[aW,r.length];exact h),cc,ev];rfl
  .rw[lT (by simpa using h),nN] at e
   split at e<;>cases e
 o:=λi xs e=>by
  unfold aH at e;rcases gg i ds.length with h|h
  .rw[l5 (by simpa using h),cc] at e
   cases q:ds[i]? with
   |none=>rw[q] at e;cases e
   |some y=>rw[q] at e;cases e
  .rw[lT (by simpa using h),nN] at e
   split at e<;>cases e
 ne:=λi j xs ys a _ e=>by
  unfold aH at e;rcases gg i ds.length with h|h
  .rw[l5 (by simpa using h),cc] at e
   cases q:ds[i]? with
   |none=>rw[q] at e;cases e
   |some y=>rw[q] at e;cases e
  .rw[lT (by simpa using h),nN] at e
   split at e<;>cases e
 oo:=.none λi xs e=>by
  unfold aH at e;rcases gg i ds.length with h|h
  .rw[l5 (by simpa using h),cc] at e
   cases q:ds[i]? with
   |none=>rw[q] at e;cases e
   |some y=>rw[q] at e;cases e
  .rw[lT (by simpa using h),nN] at e
   split at e<;>cases e
variable {P:Program}{w:World}{K:Oq}{mg:Str->Option Value}{base:Heap}
theorem uP{x qual:Str}{st:Stmt}{f:Addr}{fd:FuncData}{N ps:List Str}{k:Nat}{S:aS}{z:WS}(F:Fun K x qual st f fd)(sc:cB N ps (aq st))(len:∀ds E Q,S ds E Q->ds.length=ps.length)
  (hbody:∀ (cdv:Value) (A:Around) (outer:List Env) (s:Shared) (H:Hp) (E:XK),Room k (A.deeper (envOfC qual (aq st) s.heap.objs.size f cdv))->
   cX (dG P w) (cY (dG P w) P w K mg base N qual (aq st) f cdv A outer s H E) E->lF (cY (dG P w) P w K mg base N qual (aq st) f cdv A outer s H E) E->
   lA (cY (dG P w) P w K mg base N qual (aq st) f cdv A outer s H E) E (aR st) z)
  (h:∀ds E Q,S ds E Q->z E { nx:=λ_=>Q .non,rt:=Q } (aH N ds)):FnOk P w K mg base (dG P w) (k+1) f fd ps (fO K S):=by
 obtain⟨oc,od,kV,doc,pm,an,cdv,ct,osl,rfl,lk,hcd⟩:=F.ex;refine mJ lk hcd sc (λvs H Q E hs=>?_) λA outer s H vs Q E hr hs=>?_
 .obtain⟨ds,W,_,r,hS⟩:=hs
  rw[r.length];exact len _ _ _ hS
 .obtain⟨ds,W,ok,r,hS⟩:=hs
  obtain⟨t,p,k⟩:=(hbody cdv A outer s H E hr Ip Iq).t;refine ⟨t,p,k W H W W (start N vs) H (aH N ds) (λex=>∀ W' H' cls dx,Ext W H W' H'->Am K W' H' cls dx ex->E cls dx H') _ { nx:=λ_=>RQ K W H Q .non,rt:=RQ K W H Q } (Ir ok r) (.refl W) (λex W' H' cls dx he x r=>he W' H' cls dx x r)
   ⟨λW1 σ1 H1 ρ1 s1 _ q=>q _ W1 H1 s1.ext .non,λd v W1 H1 x1 r1 q=>q v W1 H1 x1 r1,λ_ _ _ _ _ _ q=>q.elim,λ_ _ _ _ _ _ q=>q.elim⟩ (h ds _ _ hS)⟩
structure Fp(P:Program)(w:World)(K:Oq)(mg:Str->Option Value)(base:Heap)(k:Nat)(x:Str)(ps:List Str)(S:aS):Prop where
 ok:∃f fd,FnOk P w K mg base (dG P w) k f fd ps (fO K S)/\mg x=some (.ref f)/\PySem.W.keepIn K (.ref f)=true/\Binds K fd ps []
 mono:oF S
variable {X:Cx}{EX:XK}{pos p:Pos}{e:Expr}{es:List Expr}{t:WA}{x:Str}{k j:Nat}{ps:List Str}{S:aS}
theorem az(G:Fp X.prog X.w X.K X.mg X.base k x ps S)(hr:Room j X.A)(hx:cX (dG X.prog X.w) X EX)(ha:jo X EX (e::es) t)(hk:k<=j:=by decide)(hg:Gl X x:=by rfl)(hdb:(x==("__debug__" : Str))=false:=by decide)(he:starEach (e::es) X.env=(false,eval e X.env)::starEach es X.env:=by rfl)(hpl:(backTo pos (starEach es X.env)).any (·.1)=false:=by rfl) :
  PX X EX (.Call (.Name x p) (e::es) [] pos) (wF S t):=by
 obtain⟨f,fd,F,hm,kp,hb⟩:=G.ok;exact HP F G.mono (hr.mono hk) hm kp hb hx ha hg hdb he hpl
def aL(z:WS):WS:=λ_ N ρ=>z No N ρ
theorem jr{st:Stmt}{z:WS}(h:PZ X.nox E0 st z):PZ X EX st (aL z):=by
 obtain⟨t,p,k⟩:=h.t;refine⟨⟨t,λpins s σ H D I hw=>Ov (p pins s σ H D (I.wish _) hw) (λ_ _ q=>q.unwish) λ_ _ z=>OE z,λW0 H0 F W σ H ρ E Dn N s fl eo no q=>k W0 H0 F W σ H ρ No Dn N s fl (λ_ _ _ _ _ z=>z.elim) no q⟩,λE ρ N N' hl q=>h.mono _ _ _ _ hl q⟩
end LP
namespace L2
open PySem PySem.Spec PyProof.Rows
variable {X:Cx}{tg:Expr}
def Az(K:Oq)(tl:TE):TI:=λσ H R=>tl σ H λx H1=>∃a,x=.ref a/\(((∃xs,SqL K H1 a xs)/\R (Dw K a) H1)\/((∃xs,SqT K H1 a xs)/\R (Ab K a) H1))
theorem Iu{l:Expr}{tl:TE}(hl:PE X l tl):PI X tg l (Az X.K tl):=by
 intro pins s σ H R I h;refine aI (hl pins s σ H _ I h) λv s1 ⟨x,H1,I1,r1,q1⟩=>?_;obtain⟨a,e,⟨⟨xs,hq⟩,q⟩|⟨⟨xs,hq⟩,q⟩⟩:=q1
 .subst e
  cases r1;obtain⟨its,rv,p,hz⟩:=I1.list hq;refine wpAny_pyIter_list p.isList ?_;refine⟨s1.heap.objs.size,[s1.heap.objs.size],_,_,H1,rfl,I1.kept (t':=s1.toks) λb o e=>bZ _ e,lb a _,⟨_,eV _ rfl,rfl,rfl⟩,λb hb=>?_,q⟩;have e:b=s1.heap.objs.size:=by simpa using hb
  subst e;exact I1.fpOk (bb _) (I1.hok.fresh (bb _))
 .subst e
  cases r1;obtain⟨its,rv,p,hz⟩:=I1.tuple hq;refine wpAny_pyIter_tuple (show s1.heap.IsTuple a its.toArray from p) ?_;refine⟨s1.heap.objs.size,[s1.heap.objs.size],_,_,H1,rfl,I1.kept (t':=s1.toks) λb o e=>bZ _ e,jV a _,⟨_,eV _ rfl,rfl,rfl⟩,λb hb=>?_,q⟩;have e:b=s1.heap.objs.size:=by simpa using hb
  subst e;exact I1.fpOk (bb _) (I1.hok.fresh (bb _))
end L2
namespace LP
open PySem PySem.Spec PyProof.Rows L2
variable {X:Cx}{EX:XK}{pos p:Pos}{tg e a b:Expr}{w wa:WE}
def isS(Q:List D->Prop):D->Prop
 |.lst xs=>Q xs
 |.tup xs=>Q xs
 |_=>False
theorem isS.mono{Q Q':List D->Prop}(h:∀b,Q b->Q' b):∀d,isS Q d->isS Q' d:=λd z=>by
 cases d<;>first|exact h _ z|exact z
def iS(w:WE):WA:=λE ρ Q=>w E ρ (isS Q)
theorem gB(he:PX X EX e w):lD X EX tg e (iS w):=by
 obtain⟨t,q,k⟩:=he.t;refine⟨⟨_,Iu q,λW0 H0 W σ H ρ E R s eo h=>?_⟩,λE ρ P P' hp h=>he.mono _ _ _ _ (isS.mono hp) h⟩;refine k W0 H0 W σ H ρ E _ s eo (he.mono _ _ _ _ (λd hd v W1 H1 x1 r1=>?_) h);have keyT:∀{l:Addr} {vs:List V} {xs:List D},(∀W' H' J,Ext W H W' H'->mX X.K W' J xs->R J H')->(∀W2 H2,(∀a o,W1.G a=some o->W2.G a=some o)->WOk W2 H2->SqT X.K H2 l vs)->Reps X.K W1 vs xs->(∃ys,SqT X.K H1 l ys)/\R (Ab X.K l) H1:=by
  intro l vs xs hq sq rr;refine⟨⟨vs,sq W1 H1 (λ_ _ z=>z) x1.ok⟩,hq W1 H1 _ x1 λW2 H2 i g2 p2 ok2=>⟨λd hd=>?_,λhi=>⟨vs,sq W2 H2 g2 ok2,by rw[rr.length];exact hi⟩⟩⟩;obtain⟨v,ev,rv⟩:=rr.get hd;refine⟨⟨vs,v,sq W2 H2 g2 ok2,ev⟩,λx H3 y=>?_⟩;obtain⟨rfl,y⟩:=y;have:=y vs (sq W2 _ g2 ok2);rw[ev] at this;cases this;exact⟨W2,.refl ok2,rv.mono g2 p2⟩
 cases r1 with
 | @lst l vs xs e1 rr=>
  have hq:∀W' H' J,Ext W H W' H'->mX X.K W' J xs->R J H':=hd;refine⟨l,rfl,.inl ⟨⟨vs,SqL.of (x1.ok.g _ _ e1)⟩,hq W1 H1 _ x1 λW2 H2 i g2 p2 ok2=>⟨λd hd=>?_,λhi=>⟨vs,SqL.of (ok2.g _ _ (g2 _ _ e1)),by rw[rr.length];exact hi⟩⟩⟩⟩;obtain⟨v,ev,rv⟩:=rr.get hd;have sq:SqL X.K H2 l vs:=SqL.of (ok2.g _ _ (g2 _ _ e1));refine⟨⟨vs,v,sq,ev⟩,λx H3 y=>?_⟩;obtain⟨rfl,y⟩:=y;have:=y vs sq;rw[ev] at this;cases this;exact⟨W2,.refl ok2,rv.mono g2 p2⟩
 |tup e1 rr=>exact⟨_,rfl,.inr (keyT hd (λW2 H2 g2 ok2=>SqT.of (ok2.g _ _ (g2 _ _ e1))) rr)⟩
 |ktup e1 rr=>exact⟨_,rfl,.inr (keyT hd (λW2 H2 g2 ok2=>.inr e1) rr)⟩
 |non=>exact hd.elim
 |bl _=>exact hd.elim
 |int _=>exact hd.elim
 |str _=>exact hd.elim
 |dic _=>exact hd.elim
 |pen _=>exact hd.elim
 |cls _=>exact hd.elim
 |exc _ _=>exact hd.elim
 |ty _=>exact hd.elim
 |scr _ _=>exact hd.elim
theorem sx{x:Str}{T:String}(hm:X.mg x=none)(hv:bootBuiltins x=some (.type T))(hg:Gl X x:=by rfl)(hn:x≠ "__name__" :=by decide)(hd:(x==("__debug__" : Str))=false:=by decide):PX X EX (.Name x pos) (wC (.ty T)):=
 HL (v:=.ty T) hm hv rfl (λ_=>.ty T) hg hn hd
theorem Iv{x:Str}{i:Int}{t:Tok}(hm:X.mg x=some (.int i t))(hg:Gl X x:=by rfl)(hd:(x==("__debug__" : Str))=false:=by decide):PX X EX (.Name x pos) (wC (.int i)):=
 DH (v:=.int i) hm ⟨t,rfl⟩ (λ_=>.int i) hg hd
theorem Iw{x:Str}{a:Addr}{vs:List V}{ds:List D}(hm:X.mg x=some (.ref a))(hk:KT X.K a vs)(hr:∀W,Reps X.K W vs ds)(hg:Gl X x:=by rfl)(hd:(x==("__debug__" : Str))=false:=by decide):PX X EX (.Name x pos) (wC (.tup ds)):=
 DH (v:=.ref a) hm rfl (λW=>.ktup hk (hr W)) hg hd
def detS(n:Nat)(dom:List D->Prop)(val:List D->D):aS:=λds _ Q=>ds.length=n/\dom ds/\Q (val ds)
theorem detS.mono{n:Nat}{dom:List D->Prop}{val:List D->D}:oF (detS n dom val):=λds E E' Q Q' _ hQ h=>⟨h.1,h.2.1,hQ _ h.2.2⟩
theorem detS.len{n:Nat}{dom:List D->Prop}{val:List D->D}{ps:List Str}(hp:ps.length=n):∀ds E Q,detS n dom val ds E Q->ds.length=ps.length:=λds E Q h=>h.1.trans hp.symm
def ndS(n:Nat)(dom:List D->Prop)(rel:List D->D->Prop):aS:=λds _ Q=>ds.length=n/\dom ds/\∀d,rel ds d->Q d
theorem ndS.mono{n:Nat}{dom:List D->Prop}{rel:List D->D->Prop}:oF (ndS n dom rel):=λds E E' Q Q' _ hQ h=>⟨h.1,h.2.1,λd r=>hQ _ (h.2.2 d r)⟩
theorem ndS.len{n:Nat}{dom:List D->Prop}{rel:List D->D->Prop}{ps:List Str}(hp:ps.length=n):∀ds E Q,ndS n dom rel ds E Q->ds.length=ps.length:=λds E Q h=>h.1.trans hp.symm
theorem Fp.nd{P:Program}{w:World}{K:Oq}{mg:Str->Option Value}{base:Heap}{k n:Nat}{x:Str}{ps:List Str}{dom:List D->Prop}{rel:List D->D->Prop}{f:Addr}{fd:FuncData}(h:FnOk P w K mg base (dG P w) k f fd ps (fO K (ndS n dom rel)))(hm:mg x=some (.ref f))(kp:PySem.W.keepIn K (.ref f)=true)(hb:Binds K fd ps []) :
  Fp P w K mg base k x ps (ndS n dom rel):=⟨⟨f,fd,h,hm,kp,hb⟩,ndS.mono⟩
theorem Ix{neg:Bool}{i j:Int}{Q:D->Prop}(h:Q (.bl (if neg then !(i==j) else i==j))):gEq neg (.int i) (.int j) Q:=by
 refine⟨.int i,.int j,rfl,rfl,rfl,rfl,?_⟩;exact h
theorem fA{neg:Bool}{i j:Int}{Q:D->Prop}:gEq neg (.int i) (.int j) Q↔Q (.bl (if neg then !(i==j) else i==j)):=
 ⟨λ⟨p,q,h1,h2,_,_,h⟩=>by cases h1;cases h2;exact h,Ix⟩
variable {c:Expr}{es:List Expr}{g:WG}
abbrev rg:=List D->aN->(aN->Prop)->Prop
structure oJ(X:Cx)(ts:List Expr)(g:rg):Prop where
 t:∃t,ud X ts t/\∀W0 H0 W σ H ρ ds vs Q,SOk X.K W0 H0 W σ H ρ->Reps X.K W vs ds->g ds ρ (λρ'=>∀σ',SOk X.K W0 H0 W σ' H ρ'->Q σ' H)->t vs σ H Q
 mono:∀d ρ P P',(∀r,P r->P' r)->g d ρ P->g d ρ P'
 own:∀d ρ P,ZgY ρ->g d ρ P->g d ρ (λr=>ZgY r/\P r)
def bR:rg:=λds ρ k=>match ds with
 |[]=>k ρ
 |_=>False
def aV(g:WG)(gs:rg):rg:=λds ρ k=>match ds with
 |d::ds=>g d ρ λρ'=>gs ds ρ' k
 |_=>False
theorem jd:oJ X [] bR:=by
 refine⟨⟨_,nZ,λW0 H0 W σ H ρ ds vs Q s r h=>?_⟩,λd ρ P P' hp h=>?_,λd ρ P ho h=>?_⟩
 .cases r with
  |nil=>exact⟨rfl,h σ s⟩
  |cons _ _=>exact h.elim
 .cases d with
  |nil=>exact hp _ h
  |cons _ _=>exact h.elim
 .cases d with
  |nil=>exact⟨ho,h⟩
  |cons _ _=>exact h.elim
theorem de{gs:rg}(h1:nJ X e g)(h2:oJ X es gs)(hs:(assignEach (e::es) X.env).map (·.2)=assign e X.env::(assignEach es X.env).map (·.2):=by rfl):oJ X (e::es) (aV g gs):=by
 obtain⟨t1,p1,k1⟩:=h1.t;obtain⟨t2,p2,k2⟩:=h2.t;refine⟨⟨_,mo p1 p2 hs,λW0 H0 W σ H ρ ds vs Q s r h=>?_⟩,λd ρ P P' hp h=>?_,λd ρ P ho h=>?_⟩
 .cases r with
  |nil=>exact h.elim
  |cons r rr=>exact⟨_,_,rfl,k1 W0 H0 W σ H ρ _ _ _ s r (h1.mono _ _ _ _ (λρ' h' σ' s'=>k2 W0 H0 W σ' H ρ' _ _ Q s' rr h') h)⟩
 .cases d with
  |nil=>exact h.elim
  |cons d ds=>exact h1.mono _ _ _ _ (λr hr=>h2.mono _ _ _ _ hp hr) h
 .cases d with
  |nil=>exact h.elim
  |cons d ds=>exact h1.mono _ _ _ _ (λr hr=>h2.own _ _ _ hr.1 hr.2) (h1.own _ _ _ ho h)
def bW(n:Nat)(gs:rg):WG:=λd ρ k=>match d with
 |.tup xs=>xs.length=n/\gs xs ρ k
 |_=>False
theorem je{k n:Nat}{gs:rg}(hc:X.calm=true)(h:oJ X es gs)(hn:(assignEach es X.env).length=n:=by rfl)(hst:(assignEach es X.env).findIdx? (·.1)=none:=by rfl):nJ X (.Tuple es k pos) (bW n gs):=by
 obtain⟨t,p,kk⟩:=h.t;refine⟨⟨_,qE hc p hn hst,λW0 H0 W σ H ρ d v Q s r q=>?_⟩,λd ρ P P' hp q=>?_,λd ρ P ho q=>?_⟩
 .unfold bW at q
  split at q
  .obtain⟨a,vs,rfl,h1,rr⟩:=r.sqt s.ok
   exact⟨a,vs,rfl,h1,rr.length.trans q.1,kk W0 H0 W σ H ρ _ _ Q s rr q.2⟩
  .exact q.elim
 .unfold bW at q ⊢
  split at q
  .exact⟨q.1,h.mono _ _ _ _ hp q.2⟩
  .exact q.elim
 .unfold bW at q ⊢
  split at q
  .exact⟨q.1,h.own _ _ _ ho q.2⟩
  .exact q.elim
def bJ(w:WE)(g:WG):WS:=λE N ρ=>w E ρ λd=>g d ρ N.nx
theorem xq(he:PX X EX e w)(hg:nJ X tg g)(hs:swapsWithSole [tg] e pos.line X.env=pure false:=by rfl)(hw:swappedStores [tg] e X.env=pure none:=by rfl)
  (h1:(assignEach [tg] X.env).map (·.2)=[assign tg X.env]:=by rfl):PZ X EX (.Assign [tg] e pos) (bJ w g):=by
 obtain⟨t,p,k⟩:=he.t;obtain⟨t2,p2,k2⟩:=hg.t;refine⟨⟨_,jU p p2 hs hw h1,λW0 H0 F W σ H ρ E Dn N s fl eo no h=>?_⟩,λE ρ N N' hl q=>he.mono _ _ _ _ (λd hd=>hg.mono _ _ _ _ hl.nx hd) q⟩;refine k W0 H0 W σ H ρ E _ s eo (he.mono _ _ _ _ (λd hd v W1 H1 x1 r1=>?_) h);exact k2 W0 H0 W1 σ H1 ρ d v _ (s.step x1) r1 (hg.mono _ _ _ _ (λρ' h' σ' s'=>no.nx W1 σ' H1 ρ' s' (fl.ext x1) h') hd)
def bS(i j:Nat)(t:WA):WS:=λE N ρ=>t E ρ λds=>match ds with
 |[x,y]=>N.nx ((ρ.set i (.d x)).set j (.d y))
 |_=>False
theorem AA(i j:Nat){x y:Str}{t:WA}{px py pt:Pos}{kt k2 pt2}(hN:X.N.Nodup)(ha:jo X EX [a,b] t)(hc:X.calm=true:=by rfl)(hi:X.N[i]? = some x:=by rfl)(hj:X.N[j]? = some y:=by rfl)(hij:i≠j:=by decide)
  (hx:X.env.scope.names.lookup x=some .local:=by rfl) (hy:X.env.scope.names.lookup y=some .local:=by rfl)
  (hw:swappedStores [.Tuple [.Name x px,.Name y py] kt pt] (.Tuple [a,b] k2 pt2) X.env=pure (some [x,y]):=by rfl)
  (hs:swapsWithSole [.Tuple [.Name x px,.Name y py] kt pt] (.Tuple [a,b] k2 pt2) pos.line X.env=pure false:=by rfl) :
  PZ X EX (.Assign [.Tuple [.Name x px,.Name y py] kt pt] (.Tuple [a,b] k2 pt2) pos) (bS i j t):=by
 obtain⟨ta,p,k⟩:=ha.t;refine⟨⟨_,qG hc hN hi hj hij hx hy p hw hs,λW0 H0 F W σ H ρ E Dn N s fl eo no h=>?_⟩,λE ρ N N' hl q=>ha.mono _ _ _ _ (λds hd=>?_) q⟩
 .refine k W0 H0 W σ H ρ E _ s eo (ha.mono _ _ _ _ (λds hd vs W1 H1 x1 r1=>?_) h)
  split at hd
  .obtain⟨v,u,rfl,rv,ru⟩:=r1.two
   exact⟨v,u,rfl,no.nx W1 _ H1 _ (((s.step x1).set rv).set ru) (fl.ext x1) hd⟩
  .exact hd.elim
 .split at hd
  .exact hl.nx _ hd
  .exact hd.elim
def xr(c:WT)(zb:WS):WS:=λE N ρ=>∃I:Nat->aN->Prop,(∃m,I m ρ)/\∀m ρ,I m ρ->c E ρ λb=>
 if b=true then zb E { nx:=λρ'=>∃m',m'<m/\I m' ρ',rt:=N.rt,bk:=N.nx,ct:=λρ'=>∃m',m'<m/\I m' ρ' } ρ else N.nx ρ
theorem AB{wt:WT}{zb:WS}{body:List Stmt}(hp:PassesOwn (model X.prog X.w) X.A X.env X.xe)(hc:kM X EX c wt)(hb:lA X EX body zb):PZ X EX (.While c body [] pos) (xr wt zb):=by
 obtain⟨tc,pc,kc⟩:=hc.t;obtain⟨tb,pb,kb⟩:=hb.t;refine⟨⟨_,mr hp pc pb,λW0 H0 F W σ H ρ E Dn N s fl eo no h=>?_⟩,λE ρ N N' hl q=>?_⟩
 .obtain⟨I,⟨m0,i0⟩,turn⟩:=h
  refine⟨λm σ H=>∃W ρ,SOk X.K W0 H0 W σ H ρ/\Wle F W/\I m ρ,⟨m0,W,ρ,s,fl,i0⟩,?_⟩;rintro m σ2 H2 ⟨W2,ρ2,s2,f2,i2⟩;refine kc W0 H0 W2 σ2 H2 ρ2 E _ s2 eo (hc.mono _ _ _ _ (λb hb' W3 H3 x3=>?_) (turn m ρ2 i2));cases b with
  |true=>
   rw[if_pos rfl] at hb' ⊢;refine⟨λσ4 H4=>∃m',m'<m/\∃W ρ,SOk X.K W0 H0 W σ4 H4 ρ/\Wle F W/\I m' ρ,λσ4 H4 ⟨m',hm,q⟩=>⟨m',hm,q⟩,?_⟩;exact kb W0 H0 F W3 σ2 H3 ρ2 E _ { nx:=λρ'=>∃m',m'<m/\I m' ρ',rt:=N.rt,bk:=N.nx,ct:=λρ'=>∃m',m'<m/\I m' ρ' } (s2.step x3) (f2.ext x3) eo
    ⟨λW5 σ5 H5 ρ5 s5 f5 ⟨m',hm,q⟩=>⟨m',hm,W5,ρ5,s5,f5,q⟩,no.rt,λW5 σ5 H5 ρ5 s5 f5 q=>no.nx W5 σ5 H5 ρ5 s5 f5 q,λW5 σ5 H5 ρ5 s5 f5 ⟨m',hm,q⟩=>⟨m',hm,W5,ρ5,s5,f5,q⟩⟩ hb'
  |false=>rw[if_neg (by decide)] at hb' ⊢;exact no.nx W3 σ2 H3 ρ2 (s2.step x3) (f2.ext x3) hb'
 .obtain⟨I,i0,turn⟩:=q
  refine⟨I,i0,λm ρ i=>hc.mono _ _ _ _ (λb hb'=>?_) (turn m ρ i)⟩;cases b with
  |true=>rw[if_pos rfl] at hb' ⊢;exact hb.mono E ρ { nx:=λρ'=>∃m',m'<m/\I m' ρ',rt:=N.rt,bk:=N.nx,ct:=λρ'=>∃m',m'<m/\I m' ρ' } _ ⟨λ_ z=>z,hl.rt,hl.nx,λ_ z=>z⟩ hb'
  |false=>rw[if_neg (by decide)] at hb' ⊢;exact hl.nx _ hb'
theorem Iy{tc:TT}(hc:PT X c tc)(hs:exec (.Assert c none pos) X.env=(do standAt pos;if<-isTrue c X.env (eval c X.env) then pure .next else assertFails c.pos (evalOpt none X.env)):=by rfl):PS X (.Assert c none pos) (λD σ H=>tc σ H λb H1=>b=true/\D.nx σ H1):=by
 intro pins s σ H D I h;rw[hs];refine Op (OB (Op (aI (hc pins s σ H _ I h) λb s1 ⟨H1,I1,e,q⟩=>?_)));subst e;rw[if_pos rfl];exact Os ⟨σ,H1,I1,q⟩
def fi(c:WT):WS:=λE N ρ=>c E ρ λb=>b=true/\N.nx ρ
theorem Iz{wt:WT}(hc:kM X EX c wt)(hs:exec (.Assert c none pos) X.env=(do standAt pos;if<-isTrue c X.env (eval c X.env) then pure .next else assertFails c.pos (evalOpt none X.env)):=by rfl):PZ X EX (.Assert c none pos) (fi wt):=by
 obtain⟨tc,pc,kc⟩:=hc.t;refine⟨⟨_,Iy pc hs,λW0 H0 F W σ H ρ E Dn N s fl eo no h=>?_⟩,λE ρ N N' hl q=>hc.mono _ _ _ _ (λb hb=>⟨hb.1,hl.nx _ hb.2⟩) q⟩;exact kc W0 H0 W σ H ρ E _ s eo (hc.mono _ _ _ _ (λb hb W1 H1 x1=>⟨hb.1,no.nx W1 σ H1 ρ (s.step x1) (fl.ext x1) hb.2⟩) h)
def bC(i:Nat)(w:WE):WS:=λE N ρ=>match ρ[i]? with
 |some (.ow xs)=>w E ρ λd=>xs.length<aw/\N.nx (ρ.set i (.ow (xs++[d])))
 |_=>False
theorem AC(i:Nat){x:Str}{p apos cpos:Pos}(he:PX X EX e w)(hN:X.N[i]? = some x:=by rfl)(hv:nC X.env.scope x:=by first|exact Or.inl rfl|exact Or.inr (Or.inl rfl)|exact Or.inr (Or.inr rfl))(hd:(x==("__debug__" : Str))=false:=by decide)
  (hcd:(x==("__classdict__" : Str))=false:=by decide) (hbase:attributeBase (.Name x p) "append" X.env (eval (.Name x p) X.env)=eval (.Name x p) X.env:=by rfl)
  (hfew:((backTo cpos (starEach [e] X.env)).all (λx=>!x.1)&&(backToKw cpos (keywordEach [] X.env)).all (λx=>x.1.isSome)&&decide ([e].length+([]:List Keyword).length+(if([]:List Keyword).isEmpty then 0 else 1)<30))=true:=by rfl)
  (hline:(apos.endLine==cpos.line)=true:=by rfl) (hs:starEach [e] X.env=(false,eval e X.env)::starEach [] X.env:=by rfl) (hplain:(backTo cpos (starEach [] X.env)).any (·.1)=false:=by rfl)
  (hsw:swapsWith (.Call (.Attribute (.Name x p) "append" apos) [e] [] cpos) none pos.line X.env=pure false:=by rfl):PZ X EX (.Expr (.Call (.Attribute (.Name x p) "append" apos) [e] [] cpos) pos) (bC i w):=by
 obtain⟨t,pe,k⟩:=he.t;refine⟨⟨_,kG (pv PySem.F.plainAttrs_list PySem.F.slot_list_append PySem.F.type_list_append lu (ei hN hv hd hcd) (gJ pe j0 hs) hbase hfew hline hs hplain) hsw,λW0 H0 F W σ H ρ E Dn N s fl eo no h=>?_⟩,λE ρ N N' hl q=>?_⟩
 .unfold bC at h
  split at h
  .rename_i xs ex
   obtain⟨a,vs,e1,e2,e3,e4,e5,r⟩:=s.o i xs ex;refine⟨_,e1,.inl ⟨rfl,vs,SqL.of e2⟩,?_⟩;refine k W0 H0 W σ H ρ E _ s eo (he.mono _ _ _ _ (λd hd v W1 H1 x1 r1=>?_) h);have e2':=x1.h a _ e2 e4;refine⟨a,vs,v,rfl,rfl,e2',by rw[r.length];exact cv hd.1 (nE (bb _)),?_⟩;exact no.nx W1 σ _ _ ((s.step x1).chg ex e1 ((x1.reps r).append (.cons r1 .nil))) (fl.ext x1) hd.2
  .exact h.elim
 .unfold bC at q ⊢
  split at q
  .exact he.mono _ _ _ _ (λd hd=>⟨hd.1,hl.nx _ hd.2⟩) q
  .exact q.elim
end LP
namespace L2
open PySem PySem.Spec PyProof.Rows
theorem Inv.turnedL{X:Cx}{pins:List (Addr×Obj)}{σ:St}{H:Hp}{s:Shared}{h':Heap}{t':Nat}(ts:List Addr)(I:Inv X pins σ H s)(k:∀b o,b∉ts->s.heap.get? b=some o->h'.get? b=some o)
  (hf:∀b∈ts,cR X pins H b):Inv X pins σ H { s with heap:=h',toks:=t' }:=by
 refine I.step (g':=s.gens) (d':=s.drawn) (ch:=ts) (λb hb=>?_) (λb o _ _ hc e _=>k b o hc e) (λb o _ _ hc e _=>⟨o.slots,k b o hc e⟩) (λ_ _ _ _ n=>n)
  (λb o hc e=>⟨o,k b o hc e⟩) (λ_ _ e=>e) (λ_ _ _ e=>e) (λb ps e=>⟨#[],by rw[e];simp⟩) (λm hm=>?_) (λb u e=>?_) I.bare (λn=>n)
 .obtain⟨_,f1,_,f3,f4,f5⟩:=hf b hb
  exact⟨f3,f1,f4,f5⟩
 .obtain⟨o,es,ep,ho,r⟩:=hm
  exact⟨o,es,ep,k _ o (λz=>(hf _ z).2.1 rfl) ho,r⟩
 .have nt:∀c v,H c=some v->c∉ts:=λc v q z=>by rw[(hf c z).1] at q;cases q
  refine(I.hok b u e).stay (λc v hc q=>k c v ?_ q) (λ_ q=>q) λ_ _ q=>q;rcases hc with z|z
  .rw[z];exact nt b u e
  .exact nt c _ z
def SIt(κ:Bool)(h:Heap)(it l:Addr)(i:Nat):Prop:=match κ with
 |true=>h.IsTupleIter it l i
 |false=>h.IsListIter it l i
def SSq(κ:Bool)(h:Heap)(l:Addr)(xs:Array Value):Prop:=match κ with
 |true=>h.IsTuple l xs
 |false=>h.IsList l xs
variable {κ:Bool}{h h':Heap}{it l a:Addr}{i:Nat}{xs:Array Value}
theorem SIt.keep(x:SIt κ h it l i)(k:∀o,h.get? it=some o->h'.get? it=some o):SIt κ h' it l i:=by
 cases κ
 .exact Heap.IsListIter.at x k
 .exact Heap.IsTupleIter.at x k
theorem SIt.obj(x:SIt κ h it l i):∃o,h.get? it=some o/\(∀v,o.data≠.cell v):=by
 cases κ
 all_goals
  obtain⟨o,e,_,d⟩:=x;exact⟨o,e,λv z=>by rw[d] at z;cases z⟩
theorem SSq.keep(x:SSq κ h l xs)(k:∀o,h.get? l=some o->h'.get? l=some o):SSq κ h' l xs:=by
 cases κ
 all_goals
  obtain⟨o,e,r⟩:=x;exact⟨o,k o e,r⟩
variable {prog:Program}{w:World}{A:Around}{E:Value->Shared->Prop}{s:Shared}{x:Value}
theorem uQ{Q:Value->Shared->Prop}(hi:SIt κ s.heap it l i)(hl:SSq κ s.heap l xs)(hx:xs[i]? = some x)(q:∀h',SIt κ h' it l (i+1)->Heap.SameBut it s.heap h'->Q x { s with heap:=h' }) :
  wpAny (model prog w) A (Builtin.SmallTypes.nextOf (.ref it)) Q E s:=by
 cases κ with
 |false=>exact wpAny_nextOf_list_item hi hl hx q
 |true=>
  have ht:s.heap.IsTupleIter it l i:=hi;obtain⟨ob,hob,hcl,hda⟩:=id ht;obtain⟨sq,hsq,_,nn,hds⟩:=(show s.heap.IsTuple l xs from hl)
  unfold Builtin.SmallTypes.nextOf;refine Op (wpAny_callSpecial?_slot (name:=Str.ofString "__next__") ht.typeIs F.slot_tuple_iterator_next (OK F.slot_tuple_iterator_next ht.typeIs F.entry_tuple_iterator_next ?_ (F.args_tuple_iterator_next_1 _)));show wpAny _ _ (field (.ref it) 0 >>= _) _ E s;refine Op (Oz hob hda (x:=.ref l) rfl ?_);show wpAny _ _ (if(Value.ref l==Value.none)=true then _ else _) _ E s;rw[if_neg (show¬((Value.ref l==Value.none)=true) by exact l4)];show wpAny _ _ (field (.ref it) 1 >>= _) _ E s;refine Op (Oz hob hda (x:=.int i 0) rfl ?_);show wpAny _ _ (seqItems? (.ref l) >>= _) _ E s;refine Op (OL hsq hds ?_);simp only[eK,hx];refine Op (OT hob hda (by simp) (Os ⟨x,rfl,Os (q _ ?_ (Heap.SameBut.update ..))⟩));exact⟨_,sZ _ hob (Obj.isFreed_of_fields (Obj.data_mapFields hda _)),(Obj.cls_mapFields ..).trans hcl,by rw[Obj.data_mapFields hda];simp[rawInt]⟩
theorem sC{Q:Value->Shared->Prop}(hh:A.handled=none)(hi:SIt κ s.heap it l i)(hl:SSq κ s.heap l xs)(hx:xs[i]? = none)
  (q:∀h' e,Heap.ExtBut it s.heap h'->(∃o,h'.get? e=some o/\o.cls=.type "StopIteration")->E (.ref e) { s with heap:=h' }) :
  wpAny (model prog w) A (Builtin.SmallTypes.nextOf (.ref it)) Q E s:=by
 cases κ with
 |false=>exact wpAny_nextOf_list_end hh hi hl hx q
 |true=>
  have ht:s.heap.IsTupleIter it l i:=hi;obtain⟨ob,hob,hcl,hda⟩:=id ht;obtain⟨sq,hsq,_,nn,hds⟩:=(show s.heap.IsTuple l xs from hl)
  unfold Builtin.SmallTypes.nextOf;refine Op (wpAny_callSpecial?_slot (name:=Str.ofString "__next__") ht.typeIs F.slot_tuple_iterator_next (OK F.slot_tuple_iterator_next ht.typeIs F.entry_tuple_iterator_next ?_ (F.args_tuple_iterator_next_1 _)));show wpAny _ _ (field (.ref it) 0 >>= _) _ E s;refine Op (Oz hob hda (x:=.ref l) rfl ?_);show wpAny _ _ (if(Value.ref l==Value.none)=true then _ else _) _ E s;rw[if_neg (show¬((Value.ref l==Value.none)=true) by exact l4)];show wpAny _ _ (field (.ref it) 1 >>= _) _ E s;refine Op (Oz hob hda (x:=.int i 0) rfl ?_);show wpAny _ _ (seqItems? (.ref l) >>= _) _ E s;refine Op (OL hsq hds ?_);simp only[eK,hx];refine Op (OO (Op (OT hob hda (by simp) ?_)));show wpAny _ _ (newExc (.type "StopIteration") [] >>= _) _ E _;refine Op ?_;simp only[newExc,newTuple];refine Op (OA ?_ (by size_fits));refine Op (m:=firstArgMember _ _) (wpAny_of_eq (a:=Value.none) (by first|rfl|(rw[firstArgMember];rfl)) (OA ?_ (by size_fits)));simp only[raiseNew];refine Op (wpAny_handled ?_);rw[show A.in1.handled=none from hh];exact Op (Os (wpAny_throw (q _ _ (((Heap.SameBut.update ..).extBut.push _).push _) ⟨_,eV _ rfl,rfl⟩)))
structure uR(z TI TO j1 j2:Addr):Prop where
 a:TI≠z
 b:TO≠z
 c:j1≠z
 d:j2≠z
 e:TI≠TO
 f:TI≠j1
 g:TI≠j2
 h:TO≠j1
 i:TO≠j2
 j:j1≠j2
def sD(z TI TO j1 j2 l:Addr):Prop:=l≠z/\l≠TI/\l≠TO/\l≠j1/\l≠j2
section
variable{κ κ':Bool}{prog:Program}{w:World}{A:Around}{E:Value->Shared->Prop}{s:Shared}{z TI TO j1 j2 l1 l2:Addr}{i:Nat}{xs ys:Array Value}{x y a b:Value}
theorem IC{Q:Value->Shared->Prop}(D:uR z TI TO j1 j2)(d1:sD z TI TO j1 j2 l1)(d2:sD z TI TO j1 j2 l2)
  (zz:IsZip s.heap z TI TO .none) (zi:IsPair s.heap TI (.ref j1) (.ref j2)) (zo:IsPair s.heap TO a b) (u1:SIt κ s.heap j1 l1 i) (u2:SIt κ' s.heap j2 l2 i) (v1:SSq κ s.heap l1 xs) (v2:SSq κ' s.heap l2 ys) (ex:xs[i]? = some x) (ey:ys[i]? = some y)
  (q:∀ h',IsZip h' z TI TO (rawInt s.heap.objs.size)->IsPair h' TO x y->SIt κ h' j1 l1 (i+1)->SIt κ' h' j2 l2 (i+1)->IsPair h' s.heap.objs.size x y->h'.objs.size=s.heap.objs.size+1->
   (∀c o,c≠z->c≠TO->c≠j1->c≠j2->s.heap.get? c=some o->h'.get? c=some o)->Q (.ref s.heap.objs.size) { s with heap:=h' }) :
  wpAny (model prog w) A (Builtin.«zip.__next__» ⟨[.ref z],[]⟩) (λfin s'=>∃v,fin=.done (.ret v)/\Q v s') E s:=by
 obtain⟨o1z,_,o1O,o11,o12⟩:=d1;obtain⟨o2z,_,o2O,o21,o22⟩:=d2;show wpAny _ _ (field (.ref z) 2 >>= _) _ E _;refine Op (Oz zz rfl (x:=.bool false) rfl ?_);show wpAny _ _ (field (.ref z) 3 >>= _) _ E _;refine Op (Oz zz rfl (x:=.ref TI) rfl (Op (OL zi rfl ?_)));show wpAny _ _ (Builtin.SmallTypes.ownedTupleIsFree (.ref z) >>= _) _ E _;refine Op ?_;unfold Builtin.SmallTypes.ownedTupleIsFree;refine Op (Oz zz rfl (x:=.none) rfl (Os ?_));simp only[if_true];refine Op (OO (Op (Oz zz rfl (x:=.ref TO) rfl (Op (OM zz (by simp) λg1 zz1 k1=>?_)))));replace zz1:IsZip g1 z TI TO .ellipsis:=zz1;refine Op ?_;simp only[List.zipIdx_cons,List.zipIdx_nil,zg,List.forIn_nil];refine Op (Op (OZ ?_));show wpAny _ _ (Builtin.SmallTypes.nextOf (.ref j1) >>= _) _ _ _;refine Op (uQ (u1.keep λo e=>k1.extBut _ o D.c e) (v1.keep λo e=>k1.extBut _ o o1z e) ex λg2 u1' k2=>Os ?_);have zo2:IsPair g2 TO a b:=k2.extBut _ _ D.h (k1.extBut _ _ D.b zo);refine Op (OL zo2 rfl (Op (OX zo2 λg3 zo3 k3=>?_)));replace zo3:IsPair g3 TO x b:=zo3;refine Op (wpAny_letGo (Os ?_));refine Op (Op (OZ ?_));show wpAny _ _ (Builtin.SmallTypes.nextOf (.ref j2) >>= _) _ _ _;refine Op (uQ (u2.keep λo e=>k3.extBut _ o D.i.symm (k2.extBut _ o D.j.symm (k1.extBut _ o D.d e))) (v2.keep λo e=>k3.extBut _ o o2O (k2.extBut _ o o21 (k1.extBut _ o o2z e))) ey λg4 u2' k4=>Os ?_);have zo4:IsPair g4 TO x b:=k4.extBut _ _ D.i zo3;refine Op (OL zo4 rfl (Op (OX zo4 λg5 zo5 k5=>?_)));replace zo5:IsPair g5 TO x y:=zo5;refine Op (wpAny_letGo (Os (Os (Op (OL zo5 rfl (Op (wpAny_newTuple ?_)))))));have sz:g5.objs.size=s.heap.objs.size:=by rw[k5.1,k4.1,k3.1,k2.1,k1.1]
 have zz5:IsZip g5 z TI TO .ellipsis:=k5.extBut _ _ D.b.symm (k4.extBut _ _ D.d.symm (k3.extBut _ _ D.b.symm (k2.extBut _ _ D.c.symm zz1)));have kk:∀c o,c≠z->c≠TO->c≠j1->c≠j2->s.heap.get? c=some o->g5.get? c=some o:=λc o c1 c2 c3 c4 e=>k5.extBut _ _ c2 (k4.extBut _ _ c4 (k3.extBut _ _ c2 (k2.extBut _ _ c3 (k1.extBut _ _ c1 e))));have r1:SIt κ g5 j1 l1 (i+1):=u1'.keep λo e=>k5.extBut _ o D.h.symm (k4.extBut _ o D.j (k3.extBut _ o D.h.symm e));have r2:SIt κ' g5 j2 l2 (i+1):=u2'.keep λo e=>k5.extBut _ o D.i.symm e;have zlt:z<g5.objs.size:=bX zz5;show wpAny _ _ (Builtin.SmallTypes.ownedTupleHandOut (.ref z) (.ref g5.objs.size) >>= _) _ E _;refine Op ?_;unfold Builtin.SmallTypes.ownedTupleHandOut;have zz6:IsZip (g5.push { cls:=.type "tuple",data:=.seq #[x,y] }) z TI TO .ellipsis:=bZ _ zz5;refine Op (OM zz6 (by simp) λg7 zz7 k7=>?_);replace zz7:IsZip g7 z TI TO (rawInt g5.objs.size):=zz7;refine OM zz7 (by simp) λg8 zz8 k8=>?_;replace zz8:IsZip g8 z TI TO (rawInt g5.objs.size):=zz8;have up:∀c o,c≠z->g5.get? c=some o->g8.get? c=some o:=λc o c1 e=>k8.extBut _ _ c1 (k7.extBut _ _ c1 (bZ _ e));have tt8:IsPair g8 g5.objs.size x y:=k8.extBut _ _ (wm zlt) (k7.extBut _ _ (wm zlt) (eV _ rfl));have sz8:g8.objs.size=g5.objs.size+1:=by rw[k8.1,k7.1,kz]
 rw[sz] at zz8 tt8 sz8;refine Os ⟨_,rfl,?_⟩;show Q (.ref g5.objs.size) _;rw[sz];exact q g8 zz8 (up _ _ D.b zo5) (r1.keep λo e=>up _ o D.c e) (r2.keep λo e=>up _ o D.d e) tt8 sz8 λc o c1 c2 c3 c4 e=>up c o c1 (kk c o c1 c2 c3 c4 e)
theorem ID{Q:Fin->Shared->Prop}(hh:A.handled=none)(D:uR z TI TO j1 j2)(d1:sD z TI TO j1 j2 l1)(d2:sD z TI TO j1 j2 l2)
  (zz:IsZip s.heap z TI TO .none) (zi:IsPair s.heap TI (.ref j1) (.ref j2)) (zo:IsPair s.heap TO a b) (u1:SIt κ s.heap j1 l1 i) (u2:SIt κ' s.heap j2 l2 i) (v1:SSq κ s.heap l1 xs) (v2:SSq κ' s.heap l2 ys) (en:xs[i]? = none\/ys[i]? = none)
  (q:∀h' e,(∀c o,c≠z->c≠TO->c≠j1->c≠j2->s.heap.get? c=some o->h'.get? c=some o)->(∃o,h'.get? e=some o/\o.cls=.type "StopIteration")->E (.ref e) { s with heap:=h' }) :
  wpAny (model prog w) A (Builtin.«zip.__next__» ⟨[.ref z],[]⟩) Q E s:=by
 obtain⟨o1z,_,o1O,o11,o12⟩:=d1;obtain⟨o2z,_,o2O,o21,o22⟩:=d2;show wpAny _ _ (field (.ref z) 2 >>= _) _ E _;refine Op (Oz zz rfl (x:=.bool false) rfl ?_);show wpAny _ _ (field (.ref z) 3 >>= _) _ E _;refine Op (Oz zz rfl (x:=.ref TI) rfl (Op (OL zi rfl ?_)));show wpAny _ _ (Builtin.SmallTypes.ownedTupleIsFree (.ref z) >>= _) _ E _;refine Op ?_;unfold Builtin.SmallTypes.ownedTupleIsFree;refine Op (Oz zz rfl (x:=.none) rfl (Os ?_));simp only[if_true];refine Op (OO (Op (Oz zz rfl (x:=.ref TO) rfl (Op (OM zz (by simp) λg1 zz1 k1=>?_)))));replace zz1:IsZip g1 z TI TO .ellipsis:=zz1;refine Op ?_;simp only[List.zipIdx_cons,List.zipIdx_nil,zg,List.forIn_nil];refine Op (Op (OZ ?_));show wpAny _ _ (Builtin.SmallTypes.nextOf (.ref j1) >>= _) _ _ _;cases ex:xs[i]? with
 |none=>
  refine Op (sC hh (u1.keep λo e=>k1.extBut _ o D.c e) (v1.keep λo e=>k1.extBut _ o o1z e) ex λg2 e k2 ⟨oe,e1,e2⟩=>?_);have zz2:IsZip g2 z TI TO .ellipsis:=k2 _ _ D.c.symm zz1;have ne:e≠z:=λr=>by subst r;rw[zz2] at e1;cases e1;simp at e2
  exact OM zz2 (by simp) λg3 _ k3=>q g3 e (λc o c1 _ c3 _ r=>k3.extBut _ _ c1 (k2 _ _ c3 (k1.extBut _ _ c1 r))) ⟨oe,k3.extBut _ _ ne e1,e2⟩
 |some x=>
  have ey:ys[i]? = none:=en.elim (λh=>by rw[ex] at h;cases h) id;refine Op (uQ (u1.keep λo e=>k1.extBut _ o D.c e) (v1.keep λo e=>k1.extBut _ o o1z e) ex λg2 u1' k2=>Os ?_);have zo2:IsPair g2 TO a b:=k2.extBut _ _ D.h (k1.extBut _ _ D.b zo);refine Op (OL zo2 rfl (Op (OX zo2 λg3 zo3 k3=>?_)));refine Op (wpAny_letGo (Os ?_));refine Op (Op (OZ ?_));show wpAny _ _ (Builtin.SmallTypes.nextOf (.ref j2) >>= _) _ _ _;refine Op (sC hh (u2.keep λo e=>k3.extBut _ o D.i.symm (k2.extBut _ o D.j.symm (k1.extBut _ o D.d e))) (v2.keep λo e=>k3.extBut _ o o2O (k2.extBut _ o o21 (k1.extBut _ o o2z e))) ey λg4 e k4 ⟨oe,e1,e2⟩=>?_);have zz4:IsZip g4 z TI TO .ellipsis:=k4 _ _ D.d.symm (k3.extBut _ _ D.b.symm (k2.extBut _ _ D.c.symm zz1));have ne:e≠z:=λr=>by subst r;rw[zz4] at e1;cases e1;simp at e2
  exact OM zz4 (by simp) λg5 _ k5=>q g5 e (λc o c1 c2 c3 c4 r=>k5.extBut _ _ c1 (k4 _ _ c4 (k3.extBut _ _ c2 (k2.extBut _ _ c3 (k1.extBut _ _ c1 r))))) ⟨oe,k5.extBut _ _ ne e1,e2⟩
end
variable {X:Cx}{pins:List (Addr×Obj)}{σ:St}{H:Hp}{t':Nat}
theorem Inv.turnedN{a:Addr}{o:HO}(ts:List Addr)(I:Inv X pins σ H s)(k:∀b o,b∉ts->s.heap.get? b=some o->h'.get? b=some o)
  (hf:∀b∈ts,cR X pins H b) (hp:s.heap.objs.size<=a) (new:ObjOk X.prog X.w (upd H a o) h' a o):Inv X pins σ (upd H a o) { s with heap:=h',toks:=t' }:=by
 have hn:H a=none:=I.hok.fresh hp;have nea:∀b u,H b=some u->b≠a:=λb u e z=>by rw[z,hn] at e;cases e
 have neb:∀b u,s.heap.get? b=some u->b≠a:=λb u e z=>by subst z;exact Ot (cv (bX e) hp) (f9 _)
 refine I.step (g':=s.gens) (d':=s.drawn) (ch:=ts) (λb hb=>?_) (λb o _ _ hc e _=>k b o hc e) (λb o _ _ hc e _=>⟨o.slots,k b o hc e⟩) (λb u _ e n=>by rw[af (neb b u e)];exact n)
  (λb o hc e=>⟨o,k b o hc e⟩) (λb xs e=>by rw [af (nea _ _ e)];exact e) (λb _ _ e=>by rw [af (nea _ _ e)];exact e) (λb ps e=>⟨#[],by rw [af (nea _ _ e),e];simp⟩) (λm hm=>?_) (λb u e=>?_) I.bare (λn ys=>by
   obtain⟨og,eg⟩:=I.hasG;rw[af (eJ (cv (wg (by decide) (bX eg)) hp))];exact n ys)
 .obtain⟨_,f1,_,f3,f4,f5⟩:=hf b hb
  exact⟨f3,f1,f4,f5⟩
 .obtain⟨o,es,ep,ho,r⟩:=hm
  exact⟨o,es,ep,k _ o (λz=>(hf _ z).2.1 rfl) ho,r⟩
 .by_cases hb:b=a
  .subst hb;rw[ao] at e;cases e;exact new
  .rw[af hb] at e
   have nt:∀c v,H c=some v->c∉ts:=λc v q z=>by rw[(hf c z).1] at q;cases q
   refine(I.hok b u e).stay (λc v hc q=>k c v ?_ q) (λc q=>by rw[af (nea _ _ q)];exact q) λc _ q=>by rw[af (nea _ _ q)];exact q
   rcases hc with z|z
   .rw[z];exact nt b u e
   .exact nt c _ z
def Sq(K:Oq)(κ:Bool)(H:Hp)(a:Addr)(xs:List V):Prop:=match κ with
 |true=>SqT K H a xs
 |false=>SqL K H a xs
theorem Inv.sq{κ:Bool}{a:Addr}{xs:List V}(I:Inv X pins σ H s)(h:Sq X.K κ H a xs):∃its:List Value,Vals xs its/\SSq κ s.heap a its.toArray/\xs.length<=sizeLine:=by
 cases κ with
 |false=>obtain⟨its,r,p,hz⟩:=I.list h;exact⟨its,r,p.isList,hz⟩
 |true=>obtain⟨its,r,p,hz⟩:=I.tuple h;exact⟨its,r,(show s.heap.IsTuple a its.toArray from p),hz⟩
theorem Inv.sq_inj{κ:Bool}{a:Addr}{xs ys:List V}(I:Inv X pins σ H s)(h:Sq X.K κ H a xs)(h':Sq X.K κ H a ys):xs=ys:=by
 cases κ with
 |false=>exact I.list_inj h h'
 |true=>exact I.tuple_inj h h'
theorem Inv.sq_out{κ:Bool}{a b:Addr}{xs:List V}(I:Inv X pins σ H s)(h:Sq X.K κ H a xs)(f:cR X pins H b):a≠b:=by
 rintro rfl;have hk:∀o,X.K.lookup a=some o->False:=λo e=>by
  have e1:=I.ok.mod.kin a o e;rcases f.2.2.2.1 with z|z
  .exact I.ok.noex a o e1 z
  .exact Ot (cv (bX (I.ok.bs a o e1).1) z) (f9 _)
 have hr:∀u,Rd H a u->False:=λu r=>by
  rcases r with r|⟨o,r⟩
  .rw[f.1] at r;cases r
  .rw[f.1] at r;cases r
 cases κ with
 |false=>
  rcases h with h|⟨o,_,_,e,_⟩
  .exact hr _ h
  .exact hk o e
 |true=>
  rcases h with h|⟨o,_,_,e,_⟩
  .exact hr _ h
  .exact hk o e
def DP(K:Oq)(κ κ':Bool)(a b:Addr):It:=
  ⟨λi H=>∃ xs ys x y,Sq K κ H a xs/\Sq K κ' H b ys/\xs[i]? = some x/\ys[i]? = some y,
   λi H v H'=>∃p x y,v=.ref p/\H p=none/\H'=upd H p (.tup [x,y])/\(∀xs,Sq K κ H a xs->xs[i]? = some x)/\(∀ys,Sq K κ' H b ys->ys[i]? = some y),
   λi H=>∃xs ys,Sq K κ H a xs/\Sq K κ' H b ys/\(xs.length<=i\/ys.length<=i)⟩
theorem IE{P:Program}{w:World}{K:Oq}{es:List Expr}{n1:Nat}{ps:Pos}{κ κ':Bool}(a b z TI TO j1 j2:Addr)(D:uR z TI TO j1 j2) :
  fL P w K (.Tuple es n1 ps) (DP K κ κ' a b) [z,TI,TO,j1,j2] z (λi h=>IsZip h z TI TO .none/\IsPair h TI (.ref j1) (.ref j2)/\(∃u v,IsPair h TO u v)/\SIt κ h j1 a i/\SIt κ' h j2 b i) where
 mem:=by simp
 obj:=λi h ⟨q1,q2,⟨u,v,q3⟩,q4,q5⟩ c hc=>by
  simp only[Yaq,gh,or_false] at hc;rcases hc with rfl|rfl|rfl|rfl|rfl
  .exact⟨_,q1,λv e=>by cases e⟩
  .exact⟨_,q2,λv e=>by cases e⟩
  .exact⟨_,q3,λv e=>by cases e⟩
  .exact q4.obj
  .exact q5.obj
 keep:=λi h h' ⟨q1,q2,⟨u,v,q3⟩,q4,q5⟩ k=>
  ⟨k z (by simp) _ q1,k TI (by simp) _ q2,⟨u,v,k TO (by simp) _ q3⟩,q4.keep λo e=>k j1 (by simp) o e,q5.keep λo e=>k j2 (by simp) o e⟩
 item:=by
  intro X hP hw hK hc i pins s σ H E I hf ⟨q1,q2,⟨u,v,q3⟩,q4,q5⟩ hg;subst hP hw hK;obtain⟨xs,ys,x,y,hx,hy,ex,ey⟩:=hg;obtain⟨its,rv,p,hz⟩:=I.sq hx;obtain⟨its',rv',p',hz'⟩:=I.sq hy;obtain⟨ux,hux,rux⟩:=rv.get ex;obtain⟨uy,huy,ruy⟩:=rv'.get ey;have out:∀{κ:Bool} {c:Addr} {xs:List V},Sq X.K κ H c xs->sD z TI TO j1 j2 c:=λhq=>
   ⟨I.sq_out hq (hf z (by simp)),I.sq_out hq (hf TI (by simp)),I.sq_out hq (hf TO (by simp)),I.sq_out hq (hf j1 (by simp)),I.sq_out hq (hf j2 (by simp))⟩
  have hT:s.TypeIs (.ref z) "zip" :=⟨_,q1,rfl⟩
  unfold pyNext;refine Op (wpAny_attempt (wpAny_callSpecial?_slot (name:=Str.ofString "__next__") hT F.slot_zip_next (OK F.slot_zip_next hT F.entry_zip_next
   (IC D (out hx) (out hy) q1 q2 q3 q4 q5 p p' (x:=ux) (y:=uy) (by simpa using hux) (by simpa using huy) λh' a1 a2 a3 a4 a5 a6 a7=>Os ⟨_,rfl,?_⟩) (F.args_zip_next_1 _))))
  refine wpAny_letOwnedTupleGo_zip (s:={ s with heap:=h' }) a1 λh2 b1 b2=>?_;have lt:∀{c o},s.heap.get? c=some o->c≠s.heap.objs.size:=λe=>eJ (bX e);have zl:=lt q1;have up:∀c o,c∉[z,TI,TO,j1,j2]->s.heap.get? c=some o->h2.get? c=some o:=λc o hc e=>by
   simp only[Yaq,gh,or_false,not_or] at hc;exact b2.extBut _ _ hc.1 (a7 c o hc.1 hc.2.2.1 hc.2.2.2.1 hc.2.2.2.2 e)
  refine⟨.ref s.heap.objs.size,upd H s.heap.objs.size (.tup [x,y]),Inv.turnedN (s:=s) (t':=s.toks) [z,TI,TO,j1,j2] I up hf (bb _) ?_,rfl,⟨s.heap.objs.size,x,y,rfl,I.fresh,rfl,λxs' h'=>by rw[I.sq_inj h' hx];exact ex,λys' h'=>by rw[I.sq_inj h' hy];exact ey⟩,?_,λc hc=>?_⟩
  .refine⟨by rw[sizeLine_eq];simp,[ux,uy],.cons rux (.cons ruy .nil),?_⟩
   exact⟨_,b2.extBut _ _ (Oy zl) a5,rfl,_,rfl⟩
  .exact⟨b1,b2.extBut _ _ D.a (a7 _ _ D.a D.e D.f D.g q2),⟨_,_,b2.extBut _ _ D.b a2⟩,a3.keep λo e=>b2.extBut _ o D.c e,a4.keep λo e=>b2.extBut _ o D.d e⟩
  .have he:∃o,s.heap.get? c=some o:=by
    simp only[Yaq,gh,or_false] at hc;rcases hc with rfl|rfl|rfl|rfl|rfl
    .exact⟨_,q1⟩
    .exact⟨_,q2⟩
    .exact⟨_,q3⟩
    .obtain⟨o,e,_⟩:=q4.obj;exact⟨o,e⟩
    .obtain⟨o,e,_⟩:=q5.obj;exact⟨o,e⟩
   obtain⟨o,e⟩:=he;rw[af (lt e)];exact(hf c hc).1
 done:=by
  intro X hP hw hK hc i pins s σ H E I hf ⟨q1,q2,⟨u,v,q3⟩,q4,q5⟩ hg;subst hP hw hK;obtain⟨xs,ys,hx,hy,en⟩:=hg;obtain⟨its,rv,p,hz⟩:=I.sq hx;obtain⟨its',rv',p',hz'⟩:=I.sq hy;have l1:=rv.length;have l2:=rv'.length;have out:∀{κ:Bool} {c:Addr} {xs:List V},Sq X.K κ H c xs->sD z TI TO j1 j2 c:=λhq=>
   ⟨I.sq_out hq (hf z (by simp)),I.sq_out hq (hf TI (by simp)),I.sq_out hq (hf TO (by simp)),I.sq_out hq (hf j1 (by simp)),I.sq_out hq (hf j2 (by simp))⟩
  have hT:s.TypeIs (.ref z) "zip" :=⟨_,q1,rfl⟩
  unfold pyNext;refine Op (wpAny_attempt (wpAny_callSpecial?_slot (name:=Str.ofString "__next__") hT F.slot_zip_next (OK F.slot_zip_next hT F.entry_zip_next
   (ID (I.ok.hd hc) D (out hx) (out hy) q1 q2 q3 q4 q5 p p' (by rcases en with z|z;exact .inl (by simp;omega);exact .inr (by simp;omega)) λh' e k ⟨o,e1,e2⟩=>?_) (F.args_zip_next_1 _))))
  refine Op (wpAny_isInstance (s:={ s with heap:=h' }) (T:= "StopIteration") (b:=true) ⟨o,e1,e2⟩ isSubtype_stop (Os ⟨rfl,?_⟩));refine I.turnedL (t':=s.toks) [z,TI,TO,j1,j2] (λc o hc e=>?_) hf;simp only[Yaq,gh,or_false,not_or] at hc;exact k c o hc.1 hc.2.2.1 hc.2.2.2.1 hc.2.2.2.2 e
 self:=λ_ _ _ _ _ st h=>wpAny_pyIter_zip st.1 h
def io(κ:Bool)(l:Addr):Obj:={ cls:=.type (match κ with|true=> "tuple_iterator" |false=> "list_iterator"),data:=.fields #[.ref l,.int 0 0] }
theorem xu{κ:Bool}{h:Heap}{l j:Addr}(e:h.get? j=some (io κ l)):SIt κ h j l 0:=by
 cases κ
 all_goals exact⟨_,e,rfl,rfl⟩
theorem rh{κ:Bool}{prog:Program}{w:World}{A:Around}{E:Value->Shared->Prop}{s:Shared}{l:Addr}{xs:Array Value}{Q:Value->Shared->Prop}(hl:SSq κ s.heap l xs)(q:Q (.ref s.heap.objs.size) { s with heap:=s.heap.push (io κ l) }) :
  wpAny (model prog w) A (pyIter (.ref l)) Q E s:=by
 cases κ with
 |false=>exact wpAny_pyIter_list hl q
 |true=>exact wpAny_pyIter_tuple hl q
abbrev uS(κ:Bool)(h:Heap)(l1:Addr):Heap:=h.push (io κ l1)
abbrev uT(κ κ':Bool)(h:Heap)(l1 l2:Addr):Heap:=(uS κ h l1).push (io κ' l2)
abbrev uU(κ κ':Bool)(h:Heap)(l1 l2:Addr):Heap:=(uT κ κ' h l1 l2).push { cls:=.type "tuple",data:=.seq #[.ref h.objs.size,.ref (uS κ h l1).objs.size] }
abbrev uV(κ κ':Bool)(h:Heap)(l1 l2:Addr):Heap:=(uU κ κ' h l1 l2).push { cls:=.type "tuple",data:=.seq #[.none,.none] }
abbrev nK(κ κ':Bool)(h:Heap)(l1 l2:Addr):Heap:=(uV κ κ' h l1 l2).push { cls:=.type "zip",data:=.fields #[.none,.bool false,.bool false,.ref (uT κ κ' h l1 l2).objs.size,.ref (uU κ κ' h l1 l2).objs.size] }
theorem IF(κ κ':Bool)(l1 l2:Addr)(xs ys:Array Value) :
  Meets (Builtin.«zip.__new__» ⟨[.type "zip",.ref l1,.ref l2],[]⟩) (λ_ R s=>SSq κ s.heap l1 xs/\SSq κ' s.heap l2 ys/\R (.ok (.ret (.ref (uV κ κ' s.heap l1 l2).objs.size))) { s with heap:=nK κ κ' s.heap l1 l2 }):=
 .of_wp λprog w A R s h=>by
  obtain⟨hp,g,d,tk,os⟩:=s;obtain⟨hl1,hl2,h⟩:=h;have hsub:=sub_zip;have L1:SSq κ (Shared.heap ⟨hp,g,d,tk,os⟩) l1 xs:=hl1;have L2':SSq κ' (Shared.heap ⟨hp.push (io κ l1),g,d,tk,os⟩) l2 ys:=hl2.keep λo e=>bZ _ e
  wp_walk using rh L1,rh L2'
  exact⟨_,rfl,h⟩
theorem IG{κ κ':Bool}{prog:Program}{w:World}{A:Around}{E:Value->Shared->Prop}{s:Shared}{l1 l2:Addr}{xs ys:Array Value}{Q:Value->Shared->Prop}(hl1:SSq κ s.heap l1 xs)(hl2:SSq κ' s.heap l2 ys)
  (h:∀ h',IsZip h' (s.heap.objs.size+4) (s.heap.objs.size+2) (s.heap.objs.size+3) .none->IsPair h' (s.heap.objs.size+2) (.ref s.heap.objs.size) (.ref (s.heap.objs.size+1))->
   IsPair h' (s.heap.objs.size+3) .none .none->SIt κ h' s.heap.objs.size l1 0->SIt κ' h' (s.heap.objs.size+1) l2 0->
   (∀c o,s.heap.get? c=some o->h'.get? c=some o)->Q (.ref (s.heap.objs.size+4)) { s with heap:=h' }) :
  wpAny (model prog w) A (call (.type "zip") [.ref l1,.ref l2]) Q E s:=by
 refine callType_new F.called_zip (by decide) (F.typeCall_zip_2 _ _) (F.newCall_zip_2 _ _) (λobj=>F.args_object_init_3 obj _ _) F.entry_zip_new (IF κ κ' l1 l2 xs ys) ⟨hl1,hl2,?_⟩;have z1:(uS κ s.heap l1).objs.size=s.heap.objs.size+1:=kz ..;have z2:(uT κ κ' s.heap l1 l2).objs.size=s.heap.objs.size+2:=by rw[kz,z1]
 have z3:(uU κ κ' s.heap l1 l2).objs.size=s.heap.objs.size+3:=by rw[kz,z2]
 have z4:(uV κ κ' s.heap l1 l2).objs.size=s.heap.objs.size+4:=by rw[kz,z3]
 have up5:∀{c o},(uV κ κ' s.heap l1 l2).get? c=some o->(nK κ κ' s.heap l1 l2).get? c=some o:=λe=>bZ _ e;have up4:∀{c o},(uU κ κ' s.heap l1 l2).get? c=some o->(nK κ κ' s.heap l1 l2).get? c=some o:=λe=>up5 (bZ _ e);have up3:∀{c o},(uT κ κ' s.heap l1 l2).get? c=some o->(nK κ κ' s.heap l1 l2).get? c=some o:=λe=>up4 (bZ _ e);have up2:∀{c o},(uS κ s.heap l1).get? c=some o->(nK κ κ' s.heap l1 l2).get? c=some o:=λe=>up3 (bZ _ e);have ob:∀κ l,(io κ l).isFreed=false:=λκ l=>rfl;have g5:(nK κ κ' s.heap l1 l2).get? (uV κ κ' s.heap l1 l2).objs.size=some _:=eV _ rfl;have g4:(nK κ κ' s.heap l1 l2).get? (uU κ κ' s.heap l1 l2).objs.size=some _:=up5 (eV _ rfl);have g3:(nK κ κ' s.heap l1 l2).get? (uT κ κ' s.heap l1 l2).objs.size=some _:=up4 (eV _ rfl);have g2:(nK κ κ' s.heap l1 l2).get? (uS κ s.heap l1).objs.size=some _:=up3 (eV _ (ob κ' l2));have g1:(nK κ κ' s.heap l1 l2).get? s.heap.objs.size=some _:=up2 (eV _ (ob κ l1));show _/\_;rw[z2,z3,z4] at g5;rw[z1,z2] at g3;rw[z3] at g4;rw[z1] at g2;rw[z4];exact⟨⟨_,g5,rfl⟩,h _ g5 g3 g4 (xu g1) (xu g2) λc o x=>up2 (bZ _ x)⟩
theorem IH(n:Nat):uR (n+4) (n+2) (n+3) n (n+1):=
 ⟨(by omega:n+2≠n+4),(by omega:n+3≠n+4),(by omega:n≠n+4),(by omega:n+1≠n+4),(by omega:n+2≠n+3),(by omega:n+2≠n),(by omega:n+2≠n+1),(by omega:n+3≠n),(by omega:n+3≠n+1),(by omega:n≠n+1)⟩
theorem AD(n b:Nat)(h:b=n+4\/b=n+2\/b=n+3\/b=n\/b=n+1):n<=b:=by omega
def AE(K:Oq)(ta:TA):TI:=λσ H R=>ta σ H λvs H1=>∃κ κ' a b,vs=[.ref a,.ref b]/\(∃xs,Sq K κ H1 a xs)/\(∃ys,Sq K κ' H1 b ys)/\R (DP K κ κ' a b) H1
theorem II{a b:Expr}{ta:TA}{p pos ps:Pos}{es:List Expr}{n1:Nat}(hg:Gl X "zip")(hm:X.mg "zip" = none)(ha:PA X [a,b] ta)(hs:starEach [a,b] X.env=[(false,eval a X.env),(false,eval b X.env)]:=by rfl)(hs2:starEach [b] X.env=[(false,eval b X.env)]:=by rfl) :
  PI X (.Tuple es n1 ps) (.Call (.Name "zip" p) [a,b] [] pos) (AE X.K ta):=by
 intro pins s σ H R I h;refine Call_ (dm I hg hm boot_zip (PyProof.Rows.callWith_type1 (aI (ha pos pins s σ H _ I h) λus s1 ⟨vs,H1,I1,r1,q1⟩=>?_) (by rw[hs,hs2]) (by rw[hs2];rfl)));obtain⟨κ,κ',l1,l2,e,⟨xs,hx⟩,⟨ys,hy⟩,q⟩:=q1;subst e;cases r1 with
 |cons r rr=>
  cases rr with
  |cons r' rr=>
   cases rr;cases r;cases r';obtain⟨its,rv,p1,hz⟩:=I1.sq hx;obtain⟨its',rv',p2,hz'⟩:=I1.sq hy;refine IG p1 p2 λh' a1 a2 a3 a4 a5 k=>wpAny_pyIter_zip (s:={ s1 with heap:=h' }) a1 ?_;have D:uR (s1.heap.objs.size+4) (s1.heap.objs.size+2) (s1.heap.objs.size+3) s1.heap.objs.size (s1.heap.objs.size+1):=IH _;refine⟨_,[s1.heap.objs.size+4,s1.heap.objs.size+2,s1.heap.objs.size+3,s1.heap.objs.size,s1.heap.objs.size+1],_,_,H1,rfl,I1.kept (t':=s1.toks) k,IE (κ:=κ) (κ':=κ') l1 l2 _ _ _ _ _ D,⟨a1,a2,⟨_,_,a3⟩,a4,a5⟩,λb hb=>?_,q⟩;have hb':s1.heap.objs.size<=b:=by
    simp only[Yaq,gh,or_false] at hb;exact AD _ _ hb
   exact I1.fpOk hb' (I1.hok.fresh hb')
end L2
namespace LP
open PySem PySem.Spec PyProof.Rows L2
variable {X:Cx}{EX:XK}{pos p p2 ps:Pos}{tg e a b:Expr}{es:List Expr}{w wa wb:WE}
theorem Rep.sq{K:Oq}{W:Wd}{v:V}{d:D}{Q:List D->Prop}(r:Rep K W v d)(h:isS Q d):∃κ l vs xs,v=.ref l/\Reps K W vs xs/\Q xs/\∀W2 H2,(∀a o,W.G a=some o->W2.G a=some o)->WOk W2 H2->Sq K κ H2 l vs:=by
 cases r with
 |lst e1 rr=>exact⟨false,_,_,_,rfl,rr,h,λW2 H2 g ok=>SqL.of (ok.g _ _ (g _ _ e1))⟩
 |tup e1 rr=>exact⟨true,_,_,_,rfl,rr,h,λW2 H2 g ok=>SqT.of (ok.g _ _ (g _ _ e1))⟩
 |ktup e1 rr=>exact⟨true,_,_,_,rfl,rr,h,λW2 H2 g ok=>.inr e1⟩
 |_=>exact h.elim
def bK(xs ys:List D):List D:=List.zipWith (λx y=>.tup [x,y]) xs ys
def iZ(t:WA):WA:=λE ρ Q=>t E ρ λds=>match ds with
 |[x,y]=>isS (λxs=>isS (λys=>Q (bK xs ys)) y) x
 |_=>False
theorem xv{t:WA}{n1:Nat}(hm:X.mg "zip" = none)(ha:jo X EX [a,b] t)(hg:Gl X "zip" :=by rfl)(hs:starEach [a,b] X.env=[(false,eval a X.env),(false,eval b X.env)]:=by rfl)(hs2:starEach [b] X.env=[(false,eval b X.env)]:=by rfl) :
  lD X EX (.Tuple es n1 ps) (.Call (.Name "zip" p) [a,b] [] pos) (iZ t):=by
 obtain⟨t,q,k⟩:=ha.t;refine⟨⟨_,II hg hm q hs hs2,λW0 H0 W σ H ρ E R s eo h=>?_⟩,λE ρ P P' hp h=>ha.mono _ _ _ _ (λds hd=>?_) h⟩
 .refine k W0 H0 W σ H ρ E _ s eo (ha.mono _ _ _ _ (λds hd vs W1 H1 x1 r1=>?_) h)
  split at hd
  .obtain⟨v,u,rfl,rv,ru⟩:=r1.two
   obtain⟨κ,l,vs,xs,rfl,rr,hd,sq⟩:=rv.sq hd;obtain⟨κ',l',us,ys,rfl,rr',hd,sq'⟩:=ru.sq hd;refine⟨κ,κ',l,l',rfl,⟨vs,sq W1 H1 (λ_ _ z=>z) x1.ok⟩,⟨us,sq' W1 H1 (λ_ _ z=>z) x1.ok⟩,hd W1 H1 _ x1 λW2 H2 i g2 p2 ok2=>⟨λd hd=>?_,λhi=>?_⟩⟩
   .have s1:=sq W2 H2 g2 ok2
    have s2:=sq' W2 H2 g2 ok2;unfold bK at hd;rw[List.getElem?_zipWith] at hd;cases ex:xs[i]? with
    |none=>rw[ex] at hd;cases hd
    |some x=>
     cases ey:ys[i]? with
     |none=>rw[ex,ey] at hd;cases hd
     |some y=>
      rw[ex,ey] at hd;cases hd;obtain⟨vx,evx,rvx⟩:=rr.get ex;obtain⟨vy,evy,rvy⟩:=rr'.get ey;refine⟨⟨vs,us,vx,vy,s1,s2,evx,evy⟩,λz H3 hy=>?_⟩;obtain⟨q,x',y',rfl,hq,rfl,e1,e2⟩:=hy;have e1:=e1 _ s1;have e2:=e2 _ s2;rw[evx] at e1;rw[evy] at e2;cases e1;cases e2;have xt:=Ext.put (o:=.tup [vx,vy]) ok2 hq;exact⟨_,xt,.tup (by unfold Wd.put;dsimp only;rw[ao]) (.cons (xt.rep (rvx.mono g2 p2)) (.cons (xt.rep (rvy.mono g2 p2)) .nil))⟩
   .refine⟨vs,us,sq W2 H2 g2 ok2,sq' W2 H2 g2 ok2,?_⟩
    rw[rr.length,rr'.length];unfold bK at hi;rw[qg] at hi;omega
  .exact hd.elim
 .split at hd
  .exact isS.mono (λxs h1=>isS.mono (λys h2=>hp _ h2) _ h1) _ hd
  .exact hd.elim
def d6(i:Nat)(wi wv:WE):WS:=λE N ρ=>match ρ[i]? with
 |some (.ow xs)=>wv E ρ λd=>wi E ρ (isI λk=>∃j,lV xs.length k=some j/\N.nx (ρ.set i (.ow (xs.set j d))))
 |_=>False
theorem DQ(i:Nat){x:Str}{wi wv:WE}{ix:Expr}{spos:Pos}(hix:PX X EX ix wi)(he:PX X EX e wv)(hN:X.N[i]? = some x:=by rfl)(hv:nC X.env.scope x:=by first|exact Or.inl rfl|exact Or.inr (Or.inl rfl)|exact Or.inr (Or.inr rfl))(hd:(x==("__debug__" : Str))=false:=by decide)
  (hcd:(x==("__classdict__" : Str))=false:=by decide)
  (ha:∀ v,assign (.Subscript (.Name x p) ix spos) X.env v=(do
   let ov <-holding [v] (eval (.Name x p) X.env)
   let iv <-holding [v,ov] (eval ix X.env)
   standAt spos
   holding [v,ov,iv] (setItem ov iv v)
   release [v,ov,iv] []):=by intro _;rfl)
  (hs:swapsWithSole [.Subscript (.Name x p) ix spos] e pos.line X.env=pure false:=by rfl) (hw:swappedStores [.Subscript (.Name x p) ix spos] e X.env=pure none:=by rfl)
  (h1:(assignEach [.Subscript (.Name x p) ix spos] X.env).map (·.2)=[assign (.Subscript (.Name x p) ix spos) X.env]:=by rfl):PZ X EX (.Assign [.Subscript (.Name x p) ix spos] e pos) (d6 i wi wv):=by
 obtain⟨t,pe,k⟩:=he.t;obtain⟨ti,pi,ki⟩:=hix.t;refine⟨⟨_,jU pe (mq (ei hN hv hd hcd) pi jm ha) hs hw h1,λW0 H0 F W σ H ρ E Dn N s fl eo no h=>?_⟩,λE ρ N N' hl q=>?_⟩
 .unfold d6 at h
  split at h
  .rename_i xs ex
   obtain⟨a,vs,e1,e2,e3,e4,e5,r⟩:=s.o i xs ex;refine k W0 H0 W σ H ρ E _ s eo (he.mono _ _ _ _ (λd hd v W1 H1 x1 r1=>⟨_,e1,?_⟩) h);refine ki W0 H0 W1 σ H1 ρ E _ (s.step x1) eo (hix.mono _ _ _ _ (λdi hdi vi W2 H2 x2 r2=>?_) hd);obtain⟨kk,rfl,j,hj,hn⟩:=rc hdi;cases r2;have xx:=x1.trans x2;have e2':=xx.h a _ e2 e4;refine⟨a,vs,kk,j,rfl,rfl,e2',by rw[r.length];exact hj,?_⟩;exact no.nx W2 σ _ _ ((s.step xx).chg ex e1 (Reps.set (x2.rep r1) j (xx.reps r))) (fl.ext xx) hn
  .exact h.elim
 .unfold d6 at q ⊢
  split at q
  .exact he.mono _ _ _ _ (λd hd=>hix.mono _ _ _ _ (isI.mono λkk ⟨j,hj,hn⟩=>⟨j,hj,hl.nx _ hn⟩) hd) q
  .exact q.elim
mutual
def jt:D->Bool
 |.lst _=>false
 |.scr _=>false
 |.dic=>false
 |.tup xs=>rj xs
 |.non=>true
 |.bl _=>true
 |.int _=>true
 |.str _=>true
 |.pen=>true
 |.cls _=>true
 |.exc _=>true
 |.ty _=>true
def rj:List D->Bool
 |[]=>true
 |x::r=>jt x&&rj r
end
def Wd.rem(W:Wd)(a:Addr):Wd:=⟨λb=>if b=a then none else W.G b,W.Pn⟩
section
variable{K:Oq}{W W2 W0:Wd}{H H2 H0:Hp}{a:Addr}{us:List V}{σ:L2.St}{ρ:aN}
theorem Wd.rem_ne{b:Addr}(h:b≠a):(W.rem a).G b=W.G b:=by unfold Wd.rem;dsimp only;rw[if_neg h]
theorem Wd.rem_same:(W.rem a).G a=none:=by unfold Wd.rem;dsimp only;rw[if_pos rfl]
mutual
theorem Rep.rem(h:W.G a=some (.lst us)):∀{v:V} {d:D},Rep K W v d->jt d=true->Rep K (W.rem a) v d
 |_,_,.non,_=>.non
 |_,_,.bl b,_=>.bl b
 |_,_,.int i,_=>.int i
 |_,_,.str x,_=>.str x
 |_,_,.tup e r,f=>.tup (by rw[Wd.rem_ne (λz=>by rw[z,h] at e;cases e)];exact e) (Reps.rem h r (by rw[jt] at f;exact f))
 |_,_,.ktup e r,f=>.ktup e (Reps.rem h r (by rw[jt] at f;exact f))
 |_,_,.lst e r,f=>by rw[jt] at f;cases f
 |_,_,.scr e r,f=>by rw[jt] at f;cases f
 |_,_,.dic e,f=>by rw[jt] at f;cases f
 |_,_,.pen e,_=>.pen e
 |_,_,.cls e,_=>.cls e
 |_,_,.exc e n x,_=>.exc (by rw[Wd.rem_ne (λz=>by rw[z,h] at e;cases e)];exact e) n λc f k q=>let⟨d,e1,e2⟩:=x c f k q;⟨d,e1,by rw[Wd.rem_ne (λz=>by rw[z,h] at e2;cases e2)];exact e2⟩
 |_,_,.ty n,_=>.ty n
theorem Reps.rem(h:W.G a=some (.lst us)):∀{vs:List V} {ds:List D},Reps K W vs ds->rj ds=true->Reps K (W.rem a) vs ds
 |_,_,.nil,_=>.nil
 |_,_,.cons r t,f=>by
  rw[rj,cQ] at f;exact .cons (Rep.rem h r f.1) (Reps.rem h t f.2)
end
theorem Ext.bor(x:Ext (W.put a (.lst us)) H W2 H2)(hg:W.G a=none):Ext W H (W2.rem a) H2 where
 ok:=⟨λb o e=>by
   by_cases hb:b=a
   .subst hb;rw[Wd.rem_same] at e;cases e
   .rw[Wd.rem_ne hb] at e;exact x.ok.g b o e,
  λb hb=>⟨(x.ok.p b hb).1,by
   by_cases hba:b=a
   .subst hba;exact Wd.rem_same
   .rw[Wd.rem_ne hba];exact(x.ok.p b hb).2⟩⟩
 g:=λb o e=>by
  have hb:b≠a:=λz=>by rw[z,hg] at e;cases e
  rw[Wd.rem_ne hb];exact x.g b o (by unfold Wd.put;dsimp only;rw[af hb];exact e)
 p:=x.p
 gf:=λb e n=>by
  by_cases hb:b=a
  .subst hb;exact Ot Wd.rem_same n
  .rw[Wd.rem_ne hb] at n
   exact x.gf b (by unfold Wd.put;dsimp only;rw[af hb];exact e) n
 pf:=x.pf
 h:=x.h
theorem SOk.pubAt(s:SOk K W0 H0 W σ H ρ){i:Nat}{xs:List D}(e:ρ[i]? = some (.ow xs))(e1:σ[i]? = some (some (V.ref a)))(e2:H a=some (.lst us))(e3:W.G a=none)(e4:¬W.Pn a)(e5:H0 a=none)(r:Reps K W us xs) :
  SOk K W0 H0 (W.put a (.lst us)) σ H (LP.pub i ρ):=by
 have ep:LP.pub i ρ=ρ.set i (.d (.lst xs)):=by unfold LP.pub;rw[e]
 rw[ep];have hi:i<ρ.length:=(Yas.mp e).1;refine⟨s.ext.pub e5 e2 e4 e3,by rw[dI];exact s.len,λj y ej=>?_,λj ys ej=>?_,λj k ys zs b hjk ej ek e6=>?_,OOs.set ⟨λj xss ej=>let⟨a',bs,q1,q,n⟩:=s.oo.t j xss ej;⟨a',bs,q1,q.put (n i xs a e e1) e3,n⟩,s.oo.u⟩ (λ_ h=>by cases h) (λ_ _=>rfl) λ_ _ h=>by cases h⟩
 .by_cases h:i=j
  .subst h
   rw[d9 hi] at ej;cases ej;exact⟨_,e1,.lst (by unfold Wd.put;dsimp only;rw[ao]) (r.mono (oC e3) λ_ z=>z)⟩
  .rw[dD h] at ej
   obtain⟨v,q1,q2⟩:=s.d j y ej;exact⟨v,q1,q2.mono (oC e3) λ_ z=>z⟩
 .have h:i≠j:=λh=>by subst h;rw[d9 hi] at ej;cases ej
  rw[dD h] at ej;obtain⟨b,us',q1,q2,q3,q4,q5,rr⟩:=s.o j ys ej;have hba:b≠a:=λz=>s.ne i j xs ys a h e ej e1 (by rw[<-z];exact q1);refine⟨b,us',q1,q2,?_,q4,q5,rr.mono (oC e3) λ_ z=>z⟩;unfold Wd.put;dsimp only;rw[af hba];exact q3
 .have h:i≠j:=λh=>by subst h;rw[d9 hi] at ej;cases ej
  have h':i≠k:=λh=>by subst h;rw[d9 hi] at ek;cases ek
  rw[dD h] at ej;rw[dD h'] at ek;exact s.ne j k ys zs b hjk ej ek e6
theorem SOk.lend(s:SOk K W0 H0 W σ H ρ)(i:Nat):(LP.pub i ρ=ρ)\/∃a us,SOk K W0 H0 (W.put a (.lst us)) σ H (LP.pub i ρ)/\W.G a=none/\H a=some (.lst us)/\(W.put a (.lst us)).G a=some (.lst us):=by
 cases e:ρ[i]? with
 |none=>exact .inl (by unfold LP.pub;rw[e])
 |some sv=>
  cases sv with
  |un=>exact .inl (by unfold LP.pub;rw[e])
  |d x=>exact .inl (by unfold LP.pub;rw[e])
  |oo xss=>exact .inl (by unfold LP.pub;rw[e])
  |ow xs=>
   obtain⟨a,us,e1,e2,e3,e4,e5,r⟩:=s.o i xs e;exact .inr ⟨a,us,s.pubAt e e1 e2 e3 e4 e5 r,e3,e2,by unfold Wd.put;dsimp only;rw[ao]⟩
end
def cJ(i:Nat)(w:WE):WE:=λE ρ Q=>w E (pub i ρ) λd=>jt d=true/\Q d
def cK(i:Nat)(w:WT):WT:=λE ρ Q=>w E (pub i ρ) Q
def bM(i:Nat)(t:WA):WA:=λE ρ Q=>t E (pub i ρ) λds=>rj ds=true/\Q ds
theorem xw(i:Nat){t:WA}(he:PXL X EX e t):PXL X EX e (bM i t):=by
 obtain⟨t,q,k⟩:=he.t;refine⟨⟨t,q,λW0 H0 W σ H ρ E Q s eo h=>?_⟩,λE ρ P P' hp h=>he.mono _ _ _ _ (λd hd=>⟨hd.1,hp _ hd.2⟩) h⟩;unfold bM at h;rcases s.lend i with ep|⟨a,us,s',e3,e2,e6⟩
 .rw[ep] at h
  exact k W0 H0 W σ H ρ E Q s eo (he.mono _ _ _ _ (λd hd=>hd.2) h)
 .refine k W0 H0 _ σ H _ E Q s' eo (he.mono _ _ _ _ (λd hd b vs W2 H2 x2 h1 h2 h3 h4 r2=>?_) h)
  have hb:b≠a:=λz=>by rw[z,e2] at h4;cases h4
  exact hd.2 b vs _ H2 (x2.bor e3) h1 (by rw[Wd.rem_ne hb];exact h2) h3 h4 (r2.rem (x2.g _ _ e6) hd.1)
def cL(i:Nat)(wb:WE):WE:=λE ρ Q=>match ρ[i]? with
 |some (.ow xs)=>wb E ρ (isI λk=>∃d,ee xs k=some d/\Q d)
 |_=>False
def NL(K:Oq)(W:Wd)(H:Hp)(Q:VK)(ds:List D):Prop:=∀a vs W' H',Ext W H W' H'->H' a=some (.lst vs)->W'.G a=none->¬W'.Pn a->H a=none->Reps K W' vs ds->Q (.ref a) H'
theorem NL.new{K:Oq}{W W1:Wd}{H H1:Hp}{Q:VK}{ds:List D}{vs:List V}(h:NL K W H Q ds)(x1:Ext W H W1 H1)(r:Reps K W1 vs ds){q:Addr}(hq:H1 q=none):Q (.ref q) (upd H1 q (.lst vs)):=
 h q vs W1 _ (x1.trans (.new x1.ok hq)) ao (x1.ok.fresh hq).1 (x1.ok.fresh hq).2 (x1.isN hq) r
def bT(wa wb:WE):WA:=λE ρ Q=>wa E ρ (isL λxs=>wb E ρ (isL λys=>xs.length+ys.length<=aw/\Q (xs++ys)))
theorem AF(ha:PX X EX a wa)(hb:PX X EX b wb):PXL X EX (.BinOp a .Add b pos) (bT wa wb):=by
 obtain⟨ta,pa,ka⟩:=ha.t;obtain⟨tb,pb,kb⟩:=hb.t;refine⟨⟨_,mx Znd pa pb,λW0 H0 W σ H ρ E Q s eo h=>?_⟩,λE ρ P P' hp h=>ha.mono _ _ _ _ (isL.mono λxs hx=>hb.mono _ _ _ _ (isL.mono λys hy=>⟨hy.1,hp _ hy.2⟩) hx) h⟩;refine ka W0 H0 W σ H ρ E _ s eo (ha.mono _ _ _ _ (λd hd v W1 H1 x1 r1=>?_) h);obtain⟨xs,rfl,hd⟩:=xo hd;refine kb W0 H0 W1 σ H1 ρ E _ (s.step x1) eo (hb.mono _ _ _ _ (λd hd u W2 H2 x2 r2=>?_) hd);obtain⟨ys,rfl,hd⟩:=xo hd;obtain⟨p,vs,rfl,h1,q1⟩:=(x2.rep r1).sql x2.ok;obtain⟨q,us,rfl,h2,q2⟩:=r2.sql x2.ok;exact⟨p,q,vs,us,rfl,rfl,h1,h2,by rw[q1.length,q2.length];exact nE hd.1,λa ha=>NL.new hd.2 (x1.trans x2) (q1.append q2) ha⟩
def cm(wa wb:WE):WA:=λE ρ Q=>wa E ρ (isL λxs=>wb E ρ (isI λk=>k<1000/\-1000<k/\xs.length*k.toNat<=aw/\Q (List.replicate k.toNat xs).flatten))
theorem IJ(ha:PX X EX a wa)(hb:PX X EX b wb):PXL X EX (.BinOp a .Mult b pos) (cm wa wb):=by
 obtain⟨ta,pa,ka⟩:=ha.t;obtain⟨tb,pb,kb⟩:=hb.t;refine⟨⟨_,mx mR pa pb,λW0 H0 W σ H ρ E Q s eo h=>?_⟩,λE ρ P P' hp h=>ha.mono _ _ _ _ (isL.mono λxs hx=>hb.mono _ _ _ _ (isI.mono λys hy=>⟨hy.1,hy.2.1,hy.2.2.1,hp _ hy.2.2.2⟩) hx) h⟩;refine ka W0 H0 W σ H ρ E _ s eo (ha.mono _ _ _ _ (λd hd v W1 H1 x1 r1=>?_) h);obtain⟨xs,rfl,hd⟩:=xo hd;refine kb W0 H0 W1 σ H1 ρ E _ (s.step x1) eo (hb.mono _ _ _ _ (λd hd u W2 H2 x2 r2=>?_) hd);obtain⟨kk,rfl,hd⟩:=rc hd;cases r2;cases x2.rep r1 with
 | @lst l vs _ e r=>
  refine⟨l,kk,vs,rfl,rfl,x2.ok.g _ _ e,by omega,by omega,?_,λq hq=>NL.new hd.2.2.2 (x1.trans x2) (DL r _) hq⟩;rw[r.length];exact nE hd.2.2.1
def aCut(wa:WE)(wl wh:(Ex->Prop)->aN->(Option Int->Prop)->Prop):WA:=λE ρ Q=>wa E ρ λx=>wl E ρ λl=>wh E ρ λh=>match x with
 |.lst xs=>Q (bn xs l h)
 |.scr xs=>Q (bn xs l h)
 |_=>False
theorem aCut.mono{wl wh}{lo hi:Option Expr}(ha:PX X EX a wa)(hl:sr X EX lo wl)(hh:sr X EX hi wh):∀E ρ P P',(∀d,P d->P' d)->aCut wa wl wh E ρ P->aCut wa wl wh E ρ P':=
 λE ρ P P' hp h=>ha.mono _ _ _ _ (λx hx=>hl.mono _ _ _ _ (λl hl'=>hh.mono _ _ _ _ (λu hu=>by
  split at hu
  .exact hp _ hu
  .exact hp _ hu
  .exact hu.elim) hl') hx) h
section
variable{K:Oq}{W W1 W2 W0:Wd}{H H1 H2 H0:Hp}{a:Addr}{us:List V}{σ:L2.St}{ρ:aN}{i j k:Int}
def Wd.pen(W:Wd)(a:Addr):Wd:=⟨W.G,λb=>b=a\/W.Pn b⟩
theorem Ext.pen(x:Ext W H W1 H1)(h:H a=none)(e:H1 a=some (.lst [.int i,.int j,.int k]))(ng:W1.G a=none):Ext W H (W1.pen a) H1 where
 ok:=⟨x.ok.g,λb hb=>by
  rcases hb with rfl|hb
  .exact⟨⟨i,j,k,e⟩,ng⟩
  .exact x.ok.p b hb⟩
 g:=x.g
 p:=λb hb=>.inr (x.p b hb)
 gf:=x.gf
 pf:=λb n hb=>by
  rcases hb with rfl|hb
  .exact h
  .exact x.pf b n hb
 h:=x.h
theorem Ext.ink(x:Ext W H W1 H1)(hp:W1.Pn a):Ext W H W1 (upd H1 a (.lst [.int i,.int j,.int k])) where
 ok:=⟨λb o e=>by
   have hb:b≠a:=λz=>by rw[z,(x.ok.p a hp).2] at e;cases e
   rw[af hb];exact x.ok.g b o e,
  λb hb=>by
   by_cases hba:b=a
   .subst hba;exact⟨⟨i,j,k,ao⟩,(x.ok.p b hb).2⟩
   .obtain⟨⟨i',j',k',e⟩,n⟩:=x.ok.p b hb
    exact⟨⟨i',j',k',by rw[af hba];exact e⟩,n⟩⟩
 g:=x.g
 p:=x.p
 gf:=x.gf
 pf:=x.pf
 h:=λb o e n=>by
  have q:=x.h b o e n;have hb:b≠a:=λz=>by subst z;have:=x.pf b n hp;rw[e] at this;cases this
  rw[af hb];exact q
theorem SOk.ink(s:SOk K W0 H0 W σ H ρ)(hp:W.Pn a):SOk K W0 H0 W σ (upd H a (.lst [.int i,.int j,.int k])) ρ where
 ext:=s.ext.ink hp
 len:=s.len
 d:=s.d
 o:=λn ys e=>by
  obtain⟨b,vs,e1,e2,e3,e4,e5,r⟩:=s.o n ys e;exact⟨b,vs,e1,by rw[af (λz=>e4 (by rw[z];exact hp))];exact e2,e3,e4,e5,r⟩
 ne:=s.ne
 oo:=⟨λn xss e=>let⟨a',bs,e1,q,m⟩:=s.oo.t n xss e;⟨a',bs,e1,q.upd (q.noPen hp),m⟩,s.oo.u⟩
end
def cq(t:WA):WE:=λE ρ Q=>t E ρ λds=>(∃i j k,ds=[.int i,.int j,.int k])/\Q .pen
theorem IK{t:WA}(he:PXL X EX e t):PX X EX e (cq t):=by
 obtain⟨t,q,k⟩:=he.t;refine⟨⟨t,q,λW0 H0 W σ H ρ E Q s eo h=>?_⟩,λE ρ P P' hp h=>he.mono _ _ _ _ (λd hd=>⟨hd.1,hp _ hd.2⟩) h⟩;refine k W0 H0 W σ H ρ E Q s eo (he.mono _ _ _ _ (λds hd a vs W1 H1 x1 e1 e2 e3 e4 r1=>?_) h);obtain⟨⟨i,j,k,rfl⟩,hd⟩:=hd;have ev:vs=[.int i,.int j,.int k]:=by
  cases r1 with|cons r t=>cases r;cases t with|cons r t=>cases r;cases t with|cons r t=>cases r;cases t;rfl
 subst ev;exact hd _ _ _ (x1.pen e4 e1 e2) (.pen (.inl rfl))
def bN:G2:=λx y Q=>x=.pen/\(y=.int 0\/y=.int 1\/y=.int 2)/\∀n,Q (.int n)
theorem uW:Ao X bN:=by
 refine⟨⟨_,mO,λW H x y dx dy Q ok rx ry hg=>?_⟩,λx y P P' hp h=>⟨h.1,h.2.1,λn=>hp _ (h.2.2 n)⟩⟩;obtain⟨rfl,hy,hq⟩:=hg;cases rx with
 | @pen a hp=>
  obtain⟨⟨i,j,k,e⟩,ng⟩:=ok.p a hp;have key:∀(m:Int) (v:V),ee [V.int i,.int j,.int k] m=some v->(∃n,v=.int n)->Dy X.K (.ref a) (.int m) H Q:=λm v hv ⟨n,hn⟩=>by
   subst hn;exact .inl ⟨a,_,m,_,rfl,rfl,SqL.of e,hv,(hq n).now ok (.int n)⟩
  rcases hy with rfl|rfl|rfl
  .cases ry;exact key 0 (.int i) rfl ⟨i,rfl⟩
  .cases ry;exact key 1 (.int j) rfl ⟨j,rfl⟩
  .cases ry;exact key 2 (.int k) rfl ⟨k,rfl⟩
def cb(i:Nat)(wv:WE):WS:=λE N ρ=>ρ[i]? = some (.d .pen)/\wv E ρ (isI λ_=>N.nx ρ)
theorem DR(i:Nat)(m:Int){x:Str}{wv:WE}{j}{ipos spos:Pos}(he:PX X EX e wv)(hm:m=0\/m=1\/m=2:=by decide)(hN:X.N[i]? = some x:=by rfl)(hv:nC X.env.scope x:=by first|exact Or.inl rfl|exact Or.inr (Or.inl rfl)|exact Or.inr (Or.inr rfl))(hd:(x==("__debug__" : Str))=false:=by decide)
  (hcd:(x==("__classdict__" : Str))=false:=by decide)
  (ha:∀ v,assign (.Subscript (.Name x p) (.Constant (.int m) j ipos) spos) X.env v=(do
   let ov <-holding [v] (eval (.Name x p) X.env)
   let iv <-holding [v,ov] (eval (.Constant (.int m) j ipos) X.env)
   standAt spos
   holding [v,ov,iv] (setItem ov iv v)
   release [v,ov,iv] []):=by intro _;rfl)
  (hs:swapsWithSole [.Subscript (.Name x p) (.Constant (.int m) j ipos) spos] e pos.line X.env=pure false:=by rfl) (hw:swappedStores [.Subscript (.Name x p) (.Constant (.int m) j ipos) spos] e X.env=pure none:=by rfl)
  (h1:(assignEach [.Subscript (.Name x p) (.Constant (.int m) j ipos) spos] X.env).map (·.2)=[assign (.Subscript (.Name x p) (.Constant (.int m) j ipos) spos) X.env]:=by rfl):PZ X EX (.Assign [.Subscript (.Name x p) (.Constant (.int m) j ipos) spos] e pos) (cb i wv):=by
 obtain⟨t,pe,k⟩:=he.t;refine⟨⟨_,jU pe (mq (ei hN hv hd hcd) jT jm ha) hs hw h1,λW0 H0 F W σ H ρ E Dn N s fl eo no h=>?_⟩,λE ρ N N' hl q=>⟨q.1,he.mono _ _ _ _ (isI.mono λ_ hn=>hl.nx _ hn) q.2⟩⟩;obtain⟨hpen,h⟩:=h;obtain⟨v0,e0,r0⟩:=s.d i .pen hpen;cases r0 with
 | @pen a hp=>
  refine k W0 H0 W σ H ρ E _ s eo (he.mono _ _ _ _ (λd hd v W1 H1 x1 r1=>⟨_,e0,?_⟩) h);obtain⟨n,rfl,hn⟩:=rc hd;cases r1;have hp1:=x1.p a hp;obtain⟨⟨i',j',k',e'⟩,ng⟩:=x1.ok.p a hp1;rcases hm with rfl|rfl|rfl
  .exact⟨a,_,0,0,rfl,rfl,e',rfl,no.nx W1 σ _ ρ ((s.step x1).ink hp1) (fl.ext x1) hn⟩
  .exact⟨a,_,1,1,rfl,rfl,e',rfl,no.nx W1 σ _ ρ ((s.step x1).ink hp1) (fl.ext x1) hn⟩
  .exact⟨a,_,2,2,rfl,rfl,e',rfl,no.nx W1 σ _ ρ ((s.step x1).ink hp1) (fl.ext x1) hn⟩
abbrev fj:G2:=gI2 (λ_ _=>True) λi j=>.int (i-j)
abbrev pJ:G2:=gI2 (λ_ j=>j≠0) λi j=>.int (i.fmod j)
abbrev fU:G2:=gI2 As λi j=>.int (i.fdiv j)
abbrev DS:G2:=gI2 qM λi j=>.int (i^j.toNat)
abbrev mY:G2:=gI2 (λ_ _=>True) λi j=>.bl (decide (i<j))
abbrev mZ:G2:=gI2 (λ_ _=>True) λi j=>.bl (decide (i<=j))
abbrev lG:G2:=gI2 (λ_ _=>True) λi j=>.bl (decide (i>j))
abbrev AG:G2:=gI2 (λ_ _=>True) λi j=>.bl (decide (i ≥ j))
abbrev kf:D->(D->Prop)->Prop:=λx Q=>isI (λi=>Q (.int (-i))) x
abbrev fV:WS:=λ_ _ _=>False
def fnS{α:Type}(enc:α->List D)(dom:α->Prop)(val:α->D):aS:=λds _ Q=>∃a,ds=enc a/\dom a/\Q (val a)
theorem fnS.mono{α:Type}{enc:α->List D}{dom:α->Prop}{val:α->D}:oF (fnS enc dom val):=λds E E' Q Q' _ hQ ⟨a,h1,h2,h3⟩=>⟨a,h1,h2,hQ _ h3⟩
theorem fnS.len{α:Type}{enc:α->List D}{dom:α->Prop}{val:α->D}{ps:List Str}(hp:∀a,(enc a).length=ps.length):∀ds E Q,fnS enc dom val ds E Q->ds.length=ps.length:=λds E Q ⟨a,h1,_⟩=>by rw[h1];exact hp a
def exQ(E:Ex->Prop)(Q:D->Prop):Except Str D->Prop
 |.ok v=>Q v
 |.error e=>E e
theorem exQ.mono{E E':Ex->Prop}{Q Q':D->Prop}(hE:∀e,E e->E' e)(hQ:∀d,Q d->Q' d):∀r,exQ E Q r->exQ E' Q' r
 |.ok v,h=>hQ v h
 |.error e,h=>hE e h
def xS{α:Type}(enc:α->List D)(dom:α->Prop)(res:α->Except Str D):aS:=λds E Q=>∃a,ds=enc a/\dom a/\exQ E Q (res a)
theorem xS.mono{α:Type}{enc:α->List D}{dom:α->Prop}{res:α->Except Str D}:oF (xS enc dom res):=λds E E' Q Q' hE hQ ⟨a,h1,h2,h3⟩=>⟨a,h1,h2,exQ.mono hE hQ _ h3⟩
theorem xS.ok{α:Type}{enc:α->List D}{dom:α->Prop}{res:α->Except Str D}{ds:List D}{E:Ex->Prop}{Q:D->Prop}{v:D}(a:α)(h:ds=enc a)(hd:dom a)(e:res a=.ok v)(q:Q v):xS enc dom res ds E Q:=⟨a,h,hd,by rw[e];exact q⟩
theorem xS.err{α:Type}{enc:α->List D}{dom:α->Prop}{res:α->Except Str D}{ds:List D}{E:Ex->Prop}{Q:D->Prop}{n:Str}(a:α)(h:ds=enc a)(hd:dom a)(e:res a=.error n)(q:E n):xS enc dom res ds E Q:=⟨a,h,hd,by rw[e];exact q⟩
theorem xS.len{α:Type}{enc:α->List D}{dom:α->Prop}{res:α->Except Str D}{ps:List Str}(hp:∀a,(enc a).length=ps.length):∀ds E Q,xS enc dom res ds E Q->ds.length=ps.length:=λds E Q ⟨a,h1,_⟩=>by rw[h1];exact hp a
def rlS{α:Type}(enc:α->List D)(dom:α->Prop)(rel:α->D->Prop):aS:=λds _ Q=>∃a,ds=enc a/\dom a/\∀d,rel a d->Q d
theorem rlS.mono{α:Type}{enc:α->List D}{dom:α->Prop}{rel:α->D->Prop}:oF (rlS enc dom rel):=λds E E' Q Q' _ hQ ⟨a,h1,h2,h3⟩=>⟨a,h1,h2,λd r=>hQ _ (h3 d r)⟩
theorem rlS.len{α:Type}{enc:α->List D}{dom:α->Prop}{rel:α->D->Prop}{ps:List Str}(hp:∀a,(enc a).length=ps.length):∀ds E Q,rlS enc dom rel ds E Q->ds.length=ps.length:=λds E Q ⟨a,h1,_⟩=>by rw[h1];exact hp a
theorem Fp.of{P:Program}{w:World}{K:Oq}{mg:Str->Option Value}{base:Heap}{k:Nat}{x:Str}{ps:List Str}{S:aS}{f:Addr}{fd:FuncData}(h:FnOk P w K mg base (dG P w) k f fd ps (fO K S))(m:oF S)(hm:mg x=some (.ref f))(kp:PySem.W.keepIn K (.ref f)=true)(hb:Binds K fd ps []) :
  Fp P w K mg base k x ps S:=⟨⟨f,fd,h,hm,kp,hb⟩,m⟩
variable {we:WE}{wf:WT}{tail:aN}{Q:List D->Prop}
theorem uX{f:D->D}(h:∀d∈ds,∀Q:D->Prop,Q (f d)->we No (.d d::tail) Q):∀(sv:SV) (acc:List D),acc.length+ds.length<=aw->Q (acc++ds.map f)->lcW (gN 0) bF we ds (sv::tail) acc Q:=by
 induction ds with
 |nil=>intro sv acc _ hq;simpa[lcW] using hq
 |cons d ds ih=>
  intro sv acc hl hq;rw[lcW];show we No (SV.d d::tail) _;refine h d (jL ..) _ ⟨?_,?_⟩
  .rw[cO] at hl;omega
  .refine ih (λd hd=>h d (fG _ hd)) (.d d) _ ?_ ?_
   .rw[dj,kS];rw[cO] at hl;omega
   .rw[nu];exact hq
theorem IL{R:D->D->Prop}(h:∀d∈ds,∀Q:D->Prop,(∀y,R d y->Q y)->we No (.d d::tail) Q):∀(sv:SV) (acc:List D),acc.length+ds.length<=aw->(∀ys,ys.length=ds.length->(∀y∈ys,∃d,d∈ds/\R d y)->Q (acc++ys))->lcW (gN 0) bF we ds (sv::tail) acc Q:=by
 induction ds with
 |nil=>intro sv acc _ hq;simpa[lcW] using hq [] rfl (by simp)
 |cons d ds ih=>
  intro sv acc hl hq;rw[lcW];show we No (SV.d d::tail) _;refine h d (jL ..) _ λy hy=>⟨?_,?_⟩
  .rw[cO] at hl;omega
  .refine ih (λd hd=>h d (fG _ hd)) (.d d) _ ?_ λys hl' hys=>?_
   .rw[dj,kS];rw[cO] at hl;omega
   .rw[nu]
    refine hq (y::ys) (by rw[cO,cO,hl']) λz hz=>?_;rcases Yaq.mp hz with rfl|hz
    .exact⟨d,jL ..,hy⟩
    .obtain⟨d',h1,h2⟩:=hys z hz;exact⟨d',fG _ h1,h2⟩
theorem DT{f:D->D->D}:∀(xs ys:List D),(∀p∈xs.zip ys,∀Q:D->Prop,Q (f p.1 p.2)->we No (.d p.1::.d p.2::tail) Q)->∀(sv sv':SV) (acc:List D),acc.length+(xs.zip ys).length<=aw->Q (acc++List.zipWith f xs ys)->
  lcW (bW 2 (aV (gN 0) (aV (gN 1) bR))) bF we (bK xs ys) (sv::sv'::tail) acc Q
 |[],ys,_,sv,sv',acc,_,hq=>by
  have e:bK [] ys=[]:=by simp[bK]
  rw[e,lcW];simpa using hq
 |x::xs,[],_,sv,sv',acc,_,hq=>by
  have e:bK (x::xs) []=[]:=by simp[bK]
  rw[e,lcW];simpa using hq
 |x::xs,y::ys,h,sv,sv',acc,hl,hq=>by
  have e:bK (x::xs) (y::ys)=.tup [x,y]::bK xs ys:=by simp[bK]
  rw[e,lcW];refine⟨rfl,?_⟩;show we No (SV.d x::SV.d y::tail) _;refine h (x,y) (by simp) _ ⟨?_,?_⟩
  .simp at hl;omega
  .refine DT xs ys (λp hp=>h p (by simp[hp])) _ _ _ ?_ ?_
   .simp at hl ⊢;omega
   .rw[nu];simpa using hq
mutual
def cM:D->Nat->Bool
 |.non,_=>true
 |.bl _,_=>true
 |.int _,_=>true
 |.str x,_=>PyData.canLay0 (.str x)
 |.tup xs,n=>decide (0<n)&&eR xs (n-1)
 |.lst xs,n=>decide (0<n)&&eR xs (n-1)
 |.dic,_=>false
 |.pen,_=>false
 |.cls _,_=>false
 |.exc _,_=>false
 |.ty _,_=>false
 |.scr _,_=>false
def eR:List D->Nat->Bool
 |[],_=>true
 |x::r,n=>cM x n&&eR r n
end
mutual
def pd:D->PyData
 |.non=>.none
 |.bl b=>.bool b
 |.int i=>.int i
 |.str x=>.str x
 |.tup xs=>.tuple (ju xs)
 |.lst xs=>.list (ju xs)
 |.dic=>.none
 |.pen=>.none
 |.cls _=>.none
 |.exc _=>.none
 |.ty _=>.none
 |.scr _=>.none
def ju:List D->List PyData
 |[]=>[]
 |x::r=>pd x::ju r
end
mutual
theorem xy:∀(x:D) (n:Nat),cM x n=true->fP x=some (pd x)/\(pd x).canLay0=true/\(pd x).depth<=n
 |.non,n,_=>⟨rfl,rfl,by rw[pd,PyData.depth];exact jD _⟩
 |.bl _,n,_=>⟨rfl,rfl,by rw[pd,PyData.depth];exact jD _⟩
 |.int _,n,_=>⟨rfl,rfl,by rw[pd,PyData.depth];exact jD _⟩
 |.str x,n,h=>⟨rfl,by rw[cM] at h;exact h,by rw[pd,PyData.depth];exact jD _⟩
 |.tup xs,n,h=>by
  rw[cM,cQ,Ou] at h;obtain⟨h1,h2,h3⟩:=AH xs (n-1) h.2;refine⟨by rw[fP,h1,pd];rfl,by rw[pd,PyData.canLay0];exact h2,by rw[pd,PyData.depth];omega⟩
 |.lst xs,n,h=>by
  rw[cM,cQ,Ou] at h;obtain⟨h1,h2,h3⟩:=AH xs (n-1) h.2;refine⟨by rw[fP,h1,pd];rfl,by rw[pd,PyData.canLay0];exact h2,by rw[pd,PyData.depth];omega⟩
 |.dic,n,h=>by rw[cM] at h;cases h
 |.pen,n,h=>by rw[cM] at h;cases h
 |.cls _,n,h=>by rw[cM] at h;cases h
 |.exc _,n,h=>by rw[cM] at h;cases h
 |.ty _,n,h=>by rw[cM] at h;cases h
 |.scr _,n,h=>by rw[cM] at h;cases h
theorem AH:∀(xs:List D) (n:Nat),eR xs n=true->eA xs=some (ju xs)/\PyData.canLayAll0 (ju xs)=true/\PyData.depthAll (ju xs)<=n
 |[],n,_=>⟨by rw[eA,ju],by rw[ju,PyData.canLayAll0],by rw[ju,PyData.depthAll];exact jD _⟩
 |x::r,n,h=>by
  rw[eR,cQ] at h;obtain⟨h1,h2,h3⟩:=xy x n h.1;obtain⟨q1,q2,q3⟩:=AH r n h.2;exact⟨by rw[eA,h1,q1,ju],by rw[ju,PyData.canLayAll0,h2,q2];rfl,by rw[ju,PyData.depthAll];omega⟩
end
def m6(x y:D):Bool:=PyData.eqv (pd x) (pd y)
theorem xz{x y:D}{neg:Bool}{Q:D->Prop}(hx:cM x 60=true)(hy:cM y 60=true)(h:Q (.bl (if neg then !m6 x y else m6 x y))):gEq neg x y Q:=by
 obtain⟨a1,a2,a3⟩:=xy x 60 hx;obtain⟨b1,b2,b3⟩:=xy y 60 hy;refine⟨pd x,pd y,a1,b1,?_,?_,h⟩
 .unfold PySem.SeqAt.shaped;rw[a2,decide_eq_true (by omega)];rfl
 .unfold PySem.SeqAt.shaped;rw[b2,decide_eq_true (by omega)];rfl
mutual
theorem DU:∀p:PyData,p.canLay0=true->PyData.eqv p p=true
 |.none,_=>by rw[PyData.eqv]
 |.bool b,_=>by rw[PyData.eqv];exact OG b
 |.int i,_=>by rw[PyData.eqv];exact OG i
 |.str x,_=>by rw[PyData.eqv];exact OG x
 |.list xs,h=>by rw[PyData.eqv];exact AI xs (by rw[PyData.canLay0] at h;exact h)
 |.tuple xs,h=>by rw[PyData.eqv];exact AI xs (by rw[PyData.canLay0] at h;exact h)
 |.dict _,h=>by rw[PyData.canLay0] at h;cases h
theorem AI:∀ps:List PyData,PyData.canLayAll0 ps=true->PyData.eqvAll ps ps=true
 |[],_=>by rw[PyData.eqvAll]
 |p::ps,h=>by
  rw[PyData.canLayAll0,cQ] at h;rw[PyData.eqvAll,DU p h.1,AI ps h.2];rfl
end
theorem IM{x:D}{n:Nat}(h:cM x n=true):m6 x x=true:=DU _ (xy x n h).2.1
theorem IN{x:D}{neg:Bool}{Q:D->Prop}(hx:cM x 60=true)(h:Q (.bl (!neg))):gEq neg x x Q:=by
 refine xz hx hx ?_;rw[IM hx];cases neg<;>exact h
theorem IO{xs:List D}{n:Nat}(h:∀x∈xs,cM x n=true):eR xs n=true:=by
 induction xs with
 |nil=>rw[eR]
 |cons x xs ih=>rw[eR,h x (jL ..),ih λy hy=>h y (fG _ hy)];rfl
theorem AJ{xs:List D}{n:Nat}(h:∀x∈xs,cM x n=true):cM (.tup xs) (n+1)=true:=by rw[cM,IO (n:=n+1-1) h];simp
mutual
theorem DV:∀(x:D) {n m:Nat},n<=m->cM x n=true->cM x m=true
 |.non,_,_,_,_=>by rw[cM]
 |.bl _,_,_,_,_=>by rw[cM]
 |.int _,_,_,_,_=>by rw[cM]
 |.str x,_,_,_,h=>by rw[cM] at h ⊢;exact h
 |.tup xs,n,m,l,h=>by
  rw[cM,cQ,Ou] at h ⊢;exact⟨by omega,AK xs (by omega) h.2⟩
 |.lst xs,n,m,l,h=>by
  rw[cM,cQ,Ou] at h ⊢;exact⟨by omega,AK xs (by omega) h.2⟩
 |.dic,_,_,_,h=>by rw[cM] at h;cases h
 |.pen,_,_,_,h=>by rw[cM] at h;cases h
 |.cls _,_,_,_,h=>by rw[cM] at h;cases h
 |.exc _,_,_,_,h=>by rw[cM] at h;cases h
 |.ty _,_,_,_,h=>by rw[cM] at h;cases h
 |.scr _,_,_,_,h=>by rw[cM] at h;cases h
theorem AK:∀(xs:List D) {n m:Nat},n<=m->eR xs n=true->eR xs m=true
 |[],_,_,_,_=>by rw[eR]
 |x::r,n,m,l,h=>by
  rw[eR,cQ] at h ⊢;exact⟨DV x l h.1,AK r l h.2⟩
end
def ay(q:Rat):D:=.tup [.int q.num,.int (q.den:Int)]
def ae(r:List Rat):D:=.tup (r.map ay)
def Sz(n:Nat)(q:Rat):Prop:=q.num.natAbs<2^n/\q.den<2^n
theorem Sz.mono{n m:Nat}{q:Rat}(l:n<=m)(h:Sz n q):Sz m q:=
 have:=l6 (n:=2) (by decide) l
 ⟨cv h.1 this,cv h.2 this⟩
theorem DW{a:Int}{g:Nat}(hg:g≠0)(h:(g:Int)∣a):(a/(g:Int)).natAbs<=a.natAbs:=by
 obtain⟨c,rfl⟩:=h;have hg':(g:Int)≠0:=by exact_mod_cast hg
 rw[zn _ hg',dE,l7];exact Nat.le_mul_of_pos_left _ (by omega)
theorem DX(a:Int){b:Nat}(hb:b≠0):(mkRat a b).num.natAbs<=a.natAbs/\(mkRat a b).den<=b:=by
 rw[Rat.num_mkRat,Rat.den_mkRat,if_neg hb,if_neg hb];refine⟨DW (λz=>?_) (Int.ofNat_dvd_left.mpr (Nat.gcd_dvd_right ..)),Nat.div_le_self _ _⟩;rw[Nat.gcd_eq_zero_iff] at z;exact hb z.1
theorem oK{a b n m:Nat}(h:a<2^n)(h':b<2^m):a*b<2^(n+m):=by
 rw[jO];rcases Nat.eq_zero_or_pos a with rfl|ha
 .rw[Nat.zero_mul];exact Nat.mul_pos (wx (by decide)) (wx (by decide))
 .exact cv (Nat.mul_lt_mul_of_pos_left h' ha) (ny _ (jC h))
theorem Sz.add{n m:Nat}{p q:Rat}(h:Sz n p)(h':Sz m q):Sz (n+m+1) (p+q):=by
 rw[Rat.add_def'];have z:p.den*q.den≠0:=zp p.den_nz q.den_nz;have:=DX (p.num*q.den+q.num*p.den) z;have a1:=oK h.1 h'.2;have a2:=oK h'.1 h.2;have a3:=oK h.2 h'.2;rw[td m n] at a2;have e:2^(n+m+1)=2^(n+m)+2^(n+m):=by rw[tm];omega
 have t:=qh (p.num*q.den) (q.num*p.den);rw[dE,dE,l7,l7] at t;exact⟨by omega,by omega⟩
theorem Sz.neg{n:Nat}{p:Rat}(h:Sz n p):Sz n (-p):=⟨by rw[Rat.neg_num,Int.natAbs_neg];exact h.1,h.2⟩
theorem Sz.sub{n m:Nat}{p q:Rat}(h:Sz n p)(h':Sz m q):Sz (n+m+1) (p-q):=by rw[Rat.sub_eq_add_neg];exact h.add h'.neg
theorem Sz.mul{n m:Nat}{p q:Rat}(h:Sz n p)(h':Sz m q):Sz (n+m) (p*q):=by
 rw[Rat.mul_def'];have z:p.den*q.den≠0:=zp p.den_nz q.den_nz;have:=DX (p.num*q.num) z;have a1:=oK h.1 h'.1;have a3:=oK h.2 h'.2;rw[dE] at this;exact⟨by omega,by omega⟩
theorem Sz.inv{n:Nat}{p:Rat}(h:Sz n p):Sz n p⁻¹:=by
 unfold Sz;rw[Rat.num_inv,Rat.den_inv,dE,l7];have:=p.den_pos;have h1:=h.1;have h2:=h.2;constructor
 .rcases Int.lt_trichotomy p.num 0 with z|z|z
  .rw[C0 z];simpa using h2
  .rw[z];simp;omega
  .rw[Int.sign_eq_one_of_pos z];simpa using h2
 .split
  .omega
  .exact h1
theorem Sz.div{n m:Nat}{p q:Rat}(h:Sz n p)(h':Sz m q):Sz (n+m) (p/q):=by rw[gj];exact h.mul h'.inv
theorem Sz.int{n:Nat}(i:Int)(hn:0<n)(h:i.natAbs<2^n):Sz n (i:Rat):=⟨by rw[wy];exact h,by rw[wz];exact tp (by omega)⟩
theorem Sz.zero{n:Nat}(hn:0<n):Sz n (0:Rat):=⟨by rw[Rat.zero_num];exact Nat.two_pow_pos n,by rw[Rat.zero_den];exact tp (by omega)⟩
theorem Sz.bd{n:Nat}{q:Rat}(h:Sz n q)(l:n<=8990):Bd q.num/\Bd (q.den:Int):=by
 have:=h.mono l;exact⟨this.1,by unfold Bd;rw[l7];exact this.2⟩
def B2(p q:Rat):Prop:=∃n m,Sz n p/\Sz m q/\n+m<8990
theorem B2.of{n m:Nat}{p q:Rat}(h:Sz n p)(h':Sz m q)(l:n+m<8990):B2 p q:=⟨n,m,h,h',l⟩
theorem B2.mul{p q:Rat}(h:B2 p q):pC p.num q.den/\pC q.num p.den/\pC p.den q.den/\pC p.num q.num/\Bd ((p.den:Int)*q.den)/\(p.den:Int)*q.den≠0/\pC p.den q.num/\(Bd ((p.den:Int)*q.num)):=by
 obtain⟨n,m,h1,h2,l⟩:=h;have b1:=h1.bd (by omega);have b2:=h2.bd (by omega);refine⟨⟨b1.1,b2.2⟩,⟨b2.1,b1.2⟩,⟨b1.2,b2.2⟩,⟨b1.1,b2.1⟩,?_,?_,⟨b1.2,b2.1⟩,?_⟩
 .have:=oK h1.2 h2.2
  unfold Bd;rw[dE,l7,l7];exact cv this (l6 (by decide) (by omega))
 .have:=zp p.den_nz q.den_nz
  exact_mod_cast this
 .have:=oK h1.2 h2.1
  unfold Bd;rw[dE,l7];exact cv this (l6 (by decide) (by omega))
def bB:List Rat->List Rat->Rat
 |[],_=>0
 |_::_,[]=>0
 |x::xs,y::ys=>x*y+bB xs ys
theorem uY(q:Rat)(n:Nat):cM (ay q) (n+1)=true:=AJ (by simp[cM])
def au(xs:List Int):D:=.tup (xs.map .int)
def cw(xs:List Int):D:=.lst (xs.map .int)
theorem DY(xs:List Int)(n:Nat):cM (au xs) (n+1)=true:=AJ λx hx=>by
 obtain⟨i,_,rfl⟩:=YbT.mp hx;rw[cM]
theorem DZ{t b:Int}(hb:b≠0):(t.fdiv (if b<0 then -(Int.gcd t b:Int) else(Int.gcd t b:Int))=(Rat.divInt t b).num)/\(b.fdiv (if b<0 then -(Int.gcd t b:Int) else(Int.gcd t b:Int))=((Rat.divInt t b).den:Int)):=by
 have hg:0<Int.gcd t b:=zq _ hb;have hg':(0:Int)<(Int.gcd t b:Int):=by exact_mod_cast hg
 obtain⟨c,hc⟩:=Int.gcd_dvd_left (a:=t) (b:=b);obtain⟨d,hd⟩:=Int.gcd_dvd_right (a:=t) (b:=b);rw[Rat.num_divInt,Rat.den_divInt,if_neg hb,Int.gcd_comm b t];generalize Int.gcd t b=g at *;subst hc hd;have gne:(g:Int)≠0:=by omega
 split
 .rename_i h
  have hd:d<0:=by
   rcases Int.lt_or_le d 0 with z|z
   .exact z
   .have:=Int.mul_nonneg (Int.le_of_lt hg') z;omega
  rw[C0 h];constructor
  .rw[show(g:Int)*c=(-(g:Int))*(-c) by rw[wD],wE _ (by omega),wD,show(-1:Int)*((g:Int)*c)=(g:Int)*(-c) by rw[Int.neg_mul,tw,Int.mul_neg],zn _ gne]
  .rw[show(g:Int)*d=(-(g:Int))*(-d) by rw[wD],wE _ (by omega),wD,dE,l7,Nat.mul_div_cancel_left _ hg]
   omega
 .rename_i h
  have hd:0<d:=by
   rcases Int.lt_or_le 0 d with z|z
   .exact z
   .exfalso
    have h1:(g:Int)*d<=0:=by
     have:=Int.mul_le_mul_of_nonneg_left z (Int.le_of_lt hg')
     rwa [wd] at this
    omega
  have hp:0<(g:Int)*d:=Int.mul_pos hg' hd;rw[Int.sign_eq_one_of_pos hp,tw];constructor
  .rw[wE _ gne,zn _ gne]
  .rw[wE _ gne,dE,l7,Nat.mul_div_cancel_left _ hg]
   omega
mutual
def kd:D->Bool
 |.tup xs=>decide (xs.length<=5000)&&pK xs
 |.lst xs=>decide (xs.length<=5000)&&pK xs
 |.non=>true
 |.bl _=>true
 |.int _=>true
 |.str _=>true
 |.dic=>true
 |.pen=>false
 |.cls _=>false
 |.exc _=>false
 |.ty _=>false
 |.scr _=>false
def pK:List D->Bool
 |[]=>true
 |x::r=>kd x&&pK r
end
theorem D0:∀{xs:List D},pK xs=true->∀x∈xs,kd x=true
 |x::r,h,y,hy=>by
  rw[pK,cQ] at h;rcases Yaq.mp hy with rfl|hy
  .exact h.1
  .exact D0 h.2 y hy
theorem D1:∀{xs:List D},(∀x∈xs,kd x=true)->pK xs=true
 |[],_=>by rw[pK]
 |x::r,h=>by rw[pK,h x (jL ..),D1 λy hy=>h y (fG _ hy)];rfl
theorem sE{xs:List D}(h:kd (.tup xs)=true):xs.length<=5000/\∀x∈xs,kd x=true:=by
 rw[kd,cQ,Ou] at h;exact⟨h.1,D0 h.2⟩
theorem xC{xs:List D}(h1:xs.length<=5000)(h2:∀x∈xs,kd x=true):kd (.tup xs)=true:=by rw[kd,decide_eq_true h1,D1 h2];rfl
theorem uZ{x:D}(h:kd x=true):∃t,xk x=some t:=by
 cases x<;>first
  |exact⟨_,rfl⟩
  |(rw[kd] at h;cases h)
theorem IP(q:Rat):kd (ay q)=true:=xC (by simp) (by simp[kd])
theorem sF{r:List Rat}(h:r.length<=5000):kd (ae r)=true:=xC (by simpa using h) λx hx=>by
 obtain⟨q,_,rfl⟩:=YbT.mp hx;exact IP q
theorem IQ{r:List Int}(h:r.length<=5000):kd (au r)=true:=xC (by simpa using h) λx hx=>by
 obtain⟨q,_,rfl⟩:=YbT.mp hx;rw[kd]
def rk:D->Bool
 |.int _=>true
 |_=>false
def jv(l m:Int):D->Bool
 |.int i=>decide (l<=i)&&decide (i<=m)
 |_=>false
def lH(l m:Int):D->Bool
 |.tup xs=>xs.all (jv l m)
 |_=>false
def c6:D->Bool
 |.tup [.int t,.int b]=>decide (0<b)&&(Int.gcd t b==1)
 |_=>false
def gC(n:Int):D->Bool
 |.tup xs=>((xs.length:Int)==n)&&xs.all c6
 |_=>false
def u0(l m:Int):D->Bool
 |.tup xs=>decide (l<=(xs.length:Int))&&decide ((xs.length:Int)<=m)&&xs.all c6
 |_=>false
def u3:aS:=fnS (λx:D=>[x]) (λx=>kd x=true) λx=>.bl (rk x)
def u4:aS:=fnS (λx:D×Int×Int=>[x.1,.int x.2.1,.int x.2.2]) (λx=>kd x.1=true) λx=>.bl (jv x.2.1 x.2.2 x.1)
def xD:aS:=fnS (λx:D×Int×Int=>[x.1,.int x.2.1,.int x.2.2]) (λx=>kd x.1=true) λx=>.bl (lH x.2.1 x.2.2 x.1)
def xE:aS:=fnS (λx:Int×Int=>[.int x.1,.int x.2]) (λ_=>True) λx=>.int (Int.gcd x.1 x.2)
def AL:aS:=fnS (λx:D=>[x]) (λx=>kd x=true) λx=>.bl (c6 x)
def xF:aS:=fnS (λx:D×Int×Int=>[x.1,.int x.2.1,.int x.2.2]) (λx=>kd x.1=true) λx=>.bl (u0 x.2.1 x.2.2 x.1)
def xG:aS:=fnS (λx:D×Int=>[x.1,.int x.2]) (λx=>kd x.1=true) λx=>.bl (gC x.2 x.1)
def rm:aS:=fnS (λx:Int×Int=>[.int x.1,.int x.2]) (λx=>x.2≠0/\Bd x.2) λx=>ay (Rat.divInt x.1 x.2)
def xH:aS:=fnS (λx:Rat×Rat=>[ay x.1,ay x.2]) (λx=>B2 x.1 x.2) λx=>ay (x.1+x.2)
def pL:aS:=fnS (λx:Rat×Rat=>[ay x.1,ay x.2]) (λx=>B2 x.1 x.2) λx=>ay (x.1-x.2)
def rn:aS:=fnS (λx:Rat×Rat=>[ay x.1,ay x.2]) (λx=>B2 x.1 x.2) λx=>ay (x.1*x.2)
def m7:aS:=fnS (λx:Rat×Rat=>[ay x.1,ay x.2]) (λx=>B2 x.1 x.2/\x.2≠0) λx=>ay (x.1/x.2)
def lJ(b:Bool)(xs:List D):D:=if b then .tup xs else .lst xs
def u5:aS:=fnS (λx:Bool×List Int=>[lJ x.1 (x.2.map .int)]) (λx=>x.2.length<=5000) λx=>ae (x.2.map λ(i:Int)=>(i:Rat))
def BR(p q:List Rat):Prop:=∃n m,(∀x∈p,Sz n x)/\(∀x∈q,Sz m x)/\p.length*(n+m+1)+(n+m)+1<8990
def u6:aS:=fnS (λx:(Bool×Bool)×List Rat×List Rat=>[lJ x.1.1 (x.2.1.map ay),lJ x.1.2 (x.2.2.map ay)]) (λx=>BR x.2.1 x.2.2) λx=>ay (bB x.2.1 x.2.2)
structure IsSl(s:List Int)(n:Nat):Prop where
 len:s.length+1=2*n
 n1:1<=n
 n5:n<=5
 b:∀x∈s,-50<=x/\x<=50
def tbl(s:List Int)(n:Nat):List (List Int):=(List.range n).map λi=>(s.drop (n-1-i)).take n
def gT(s:List Int)(n:Nat):D:=.lst ((tbl s n).map cw)
def dC:D->Bool
 |.tup xs=>xs.all (jv (-50) 50)&&decide (xs.length%2=1)&&decide (xs.length<=9)
 |_=>false
abbrev SL:=List Int×Nat
def lX:aS:=fnS (λx:List D=>[.tup x]) (λx=>x.length<=5000) λx=>.int (((x.length:Int)+1)/2)
def Zd:aS:=fnS (λx:D=>[x]) (λx=>kd x=true) λx=>.bl (dC x)
def sG:D->Int
 |.int i=>i
 |_=>0
def sI:D->List Int
 |.tup xs=>xs.map sG
 |_=>[]
def sN(x:D):Nat:=((sI x).length+1)/2
def eI(x:D)(v:Except Str D):Except Str D:=if dC x=true then v else .error "NoSlants"
def m8:aS:=xS (λx:D=>[x]) (λx=>kd x=true) λx=>eI x (.ok .non)
def u7:aS:=xS (λx:D=>[x]) (λx=>kd x=true) λx=>eI x (.ok (gT (sI x) (sN x)))
def hd(r:List Int):Int:=r.headD 0
def xI:aS:=xS (λx:D=>[x]) (λx=>kd x=true) λx=>eI x (.ok (au (sI x).reverse))
def cor(s:List Int)(n k:Nat):List Int:=(s.drop (n-k)).take (2*k-1)
def u8:aS:=xS (λx:D×D=>[x.1,x.2]) (λx=>kd x.1=true/\kd x.2=true) λx=>eI x.1 (if jv 1 (sN x.1) x.2=true then .ok (au (cor (sI x.1) (sN x.1) (sG x.2).toNat)) else .error "NoNumber")
def rp:aS:=xS (λx:D×D=>[x.1,x.2]) (λx=>kd x.1=true/\kd x.2=true) λx=>eI x.1 (.ok (.bl (gC (sN x.1) x.2)))
def ef(r:List Int):List Rat:=r.map λ(i:Int)=>(i:Rat)
def u9:aS:=fnS (λx:SL=>[au x.1]) (λx=>IsSl x.1 x.2) λx=>.lst ((tbl x.1 x.2).map λr=>ae (ef r))
def cU(s:List Int)(n:Nat)(r:List Rat):List Rat:=(tbl s n).map λline=>bB (ef line) r
def BS(r:List Rat):Prop:=∃m,(∀x∈r,Sz m x)/\m<=1400
def xJ:D->Rat
 |.tup [.int t,.int b]=>Rat.divInt t b
 |_=>0
def rQ:D->List Rat
 |.tup xs=>xs.map xJ
 |_=>[]
def xK:aS:=xS (λx:D×D=>[x.1,x.2]) (λx=>kd x.1=true/\kd x.2=true/\∀r,x.2=ae r->BS r) λx=>eI x.1 (if gC (sN x.1) x.2=true then .ok (ae (cU (sI x.1) (sN x.1) (rQ x.2))) else .error "NoRow")
section
variable{E:Ex->Prop}{Q:D->Prop}{x:D}{l m a b:Int}{p q:Rat}{s:List Int}{n k:Nat}
theorem IR(h:kd x=true)(q:Q (.bl (jv l m x))):u4 [x,.int l,.int m] E Q:=⟨(x,l,m),rfl,h,q⟩
theorem IS(h:kd x=true)(q:Q (.bl (lH l m x))):xD [x,.int l,.int m] E Q:=⟨(x,l,m),rfl,h,q⟩
theorem IT(h:kd x=true)(q:Q (.bl (u0 l m x))):xF [x,.int l,.int m] E Q:=⟨(x,l,m),rfl,h,q⟩
theorem IU(h:kd x=true)(q:Q (.bl (gC a x))):xG [x,.int a] E Q:=⟨(x,a),rfl,h,q⟩
theorem AM(h:B2 p q)(z:Q (ay (p-q))):pL [ay p,ay q] E Q:=⟨(p,q),rfl,h,z⟩
theorem IV(h:B2 p q)(z:Q (ay (p*q))):rn [ay p,ay q] E Q:=⟨(p,q),rfl,h,z⟩
theorem va(h:B2 p q)(h':q≠0)(z:Q (ay (p/q))):m7 [ay p,ay q] E Q:=⟨(p,q),rfl,⟨h,h'⟩,z⟩
theorem D2{xs:List Int}(h:xs.length<=5000)(q:Q (ae (ef xs))):u5 [cw xs] E Q:=⟨(false,xs),rfl,h,q⟩
theorem D3{p q:List Rat}(h:BR p q)(z:Q (ay (bB p q))):u6 [ae p,ae q] E Q:=⟨((true,true),p,q),rfl,h,z⟩
theorem IsSl.l9(h:IsSl s n):s.length<=9:=by have:=h.len;have:=h.n5;omega
theorem D4{xs:List D}(h:xs.length<=5000)(q:Q (.int (((xs.length:Int)+1)/2))):lX [.tup xs] E Q:=⟨xs,rfl,h,q⟩
theorem rq(h:IsSl s n)(q:Q (.int n)):lX [au s] E Q:=by
 have:=h.l9;have:=h.len;refine D4 (by simp;omega) ?_;have e:(((s.map D.int).length:Int)+1)/2=n:=by rw[aW];omega
 rw[e];exact q
theorem IW(h:kd x=true)(q:Q (.bl (dC x))):Zd [x] E Q:=⟨x,rfl,h,q⟩
theorem IX{s:List Int}{n:Nat}(h:IsSl s n):dC (au s)=true:=by
 unfold dC au;simp only[aW];have hl:=h.len;have h5:=h.n5;have h1:=h.n1;rw[decide_eq_true (by omega:s.length%2=1),decide_eq_true (by omega:s.length<=9),wG,wG,Ybh];intro x hx;obtain⟨i,hi,rfl⟩:=YbT.mp hx;have:=h.b i hi;simp[jv,this.1,this.2]
theorem IsSl.kd{s:List Int}{n:Nat}(h:IsSl s n):kd (au s)=true:=IQ (by have:=h.l9;omega)
theorem IY(q:Rat):c6 (ay q)=true:=by
 unfold c6 ay;have h1:(0:Int)<(q.den:Int):=by exact_mod_cast q.den_pos
 have h2:Int.gcd q.num (q.den:Int)=1:=q.reduced;simp[h2,q.den_pos]
theorem vb(r:List Rat):gC r.length (ae r)=true:=by
 unfold gC ae;simp[IY]
theorem dh(s:List Int):sI (au s)=s:=by show(s.map D.int).map sG=s;rw[cr];exact(gE λ_ _=>rfl).trans (List.map_id _)
theorem IsSl.sN(h:IsSl s n):sN (au s)=n:=by unfold LP.sN;rw[dh];have:=h.len;omega
theorem d7(h:IsSl s n){v:Except Str D}:eI (au s) v=v:=by unfold eI;rw[IX h,if_pos rfl]
theorem kj{v:Except Str D}(h:dC x=false):eI x v=.error "NoSlants" :=by unfold eI;rw[h,if_neg (by decide)]
theorem km(h:dC x=true):∃s n,x=au s/\IsSl s n:=by
 cases x<;>try (cases h;done)
 rename_i xs;simp only[dC,cQ,Ou,Ybh] at h;obtain⟨⟨h1,h2⟩,h3⟩:=h;have e:xs=(xs.map sG).map D.int:=by
  rw[cr];refine((gE λx hx=>?_).trans (List.map_id _)).symm;have:=h1 x hx;cases x<;>first|rfl|cases this
 refine⟨xs.map sG,(xs.length+1)/2,by unfold au;rw[<-e],⟨by rw[aW];omega,by omega,by omega,λi hi=>?_⟩⟩;obtain⟨x,hx,rfl⟩:=YbT.mp hi;have:=h1 x hx;cases x<;>first|(cases this;done)|skip
 simp only[jv,cQ,Ou] at this;exact this
theorem IZ(q:Rat):xJ (ay q)=q:=by unfold xJ ay;exact tx q
theorem pM(r:List Rat):rQ (ae r)=r:=by show(r.map ay).map xJ=r;rw[cr];exact(gE λq _=>IZ q).trans (List.map_id _)
theorem I0{r r':List Rat}(h:ae r=ae r'):r=r':=by rw[<-pM r,h,pM]
theorem Ja{d:D}(h:c6 d=true):∃q,d=ay q:=by
 unfold c6 at h;split at h
 .rename_i t b
  simp only[cQ,Ou,OQ] at h;have hb:((b.toNat:Nat):Int)=b:=Int.toNat_of_nonneg (by omega);refine⟨⟨t,b.toNat,by omega,?_⟩,?_⟩
  .have:b.natAbs=b.toNat:=by omega
   have h2:=h.2;unfold Int.gcd at h2;rw[this] at h2;exact h2
  .unfold ay
   rw[hb]
 .cases h
theorem D5:∀{xs:List D},xs.all c6=true->∃r:List Rat,xs=r.map ay
 |[],_=>⟨[],rfl⟩
 |x::xs,h=>by
  rw[wq,cQ] at h;obtain⟨q,rfl⟩:=Ja h.1;obtain⟨r,rfl⟩:=D5 h.2;exact⟨q::r,rfl⟩
theorem AN{a:Int}(h:gC a x=true):∃r,x=ae r/\(r.length:Int)=a:=by
 cases x<;>try (cases h;done)
 rename_i xs;simp only[gC,cQ,OQ] at h;obtain⟨r,rfl⟩:=D5 h.2;exact⟨r,rfl,by simpa using h.1⟩
theorem AO(h:IsSl s n)(q:Q .non):m8 [au s] E Q:=xS.ok (au s) rfl h.kd (d7 h) q
theorem AQ(h:kd x=true)(hb:dC x=false)(e:E "NoSlants"):m8 [x] E Q:=xS.err x rfl h (kj hb) e
theorem D6(h:IsSl s n)(q:Q (gT s n)):u7 [au s] E Q:=xS.ok (au s) rfl h.kd (by(try dsimp only);rw[d7 h,dh,h.sN]) q
theorem Jb(h:IsSl s n)(q:Q (au s.reverse)):xI [au s] E Q:=xS.ok (au s) rfl h.kd (by(try dsimp only);rw[d7 h,dh]) q
theorem Jc(h:IsSl s n)(h1:1<=k)(h2:k<=n)(q:Q (au (cor s n k))):u8 [au s,.int k] E Q:=xS.ok (au s,.int k) rfl ⟨h.kd,by rw [kd]⟩ (by
 have e:jv 1 (n:Int) (.int k)=true:=by simp[jv];omega
 dsimp only;rw[d7 h,h.sN,dh,e,if_pos rfl];rfl) q
theorem AR(h:IsSl s n)(hk:kd x=true)(q:Q (.bl (gC n x))):rp [au s,x] E Q:=xS.ok (au s,x) rfl ⟨h.kd,hk⟩ (by(try dsimp only);rw[d7 h,h.sN]) q
theorem Jd{y:D}(h:kd x=true)(hk:kd y=true)(hb:dC x=false)(e:E "NoSlants"):rp [x,y] E Q:=xS.err (x,y) rfl ⟨h,hk⟩ (kj hb) e
theorem D7(h:IsSl s n)(q:Q (.lst ((tbl s n).map λr=>ae (ef r)))):u9 [au s] E Q:=⟨(s,n),rfl,h,q⟩
theorem Je{r:List Rat}(h:IsSl s n)(hl:r.length=n)(hb:BS r)(q:Q (ae (cU s n r))):xK [au s,ae r] E Q:=xS.ok (au s,ae r) rfl ⟨h.kd,sF (by have:=h.n5;omega),λr' e=>by rw [<- I0 e];exact hb⟩ (by
 have er:gC n (ae r)=true:=by rw[<-hl];exact vb r
 dsimp only;rw[d7 h,h.sN,dh,er,if_pos rfl,pM]) q
end
end LP
namespace L2
open PySem PySem.Spec PyProof.Rows
theorem Zq{K:Oq}{h:Heap}{C:Addr}{bmB:List Value}{newId:String}(X:K.In h)(q:PySem.W.excIn K C bmB newId=true) :
  ∃(bm:List Value) (N:Addr) (nm qn:Str) (bs:List Value) (hd:Bool) (sn:List Str) (sub:List Value) (ab:Bool) (col:Option Bool) (dd:Option Addr) (k0 k1 k2 k3 k5:Option Value) (mN:Str->Option Value),
   h.get? C=some (excClassObj nm qn C N bs bm hd sn sub ab col dd k0 k1 k2 k3 k5 newId)/\h.Ns N mN/\mN "__init__" = none/\OwnTail h bmB bm:=by
 unfold PySem.W.excIn at q;split at q
 .rename_i dd cd sl ho
  split at q
  .rename_i C' bm k0 k1 k2 k3 n k5 hm hs
   simp only[cQ,OQ,qb] at q;obtain⟨⟨⟨⟨⟨rfl,rfl⟩,hdel⟩,ht⟩,hok⟩,hni⟩:=q;obtain⟨nm,bs,mro,ns,qn,hd,sn,sub,ab,col,del⟩:=cd;dsimp only at hm hdel hok hni;subst hm hdel;have hsl:sl = #[k0,k1,k2,k3,some (.builtin n),k5]:=by
    cases sl with
    |mk l=>exact congrArg Array.mk hs
   subst hsl;exact⟨bm,ns,nm,qn,bs,hd,sn,sub,ab,col,dd,k0,k1,k2,k3,k5,_,X _ _ ho,.of_isNs (PySem.W.isNs_of_in X hok),PySem.W.nsMap_none_of_in X hok hni,PySem.W.tail_of_in X ht⟩
  .cases q
 .cases q
section
variable{X:Cx}{EX:XK}{x:Str}{C:Addr}{np cpos pos:Pos}{B newId initId:String}{bmB:List Value}
theorem Jf(hr:lF X EX)(hc:X.calm=true)(hm:X.mg x=some (.ref C))(hq:PySem.W.excIn X.K C bmB newId=true)(FB:ExcBaseFacts B newId initId bmB)(hg:Gl X x:=by rfl)(hd:(x==("__debug__" : Str))=false:=by decide) :
  PS X (.Raise (some (.Call (.Name x np) [] [] cpos)) none pos) (λ_ _ H=>EX (.ref C) none H):=by
 intro pins s σ H D I h;obtain⟨bm,N,nm,qn,bs,hdc,sn,sub,ab,col,dd,k0,k1,k2,k3,k5,mN,hC,hN,hni,T⟩:=Zq I.kIn hq;refine wpAny_Raise_call_subT (C:=C) (nm:=nm) (q:=qn) (N:=N) (bs:=bs) (bm:=bm) (hdct:=hdc) (sn:=sn) (sub:=sub) (ab:=ab) (col:=col) (dd:=dd) (k0:=k0) (k1:=k1) (k2:=k2) (k3:=k3) (k5:=k5)
  FB (mN:=mN) (T.hasType FB.hasBase) (I.ok.hd hc) rfl hni (eX I hg hm ⟨rfl,?_⟩ hd)
 exact evalArgs_empty ⟨rfl,jD _,hC,hN,T,λh' e hx=>hr pins σ H s h' e (.ref C) [] I hx h⟩
end
end L2
namespace LP
open PySem PySem.Spec PyProof.Rows L2
theorem rC{K:Oq}{x:Str}{C:Addr}(h:PySem.W.nsIn K mainGlobals x=some (some (.ref C))):j7 K x=some C:=by unfold j7;rw[h]
variable {X:Cx}{EX:XK}{x:Str}{C:Addr}{np cpos pos:Pos}{newId initId:String}{bmB:List Value}
def eh(x:Str):WS:=λE _ _=>E x
structure XC(K:Oq)(mg:Str->Option Value)(x:Str):Prop where
 h:∃(C:Addr) (newId initId:String) (bmB:List Value),j7 K x=some C/\mg x=some (.ref C)/\PySem.W.excIn K C bmB newId=true/\ExcBaseFacts "ValueError" newId initId bmB
theorem sH(hr:lF X EX)(hx:XC X.K X.mg x)(hc:X.calm=true:=by rfl)(hxn:jn x=none:=by decide)(hg:Gl X x:=by rfl)(hd:(x==("__debug__" : Str))=false:=by decide) :
  PZ X EX (.Raise (some (.Call (.Name x np) [] [] cpos)) none pos) (eh x):=by
 obtain⟨C,newId,initId,bmB,h1,h2,h3,h4⟩:=hx.h;exact⟨⟨_,Jf hr hc h2 h3 h4 hg hd,λW0 H0 F W σ H ρ E Dn N s fl eo no q=>eo x W H (.ref C) none q s.ext ⟨C,by rw[HK hxn];exact h1,rfl,.none hxn⟩⟩,λE ρ N N' hl q=>q⟩
end LP
namespace L2
open PySem PySem.Spec PyProof.Rows
section
variable{X:Cx}{pins:List (Addr×Obj)}{σ:St}{H H':Hp}{s s':Shared}{B h2:Heap}
theorem Inv.track{a:Addr}{u:HO}(I:Inv X pins σ H s)(hn:H a=none)(h0:X.s₀.heap.get? a=none)(hL:a≠X.env.locals)(hC:∀x c,X.env.cells.lookup x=some c->c≠a)(hP:∀p∈X.pn++pins,p.1≠a)
  (new:ObjOk X.prog X.w (upd H a u) s.heap a u) (hu:∀us,u≠.lst us):Inv X pins σ (upd H a u) s:=by
 have nea:∀b v,H b=some v->b≠a:=λb v e z=>by rw[z,hn] at e;cases e
 refine ⟨I.ok,I.os,I.bare,⟨I.base.keep,I.base.slot,λb o e n hx=>?_,I.base.there,λb xs e=>?_,λb o xs e=>?_,λb ps e=>?_,λx0 e0 n ys=>by
   by_cases z:sysModules=a
   .rw[z,ao];exact λy=>hu ys (Ow y)
   .rw[af z];exact I.base.sys x0 e0 n ys⟩,I.loc,I.cell,?_,λx c e=>?_,λp hp=>?_,λb v e=>?_,I.len⟩
 .rw[af (λz=>by rw[z,h0] at e;cases e)]
  exact I.base.free b o e n hx
 .have:=I.base.tups b xs e
  rw[af (nea _ _ this)];exact this
 .have:=I.base.frzs b o xs e
  rw[af (nea _ _ this)];exact this
 .obtain⟨m,e1⟩:=I.base.tbls b ps e
  exact⟨m,by rw[af (nea _ _ e1)];exact e1⟩
 .rw[af (Oy hL)];exact I.free
 .rw[af (hC x c e)];exact I.freeC x c e
 .obtain⟨e,n,r⟩:=I.pin p hp
  exact⟨e,by rw[af (hP p hp)];exact n,r⟩
 .by_cases hb:b=a
  .subst hb;rw[ao] at e;cases e;exact new
  .rw[af hb] at e
   exact(I.hok b v e).stay (λ_ _ _ q=>q) (λc q=>by rw[af (nea _ _ q)];exact q) λc _ q=>by rw[af (nea _ _ q)];exact q
end
variable {X:Cx}{pins pins':List (Addr×Obj)}{σ:St}{H:Hp}{s:Shared}{E:Value->Shared->Prop}{e:Addr}
variable {h':Heap}{t':Nat}
theorem Inv.names{m:Str->Option Value}(I:Inv X pins σ H s)(hn:h'.Ns X.env.locals m)(hs:Heap.SameBut X.env.locals s.heap h'):Inv X pins (List.replicate σ.length none) H { s with heap:=h',toks:=t' }:=by
 have ne:∀b o,X.s₀.heap.get? b=some o->b≠X.env.locals:=λb o e=>eJ (cv (bX e) I.ok.above);have same:∀b,b≠X.env.locals->h'.get? b=s.heap.get? b:=λb hb=>hs.2 b hb;have nH:∀b u,H b=some u->b≠X.env.locals:=λb u e z=>by rw[z,I.free] at e;cases e
 refine⟨I.ok,I.os,I.bare,⟨λb o e n hb hx=>?_,λb o e n hb hx=>?_,I.base.free,λb o e hx=>?_,I.base.tups,I.base.frzs,I.base.tbls,I.base.sys⟩,⟨m,hn,λi x v _ e2 _=>?_⟩,λx c e=>?_,I.free,I.freeC,λp hp=>?_,λb u e=>?_,by rw[p9];exact I.len⟩
 .show h'.get? b=_
  rw[same b (ne b o e)];exact I.base.keep b o e n hb hx
 .obtain⟨sl,e1⟩:=I.base.slot b o e n hb hx
  refine⟨sl,?_⟩;show h'.get? b=_;rw[same b (ne b o e)];exact e1
 .obtain⟨o',e1⟩:=I.base.there b o e hx
  refine⟨o',?_⟩;show h'.get? b=_;rw[same b (ne b o e)];exact e1
 .rw[nN] at e2
  split at e2<;>cases e2
 .obtain⟨v,o,ho,hd⟩:=I.cell x c e
  refine⟨v,o,?_,hd⟩;show h'.get? c=_;rw[same c (I.cne x c e)];exact ho
 .obtain⟨e,n,nl,r⟩:=I.pin p hp
  refine⟨?_,n,nl,r⟩;show h'.get? p.1=_;rw[same _ nl];exact e
 .refine(I.hok b u e).stay (λc v hc q=>?_) (λ_ q=>q) λ_ _ q=>q
  show h'.get? c=_;rw[same c ?_]
  .exact q
  .rcases hc with rfl|hc
   .exact nH _ _ e
   .exact nH _ _ hc
end L2
namespace LP
open PySem PySem.Spec PyProof.Rows L2
def vc(n i:Nat)(ex:Str):aN:=(List.replicate n SV.un).set i (.d (.exc ex))
structure XT(K:Oq)(mg:Str->Option Value)(x:Str)(L:List Str):Prop where
 h:∃(C:Addr) (newId:String) (bmB:List Value),mg x=some (.ref C)/\PySem.W.excIn K C bmB newId=true/\bmB.contains (.type "BaseException")=true/\∀n∈L,∀D,j7 K (oB n)=some D->PySem.W.mroIn K D (.ref C)=some true
variable {X:Cx}{EX:XK}
def df(L:List Str)(n i:Nat)(zb zh:WS):WS:=λ_ N ρ=>∃E':Ex->Prop,(∀ex,E' ex->ex∈L/\zh No { nx:=λ_=>False,rt:=N.rt } (vc n i ex))/\zb E' N ρ
end LP
namespace L2
open PySem PySem.Spec PyProof.Rows
structure RoomU(k:Nat)(A:Around):Prop where
 dp:A.depth+3*k+5<recursionLimit
 un:A.units+16*k+200<cLine
theorem RoomU.mono{j k:Nat}{A:Around}(r:RoomU k A)(h:j<=k):RoomU j A:=⟨by have:=r.dp;omega,by have:=r.un;omega⟩
theorem RoomU.depth{k:Nat}{A:Around}(r:RoomU k A):A.depth<recursionLimit:=by have:=r.dp;omega
theorem Room.u{k:Nat}{A:Around}(r:Room k A):RoomU k A:=⟨r.dp,r.un⟩
variable {X:Cx}{k:Nat}{f:Addr}{fd:FuncData}{ps:List Str}{sp:Sp}{E:XK}{x:Str}{p pos:Pos}{e:Expr}{es:List Expr}{t:TA}
end L2
namespace LP
open PySem PySem.Spec PyProof.Rows L2
variable {P:Program}{w:World}{K:Oq}{mg:Str->Option Value}{base:Heap}
variable {X:Cx}{EX:XK}{pos p:Pos}{e:Expr}{es:List Expr}{t:WA}{x:Str}{k j:Nat}{ps:List Str}{S:aS}
end LP
namespace L2
open PySem PySem.Spec PySem.Calls PyProof.Rows PySem.W Builtin Builtin.ObjectAttr Builtin.Getset_descriptor
def XAt(h:Heap)(x C:Addr):Prop:=∃ox,h.get? x=some ox/\ox.cls=.ref C/\notCls ox=true
structure rD(K:Frag)(D:Addr):Prop where
 ga:findIn K (.ref D) "__getattribute__" = some (some (.builtin "BaseException.__getattribute__"))
 gn:findIn K (.ref D) "__getattr__" = some none
 be:mroIn K D (.type "BaseException")=some true
 is:(clsIn K D).isSome=true
 at':findIn K (.ref D) "__class__" = some (some (.builtin "object.__class__"))
 gt:specialIn K (.builtin "object.__class__") "__get__" = some (some (.builtin "getset_descriptor.__get__"))
 tk:takesIn K (.builtin "object.__class__")=some true
 ob:mroIn K D (.type "object")=some true
variable {prog:Program}{w:World}{A:Around}{E:Value->Shared->Prop}{s:Shared}{K:Frag}{x D:Addr}
theorem XAt.type{M:Model}{h:Heap}(I:XAt h x D):Looks M h (typeOf (.ref x)) (.ref D):=by
 obtain⟨ox,h1,h2,_⟩:=I;exact h2▸(Looks.ld h1).andThen .now
end L2
namespace LP
open PySem PySem.Spec PyProof.Rows L2
variable {X:Cx}{EX:XK}{pos p2:Pos}{a:Expr}{wa:WE}{L M:List Str}
def gIsX(L M:List Str):List D->(D->Prop)->Prop:=λds Q=>match ds with
 |[.exc n,.cls m]=>n∈L/\m∈M/\Q (.bl (oB n==m))
 |[.exc n,.ty T]=>n∈L/\T = "ValueError" /\Q (.bl true)
 |_=>False
theorem gIsX.mono:∀ds P P',(∀d,P d->P' d)->gIsX L M ds P->gIsX L M ds P':=λds P P' hp hg=>by
 unfold gIsX at hg ⊢;split at hg
 .exact⟨hg.1,hg.2.1,hp _ hg.2.2⟩
 .exact⟨hg.1,hg.2.1,hp _ hg.2.2⟩
 .exact hg.elim
structure D8(X:Cx)(id:String)(g:D->List D->(D->Prop)->Prop):Prop where
 t:∃r,MtR X id r/\∀W H x vs dx ds Q,WOk W H->Rep X.K W x dx->Reps X.K W vs ds->g dx ds (RQ X.K W H Q)->r x vs H Q
 ty:∀dx ds P,g dx ds P->∃xs,dx=.lst xs
 mono:∀x ds P P',(∀d,P d->P' d)->g x ds P->g x ds P'
def wM(g:D->List D->(D->Prop)->Prop)(wo:WE)(t:WA):WE:=λE ρ Q=>wo E ρ λx=>(∃xs,x=.lst xs)/\t E ρ λds=>g x ds Q
variable {o e:Expr}{es:List Expr}{wo:WE}{t:WA}{name:Str}{apos cpos:Pos}{id:String}{g:D->List D->(D->Prop)->Prop}
theorem D9(slot:Slot "list" name id)(hty:typeOf (.builtin id)=pure (.type "method_descriptor"))(hm:D8 X id g)(ho:PX X EX o wo)(ha:jo X EX (e::es) t)
  (hbase:attributeBase o name X.env (eval o X.env)=eval o X.env:=by rfl)
  (hfew:((backTo cpos (starEach (e::es) X.env)).all (λx=>!x.1) && (backToKw cpos (keywordEach [] X.env)).all (λx=>x.1.isSome)
   && decide ((e::es).length+([]:List Keyword).length+(if([]:List Keyword).isEmpty then 0 else 1)<30))=true:=by rfl)
  (hline:(apos.endLine==cpos.line)=true:=by rfl) (hs:starEach (e::es) X.env=(false,eval e X.env)::starEach es X.env:=by rfl) (hplain:(backTo cpos (starEach es X.env)).any (·.1)=false:=by rfl) :
  PX X EX (.Call (.Attribute o name apos) (e::es) [] cpos) (wM g wo t):=by
 obtain⟨to,po,ko⟩:=ho.t;obtain⟨ta,pa,ka⟩:=ha.t;obtain⟨r,pr,kr⟩:=hm.t;refine⟨⟨_,pv PySem.F.plainAttrs_list slot hty pr po pa hbase hfew hline hs hplain,λW0 H0 W σ H ρ E Q s eo h=>?_⟩,λE ρ P P' hp z=>ho.mono _ _ _ _ (λx ⟨h1,h2⟩=>⟨h1,ha.mono _ _ _ _ (λds hds=>hm.mono _ _ _ _ hp hds) h2⟩) z⟩;refine ko W0 H0 W σ H ρ E _ s eo (ho.mono _ _ _ _ (λd hd v W1 H1 x1 r1=>?_) h);obtain⟨⟨xs,rfl⟩,h2⟩:=hd;cases r1 with
 | @lst a vs ds e1 rr=>
  refine⟨.inl ⟨rfl,vs,SqL.of (x1.ok.g _ _ e1)⟩,?_⟩;refine ka W0 H0 W1 σ H1 ρ E _ (s.step x1) eo (ha.mono _ _ _ _ (λds hds us W2 H2 x2 r2=>?_) h2);exact kr W2 H2 _ us _ ds Q x2.ok (.lst (x2.g _ _ e1) (rr.mono x2.g x2.p)) r2 (hm.mono _ _ _ _ (λd hd=>RQ.ext hd (x1.trans x2)) hds)
end LP
namespace L2
open PySem PySem.Spec PyProof.Rows
variable {X:Cx}
end L2
namespace LP
open PySem PySem.Spec PyProof.Rows L2
variable {X:Cx}
def Zcp:G2:=λx y Q=>match x,y with
 |.tup xs,.int k=>k<1000/\-1000<k/\xs.length*k.toNat<=aw/\Q (.tup (List.replicate k.toNat xs).flatten)
 |_,_=>False
theorem Zcp.mono:∀x y P P',(∀d,P d->P' d)->Zcp x y P->Zcp x y P':=λx y P P' hp hg=>by
 unfold Zcp at hg ⊢;split at hg
 .exact⟨hg.1,hg.2.1,hg.2.2.1,hp _ hg.2.2.2⟩
 .exact hg.elim
end LP
namespace LP
open PySem PySem.Spec PyProof.Rows L2
variable {X:Cx}{EX:XK}{pos:Pos}
def its(js:List Int):List D:=js.map .int
def gIn(neg:Bool):G2:=λx y Q=>∃i js,x=.int i/\(y=.lst (its js)\/y=.tup (its js))/\Q (.bl (if neg then !js.contains i else js.contains i))
theorem gIn.mono{neg:Bool}:∀x y P P',(∀d,P d->P' d)->gIn neg x y P->gIn neg x y P':=λx y P P' hp ⟨i,js,h1,h2,h3⟩=>⟨i,js,h1,h2,hp _ h3⟩
theorem AS{K:Oq}{W:Wd}:∀{js:List Int} {vs:List V},Reps K W vs (its js)->vs=js.map V.int
 |[],_,.nil=>rfl
 |j::js,_,.cons r t=>by cases r;rw[AS t];rfl
theorem AT(i:Int):∀js:List Int,xc (.int i) (js.map V.int)=js.contains i
 |[]=>rfl
 |j::js=>by
  have ih:=AT i js;unfold xc at ih ⊢;rw[bL,wu,ih,sj];congr 1;show(j==i)=(i==j)
  rw[jN,OQ,OQ];exact⟨Eq.symm,Eq.symm⟩
theorem AU:∀js:List Int,(js.map V.int).all dY=true
 |[]=>rfl
 |j::js=>by rw[bL,wq,AU js];rfl
theorem vd{neg:Bool}{W:Wd}{H:Hp}{x y:V}{dx dy:D}{Q:VK}(ok:WOk W H)(rx:Rep X.K W x dx)(ry:Rep X.K W y dy)(hg:gIn neg dx dy (RQ X.K W H Q)):Dz X.K neg x y H Q:=by
 obtain⟨i,js,rfl,h,q⟩:=hg;cases rx;rcases h with rfl|rfl
 .obtain⟨p,vs,rfl,h1,r1⟩:=ry.sql ok
  obtain rfl:=AS r1;exact⟨p,_,rfl,.inl h1,rfl,AU js,by rw[AT];exact q.now ok (.bl _)⟩
 .obtain⟨p,vs,rfl,h1,r1⟩:=ry.sqt ok
  obtain rfl:=AS r1;exact⟨p,_,rfl,.inr h1,rfl,AU js,by rw[AT];exact q.now ok (.bl _)⟩
theorem ve:fe X (compareOp .NotIn) (gIn true):=⟨⟨_,gO,λW H x y dx dy Q ok rx ry hg=>vd ok rx ry hg⟩,gIn.mono⟩
def Zp5:List D->(D->Prop)->Prop:=λds Q=>∃x p,ds=[x]/\fP x=some p/\p.showable=true/\p.hasDict=false/\p.depth<=32/\p.shown.length<=sizeLine/\Q (.str p.shown)
theorem Zp5.mono:∀ds P P',(∀d,P d->P' d)->Zp5 ds P->Zp5 ds P':=λds P P' hp ⟨x,p,h1,h2,h3,h4,h5,h6,h7⟩=>⟨x,p,h1,h2,h3,h4,h5,h6,hp _ h7⟩
abbrev Ea:List Str:=["thing"]
abbrev Jg:List Str:=["thing"]
def AV:WS:=(aj (eu (wB gIs (ad (wN 0) (ad (wC (.ty "int")) aa))) (fg (wB gIs (ad (wN 0) (ad (wC (.ty "bool")) aa))))))
abbrev Eb:List Str:=["thing", "least", "most"]
abbrev Jh:List Str:=["thing", "least", "most"]
def AW:WS:=(aj (eu (wF u3 (ad (wN 0) aa)) (ZaM mZ mZ (wN 1) (wN 0) (wN 2))))
abbrev Ed:List Str:=["thing", "least", "most"]
abbrev Ji:List Str:=["thing", "least", "most"]
def AX:WS:=(aj (eu (wB gIs (ad (wN 0) (ad (wC (.ty "tuple")) aa))) (wB jq (ad (wL (aLC (iS (wN 0)) 1 [1,2] (gN 0) bF (wF u4 (ad (wN 0) (ad (wN 1) (ad (wN 2) aa)))))) aa))))
abbrev Ee:List Str:=["one", "other"]
abbrev Zg:List Str:=["one", "other"]
def AY:WS:=(ai (aL (xr (wT (w2 (gEq true) (wN 1) (wC (D.int (0))))) (bS 0 1 (ad (wN 1) (ad (w2 pJ (wN 0) (wN 1)) aa))))) (aj (wB gS (ad (wN 0) aa))))
abbrev Ef:List Str:=["thing", "top", "bottom"]
abbrev Jj:List Str:=["thing"]
def AZ:WS:=(ai (bE (dB (aX (wT (wB gIs (ad (wN 0) (ad (wC (.ty "tuple")) aa))))) (wT (w2 (gEq true) (wB bA (ad (wN 0) aa)) (wC (D.int (2)))))) (aj (wC (D.bl false))) bD) (ai (bJ (wN 0) (bW 2 (aV (gN 1) (aV (gN 2) bR)))) (ai (bE (dB (aX (wT (wF u3 (ad (wN 1) aa)))) (aX (wT (wF u3 (ad (wN 2) aa))))) (aj (wC (D.bl false))) bD) (aj (eu (w2 lG (wN 2) (wC (D.int (0)))) (w2 (gEq false) (wF xE (ad (wN 1) (ad (wN 2) aa))) (wC (D.int (1)))))))))
abbrev Eg:List Str:=["thing", "least", "most"]
abbrev Jk:List Str:=["thing", "least", "most"]
def A0:WS:=(ai (bE (dB (aX (wT (wB gIs (ad (wN 0) (ad (wC (.ty "tuple")) aa))))) (aX (wT (ZaM mZ mZ (wN 1) (wB bA (ad (wN 0) aa)) (wN 2))))) (aj (wC (D.bl false))) bD) (aj (wB jq (ad (wL (aLC (iS (wN 0)) 1 [] (gN 0) bF (wF AL (ad (wN 0) aa)))) aa))))
abbrev Eh:List Str:=["thing", "many"]
abbrev Jl:List Str:=["thing", "many"]
def A1:WS:=(aj (wF xF (ad (wN 0) (ad (wN 1) (ad (wN 1) aa)))))
abbrev Ei:List Str:=["top", "bottom", "divisor"]
abbrev Jm:List Str:=["top", "bottom"]
def A2:WS:=(ai (fi (wT (w2 (gEq true) (wN 1) (wC (D.int (0)))))) (ai (ax 2 (wF xE (ad (wN 0) (ad (wN 1) aa)))) (ai (bE (wT (w2 mY (wN 1) (wC (D.int (0))))) (ax 2 (w1 kf (wN 2))) bD) (aj (aQ (ad (w2 fU (wN 0) (wN 2)) (ad (w2 fU (wN 1) (wN 2)) aa)))))))
abbrev Ej:List Str:=["one", "other"]
abbrev Jn:List Str:=["one", "other"]
def A3:WS:=(aj (wF rm (ad (w2 gAdd (w2 gMul (w2 gIx (wN 0) (wC (D.int (0)))) (w2 gIx (wN 1) (wC (D.int (1))))) (w2 gMul (w2 gIx (wN 1) (wC (D.int (0)))) (w2 gIx (wN 0) (wC (D.int (1)))))) (ad (w2 gMul (w2 gIx (wN 0) (wC (D.int (1)))) (w2 gIx (wN 1) (wC (D.int (1))))) aa))))
abbrev Ek:List Str:=["one", "other"]
abbrev Jo:List Str:=["one", "other"]
def A4:WS:=(aj (wF rm (ad (w2 gMul (w2 gIx (wN 0) (wC (D.int (0)))) (w2 gIx (wN 1) (wC (D.int (0))))) (ad (w2 gMul (w2 gIx (wN 0) (wC (D.int (1)))) (w2 gIx (wN 1) (wC (D.int (1))))) aa))))
abbrev El:List Str:=["numbers"]
abbrev Jp:List Str:=["numbers"]
def A5:WS:=(aj (wB gR (ad (wL (aLC (iS (wN 0)) 1 [] (gN 0) bF (aQ (ad (wN 0) (ad (wC (D.int (1))) aa))))) aa)))
abbrev Em:List Str:=["one", "other", "total", "left", "right"]
abbrev Jq:List Str:=["one", "other"]
def A6:WS:=(ai (ax 2 (wC (D.tup [(D.int (0)),(D.int (1))]))) (ai (aL (aU (iZ (ad (wN 0) (ad (wN 1) aa))) (bW 2 (aV (gN 3) (aV (gN 4) bR))) (ax 2 (wF xH (ad (wN 2) (ad (wF rn (ad (wN 3) (ad (wN 4) aa))) aa)))))) (aj (wN 2))))
abbrev En:List Str:=["slants"]
abbrev Jr:List Str:=["slants"]
def A7:WS:=(aj (w2 fU (w2 gAdd (wB bA (ad (wN 0) aa)) (wC (D.int (1)))) (wC (D.int (2)))))
abbrev Eo:List Str:=["thing"]
abbrev Js:List Str:=["thing"]
def A8:WS:=(ai (bE (dB (aX (wT (wF xD (ad (wN 0) (ad (wC (.int (-50))) (ad (wC (.int (50))) aa)))))) (wT (w2 (gEq false) (w2 pJ (wB bA (ad (wN 0) aa)) (wC (D.int (2)))) (wC (D.int (0)))))) (aj (wC (D.bl false))) bD) (aj (w2 mZ (wF lX (ad (wN 0) aa)) (wC (.int (5))))))
abbrev Ep:List Str:=["thing"]
abbrev Jt:List Str:=["thing"]
def A9:WS:=(bE (aX (wT (wF Zd (ad (wN 0) aa)))) (eh (PySem.Str.ofString "NoSlants")) bD)
abbrev Er:List Str:=["slants", "size"]
abbrev Ju:List Str:=["slants"]
def Ba:WS:=(ai (dg (wF m8 (ad (wN 0) aa))) (ai (ax 1 (wF lX (ad (wN 0) aa))) (aj (wL (aLC (dS (ad (wN 1) aa)) 1 [0,1] (gN 0) bF (wL (aB (fh (α:=Unit)) (ad (aJ (wN 1) (bV (w2 fj (w2 fj (wN 2) (wC (D.int (1)))) (wN 0))) (bV (w2 fj (w2 fj (w2 gMul (wC (D.int (2))) (wN 2)) (wC (D.int (1)))) (wN 0)))) aa))))))))
abbrev Es:List Str:=["slants"]
abbrev Jv:List Str:=["slants"]
def Bb:WS:=(ai (dg (wF m8 (ad (wN 0) aa))) (aj (w1 gRev (wN 0))))
abbrev Et:List Str:=["slants", "size", "whole_size"]
abbrev Zn:List Str:=["slants", "size"]
def Bc:WS:=(ai (dg (wF m8 (ad (wN 0) aa))) (ai (ax 2 (wF lX (ad (wN 0) aa))) (ai (bE (aX (wT (wF u4 (ad (wN 1) (ad (wC (D.int (1))) (ad (wN 2) aa)))))) (eh (PySem.Str.ofString "NoNumber")) bD) (aj (aJ (wN 0) (bV (w2 fj (wN 2) (wN 1))) (bV (w2 fj (w2 gAdd (wN 2) (wN 1)) (wC (D.int (1))))))))))
abbrev Eu:List Str:=["slants", "thing"]
abbrev Jw:List Str:=["slants", "thing"]
def Be:WS:=(ai (dg (wF m8 (ad (wN 0) aa))) (aj (wF xG (ad (wN 1) (ad (wF lX (ad (wN 0) aa)) aa)))))
abbrev Ev:List Str:=["slants"]
abbrev Jx:List Str:=["slants"]
def Bf:WS:=(aj (wL (aLC (iS (wF u7 (ad (wN 0) aa))) 1 [] (gN 0) bF (wF u5 (ad (wN 0) aa)))))
abbrev Ew:List Str:=["slants", "row"]
abbrev Jy:List Str:=["slants", "row"]
def Bg:WS:=(ai (bE (aX (wT (wF rp (ad (wN 0) (ad (wN 1) aa))))) (eh (PySem.Str.ofString "NoRow")) bD) (aj (wB gR (ad (wL (aLC (iS (wF u9 (ad (wN 0) aa))) 1 [1] (gN 0) bF (wF u6 (ad (wN 0) (ad (wN 1) aa))))) aa))))
local macro_rules | `(tactic| walk_at "wp")=>`(tactic| simp only[aj,ai,bE,ax,bD,dg,aT,aZ,aU,fi,bS,bJ,bC,d6,cb,fV,aL,eh,eu,cH,fg,cG,dB,aX,wT,eO,w1,w2,wB,wF,wL,aQ,aJ,ZaM,aB,bh,ad,aa,aLC,Zbq,bF,iS,iL,iT,dS,eY,iZ,i1,i2,isS,isL,isT,isB,isI,cP,bV,wN,wC,gN,bW,aV,bR,gI2,gAdd,gMul,gIx,bN,gCut,gRev,bA,fh,gR,gS,j9,fT,fA,cq,cJ,cK,bM,cL,bT,cm,aCut,aH,pub,bL,dM,cO,eW,dW,c9,List.replicate,b9,cF,dO,dP,Nat.reduceSub,Nat.reduceAdd,dJ,fH,true_and,da,if_true,if_false,ite_true,ite_false])
local macro_rules | `(tactic| walk_at "go")=>`(tactic| ((try dsimp only at *);(try walk_at "wp");(try dsimp only)))
theorem Zk{x:D}{T:String}{Q:D->Prop}(h:kd x=true)(hT:T∈xm)(q:∀t,xk x=some t->Q (.bl (lC t T))):gIs [x,.ty T] Q:=by
 obtain⟨t,ht⟩:=uZ h;exact⟨t,ht,hT,q t ht⟩
theorem Jz:∀ds E Q,u3 ds E Q->AV E { nx:=λ_=>Q .non,rt:=Q } (aH Ea ds):=by
 rintro _ E Q ⟨x,rfl,hk,q⟩;unfold AV;walk_at "wp";refine Zk hk (by decide) λt ht=>?_;cases x<;>cases ht<;>first
  |exact q
  |exact Zk hk (by decide) λt ht=>by cases ht;exact q
theorem JA:∀ds E Q,u4 ds E Q->AW E { nx:=λ_=>Q .non,rt:=Q } (aH Eb ds):=by
 rintro _ E Q ⟨⟨x,l,m⟩,rfl,hk,q⟩;unfold AW;walk_at "go";refine⟨x,rfl,hk,?_⟩;cases x<;>try exact q
 rename_i i;simp only[rk,isB,if_true,gI2,true_and]
 by_cases h:l<=i
 .simp only[h,decide_true,if_true]
  simpa[jv,h] using q
 .simp only[h,decide_false,if_false,da]
  simpa[jv,h] using q
theorem JB:∀ds E Q,xD ds E Q->AX E { nx:=λ_=>Q .non,rt:=Q } (aH Ed ds):=by
 rintro _ E Q ⟨⟨x,l,m⟩,rfl,hk,q⟩;unfold AX;walk_at "go";refine Zk hk (by decide) λt ht=>?_;cases x<;>cases ht<;>try exact q
 rename_i xs;obtain⟨hl,hx⟩:=sE hk;show lcW _ _ _ xs _ _ _;refine uX (f:=λd=>.bl (jv l m d)) (λd hd Q hq=>?_) .un [] (by simp[aw];omega) ?_
 .walk_at "go"
  exact⟨(d,l,m),rfl,hx d hd,hq⟩
 .refine⟨xs.map (jv l m),by simp,?_⟩
  simpa[List.all_map,Function.comp_def,lH] using q
theorem Ey(a b:Int):Int.gcd b (a.fmod b)=Int.gcd a b:=by
 have e:a.fmod b=a-b*a.fdiv b:=by have:=Int.mul_fdiv_add_fmod a b;omega
 rw[e,Int.gcd_sub_mul_left_right,Int.gcd_comm]
theorem Ez(a:Int){b:Int}(h:b≠0):(a.fmod b).natAbs<b.natAbs:=by
 have key:∀a b:Int,0<b->0<=a.fmod b/\a.fmod b<b:=λa b z=>by
  rw[C2 _ (Int.le_of_lt z)];exact⟨Int.emod_nonneg _ (by omega),Int.emod_lt_of_pos _ z⟩
 rcases Int.lt_or_lt_of_ne h with z|z
 .have h1:=key (-a) (-b) (by omega)
  rw[Int.neg_fmod_neg] at h1;omega
 .have h1:=key a b z
  omega
theorem JC:∀ds E Q,xE ds E Q->AY E { nx:=λ_=>Q .non,rt:=Q } (aH Ee ds):=by
 rintro _ E Q ⟨⟨a,b⟩,rfl,_,q⟩;unfold AY;walk_at "go";refine⟨λm ρ=>∃x y:Int,m=y.natAbs/\ρ=[.d (.int x),.d (.int y)]/\Int.gcd x y=Int.gcd a b,⟨_,a,b,rfl,rfl,rfl⟩,?_⟩;rintro m _ ⟨x,y,rfl,rfl,hg⟩;walk_at "go"
 by_cases hy:y=0
 .subst hy
  simp only[OG,dQ,da,if_false];rw[Int.gcd_zero_right] at hg;rw[<-hg] at q;have:(if x<0 then -x else x)=((x.natAbs:Nat):Int):=by split<;>omega
  rw[this];exact q
 .rw[if_pos (by simpa using hy)]
  exact⟨hy,_,Ez x hy,_,_,rfl,rfl,by rw[Ey];exact hg⟩
theorem JD{xs:List D}(h:xs.length≠2):c6 (.tup xs)=false:=by
 unfold c6;split
 .rename_i e
  cases e;exact Ot rfl h
 .rfl
theorem JE{a b:D}(h:rk a=false):c6 (.tup [a,b])=false:=by
 unfold c6;split
 .rename_i e
  cases e;cases h
 .rfl
theorem JF{a b:D}(h:rk b=false):c6 (.tup [a,b])=false:=by
 unfold c6;split
 .rename_i e
  cases e;cases h
 .rfl
theorem EA{a:D}(h:rk a=true):∃i,a=.int i:=by
 cases a<;>first
  |exact⟨_,rfl⟩
  |cases h
theorem JG:∀ds E Q,AL ds E Q->AZ E { nx:=λ_=>Q .non,rt:=Q } (aH Ef ds):=by
 rintro _ E Q ⟨x,rfl,hk,q⟩;unfold AZ;walk_at "go";refine Zk hk (by decide) λt ht=>?_;cases x<;>cases ht<;>try exact q
 rename_i xs;obtain⟨hl,hx⟩:=sE hk;walk_at "go";simp only[show lC "tuple" "tuple" = true from rfl,dQ,da,if_false]
 by_cases h2:xs.length=2
 .match xs,h2,hx,q with
  |[a,b],_,hx,q=>
  rw[if_neg (by simp)];walk_at "go";refine⟨a,rfl,hx a (by simp),?_⟩;walk_at "go";cases ha:rk a with
  |false=>rw[JE ha] at q;exact q
  |true=>
   obtain⟨i,rfl⟩:=EA ha;simp only[dQ,da,if_false];refine⟨b,rfl,hx b (by simp),?_⟩;walk_at "go";cases hb:rk b with
   |false=>rw[JF hb] at q;exact q
   |true=>
    obtain⟨j,rfl⟩:=EA hb;simp only[dQ,da,if_false];walk_at "go"
    by_cases h:0<j
    .simp only[show j>0 from h,decide_true,if_true]
     refine⟨(i,j),rfl,trivial,?_⟩;walk_at "go";have:c6 (.tup [.int i,.int j])=(((Int.gcd i j:Nat):Int)==1):=by
      simp only[c6,h,decide_true,wH];rw[jN];simp;omega
     rw[this] at q;simpa using q
    .have h':¬j>0:=h
     simp only[h',decide_false,if_false,da];simpa[c6,h] using q
 .rw[JD h2] at q
  rw[if_pos (by simpa using λz=>h2 (by exact_mod_cast z))];exact q
theorem JH:∀ds E Q,xF ds E Q->A0 E { nx:=λ_=>Q .non,rt:=Q } (aH Eg ds):=by
 rintro _ E Q ⟨⟨x,l,m⟩,rfl,hk,q⟩;unfold A0;walk_at "go";refine Zk hk (by decide) λt ht=>?_;cases x<;>cases ht<;>try exact q
 rename_i xs;obtain⟨hl,hx⟩:=sE hk;walk_at "go";simp only[show lC "tuple" "tuple" = true from rfl,dQ,da,if_false];simp only[u0] at q;cases h1:decide (l<=(xs.length:Int)) with
 |false=>rw[h1] at q;simpa using q
 |true=>
  cases h2:decide ((xs.length:Int)<=m) with
  |false=>rw[h1,h2] at q;simpa using q
  |true=>
   simp only[if_true,dQ,da,if_false];walk_at "go";refine uX (f:=λd=>.bl (c6 d)) (λd hd Q hq=>?_) .un [] (by simp[aw];omega) ?_
   .walk_at "go"
    exact⟨d,rfl,hx d hd,hq⟩
   .refine⟨xs.map c6,by simp,?_⟩
    rw[h1,h2] at q;simpa[List.all_map,Function.comp_def] using q
theorem JI(n:Int)(x:D):u0 n n x=gC n x:=by
 cases x<;>try rfl
 rename_i xs;simp only[u0,gC];congr 1;rw[jN];simp;omega
theorem JJ:∀ds E Q,xG ds E Q->A1 E { nx:=λ_=>Q .non,rt:=Q } (aH Eh ds):=by
 rintro _ E Q ⟨⟨x,n⟩,rfl,hk,q⟩;unfold A1;walk_at "go";refine IT hk ?_;rw[JI];exact q
theorem Bd.le{i j:Int}(h:i.natAbs<=j.natAbs)(b:Bd j):Bd i:=kC h b
theorem JK:∀ds E Q,rm ds E Q->A2 E { nx:=λ_=>Q .non,rt:=Q } (aH Ei ds):=by
 rintro _ E Q ⟨⟨t,b⟩,rfl,⟨hb,hd⟩,q⟩;unfold A2;walk_at "go";refine⟨by simpa using hb,(t,b),rfl,trivial,?_⟩;walk_at "go";have hg:0<Int.gcd t b:=zq _ hb;have hle:Int.gcd t b<=b.natAbs:=Nat.le_of_dvd (by omega) (Int.gcd_dvd_natAbs_right ..);obtain⟨e1,e2⟩:=DZ (t:=t) hb;unfold ay at q;rw[<-e1,<-e2] at q
 by_cases h:b<0
 .simp only[h,decide_true,if_true] at q ⊢
  refine⟨⟨by omega,Bd.le (by omega) hd⟩,⟨by omega,Bd.le (by omega) hd⟩,by simp[aw],q⟩
 .simp only[h,decide_false,if_false,da] at q ⊢
  refine⟨⟨by omega,Bd.le (by omega) hd⟩,⟨by omega,Bd.le (by omega) hd⟩,by simp[aw],q⟩
theorem pN{q:Rat}{Q:D->Prop}(h:Q (.int q.num)):gIx (ay q) (.int 0) Q:=⟨_,rfl,h⟩
theorem lY{q:Rat}{Q:D->Prop}(h:Q (.int q.den)):gIx (ay q) (.int 1) Q:=⟨_,rfl,h⟩
theorem JL:∀ds E Q,xH ds E Q->A3 E { nx:=λ_=>Q .non,rt:=Q } (aH Ej ds):=by
 rintro _ E Q ⟨⟨p,q⟩,rfl,hb,h⟩;obtain⟨b1,b2,b3,b4,b5,b6,b7,b8⟩:=hb.mul;unfold A3;simp only[aj,wF,ad,w2,wN,wC,aH,bL,dW,b9,cF];refine pN (lY ⟨b1,pN (lY ⟨b2,lY (lY ⟨b3,?_⟩)⟩)⟩);refine⟨(_,_),rfl,⟨b6,b5⟩,?_⟩;dsimp only at h ⊢;have e:Rat.divInt (p.num*q.den+q.num*p.den) ((p.den:Int)*q.den)=p+q:=by
  rw[Rat.add_def',<-zt];rfl
 rw[e];exact h
theorem EB:∀ds E Q,rn ds E Q->A4 E { nx:=λ_=>Q .non,rt:=Q } (aH Ek ds):=by
 rintro _ E Q ⟨⟨p,q⟩,rfl,hb,h⟩;obtain⟨b1,b2,b3,b4,b5,b6,b7,b8⟩:=hb.mul;unfold A4;simp only[aj,wF,ad,w2,wN,wC,aH,bL,dW,b9,cF];refine pN (pN ⟨b4,lY (lY ⟨b3,?_⟩)⟩);refine⟨(_,_),rfl,⟨b6,b5⟩,?_⟩;dsimp only at h ⊢;have e:Rat.divInt (p.num*q.num) ((p.den:Int)*q.den)=p*q:=by
  rw[Rat.mul_def',<-zt];rfl
 rw[e];exact h
theorem JM{b:Bool}{xs:List D}{Q:List D->Prop}(h:Q xs):isS Q (lJ b xs):=by cases b<;>exact h
theorem Bh(i:Int):ay (i:Rat)=.tup [.int i,.int 1]:=by unfold ay;rw[wy,wz];rfl
theorem JN:∀ds E Q,u5 ds E Q->A5 E { nx:=λ_=>Q .non,rt:=Q } (aH El ds):=by
 rintro _ E Q ⟨⟨b,xs⟩,rfl,hl,q⟩;dsimp only at hl q;unfold A5;simp only[aj,wB,ad,aa,wL,aLC,iS,wN,aH,Zbq,List.replicate,bL,dM,dW,c9,b9];refine JM (uX (f:=λd=>.tup [d,.int 1]) (λd hd Q hq=>?_) .un [] (by simp[aw];omega) ?_)
 .walk_at "go"
  exact⟨by simp[aw],hq⟩
 .have e:(xs.map D.int).map (λd=>D.tup [d,.int 1])=(xs.map λ(i:Int)=>(i:Rat)).map ay:=by
   rw[cr,cr];exact gE λi _=>(Bh i).symm
  rw[c9,e];exact q
theorem Bj{n m:Nat}:∀(p q:List Rat) {k:Nat},(∀x∈p,Sz n x)->(∀x∈q,Sz m x)->p.length<=k->Sz (k*(n+m+1)+1) (bB p q)
 |[],_,k,_,_,_=>by rw[bB];exact Sz.zero (by omega)
 |_::_,[],k,_,_,_=>by rw[bB];exact Sz.zero (by omega)
 |x::p,y::q,0,_,_,h=>by simp at h
 |x::p,y::q,k+1,h1,h2,hk=>by
  rw[bB];have a:=(h1 x (by simp)).mul (h2 y (by simp));have b:=Bj p q (k:=k) (λz hz=>h1 z (by simp[hz])) (λz hz=>h2 z (by simp[hz])) (by simpa using hk);refine(a.add b).mono ?_;rw[nw];omega
theorem JO:∀ds E Q,u6 ds E Q->A6 E { nx:=λ_=>Q .non,rt:=Q } (aH Em ds):=by
 rintro _ E Q ⟨⟨⟨b1,b2⟩,p,q⟩,rfl,⟨n,m,hp,hq,hb⟩,h⟩;dsimp only at hp hq hb h;unfold A6;simp only[ai,ax,wC,aH,bL,dM,cO,eW,dW,c9,List.replicate,dP,dO,aL,aU,iZ,ad,aa,wN,b9,cF,Nat.reduceSub,Nat.reduceAdd];have key:∀(p' q':List Rat) (s:Rat) (sv sv':SV) (j:Nat),(∀x∈p',Sz n x)->(∀x∈q',Sz m x)->Sz (j*(n+m+1)+1) s->j+p'.length<=p.length->s+bB p' q'=bB p q->
   ZbW (bW 2 (aV (gN 3) (aV (gN 4) bR))) (ax 2 (wF xH (ad (wN 2) (ad (wF rn (ad (wN 3) (ad (wN 4) aa))) aa)))) No { nx:=aj (wN 2) E { nx:=λ_=>Q .non,rt:=Q },rt:=Q,bk:=λ_=>False,ct:=λ_=>False }
    (bK (p'.map ay) (q'.map ay)) [.d (lJ b1 (p.map ay)),.d (lJ b2 (q.map ay)),.d (ay s),sv,sv']:=by
  intro p'
  induction p' with
  |nil=>
   intro q' s sv sv' j _ _ _ _ he;rw[bB,nO] at he;simp only[bK,dM,List.zipWith_nil_left,ZbW];show Q (ay s);rw[he];exact h
  |cons x p' ih=>
   intro q' s sv sv' j h1 h2 h3 h4 he;cases q' with
   |nil=>
    rw[bB,nO] at he;simp only[bK,dM,List.zipWith_nil_right,ZbW];show Q (ay s);rw[he];exact h
   |cons y q'=>
    have hx:=h1 x (by simp);have hy:=h2 y (by simp);rw[cO] at h4;have hj:j*(n+m+1)<=p.length*(n+m+1):=ny _ (by omega);have hj':(j+1)*(n+m+1)<=p.length*(n+m+1):=ny _ (by omega);rw[nw] at hj';simp only[bK,bL,List.zipWith_cons_cons,ZbW];refine⟨rfl,?_⟩;simp only[aV,bR,gN,ax,wF,ad,aa,wN,b9,cF,dP,dO];refine⟨(x,y),rfl,B2.of hx hy (by omega),?_⟩;refine⟨(s,x*y),rfl,B2.of h3 (hx.mul hy) (by omega),?_⟩;refine ih q' (s+x*y) _ _ (j+1) (λz hz=>h1 z (by simp[hz])) (λz hz=>h2 z (by simp[hz])) ?_ (by omega) ?_
    .refine(h3.add (hx.mul hy)).mono ?_
     rw[nw];omega
    .rw[bB] at he
     rw[Rat.add_assoc];exact he
 have e0:D.tup [D.int 0,D.int 1]=ay 0:=rfl;rw[e0];have k:=key p q 0 .un .un 0 hp hq (Sz.zero (by omega)) (by omega) (Rat.zero_add _);cases b1<;>cases b2<;>exact k
theorem jJ{α:Type}{we:WE}{tail:aN}{Q:List D->Prop}{g f:α->D}:∀(L:List α),(∀a∈L,∀Q:D->Prop,Q (f a)->we No (.d (g a)::tail) Q)->∀(sv:SV) (acc:List D),acc.length+L.length<=aw->Q (acc++L.map f)->lcW (gN 0) bF we (L.map g) (sv::tail) acc Q
 |[],_,sv,acc,_,hq=>by simpa[lcW] using hq
 |a::L,h,sv,acc,hl,hq=>by
  rw[bL,lcW];show we No (SV.d (g a)::tail) _;rw[cO] at hl;refine h a (jL ..) _ ⟨by omega,jJ L (λd hd=>h d (fG _ hd)) _ _ ?_ ?_⟩
  .rw[dj,kS];omega
  .rw[nu];exact hq
theorem JP{α:Type}{xs:List α}{i:Int}{k:Nat}{x:α}(hi:i=k)(h:xs[k]? = some x):ee xs i=some x:=by rw[hi];exact cD h
theorem JQ{α:Type}{xs:List α}{a b:Nat}(h:a<=b)(hb:b<=xs.length):bn xs (some (a:Int)) (some (b:Int))=(xs.drop a).take (b-a):=by
 unfold bn;rw[HT.sIx_nat,HT.sIx_nat,tz hb,tz (gb h hb)]
theorem Bl{α:Type}{xs:List α}{i j:Int}{a b:Nat}(hi:i=a)(hj:j=b)(h:a<=b)(hb:b<=xs.length):bn xs (some i) (some j)=(xs.drop a).take (b-a):=by
 rw[hi,hj];exact JQ h hb
theorem rE{α:Type}{xs:List α}{a:Nat}(h:a<=xs.length):bn xs (some (a:Int)) none=xs.drop a:=by
 unfold bn;rw[HT.sIx_nat,HT.sIx_none,tz h,<-jM,List.take_length]
theorem pO{α:Type}{xs:List α}{i:Int}{b:Nat}(hi:i=b):bn xs none (some i)=xs.take b:=by
 unfold bn;rw[hi,HT.sIx_nat,HT.sIx_none,qe,Nat.sub_zero];rcases Nat.le_total b xs.length with h|h
 .rw[tz h]
 .rw[Nat.min_eq_right h,List.take_length,List.take_of_length_le h]
theorem jw{i:Int}{n:Nat}(h:i.natAbs<2^n)(l:n<=8990):Bd i:=cv h (l6 (by decide) l)
theorem JR:∀ds E Q,lX ds E Q->A7 E { nx:=λ_=>Q .non,rt:=Q } (aH En ds):=by
 rintro _ E Q ⟨x,rfl,hl,q⟩;unfold A7;walk_at "go";refine⟨⟨by decide,jw (n:=2) (by decide) (by omega)⟩,?_⟩;rw[C3 _ (by decide)];exact q
theorem JS:∀ds E Q,Zd ds E Q->A8 E { nx:=λ_=>Q .non,rt:=Q } (aH Eo ds):=by
 rintro _ E Q ⟨x,rfl,hk,q⟩;unfold A8;walk_at "go";refine IS hk ?_;walk_at "go";cases ha:lH (-50) 50 x with
 |false=>
  have:dC x=false:=by
   cases x<;>try rfl
   simp only[lH] at ha;simp only[dC,ha,Bool.false_and]
  rw[this] at q;simpa using q
 |true=>
  cases x<;>try (cases ha;done)
  rename_i xs;obtain⟨hl,hx⟩:=sE hk;walk_at "go";simp only[dQ,da,if_false];refine⟨by decide,?_⟩;simp only[lH] at ha;simp only[dC,ha,wH] at q;rw[C2 _ (by decide)]
  by_cases h:xs.length%2=1
  .rw[if_neg (by simp;omega)]
   walk_at "go";refine D4 hl ?_;walk_at "go";rw[decide_eq_true h,wH] at q;have e:decide (((xs.length:Int)+1)/2<=5)=decide (xs.length<=9):=by
    rw[decide_eq_decide];omega
   rw[e];exact q
  .rw[if_pos (by simp;omega)]
   rw[Ox h,Bool.false_and] at q;exact q
theorem JT:∀ds E Q,m8 ds E Q->A9 E { nx:=λ_=>Q .non,rt:=Q } (aH Ep ds):=by
 rintro _ E Q ⟨x,rfl,h,q⟩;unfold A9;walk_at "go";refine IW h ?_;walk_at "go";unfold eI at q;cases e:dC x with
 |false=>rw[e] at q;exact q
 |true=>rw[e] at q;exact q
theorem xL{x:D}{E:Ex->Prop}{Q:D->Prop}(h:kd x=true)(hb:dC x=false->E "NoSlants")(hg:∀s n,x=au s->IsSl s n->Q .non):m8 [x] E Q:=by
 cases e:dC x with
 |false=>exact AQ h e (hb e)
 |true=>
  obtain⟨s,n,rfl,hs⟩:=km e;exact AO hs (hg s n rfl hs)
theorem jx{x:D}{v:Except Str D}{E:Ex->Prop}{Q:D->Prop}(e:dC x=false)(q:exQ E Q (eI x v)):E "NoSlants" :=by
 rw[kj e] at q;exact q
theorem jy{s:List Int}{n:Nat}{v:Except Str D}{E:Ex->Prop}{Q:D->Prop}(h:IsSl s n)(q:exQ E Q (eI (au s) v)):exQ E Q v:=by
 rw[d7 h] at q;exact q
theorem JU:∀ds E Q,u7 ds E Q->Ba E { nx:=λ_=>Q .non,rt:=Q } (aH Er ds):=by
 rintro _ E Q ⟨x,rfl,hk,q⟩;unfold Ba;walk_at "go";refine xL hk (λe=>jx e q) λs n e h=>?_;subst e;replace q:Q (gT s n):=by have:=jy h q;rw[dh,h.sN] at this;exact this
 refine rq h ?_;walk_at "go";have h5:=h.n5;have hl:=h.len;refine⟨by omega,by omega,?_⟩;rw[eK];refine uX (f:=λd=>match d with|.int i=>cw ((s.drop (n-1-i.toNat)).take n)|_=>.non) (λd hd Q hq=>?_) .un [] (by simp[rng,aw];omega) ?_
 .obtain⟨i,hi,rfl⟩:=YbT.mp hd
  rw[Yaj] at hi;walk_at "go";refine⟨⟨jw (n:=2) (by decide) (by omega),jw (n:=10) (by omega) (by omega)⟩,?_⟩;have e:bn (s.map D.int) (some ((n:Int)-1-(0+(i:Int)))) (some (2*(n:Int)-1-(0+(i:Int))))=((s.drop (n-1-i)).take n).map D.int:=by
   rw[Bl (a:=n-1-i) (b:=2*n-1-i) (by omega) (by omega) (by omega) (by rw[aW];omega),show 2*n-1-i-(n-1-i)=n by omega,<-nA,<-l8]
  show Q (D.lst (bn (s.map D.int) _ _));rw[e];have e2:(0+(i:Int)).toNat=i:=by omega
  rw[e2] at hq;exact hq
 .have e:(rng 0 n).map (λd=>match d with|.int i=>cw ((s.drop (n-1-i.toNat)).take n)|_=>.non)=(tbl s n).map cw:=by
   unfold rng tbl;rw[cr,cr];refine gE λi _=>?_;simp
  rw[c9,e];exact q
theorem lK(s:List Int)(n:Nat):(tbl s n).length=n:=by simp[tbl]
theorem pP{s:List Int}{n:Nat}(h:IsSl s n):∀r∈tbl s n,r.length=n/\∀x∈r,-50<=x/\x<=50:=by
 intro r hr;unfold tbl at hr;obtain⟨i,hi,rfl⟩:=YbT.mp hr;rw[Yaj] at hi;have hl:=h.len;refine⟨by rw[jf,jM];omega,λx hx=>h.b x (kE (oZ hx))⟩
theorem JV:∀ds E Q,xI ds E Q->Bb E { nx:=λ_=>Q .non,rt:=Q } (aH Es ds):=by
 rintro _ E Q ⟨x,rfl,hk,q⟩;unfold Bb;walk_at "go";refine xL hk (λe=>jx e q) λs n e h=>?_;subst e;replace q:Q (au s.reverse):=by have:=jy h q;rw[dh] at this;exact this
 unfold au;walk_at "go";rw[<-o1];exact q
theorem JW:∀ds E Q,u8 ds E Q->Bc E { nx:=λ_=>Q .non,rt:=Q } (aH Et ds):=by
 rintro _ E Q ⟨⟨x,k⟩,rfl,⟨hk,hk2⟩,q⟩;dsimp only at hk hk2 q;unfold Bc;walk_at "go";refine xL hk (λe=>jx e q) λs n e h=>?_;subst e;replace q:=jy h q;rw[h.sN,dh] at q;have hl:=h.len;refine rq h ?_;walk_at "go";refine IR hk2 ?_;walk_at "go";cases e:jv 1 (n:Int) k with
 |false=>
  rw[e] at q;exact q
 |true=>
  rw[e] at q;have q:Q (au (cor s n (sG k).toNat)):=q;obtain⟨i,rfl⟩:∃i,k=.int i:=by cases k<;>first|exact⟨_,rfl⟩|cases e
  simp only[jv,cQ,Ou] at e;obtain⟨k,rfl⟩:∃k:Nat,i=k:=⟨i.toNat,by omega⟩
  simp only[dQ,da,if_false];unfold au;walk_at "go";rw[Bl (a:=n-k) (b:=n+k-1) (by omega) (by omega) (by omega) (by rw[aW];omega),show n+k-1-(n-k)=2*k-1 by omega,<-nA,<-l8];exact q
theorem JX:∀ds E Q,rp ds E Q->Be E { nx:=λ_=>Q .non,rt:=Q } (aH Eu ds):=by
 rintro _ E Q ⟨⟨x,y⟩,rfl,⟨hk,hk2⟩,q⟩;dsimp only at hk hk2 q;unfold Be;walk_at "go";refine xL hk (λe=>jx e q) λs n e h=>?_;subst e;replace q:=jy h q;rw[h.sN] at q;exact rq h (IU hk2 q)
theorem JY:∀ds E Q,u9 ds E Q->Bf E { nx:=λ_=>Q .non,rt:=Q } (aH Ev ds):=by
 rintro _ E Q ⟨⟨s,n⟩,rfl,h,q⟩;have h5:=h.n5;unfold Bf;walk_at "go";refine D6 h ?_;unfold gT;walk_at "go";refine uX (f:=λd=>match d with|.lst xs=>.tup (xs.map λx=>.tup [x,.int 1])|_=>.non) (λd hd Q hq=>?_) .un [] (by simp[lK,aw];omega) ?_
 .obtain⟨r,hr,rfl⟩:=YbT.mp hd
  walk_at "go";have:=(pP h r hr).1;refine D2 (by omega) ?_;have e:ae (ef r)=.tup ((r.map D.int).map λx=>.tup [x,.int 1]):=by
   unfold ae ef;rw[cr,cr];exact congrArg D.tup (gE λi _=>Bh i)
  rw[e];exact hq
 .have e:((tbl s n).map cw).map (λd=>match d with|.lst xs=>.tup (xs.map λx=>.tup [x,.int 1])|_=>.non)=(tbl s n).map λr=>ae (ef r):=by
   rw[cr];refine gE λr _=>?_;unfold ae ef;simp only[Function.comp_apply,cw];rw[cr,cr];exact congrArg D.tup (gE λi _=>(Bh i).symm)
  rw[c9,e];exact q
theorem EC{x:Int}(h:-50<=x/\x<=50):Sz 6 (x:Rat):=Sz.int x (by omega) (by omega)
theorem JZ:∀ds E Q,xK ds E Q->Bg E { nx:=λ_=>Q .non,rt:=Q } (aH Ew ds):=by
 rintro _ E Q ⟨⟨x,y⟩,rfl,⟨hk,hk2,hbs⟩,q⟩;dsimp only at hk hk2 hbs q;unfold Bg;walk_at "go";cases e:dC x with
 |false=>exact Jd hk hk2 e (jx e q)
 |true=>
 obtain⟨s,n,rfl,h⟩:=km e;have h5:=h.n5;refine AR h hk2 ?_;replace q:=jy h q;rw[h.sN,dh] at q;walk_at "go";cases er:gC n y with
 |false=>rw[er] at q;exact q
 |true=>
 rw[er] at q;obtain⟨r,rfl,hl'⟩:=AN er;have hl:r.length=n:=by omega
 have q:Q (ae (cU s n (rQ (ae r)))):=q;rw[pM] at q;obtain⟨m,hm,hb⟩:=hbs r rfl;simp only[dQ,da,if_false];refine D7 h ?_;walk_at "go";have key:∀line∈tbl s n,BR (ef line) r:=λline hline=>by
  obtain⟨h1,h2⟩:=pP h line hline;refine⟨6,m,λx hx=>?_,hm,?_⟩
  .obtain⟨i,hi,rfl⟩:=YbT.mp hx
   exact EC (h2 i hi)
  .have:(ef line).length=n:=by unfold ef;rw[aW];exact h1
   rw[this];have:n*(6+m+1)<=5*(6+m+1):=ny _ h5;omega
 refine jJ (g:=λline=>ae (ef line)) (f:=λline=>ay (bB (ef line) r)) (tbl s n) (λline hl' Q hq=>?_) .un [] (by simp[lK,aw];omega) ?_
 .walk_at "go"
  exact D3 (key line hl') hq
 .have e:(tbl s n).map (λline=>ay (bB (ef line) r))=(cU s n r).map ay:=by
   unfold cU;rw[cr];rfl
  rw[c9,e];exact q
def xM:aS:=fnS (λx:List Int×Nat=>[.scr (x.1.map .int),.int x.2]) (λ_=>True) λx=>.int (x.1.getD x.2 0)
def vf:aS:=rlS (λx:Int=>[.int x]) (λ_=>True) λ_ d=>∃j:Int,d=.int j
def xN:aS:=fnS (λx:Int=>[.int x]) (λ_=>True) λ_=>.pen
def kQ:aS:=rlS (λm:Nat=>[.pen,.int m]) (λm=>0<m/\m<2^30) λm d=>∃k:Nat,d=.int k/\k<m
def rF:aS:=rm
def vg:aS:=rn
def xO:aS:=rlS (λ_:Unit=>[.pen]) (λ_=>True) λ_ d=>∃s n,IsSl s n/\d=au s
def xP:aS:=rlS (λn:Nat=>[.pen,.int n]) (λn=>n<=5) λn d=>∃r:List Rat,r.length=n/\(∀x∈r,Sz 72 x)/\d=ae r
variable {E:Ex->Prop}{Q:D->Prop}{x:D}{l m a b:Int}{p q:Rat}{s:List Int}{n k:Nat}
theorem J0{xs:List Int}{i:Nat}(q:Q (.int (xs.getD i 0))):xM [.scr (xs.map .int),.int i] E Q:=⟨(xs,i),rfl,trivial,q⟩
theorem ED(q:∀j:Int,Q (.int j)):vf [.int a] E Q:=⟨a,rfl,trivial,λd ⟨j,hd⟩=>by rw[hd];exact q j⟩
theorem J1(q:Q .pen):xN [.int a] E Q:=⟨a,rfl,trivial,q⟩
theorem oM(h:0<n)(h':n<2^30)(q:∀k:Nat,k<n->Q (.int k)):kQ [.pen,.int n] E Q:=⟨n,rfl,⟨h,h'⟩,λd ⟨k,hd,hk⟩=>by rw[hd];exact q k hk⟩
theorem EE(h:b≠0)(h':Bd b)(q:Q (ay (Rat.divInt a b))):rF [.int a,.int b] E Q:=⟨(a,b),rfl,⟨h,h'⟩,q⟩
theorem EF(h:B2 p q)(z:Q (ay (p*q))):vg [ay p,ay q] E Q:=⟨(p,q),rfl,h,z⟩
theorem J3(q:∀s n,IsSl s n->Q (au s)):xO [.pen] E Q:=⟨(),rfl,trivial,λd ⟨s,n,h,hd⟩=>by rw[hd];exact q s n h⟩
theorem J4(h:n<=5)(q:∀r:List Rat,r.length=n->(∀x∈r,Sz 72 x)->Q (ae r)):xP [.pen,.int n] E Q:=⟨n,rfl,h,λd ⟨r,h1,h2,hd⟩=>by rw[hd];exact q r h1 h2⟩
abbrev EG:List Str:=["_law_script", "_law_k"]
abbrev J5:List Str:=["_law_script", "_law_k"]
def Bm:WS:=(ai (bE (wT (w2 mY (wN 1) (wB bA (ad (wN 0) aa)))) (aj (w2 gIx (wN 0) (wN 1))) bD) (aj (wC (D.int (0)))))
abbrev EH:List Str:=["_law_seed"]
abbrev J6:List Str:=["_law_seed"]
def Bo:WS:=(ai (ax 0 (w2 pJ (w2 gAdd (wN 0) (wC (D.int (7919)))) (wC (D.int (2147483647))))) (aj (w2 pJ (w2 gAdd (w2 gAdd (w2 gMul (wN 0) (wN 0)) (w2 gMul (wC (D.int (48271))) (wN 0))) (wC (D.int (12345)))) (wC (D.int (2147483629))))))
abbrev EI:List Str:=["_law_cell", "_law_left"]
abbrev J7:List Str:=["_law_cell"]
def Bp:WS:=(ai (ax 1 (wB j9 (ad (wN 0) (ad (w2 fj (wC (D.int (0))) (wN 0)) aa)))) (aj (cq (bh (ad (wN 1) (ad (wB fT (ad (w2 AG (wN 1) (w2 DS (wC (D.int (10))) (wC (D.int (18))))) aa)) (ad (w2 pJ (wN 1) (wC (D.int (1000003)))) aa)))))))
abbrev EJ:List Str:=["_law_pen", "_law_many", "_law_found"]
abbrev J8:List Str:=["_law_pen", "_law_many"]
def Bq:WS:=(ai (bE (wT (w2 (gEq false) (w2 bN (wN 0) (wC (D.int (1)))) (wC (D.int (1))))) (ai (ax 2 (w2 pJ (w2 bN (wN 0) (wC (D.int (0)))) (wN 1))) (ai (cb 0 (w2 fU (w2 bN (wN 0) (wC (D.int (0)))) (wN 1))) (aj (wN 2)))) bD) (ai (cb 0 (wF vf (ad (w2 gAdd (wF vf (ad (w2 bN (wN 0) (wC (D.int (2)))) aa)) (wC (D.int (7)))) aa))) (aj (w2 pJ (w2 fU (w2 bN (wN 0) (wC (D.int (2)))) (wC (D.int (64)))) (wN 1)))))
abbrev EK:List Str:=["_law_top", "_law_bottom", "_law_one", "_law_other"]
abbrev J9:List Str:=["_law_top", "_law_bottom"]
def Bt:WS:=(ai (bS 2 3 (ad (wB gS (ad (wN 0) aa)) (ad (wB gS (ad (wN 1) aa)) aa))) (ai (aL (xr (wT (w2 (gEq true) (wN 3) (wC (D.int (0))))) (bS 2 3 (ad (wN 3) (ad (w2 pJ (wN 2) (wN 3)) aa))))) (ai (bE (wT (w2 mY (wN 1) (wC (D.int (0))))) (ax 2 (w2 fj (wC (D.int (0))) (wN 2))) bD) (aj (aQ (ad (w2 fU (wN 0) (wN 2)) (ad (w2 fU (wN 1) (wN 2)) aa)))))))
abbrev EL:List Str:=["_law_one", "_law_other"]
abbrev Ka:List Str:=["_law_one", "_law_other"]
def EM:WS:=(aj (wF rF (ad (w2 gMul (w2 gIx (wN 0) (wC (D.int (0)))) (w2 gIx (wN 1) (wC (D.int (0))))) (ad (w2 gMul (w2 gIx (wN 0) (wC (D.int (1)))) (w2 gIx (wN 1) (wC (D.int (1))))) aa))))
abbrev EN:List Str:=["_law_pen", "_law_size", "_law_way", "_law_span", "_law_some"]
abbrev Kb:List Str:=["_law_pen"]
def Bu:WS:=(ai (ax 1 (w2 gAdd (wC (D.int (1))) (wF kQ (ad (wN 0) (ad (wC (D.int (5))) aa))))) (ai (ax 2 (wF kQ (ad (wN 0) (ad (wC (D.int (7))) aa)))) (ai (ax 3 (w2 gIx (wL (bh (ad (wC (D.int (1))) (ad (wC (D.int (2))) (ad (wC (D.int (3))) (ad (wC (D.int (50))) aa)))))) (wF kQ (ad (wN 0) (ad (wC (D.int (4))) aa))))) (ai (aZ 4 (aLC (dS (ad (w2 fj (w2 gMul (wC (D.int (2))) (wN 1)) (wC (D.int (1)))) aa)) 1 [0,3] (gN 0) bF (w2 fj (wF kQ (ad (wN 1) (ad (w2 gAdd (w2 gMul (wC (D.int (2))) (wN 2)) (wC (D.int (1)))) aa))) (wN 2)))) (ai (bE (wT (w2 (gEq false) (wN 2) (wC (D.int (0))))) (aZ 4 (bM 4 (bT (aJ (wN 4) cP (bV (wN 1))) (w1 gRev (aJ (wN 4) cP (bV (w2 fj (wN 1) (wC (D.int (1)))))))))) bD) (ai (bE (wT (w2 (gEq false) (wN 2) (wC (D.int (1))))) (aZ 4 (bM 4 (bT (aJ (wN 4) (bV (wC (D.int (1)))) (bV (wN 1))) (aJ (wN 4) cP (bV (wN 1)))))) bD) (ai (bE (wT (w2 (gEq false) (wN 2) (wC (D.int (2))))) (aZ 4 (bM 4 (bT (aJ (wN 4) cP (bV (wN 1))) (w2 gMul (wL (bh (ad (wC (D.int (0))) aa))) (w2 fj (wN 1) (wC (D.int (1)))))))) bD) (ai (bE (wT (w2 (gEq false) (wN 2) (wC (D.int (3))))) (d6 4 (w2 fj (wN 1) (wC (D.int (1)))) (wC (D.int (0)))) bD) (ai (bE (wT (w2 (gEq false) (wN 2) (wC (D.int (4))))) (aZ 4 (bM 4 (cm (aJ (wN 4) cP (bV (wC (D.int (1))))) (w2 fj (w2 gMul (wC (D.int (2))) (wN 1)) (wC (D.int (1))))))) bD) (aT 4 (aj (wB gR (ad (wN 4) aa)))))))))))))
abbrev EO:List Str:=["_law_pen", "_law_size", "_law_great", "_law_found", "_law_place"]
abbrev Zi:List Str:=["_law_pen", "_law_size"]
def Bv:WS:=(ai (ax 2 (w2 gIx (wL (bh (ad (wC (D.int (1))) (ad (wC (D.int (1))) (ad (wC (D.int (1))) (ad (wC (D.int (1))) (ad (wC (D.int (1))) (ad (wC (D.int (1))) (ad (wC (D.int (1))) (ad (w2 DS (wC (D.int (10))) (wC (D.int (20)))) aa)))))))))) (wF kQ (ad (wN 0) (ad (wC (D.int (8))) aa))))) (ai (aZ 3 (bh aa)) (ai (aL (aU (dS (ad (wN 1) aa)) (gN 4) (bC 3 (wF rF (ad (w2 gMul (w2 fj (wF kQ (ad (wN 0) (ad (wC (D.int (11))) aa))) (wC (D.int (5)))) (wN 2)) (ad (w2 gAdd (wC (D.int (1))) (wF kQ (ad (wN 0) (ad (wC (D.int (4))) aa)))) aa)))))) (aT 3 (aj (wB gR (ad (wN 3) aa)))))))
theorem Kc:∀ds E Q,xM ds E Q->Bm E { nx:=λ_=>Q .non,rt:=Q } (aH EG ds):=by
 rintro _ E Q ⟨⟨xs,i⟩,rfl,_,q⟩;unfold Bm;walk_at "go"
 by_cases h:i<xs.length
 .rw[if_pos (by simp[h])]
  refine⟨.int (xs.getD i 0),JP rfl ?_,q⟩;rw[cc,aM,bG h];rfl
 .rw[if_neg (by simp;omega)]
  rw[aM,dN (by omega)] at q;exact q
theorem Kd:∀ds E Q,vf ds E Q->Bo E { nx:=λ_=>Q .non,rt:=Q } (aH EH ds):=by
 rintro _ E Q ⟨x,rfl,_,q⟩;unfold Bo;walk_at "go";have h1:=zw (x+7919) (show(0:Int)<2147483647 by decide);have h2:=Int.fmod_lt_of_pos (x+7919) (show(0:Int)<2147483647 by decide);have b:Bd ((x+7919).fmod 2147483647):=jw (n:=32) (by omega) (by omega);exact⟨by decide,⟨b,b⟩,⟨jw (n:=32) (by decide) (by omega),b⟩,by decide,q _ ⟨_,rfl⟩⟩
theorem Ke:∀ds E Q,xN ds E Q->Bp E { nx:=λ_=>Q .non,rt:=Q } (aH EI ds):=by
 rintro _ E Q ⟨x,rfl,_,q⟩;unfold Bp;walk_at "go";exact⟨⟨by decide,by decide,by decide⟩,by decide,by decide,⟨_,_,_,rfl⟩,q⟩
theorem Kf:∀ds E Q,kQ ds E Q->Bq E { nx:=λ_=>Q .non,rt:=Q } (aH EJ ds):=by
 rintro _ E Q ⟨m,rfl,⟨h0,h1⟩,q⟩;have hb:Bd (m:Int):=jw (n:=30) (by omega) (by omega);have fin:∀x:Int,Q (.int (x.fmod m)):=λx=>by
  have h1:=zw x (show(0:Int)<m by omega);have h2:=Int.fmod_lt_of_pos x (show(0:Int)<m by omega);exact q _ ⟨(x.fmod m).toNat,by rw[Int.toNat_of_nonneg h1],by omega⟩
 unfold Bq;walk_at "go";refine⟨by simp,λj=>?_⟩;walk_at "go";split
 .refine⟨by simp,λi=>⟨by omega,?_⟩⟩
  walk_at "go";exact⟨by simp,λi'=>⟨⟨by omega,hb⟩,fin i⟩⟩
 .refine⟨by simp,λk=>ED λk1=>?_⟩
  walk_at "go";refine ED λk2=>?_;walk_at "go";exact⟨by simp,λk3=>⟨⟨by decide,jw (n:=7) (by decide) (by omega)⟩,by omega,fin _⟩⟩
theorem EQ(x:Int):(if x<0 then -x else x)=((x.natAbs:Nat):Int):=by split<;>omega
theorem Kg:∀ds E Q,rF ds E Q->Bt E { nx:=λ_=>Q .non,rt:=Q } (aH EK ds):=by
 rintro _ E Q ⟨⟨t,b⟩,rfl,⟨hb,hd⟩,q⟩;have hg:0<Int.gcd t b:=zq _ hb;have hle:Int.gcd t b<=b.natAbs:=Nat.le_of_dvd (by omega) (Int.gcd_dvd_natAbs_right ..);obtain⟨e1,e2⟩:=DZ (t:=t) hb;unfold ay at q;dsimp only at q e1 e2;rw[<-e1,<-e2] at q;unfold Bt;walk_at "go";refine⟨λm ρ=>∃x y:Int,m=y.natAbs/\ρ=[.d (.int t),.d (.int b),.d (.int x),.d (.int y)]/\0<=x/\0<=y/\Int.gcd x y=Int.gcd t b,⟨_,_,_,rfl,rfl,by omega,by omega,?_⟩,?_⟩
 .rw[EQ,EQ]
  simp[Int.gcd]
 rintro m _ ⟨x,y,rfl,rfl,hx,hy,hg'⟩;walk_at "go"
 by_cases hy0:y=0
 .subst hy0
  simp only[OG,dQ,da,if_false];rw[Int.gcd_zero_right] at hg';have hx':x=((Int.gcd t b:Nat):Int):=by omega
  by_cases h:b<0
  .simp only[h,decide_true,if_true] at q ⊢
   have ez:0-x = -((Int.gcd t b:Nat):Int):=by omega
   rw[ez];refine⟨⟨by omega,Bd.le (by omega) hd⟩,⟨by omega,Bd.le (by omega) hd⟩,by simp[aw],q⟩
  .simp only[h,decide_false,if_false,da] at q ⊢
   rw[hx'];refine⟨⟨by omega,Bd.le (by omega) hd⟩,⟨by omega,Bd.le (by omega) hd⟩,by simp[aw],q⟩
 .rw[if_pos (by simpa using hy0)]
  refine⟨hy0,_,Ez x hy0,_,_,rfl,rfl,hy,zw _ (by omega),by rw[Ey];exact hg'⟩
theorem Kh:∀ds E Q,vg ds E Q->EM E { nx:=λ_=>Q .non,rt:=Q } (aH EL ds):=EB
theorem sJ{t b:Int}{n:Nat}(hb:b≠0)(h1:t.natAbs<2^n)(h2:b.natAbs<2^n):Sz n (Rat.divInt t b):=by
 unfold Sz;rw[Rat.num_divInt,Rat.den_divInt,if_neg hb];have hg:Int.gcd b t≠0:=by
  have:=Int.gcd_pos_of_ne_zero_left t hb;omega
 refine⟨kC (DW hg ?_) ?_,kC (Nat.div_le_self _ _) h2⟩
 .exact Int.dvd_mul_of_dvd_right (Int.gcd_dvd_right ..)
 .rw[dE,Int.natAbs_sign_of_ne_zero hb,Nat.one_mul];exact h1
theorem Ki:∀ds E Q,xP ds E Q->Bv E { nx:=λ_=>Q .non,rt:=Q } (aH EO ds):=by
 rintro _ E Q ⟨n,rfl,hn,q⟩;unfold Bv;walk_at "go";refine⟨⟨by decide,by decide,by decide⟩,by decide,?_⟩;refine oM (n:=8) (by decide) (by decide) λk hk=>?_;walk_at "go";have hgr:∃g:Int,(0<=g/\g<=10^20)/\ee [D.int 1,D.int 1,D.int 1,D.int 1,D.int 1,D.int 1,D.int 1,D.int (10^Int.toNat 20)] (k:Int)=some (.int g):=by
  have:k=0\/k=1\/k=2\/k=3\/k=4\/k=5\/k=6\/k=7:=by omega
  rcases this with rfl|rfl|rfl|rfl|rfl|rfl|rfl|rfl
  .exact⟨1,by decide,rfl⟩
  .exact⟨1,by decide,rfl⟩
  .exact⟨1,by decide,rfl⟩
  .exact⟨1,by decide,rfl⟩
  .exact⟨1,by decide,rfl⟩
  .exact⟨1,by decide,rfl⟩
  .exact⟨1,by decide,rfl⟩
  .exact⟨10^20,by decide,rfl⟩
 obtain⟨g,hg,hat⟩:=hgr;refine⟨_,hat,by decide,?_⟩;refine⟨by omega,by omega,?_⟩;rw[eK];have key:∀(ds:List D) (r:List Rat) (sv:SV),r.length+ds.length=n->(∀x∈r,Sz 72 x)->
   ZbW (gN 4) (bC 3 (wF rF (ad (w2 gMul (w2 fj (wF kQ (ad (wN 0) (ad (wC (D.int (11))) aa))) (wC (D.int (5)))) (wN 2)) (ad (w2 gAdd (wC (D.int (1))) (wF kQ (ad (wN 0) (ad (wC (D.int (4))) aa)))) aa))))
    No { nx:=aT 3 (aj (wB gR (ad (wN 3) aa))) No { nx:=λ_=>Q .non,rt:=Q },rt:=Q,bk:=λ_=>False,ct:=λ_=>False } ds [.d .pen,.d (.int n),.d (.int g),.ow (r.map ay),sv]:=by
  intro ds
  induction ds with
  |nil=>
   intro r sv hl hr;unfold ZbW;walk_at "go";exact q _ ⟨r,by simpa using hl,hr,rfl⟩
  |cons d ds ih=>
   intro r sv hl hr;unfold ZbW;walk_at "go";refine oM (n:=11) (by decide) (by decide) λk1 hk1=>?_;walk_at "go";have hg1:((k1:Int)-5).natAbs<=5:=by omega
   have hg2:g.natAbs<=10^20:=by omega
   have hm:(((k1:Int)-5)*g).natAbs<2^72:=by
    rw[dE];exact kC (jF hg1 hg2) (by decide)
   refine⟨⟨jw (n:=10) (by omega) (by omega),jw (n:=72) (kC hg2 (by decide)) (by omega)⟩,?_⟩;refine oM (n:=4) (by decide) (by decide) λk2 hk2=>?_;walk_at "go";refine EE (by omega) (jw (n:=10) (by omega) (by omega)) ⟨?_,?_⟩
   .rw[aW];rw[cO] at hl;unfold aw;omega
   .have:=ih (r++[Rat.divInt (((k1:Int) - 5)*g) (1+(k2:Int))]) (.d d) (by simp at hl ⊢;omega) (λx hx=>by
     rcases Yar.mp hx with hx|hx
     .exact hr x hx
     .rw[Ycn.mp hx]
      exact sJ (by omega) hm (kC (show(1+(k2:Int)).natAbs<=4 by omega) (by decide)))
    rw[kT] at this;exact this
 exact key (rng 0 n) [] .un (by simp[rng]) (by simp)
local macro_rules | `(tactic| walk_at "w1")=>`(tactic| simp only[aj,bE,ax,bD,dg,aT,aZ,aU,fi,bS,bJ,bC,d6,cb,fV,aL,eh,eu,cH,fg,cG,dB,aX,wT,eO,w1,w2,wB,wF,wL,aQ,aJ,ZaM,aB,bh,ad,aa,aLC,Zbq,bF,iS,iL,iT,dS,eY,iZ,i1,i2,isS,isL,isT,isB,isI,cP,bV,wN,wC,gN,bW,aV,bR,gI2,gAdd,gMul,gIx,bN,gCut,gRev,bA,fh,gR,gS,j9,fT,fA,cq,cJ,cK,bM,cL,bT,cm,aCut,aH,pub,bL,dM,cO,eW,dW,c9,List.replicate,b9,cF,dO,dP,Nat.reduceSub,Nat.reduceAdd,dJ,fH,true_and,da,if_true,if_false,ite_true,ite_false])
local macro_rules | `(tactic| walk_at "st")=>`(tactic| ((try dsimp only at *);(try walk_at "w1");(try dsimp only)))
theorem a8{z z':WS}{E:Ex->Prop}{N:Nds}{ρ:aN}(h:z E { N with nx:=z' E N } ρ):ai z z' E N ρ:=h
theorem seq_by{z z':WS}{E:Ex->Prop}{N:Nds}{ρ:aN}(I:aN->Prop)(hz:∀nx:aN->Prop,(∀ρ,I ρ->nx ρ)->z E { N with nx:=nx } ρ)(hr:∀ρ,I ρ->z' E N ρ):ai z z' E N ρ:=hz _ hr
theorem fW{c:WT}{zb:WS}{E:Ex->Prop}{N:Nds}{ρ:aN}{b:Bool}(hc:∀Q:Bool->Prop,Q b->c E ρ Q)(h1:b=true->zb E N ρ)(h2:b=false->N.nx ρ):bE c zb bD E N ρ:=by
 refine hc _ ?_;cases b with
 |true=>rw[if_pos rfl];exact h1 rfl
 |false=>rw[if_neg (by decide)];exact h2 rfl
theorem xQ(xs:List Int):rj (xs.map D.int)=true:=by
 induction xs with
 |nil=>rfl
 |cons x xs ih=>rw[bL,rj,ih];rfl
theorem Kj{ys:List D}(h:∀y∈ys,∃i:Int,y=.int i/\-50<=i/\i<=50):∃s:List Int,ys=s.map D.int/\∀x∈s,-50<=x/\x<=50:=by
 induction ys with
 |nil=>exact⟨[],rfl,by simp⟩
 |cons y ys ih=>
  obtain⟨s,rfl,hs⟩:=ih λz hz=>h z (by simp[hz]);obtain⟨i,rfl,h1,h2⟩:=h y (by simp);exact ⟨i::s,rfl,λx hx=>by
   rcases Yaq.mp hx with rfl|hx
   .exact⟨h1,h2⟩
   .exact hs x hx⟩
theorem Kk:∀ds E Q,xO ds E Q->Bu E { nx:=λ_=>Q .non,rt:=Q } (aH EN ds):=by
 rintro _ E Q ⟨_,rfl,_,q⟩;have fin:∀(s:List Int) (n:Nat),s.length+1=2*n->1<=n->n<=5->(∀x∈s,-50<=x/\x<=50)->Q (D.tup (s.map D.int)):=λs n h1 h2 h3 h4=>q _ ⟨s,n,⟨h1,h2,h3,h4⟩,rfl⟩;unfold Bu;refine a8 ?_;walk_at "st";refine oM (n:=5) (by decide) (by decide) λk hk=>?_;walk_at "st";refine a8 ?_;walk_at "st";refine oM (n:=7) (by decide) (by decide) λway hw=>?_;walk_at "st";refine a8 ?_;walk_at "st";refine⟨by decide,oM (n:=4) (by decide) (by decide) λsp hsp=>?_⟩;have hgr:∃g:Nat,(1<=g/\g<=50)/\ee [D.int 1,D.int 2,D.int 3,D.int 50] (sp:Int)=some (.int g):=by
  have:sp=0\/sp=1\/sp=2\/sp=3:=by omega
  rcases this with rfl|rfl|rfl|rfl
  .exact⟨1,by decide,rfl⟩
  .exact⟨2,by decide,rfl⟩
  .exact⟨3,by decide,rfl⟩
  .exact⟨50,by decide,rfl⟩
 obtain⟨g,hg,hat⟩:=hgr;walk_at "st";refine⟨_,hat,a8 ?_⟩;walk_at "st";refine⟨⟨jw (n:=2) (by decide) (by omega),jw (n:=10) (by omega) (by omega)⟩,by omega,by omega,?_⟩;refine IL (R:=λ_ y=>∃i:Int,y=.int i/\-50<=i/\i<=50) (λd hd Q hq=>?_) .un [] (by simp[rng,aw];omega) λys hl hys=>?_
 .walk_at "go"
  refine⟨⟨jw (n:=2) (by decide) (by omega),jw (n:=10) (by omega) (by omega)⟩,?_⟩;have e:(2:Int)*(g:Int)+1=((2*g+1:Nat):Int):=by omega
  rw[e];refine oM (by omega) (by omega) λj hj=>?_;walk_at "go";exact hq _ ⟨_,rfl,by omega,by omega⟩
 .obtain⟨s,rfl,hs⟩:=Kj λy hy=>let⟨_,_,h⟩:=hys y hy;h
  simp only[rng,aW,jc] at hl;rw[c9];have hm:∀x∈s,-50<=x/\x<=50:=hs;have hsl:s.length+1=2*(1+k):=by omega
  have hn:(1:Int)+(k:Int)=((1+k:Nat):Int):=by omega
  generalize 1+k=n at hn hsl;have n1:1<=n:=by omega
  have n5:n<=5:=by omega
  rw[hn];clear hl hys hat hsp hk q hn;have c1:∀{s:List Int},s.length+1=2*n->bn (s.map D.int) none (some (n:Int))=(s.take n).map D.int:=λ_=>by rw[pO rfl,l8]
  have c2:∀{s:List Int},s.length+1=2*n->bn (s.map D.int) none (some ((n:Int)-1))=(s.take (n-1)).map D.int:=λ_=>by rw[pO (b:=n-1) (by omega),l8]
  have c3:∀{s:List Int},s.length+1=2*n->bn (s.map D.int) (some 1) (some (n:Int))=((s.drop 1).take (n-1)).map D.int:=λh=>by
   rw[Bl (i:=1) (a:=1) (b:=n) (by decide) rfl n1 (by rw[aW];omega),l8,nA]
  have mt:∀{s:List Int} {j:Nat},(∀x∈s,-50<=x/\x<=50)->∀x∈s.take j,-50<=x/\x<=50:=λh x hx=>h x (oZ hx);refine seq_by (λρ=>∃s:List Int,ρ=[.d .pen,.d (.int n),.d (.int way),.d (.int g),.ow (s.map .int)]/\s.length+1=2*n/\∀x∈s,-50<=x/\x<=50) (λnx hnx=>?_) ?_
  .walk_at "st"
   split
   .rw[c1 hsl,c2 hsl,<-o1,<-kT]
    refine⟨?_,xQ _,hnx _ ⟨_,rfl,?_,λx hx=>?_⟩⟩
    .simp[aw];omega
    .simp only[dj,qc,jf];omega
    .rcases Yar.mp hx with hx|hx
     .exact mt hm x hx
     .exact mt hm x (Ycq.mp hx)
   .exact hnx _ ⟨s,rfl,hsl,hm⟩
  clear hs hm hsl s;rintro _ ⟨s,rfl,hsl,hm⟩;refine seq_by (λρ=>∃s:List Int,ρ=[.d .pen,.d (.int n),.d (.int way),.d (.int g),.ow (s.map .int)]/\s.length+1=2*n/\∀x∈s,-50<=x/\x<=50) (λnx hnx=>?_) ?_
  .walk_at "st"
   split
   .rw[c1 hsl,c3 hsl,<-kT]
    refine⟨?_,xQ _,hnx _ ⟨_,rfl,?_,λx hx=>?_⟩⟩
    .simp[aw];omega
    .simp only[dj,jM,jf];omega
    .rcases Yar.mp hx with hx|hx
     .exact hm x (kE (oZ hx))
     .exact mt hm x hx
   .exact hnx _ ⟨s,rfl,hsl,hm⟩
  clear hm hsl s;rintro _ ⟨s,rfl,hsl,hm⟩;refine seq_by (λρ=>∃s:List Int,ρ=[.d .pen,.d (.int n),.d (.int way),.d (.int g),.ow (s.map .int)]/\s.length+1=2*n/\∀x∈s,-50<=x/\x<=50) (λnx hnx=>?_) ?_
  .walk_at "st"
   split
   .have e:(List.replicate ((n:Int)-1).toNat [D.int 0]).flatten=(List.replicate (n-1) (0:Int)).map D.int:=by
     rw[show((n:Int)-1).toNat=n-1 by omega,List.map_replicate];generalize n-1=j
     induction j with
     |zero=>rfl
     |succ j ih=>rw[dJ,oY,ih,dJ];rfl
    rw[c1 hsl,e,<-kT];refine⟨by decide,by omega,by omega,by unfold aw;omega,?_,xQ _,hnx _ ⟨_,rfl,?_,λx hx=>?_⟩⟩
    .simp[aw];omega
    .simp only[dj,p9,jf];omega
    .rcases Yar.mp hx with hx|hx
     .exact mt hm x hx
     .rw[(List.mem_replicate.mp hx).2];omega
   .exact hnx _ ⟨s,rfl,hsl,hm⟩
  clear hm hsl s;rintro _ ⟨s,rfl,hsl,hm⟩;refine seq_by (λρ=>∃s:List Int,ρ=[.d .pen,.d (.int n),.d (.int way),.d (.int g),.ow (s.map .int)]/\s.length+1=2*n/\∀x∈s,-50<=x/\x<=50) (λnx hnx=>?_) ?_
  .walk_at "st"
   split
   .refine⟨n-1,?_,hnx _ ⟨s.set (n-1) 0,by rw[List.map_set],by rw[dI];exact hsl,λx hx=>?_⟩⟩
    .unfold lV
     rw[if_pos (by omega),if_pos (by rw[aW];omega),show((n:Int)-1).toNat=n-1 by omega]
    .rcases zx hx with hx|rfl
     .exact hm x hx
     .omega
   .exact hnx _ ⟨s,rfl,hsl,hm⟩
  clear hm hsl s;rintro _ ⟨s,rfl,hsl,hm⟩;refine seq_by (λρ=>∃s:List Int,ρ=[.d .pen,.d (.int n),.d (.int way),.d (.int g),.ow (s.map .int)]/\s.length+1=2*n/\∀x∈s,-50<=x/\x<=50) (λnx hnx=>?_) ?_
  .walk_at "st"
   split
   .obtain⟨x0,s',rfl⟩:∃x0 s',s=x0::s':=by
     cases s with
     |nil=>simp at hsl;omega
     |cons x0 s'=>exact⟨x0,s',rfl⟩
    have e1:bn ((x0::s').map D.int) none (some 1)=[D.int x0]:=by rw[pO (i:=1) (b:=1) (by decide)];simp
    have e2:(List.replicate (2*(n:Int)-1).toNat [D.int x0]).flatten=(List.replicate (2*n-1) x0).map D.int:=by
     rw[show(2*(n:Int)-1).toNat=2*n-1 by omega,List.map_replicate];generalize 2*n-1=j
     induction j with
     |zero=>rfl
     |succ j ih=>rw[dJ,oY,ih,dJ];rfl
    rw[e1,e2];refine⟨⟨jw (n:=2) (by decide) (by omega),jw (n:=10) (by omega) (by omega)⟩,by omega,by omega,?_,xQ _,hnx _ ⟨_,rfl,?_,λx hx=>?_⟩⟩
    .simp[aw];omega
    .rw[p9];omega
    .rw[(List.mem_replicate.mp hx).2];exact hm x0 (by simp)
   .exact hnx _ ⟨s,rfl,hsl,hm⟩
  clear hm hsl s;rintro _ ⟨s,rfl,hsl,hm⟩;walk_at "st";exact fin s n hsl n1 n5 hm
abbrev LX:List Str:=["NoSlants", "NoRow", "NoNumber", "NoLine", "NotEven", "NotFull"]
abbrev MX:List Str:=["NoSlants", "NoRow", "NoNumber", "NoLine", "NotEven", "NotFull", "NotStrong", "NoText", "TooGreat"]
mutual
def kq(m:Nat):D->Bool
 |.int i=>decide (i.natAbs<2^m)
 |.tup xs=>gU m xs
 |.lst xs=>gU m xs
 |_=>true
def gU(m:Nat):List D->Bool
 |[]=>true
 |x::r=>kq m x&&gU m r
end
theorem Bw{m:Nat}:∀{xs:List D},gU m xs=true↔∀x∈xs,kq m x=true
 |[]=>by simp[gU]
 |x::r=>by rw[gU,cQ,Bw];simp
theorem ZmE{m:Nat}{q:Rat}:kq m (ay q)=true↔Sz m q:=by
 unfold ay Sz;rw[kq,gU,gU,gU,kq,kq];simp
theorem Zek{m:Nat}{r:List Rat}:kq m (ae r)=true↔∀x∈r,Sz m x:=by
 unfold ae;rw[kq,Bw];constructor
 .intro h x hx
  exact ZmE.mp (h _ (ma hx))
 .intro h x hx
  obtain⟨q,hq,rfl⟩:=YbT.mp hx;exact ZmE.mpr (h q hq)
variable {r:List Rat}
def sm:Nat->(Nat->Rat)->Rat
 |0,_=>0
 |n+1,f=>f 0+sm n λi=>f (i+1)
theorem xR:∀{n:Nat} {f g:Nat->Rat},(∀i,i<n->f i=g i)->sm n f=sm n g
 |0,_,_,_=>rfl
 |n+1,f,g,h=>by rw[sm,sm,h 0 (by omega),xR λi hi=>h (i+1) (by omega)]
theorem ER:∀(n:Nat) (f g:Nat->Rat),sm n (λi=>f i+g i)=sm n f+sm n g
 |0,_,_=>by rw[sm,sm,sm,nO]
 |n+1,f,g=>by rw[sm,sm,sm,ER n (λi=>f (i+1)) λi=>g (i+1)];grind
theorem Bx:∀(n:Nat) (c:Rat) (f:Nat->Rat),c*sm n f=sm n λi=>c*f i
 |0,c,_=>by rw[sm,sm,dX]
 |n+1,c,f=>by rw[sm,sm,<-Bx n c λi=>f (i+1)];grind
theorem ES:∀{n:Nat} {f:Nat->Rat},(∀i,i<n->f i=0)->sm n f=0
 |0,_,_=>rfl
 |n+1,f,h=>by rw[sm,h 0 (by omega),ES λi hi=>h (i+1) (by omega),nO]
theorem ET(m:Nat):∀(n:Nat) (f:Nat->Nat->Rat),(sm n λi=>sm m λj=>f i j)=sm m λj=>sm n λi=>f i j
 |0,f=>by rw[sm];exact(ES λ_ _=>rfl).symm
 |n+1,f=>by
  rw[sm,ET m n λi j=>f (i+1) j,<-ER];rfl
theorem xT:∀(n:Nat) (f g:Nat->Rat),bB ((List.range n).map f) ((List.range n).map g)=sm n λi=>f i*g i
 |0,_,_=>rfl
 |n+1,f,g=>by
  rw[zy,bL,bL,cr,cr,bB,sm,<-xT n (λi=>f (i+1)) λi=>g (i+1)];rfl
theorem By{α:Type}(r:List α)(d:α):r=(List.range r.length).map λi=>r.getD i d:=by
 refine si λi=>?_;rcases gg i r.length with h|h
 .rw[cc,jg h,tj,aM,bG h];rfl
 .rw[dN h,dN (by simpa using h)]
theorem EU{α:Type}{n:Nat}{f g:Nat->α}(h:∀i,i<n->f i=g i):(List.range n).map f=(List.range n).map g:=
 gE λi hi=>h i (Yaj.mp hi)
def ent(s:List Int)(n i j:Nat):Int:=s.getD (n-1-i+j) 0
theorem EV{s:List Int}{n:Nat}(h:IsSl s n):tbl s n=(List.range n).map λi=>(List.range n).map λj=>ent s n i j:=by
 unfold tbl;refine EU λi hi=>si λj=>?_;have hl:=h.len;rcases gg j n with hj|hj
 .rw[List.getElem?_take_of_lt hj,wI,cc,jg hj,bG (by omega)]
  unfold ent;rw[tj,aM,bG (by omega)];rfl
 .rw[dN (by rw[jf];omega),dN (by simpa using hj)]
theorem IsSl.rev{s:List Int}{n:Nat}(h:IsSl s n):IsSl s.reverse n:=⟨by rw[qc];exact h.len,h.n1,h.n5,λx hx=>h.b x (Ycq.mp hx)⟩
theorem Kl{s:List Int}{n i j:Nat}(h:IsSl s n)(hi:i<n)(hj:j<n):ent s.reverse n i j=ent s n j i:=by
 have hl:=h.len;unfold ent;rw[aM,aM,List.getElem?_reverse (by omega)];congr 2;omega
theorem vh{s:List Int}{n k:Nat}(h:IsSl s n)(h1:1<=k)(h2:k<=n):IsSl (cor s n k) k:=by
 have hl:=h.len;have h5:=h.n5;refine⟨?_,h1,by omega,λx hx=>h.b x (kE (oZ hx))⟩;unfold cor;rw[jf,jM];omega
theorem EW{s:List Int}{n:Nat}{r:List Rat}(h:IsSl s n)(hr:r.length=n):cU s n r=(List.range n).map λi=>sm n λj=>(ent s n i j:Rat)*r.getD j 0:=by
 unfold cU;rw[EV h,cr];refine EU λi hi=>?_;show bB (ef ((List.range n).map λj=>ent s n i j)) r=_;unfold ef;rw[cr]
 conv=>lhs;rw[By r 0,hr]
 exact xT n _ _
theorem EY{s:List Int}{n:Nat}{r o:List Rat}(h:IsSl s n)(hr:r.length=n)(ho:o.length=n):bB o (cU s n r)=bB r (cU s.reverse n o):=by
 rw[EW h hr,EW h.rev ho]
 conv=>lhs;rw[By o 0,ho]
 conv=>rhs;rw[By r 0,hr]
 rw[xT,xT];have e1:(sm n λi=>o.getD i 0*sm n λj=>(ent s n i j:Rat)*r.getD j 0)=sm n λi=>sm n λj=>o.getD i 0*((ent s n i j:Rat)*r.getD j 0):=xR λi _=>Bx _ _ _;rw[e1,ET];refine xR λj hj=>?_;rw[Bx];refine xR λi hi=>?_;rw[Kl h hj hi];grind
def aA(n p:Nat):List Rat:=(List.range n).map λj=>if j=p then 1 else 0
theorem EZ{g:WG}{zb:WS}{E:Ex->Prop}{N:Nds}(I:aN->Prop):∀(ds:List D),(∀d∈ds,∀ρ,I ρ->∀nx:aN->Prop,(∀ρ,I ρ->nx ρ)->g d ρ λρ1=>zb E { nx:=nx,rt:=N.rt,bk:=N.nx,ct:=nx } ρ1)->(∀ρ,I ρ->N.nx ρ)->∀ρ,I ρ->ZbW g zb E N ds ρ
 |[],_,hn,ρ,i=>hn ρ i
 |d::ds,h,hn,ρ,i=>h d (jL ..) ρ i _ (EZ I ds (λd hd=>h d (fG _ hd)) hn)
theorem E2{g:WG}{zb:WS}{E:Ex->Prop}{N:Nds}(I:List D->aN->Prop)(h:∀d ds ρ,I (d::ds) ρ->∀nx:aN->Prop,(∀ρ,I ds ρ->nx ρ)->g d ρ λρ1=>zb E { nx:=nx,rt:=N.rt,bk:=N.nx,ct:=nx } ρ1)(hn:∀ρ,I [] ρ->N.nx ρ):∀(ds:List D) ρ,I ds ρ->ZbW g zb E N ds ρ
 |[],ρ,i=>hn ρ i
 |d::ds,ρ,i=>h d ds ρ i _ (E2 I h hn ds)
theorem oN(n:Nat):rng 0 n=(List.range n).map λ(k:Nat)=>D.int (k:Int):=by
 unfold rng;exact gE λk _=>by rw[Int.zero_add]
section
variable{Q:D->Prop}{QL:List D->Prop}{QI:Int->Prop}{QB:Bool->Prop}{xs ys:List D}{i j:Int}{b:Bool}{r:List Rat}{s:List Int}{n:Nat}{q:Rat}{o o':Option Int}
theorem fX:isB QB (.bl b)=QB b:=rfl
theorem gW:isI QI (.int i)=QI i:=rfl
theorem gX:isL QL (.lst xs)=QL xs:=rfl
theorem gY:isL QL (cw s)=QL (s.map .int):=rfl
theorem gZ:isL QL (gT s n)=QL ((tbl s n).map cw):=rfl
theorem g6:isT QL (.tup xs)=QL xs:=rfl
theorem g9:isS QL (.lst xs)=QL xs:=rfl
theorem hJ:isS QL (.tup xs)=QL xs:=rfl
theorem hU:isS QL (ae r)=QL (r.map ay):=rfl
theorem hV:isS QL (au s)=QL (s.map .int):=rfl
theorem hW:isS QL (cw s)=QL (s.map .int):=rfl
theorem hX:isS QL (gT s n)=QL ((tbl s n).map cw):=rfl
theorem hZ:bA [.tup xs] Q=Q (.int xs.length):=rfl
theorem h8:bA [.lst xs] Q=Q (.int xs.length):=rfl
theorem h9:bA [.scr xs] Q=Q (.int xs.length):=rfl
theorem ia:bA [ae r] Q=Q (.int r.length):=by show Q (.int ((r.map ay).length:Int))=_;rw[aW]
theorem ic:bA [au s] Q=Q (.int s.length):=by show Q (.int ((s.map D.int).length:Int))=_;rw[aW]
theorem ig:bA [cw s] Q=Q (.int s.length):=by show Q (.int ((s.map D.int).length:Int))=_;rw[aW]
theorem ii:bA [gT s n] Q=Q (.int n):=by show Q (.int (((tbl s n).map cw).length:Int))=_;rw[aW,lK]
theorem ij:gIx (.tup xs) (.int i) Q = ∃d,ee xs i=some d/\Q d:=rfl
theorem ik:gIx (.lst xs) (.int i) Q = ∃d,ee xs i=some d/\Q d:=rfl
theorem il:gIx (.scr xs) (.int i) Q = ∃d,ee xs i=some d/\Q d:=rfl
theorem ip:gIx (ae r) (.int i) Q = ∃d,ee (r.map ay) i=some d/\Q d:=rfl
theorem iq:gIx (au s) (.int i) Q = ∃d,ee (s.map .int) i=some d/\Q d:=rfl
theorem ir:gIx (cw s) (.int i) Q = ∃d,ee (s.map .int) i=some d/\Q d:=rfl
theorem iu:gIx (gT s n) (.int i) Q = ∃d,ee ((tbl s n).map cw) i=some d/\Q d:=rfl
theorem iw:gCut (.tup xs) o o' Q=Q (.tup (bn xs o o')):=rfl
theorem Zb:gCut (.lst xs) o o' Q=Q (.lst (bn xs o o')):=rfl
theorem iy:gCut (.scr xs) o o' Q=Q (.lst (bn xs o o')):=rfl
theorem iz:gCut (ae r) o o' Q=Q (.tup (bn (r.map ay) o o')):=rfl
theorem iA:gCut (au s) o o' Q=Q (.tup (bn (s.map .int) o o')):=rfl
theorem iB:gCut (cw s) o o' Q=Q (.lst (bn (s.map .int) o o')):=rfl
theorem iC:gCut (gT s n) o o' Q=Q (.lst (bn ((tbl s n).map cw) o o')):=rfl
theorem iD:gRev (.tup xs) Q=Q (.tup xs.reverse):=rfl
theorem iF:gRev (.lst xs) Q=Q (.lst xs.reverse):=rfl
theorem iG:gRev (ae r) Q=Q (ae r.reverse):=by show Q (.tup (r.map ay).reverse)=_;rw[<-o1];rfl
theorem iH:gRev (au s) Q=Q (au s.reverse):=by show Q (.tup (s.map D.int).reverse)=_;rw[<-o1];rfl
theorem iI:gRev (cw s) Q=Q (cw s.reverse):=by show Q (.lst (s.map D.int).reverse)=_;rw[<-o1];rfl
theorem iJ{α:Type}:fh (α:=α) [.tup xs] QL=QL xs:=rfl
theorem iK{α:Type}:fh (α:=α) [.lst xs] QL=QL xs:=rfl
theorem iM{α:Type}:fh (α:=α) [au s] QL=QL (s.map .int):=rfl
theorem iN:gR [.tup xs] Q=Q (.tup xs):=rfl
theorem iO:gR [.lst xs] Q=Q (.tup xs):=rfl
theorem iP:gR [cw s] Q=Q (au s):=rfl
theorem iQ:gAdd (.int i) (.int j) Q=Q (.int (i+j)):=rfl
theorem iR:gAdd (.lst xs) (.lst ys) Q=(xs.length+ys.length<=aw/\Q (.lst (xs++ys))):=rfl
theorem iU:gAdd (.tup xs) (.tup ys) Q=(xs.length+ys.length<=aw/\Q (.tup (xs++ys))):=rfl
theorem iV:gMul (.int i) (.int j) Q=(pC i j/\Q (.int (i*j))):=rfl
theorem iW:gMul (.lst xs) (.int j) Q=(j<1000/\-1000<j/\xs.length*j.toNat<=aw/\Q (.lst (List.replicate j.toNat xs).flatten)):=rfl
theorem cV{C:Int->Int->Prop}{kd:Int->Int->D}:gI2 C kd (.int i) (.int j) Q=(C i j/\Q (kd i j)):=rfl
theorem iX:gS [.int i] Q=Q (.int (if i<0 then -i else i)):=rfl
theorem iY:j9 [.int i,.int j] Q=Q (.int (if j>i then j else i)):=rfl
theorem i3:fT [.bl b] Q=Q (.int (if b then 1 else 0)):=rfl
theorem i4:fT [.int i] Q=Q (.int i):=rfl
theorem i6:jq [.lst xs] Q = ∃bs:List Bool,xs=bs.map D.bl/\Q (.bl (bs.all id)):=rfl
theorem c7:i1 QL [.int j]=(-10000<=j/\j<10000/\QL (rng 0 j.toNat)):=rfl
theorem c8:i2 QL [.int i,.int j]=((-10000<=i/\i<10000/\-10000<=j/\j<10000)/\QL (rng i (j-i).toNat)):=rfl
end
local macro_rules | `(tactic| walk_at "w1")=>`(tactic| simp only [aj,bE,ax,bD,dg,aT,aZ,aU,fi,bS,bJ,bC,d6,cb,fV,aL,eh,df,wM,Zcp,eu,cH,fg,cG,dB,aX,wT,eO,w1,w2,wB,wF,wL,aQ,aJ,ZaM,aB,bh,ad,aa,aLC,Zbq,bF,iS,iL,iT,dS,eY,iZ,cP,bV,wN,wC,gN,bW,aV,bR,bN,fA,cq,cJ,cK,bM,cL,bT,cm,aCut,aH,pub,bL,dM,cO,eW,dW,c9,List.replicate,b9,cF,dO,dP,Nat.reduceSub,Nat.reduceAdd,dJ,fH,true_and,da,if_true,if_false,ite_true,ite_false,eK,dQ,gF,
 fX,gW,gX,gY,gZ,g6,g9,hJ,hU,hV,hW,hX,hZ,h8,h9,ia,ic,ig,ii,ij,ik,il,ip,iq,ir,iu,iw,Zb,iy,iz,iA,iB,iC,iD,iF,iG,iH,iI,iJ,iK,iM,iN,iO,iP,iQ,iR,iU,iV,iW,cV,iX,iY,i3,i4,i6,c7,c8])
local macro_rules | `(tactic| walk_at "nx")=>`(tactic| ((try dsimp only);(refine a8 ?_);walk_at "st"))
theorem Km(a b c d:Int):m6 (.tup [.int a,.int b]) (.tup [.int c,.int d])=(a==c&&b==d):=by
 simp[m6,pd,ju,PyData.eqv,PyData.eqvAll]
theorem Kn{xs ys:List D}{Q:D->Prop}(h:xs.length+ys.length<=aw)(q:Q (.tup (xs++ys))):gAdd (.tup xs) (.tup ys) Q:=⟨h,q⟩
theorem fD{n:Nat}(h:n<=5000):n<=aw:=by unfold aw;omega
theorem Ko{g:WG}{zb:WS}{E:Ex->Prop}{N:Nds}(I:Nat->aN->Prop)(n:Nat)(h:∀k,k<n->∀ρ,I k ρ->∀nx:aN->Prop,(∀ρ,I (k+1) ρ->nx ρ)->g (.int k) ρ λρ1=>zb E { nx:=nx,rt:=N.rt,bk:=N.nx,ct:=nx } ρ1)(hn:∀ρ,I n ρ->N.nx ρ)(ρ:aN)(h0:I 0 ρ):ZbW g zb E N (rng 0 n) ρ:=by
 refine E2 (λds ρ=>∃k,k<=n/\ds=(rng 0 n).drop k/\I k ρ) ?_ ?_ _ ρ ⟨0,jD _,by rw[qe],h0⟩
 .rintro d ds ρ ⟨k,hk,e,i⟩ nx hnx
  have hlen:(rng 0 n).length=n:=by unfold rng;simp
  have hkn:k<n:=by
   rcases gg k n with z|z
   .exact z
   .rw[List.drop_eq_nil_of_le (by omega)] at e;cases e
  rw[qf (by omega)] at e;injection e with e1 e2
  have e3:(rng 0 n)[k]'(by omega)=.int k:=by unfold rng;simp
  rw[e1,e3];exact h k hkn ρ i nx λρ' i'=>hnx ρ' ⟨k+1,hkn,e2,i'⟩
 .rintro ρ ⟨k,hk,e,i⟩
  have hlen:(rng 0 n).length=n:=by unfold rng;simp
  have hkn:k=n:=by
   rcases gg k n with z|z
   .rw[qf (by omega)] at e;cases e
   .omega
  subst hkn;exact hn ρ i
theorem xW{K:Oq}{D:Addr}(g:PySem.W.findIn K (.ref D) "__getattribute__" = some (some (.builtin "BaseException.__getattribute__")))(gn:PySem.W.findIn K (.ref D) "__getattr__" = some none)(be:PySem.W.mroIn K D (.type "BaseException")=some true)(h:PySem.W.hasDictIn K D=true)(a:PySem.W.findIn K (.ref D) "__class__" = some (some (.builtin "object.__class__")))(gt:PySem.W.specialIn K (.builtin "object.__class__") "__get__" = some (some (.builtin "getset_descriptor.__get__")))(tk:PySem.W.takesIn K (.builtin "object.__class__")=some true)(ob:PySem.W.mroIn K D (.type "object")=some true):rD K D:=
 ⟨g,gn,be,by obtain⟨cd,hc,_⟩:=PySem.W.any_some h;rw[hc];rfl,a,gt,tk,ob⟩
def gNeS:G2:=λx y Q=>∃a b,x=.str a/\y=.str b/\Q (.bl (!(a==b)))
theorem gNeS.mono:∀x y P P',(∀d,P d->P' d)->gNeS x y P->gNeS x y P':=λx y P P' hp ⟨a,b,h1,h2,h3⟩=>⟨a,b,h1,h2,hp _ h3⟩
section
variable{X:Cx}{EX:XK}{pos p:Pos}{e:Expr}{target iter elt:Expr}{ifs:List Expr}{wi:WA}{g:WG}{wf:WT}{we:WE}{sc:Scope}
def Bz:WE:=λ_ _ _=>False
theorem Kp:PX X EX e Bz:=⟨⟨λ_ _ _=>False,λ_ _ _ _ _ _ h=>h.elim,λ_ _ _ _ _ _ _ _ _ _ h=>h.elim⟩,λ_ _ _ _ _ h=>h⟩
def E3:D->Bool
 |.non=>true
 |.bl _=>true
 |_=>false
def BA:D->D->Bool
 |.non,.non=>true
 |.bl a,.bl b=>a==b
 |_,_=>false
def gIsC(neg:Bool):G2:=λx y Q=>E3 y=true/\Q (.bl (if neg then !BA x y else BA x y))
theorem gIsC.mono{neg:Bool}:∀x y P P',(∀d,P d->P' d)->gIsC neg x y P->gIsC neg x y P':=λ_ _ _ _ hp h=>⟨h.1,hp _ h.2⟩
theorem E4{K:Oq}{W:Wd}{x y:V}{v u:Value}{dx dy:D}(r1:Rep K W x dx)(r2:Rep K W y dy)(rx:RelV x v)(ry:RelV y u)(h:E3 dy=true):plainIs v u=true/\(v==u)=BA dx dy:=by
  cases r2<;>first
    |(cases h;done)
    | (cases ry;cases r1<;>first
        |(cases rx;first|exact⟨rfl,rfl⟩|(rename_i a b;cases a<;>cases b<;>exact⟨rfl,rfl⟩))
        |(obtain⟨t,rfl⟩:=rx;exact⟨rfl,rfl⟩))
theorem BB:fe X (compareOp .Is) (gIsC false):=by
 refine⟨⟨λx y H Q=>∃W dx dy,WOk W H/\Rep X.K W x dx/\Rep X.K W y dy/\gIsC false dx dy (RQ X.K W H Q),?_,λW H x y dx dy Q ok rx ry hg=>⟨W,dx,dy,ok,rx,ry,hg⟩⟩,gIsC.mono⟩;rintro pins s σ H x y v u Q I rx ry ⟨W,dx,dy,ok,r1,r2,h1,h2⟩;obtain⟨p,e⟩:=E4 r1 r2 rx ry h1;exact wpAny_is_plain p (mB I (h2.now ok (.bl _)) (by rw[e];rfl))
theorem BC:fe X (compareOp .IsNot) (gIsC true):=by
 refine⟨⟨λx y H Q=>∃W dx dy,WOk W H/\Rep X.K W x dx/\Rep X.K W y dy/\gIsC true dx dy (RQ X.K W H Q),?_,λW H x y dx dy Q ok rx ry hg=>⟨W,dx,dy,ok,rx,ry,hg⟩⟩,gIsC.mono⟩;rintro pins s σ H x y v u Q I rx ry ⟨W,dx,dy,ok,r1,r2,h1,h2⟩;obtain⟨p,e⟩:=E4 r1 r2 rx ry h1;exact wpAny_isNot_plain p (mB I (h2.now ok (.bl _)) (by rw[e];rfl))
end
mutual
def E5:D->Option PyData
 |.non=>some .none
 |.bl b=>some (.bool b)
 |.int i=>some (.int i)
 |.str x=>some (.str x)
 |.tup xs=>(rG xs).map .tuple
 |.lst xs=>(rG xs).map .list
 |.dic=>some (.dict [])
 |_=>none
def rG:List D->Option (List PyData)
 |[]=>some []
 |x::r=>match E5 x,rG r with
  |some a,some b=>some (a::b)
  |_,_=>none
end
mutual
def lL:D->Bool
 |.lst _=>false
 |.tup xs=>m9 xs
 |_=>true
def m9:List D->Bool
 |[]=>true
 |x::r=>lL x&&m9 r
end
section
variable{X:Cx}{pins:List (Addr×Obj)}{σ:L2.St}{H:Hp}{s:Shared}{W:Wd}
def Zp6:List D->(D->Prop)->Prop:=λds Q=>∃x p,ds=[x]/\E5 x=some p/\p.showable=true/\(p.hasDict=true->lL x=true)/\p.depth<=32/\p.shown.length<=sizeLine/\Q (.str p.shown)
theorem Zp6.mono:∀ds P P',(∀d,P d->P' d)->Zp6 ds P->Zp6 ds P':=λds P P' hp ⟨x,p,h1,h2,h3,h4,h5,h6,h7⟩=>⟨x,p,h1,h2,h3,h4,h5,h6,hp _ h7⟩
end
mutual
def bx(b:Nat):D->Nat->Bool
 |.non,_=>true
 |.bl _,_=>true
 |.int i,_=>decide (i.natAbs<2^90)
 |.str x,_=>decide (x.cps.size<=4)&&x.cps.toList.all λc=>decide (c<16^8)
 |.dic,_=>true
 |.tup xs,n=>decide (0<n)&&decide (xs.length<=b)&&kR b xs (n-1)
 |.lst xs,n=>decide (0<n)&&decide (xs.length<=b)&&kR b xs (n-1)
 |.pen,_=>false
 |.cls _,_=>false
 |.exc _,_=>false
 |.ty _,_=>false
 |.scr _,_=>false
def kR(b:Nat):List D->Nat->Bool
 |[],_=>true
 |x::r,n=>bx b x n&&kR b r n
end
mutual
def lZ:D->Bool
 |.dic=>false
 |.tup xs=>lM xs
 |.lst xs=>lM xs
 |_=>true
def lM:List D->Bool
 |[]=>true
 |x::r=>lZ x&&lM r
end
theorem xX:∀{xs:List D},m9 xs=true↔∀x∈xs,lL x=true
 |[]=>by simp[m9]
 |x::r=>by rw[m9,cQ,xX];simp
theorem xY:∀{xs:List D},lM xs=true↔∀x∈xs,lZ x=true
 |[]=>by simp[lM]
 |x::r=>by rw[lM,cQ,xY];simp
def dl(x:D):Bool:=lL x||lZ x
theorem Kq(q:Rat):lL (ay q)=true:=rfl
theorem Kr(q:Rat):lZ (ay q)=true:=rfl
theorem BD(r:List Rat):lL (ae r)=true:=by
 unfold ae;rw[lL,xX];intro x hx;obtain⟨q,_,rfl⟩:=YbT.mp hx;exact Kq q
theorem E6(r:List Rat):lZ (ae r)=true:=by
 unfold ae;rw[lZ,xY];intro x hx;obtain⟨q,_,rfl⟩:=YbT.mp hx;exact Kr q
def rH(T:List (List Rat)):D:=.tup (T.map ae)
def vj:D->Bool
 |.tup xs=>decide (1<=xs.length)&&decide (xs.length<=5)&&xs.all (gC xs.length)
 |_=>false
structure IsT(T:List (List Rat))(n:Nat):Prop where
 len:T.length=n
 row:∀r∈T,r.length=n
 n1:1<=n
 n5:n<=5
def SzT(m:Nat)(T:List (List Rat)):Prop:=∀r∈T,∀x∈r,Sz m x
variable {y:D}
theorem IsT.tb{T:List (List Rat)}{n:Nat}(h:IsT T n):vj (rH T)=true:=by
 have h1:=h.n1;have h5:=h.n5;have hl:=h.len;unfold vj rH;simp only[aW];rw[decide_eq_true (by omega),decide_eq_true (by omega)];simp only[wH,Ybh];intro x hx;obtain⟨r,hr,rfl⟩:=YbT.mp hx;rw[hl,<-h.row r hr];exact vb r
theorem IsT.kd{T:List (List Rat)}{n:Nat}(h:IsT T n):kd (rH T)=true:=by
 have h5:=h.n5;have hl:=h.len;refine xC (by simp;omega) λx hx=>?_;obtain⟨r,hr,rfl⟩:=YbT.mp hx;exact sF (by have:=h.row r hr;omega)
namespace B
variable {E:Ex->Prop}{Q:D->Prop}{x y:D}{s:List Int}{n k:Nat}{r:List Rat}{a b:Int}
end B
theorem SzT.mono{m m':Nat}{T:List (List Rat)}(h:SzT m T)(l:m<=m'):SzT m' T:=λr hr x hx=>(h r hr x hx).mono l
namespace B
theorem E7{xs:List D}(h:(∀x∈xs,lL x=true)\/∀x∈xs,lZ x=true):dl (.tup xs)=true:=by
 unfold dl;rw[lL,lZ,zj,xX,xY];exact h
theorem nm_at{i:Nat}{E:Ex->Prop}{ρ:aN}{d:D}(h:ρ[i]? = some (.d d)):∀P:D->Prop,P d->wN i E ρ P:=λP q=>by unfold wN;rw[h];exact q
end B
end LP
namespace L2
open PySem PySem.Spec PyProof.Rows
theorem Ks{κ:Bool}{prog:Program}{w:World}{A:Around}(hh:A.handled=none)(it l:Addr)(hne:l≠it)(xs:Array Value):Draws prog w A it [it,l] xs.size (λi v=>xs[i]? = some v) (λi h=>SIt κ h it l i/\SSq κ h l xs) where
 live:=λ_ _ st=>let⟨o,ho,_⟩:=st.1.obj;⟨o,ho⟩
 frame:=λ_ _ _ st hk=>⟨st.1.keep λo e=>hk it (by simp) o e,st.2.keep λo e=>hk l (by simp) o e⟩
 item:=λi s Q E hi st hQ=>uQ st.1 st.2 (x:=xs[i]) (by simp[hi]) λh' hit' hs'=>hQ _ h' s.toks (by simp[hi]) ⟨hit',st.2.keep λo e=>hs'.extBut l o hne e⟩ hs'
 done:=λs Q E st hE=>sC hh st.1 st.2 (by simp) hE
theorem Kt{κ:Bool}{prog:Program}{w:World}{A:Around}(hh:A.handled=none)(it l:Addr)(xs:Array Value)(n:Nat)(hn:xs[n]? = none):Draws prog w A it [it,l] n (λ_ _=>False) (λj h=>j=n/\SIt κ h it l n/\SSq κ h l xs) where
 live:=λ_ _ st=>let⟨o,ho,_⟩:=st.2.1.obj;⟨o,ho⟩
 frame:=λ_ _ _ st hk=>⟨st.1,st.2.1.keep λo e=>hk it (by simp) o e,st.2.2.keep λo e=>hk l (by simp) o e⟩
 item:=λi s Q E hi st hQ=>Ot st.1 (eJ hi)
 done:=λs Q E st hE=>sC hh st.2.1 st.2.2 hn hE
abbrev nL(κ:Bool)(h:Heap)(l:Addr):Heap:=h.push (io κ l)
abbrev BE(κ:Bool)(h:Heap)(l:Addr):Heap:=(nL κ h l).push { cls:=.type "enumerate",data:=.fields #[.none,.bool false,.ref h.objs.size,rawInt 0,.none,.none] }
theorem Ku(l:Addr)(xs:Array Value)(n:Nat)(dct:Option Addr)(sl:Array (Option Value)) :
  Meets (Builtin.«enumerate.__new__» ⟨[.type "enumerate",.ref l],[]⟩) (λ_ R s=>s.heap.get? l=some { cls:=.type "tuple",dict:=dct,data:=.seq xs n,slots:=sl }/\R (.ok (.ret (.ref (nL true s.heap l).objs.size))) { s with heap:=BE true s.heap l }):=
 .of_wp λprog w A R s h=>by
  obtain⟨hp,g,d,tk,os⟩:=s;obtain⟨hl,h⟩:=h;have hsub:=sub_enumerate;have hT:SSq true (Shared.heap ⟨hp,g,d,tk,os⟩) l xs:=(show Heap.IsTuple _ l xs from⟨_,hl,rfl,n,rfl⟩)
  wp_walk using AutoSeq1.wpAny_loadPart' hl
  refine wpAny_stack_any λst=>(Os ?_);split
  .rename_i c _ _ _ _ _
   cases(c==Value.type "enumerate")<;>(wp_walk using AutoSeq1.wpAny_loadPart' hl,rh hT;exact⟨_,rfl,h⟩)
  .wp_walk using AutoSeq1.wpAny_loadPart' hl,rh hT
   exact⟨_,rfl,h⟩
theorem Kv{κ:Bool}{prog:Program}{w:World}{A:Around}{E:Value->Shared->Prop}{s:Shared}{l:Addr}{xs:Array Value}{Q:Value->Shared->Prop}(hL:SSq κ s.heap l xs)
  (h:∀h',IsEnum h' (s.heap.objs.size+1) s.heap.objs.size 0 .none->SIt κ h' s.heap.objs.size l 0->(∀b o,s.heap.get? b=some o->h'.get? b=some o)->Q (.ref (s.heap.objs.size+1)) { s with heap:=h' }) :
  wpAny (model prog w) A (call (.type "enumerate") [.ref l]) Q E s:=by
 cases κ with
 |false=>exact call_enumerate_list hL λh' he hi _ hk=>h h' he hi hk
 |true=>
  obtain⟨⟨c,dct,dt,sl⟩,hl,hc,n,hd⟩:=(show s.heap.IsTuple l xs from hL)
  replace hc:c=.type "tuple" :=hc;replace hd:dt=.seq xs n:=hd;subst hc hd;refine callType_new F.called_enumerate (by decide) (F.typeCall_enumerate_1 _) (F.newCall_enumerate_1 _) (λobj=>F.args_object_init_2 obj _) F.entry_enumerate_new (Ku l xs n dct sl) ⟨hl,?_⟩;have hz:(nL true s.heap l).objs.size=s.heap.objs.size+1:=kz ..;have g2:(BE true s.heap l).get? (nL true s.heap l).objs.size=some _:=eV _ rfl;have g1:(BE true s.heap l).get? s.heap.objs.size=some _:=bZ _ (eV _ rfl);show _/\_;rw[hz] at g2 ⊢;exact⟨⟨_,g2,rfl⟩,h _ g2 (xu g1) λb o x=>bZ _ (bZ _ x)⟩
def E9(K:Oq)(κ:Bool)(a:Addr):It:=
  ⟨λi H=>∃ xs x,Sq K κ H a xs/\xs[i]? = some x,
   λi H v H'=>∃p x,v=.ref p/\H p=none/\H'=upd H p (.tup [.int i,x])/\∀xs,Sq K κ H a xs->xs[i]? = some x,
   λi H=>∃xs,Sq K κ H a xs/\xs.length<=i⟩
theorem Kw{P:Program}{w:World}{K:Oq}{es:List Expr}{n1:Nat}{ps:Pos}{κ:Bool}(a e it:Addr)(hne:e≠it) :
  fL P w K (.Tuple es n1 ps) (E9 K κ a) [e,it] e (λi h=>(∃old,IsEnum h e it i old)/\SIt κ h it a i) where
 mem:=by simp
 obj:=λi h ⟨⟨old,q1⟩,q2⟩ c hc=>by
  simp only[Yaq,gh,or_false] at hc;rcases hc with rfl|rfl
  .exact⟨_,q1,λv e=>by cases e⟩
  .exact q2.obj
 keep:=λi h h' ⟨⟨old,q1⟩,q2⟩ k=>⟨⟨old,k e (by simp) _ q1⟩,q2.keep λo x=>k it (by simp) o x⟩
 item:=by
  intro X hP hw hK hc i pins s σ H E I hf ⟨⟨old,q1⟩,q2⟩ hg;subst hP hw hK;obtain⟨xs,x,hx,ex⟩:=hg;obtain⟨its,rv,p,hz⟩:=I.sq hx;obtain⟨ux,hux,rux⟩:=rv.get ex;have oe:=I.sq_out hx (hf e (by simp));have oi:=I.sq_out hx (hf it (by simp));have hi:i<its.toArray.size:=by have:=(Yas.mp hux).1;simpa using this
  refine wpAny_pyNext_enum_itemD (Ks (κ:=κ) (A:=X.A.in1) (I.ok.hd hc) it a oi its.toArray) q1 ⟨q2,p⟩ hi hne (by simp[hne,Oy oe]) λy h' tk b1 b2 b3 b4 b5 b6=>⟨_,rfl,?_⟩;have ey:y=ux:=by
   have:its[i]? = some y:=by simpa using b1
   rw[hux] at this;exact(Ow this).symm
  subst ey;refine wpAny_letOwnedTupleGo_enum (s:={ s with heap:=h',toks:=tk+1 }) b2 λh2 c1 c2=>?_;have lt:∀{c o},s.heap.get? c=some o->c≠s.heap.objs.size:=λz=>eJ (bX z);have el:=lt q1;have up:∀c o,c∉[e,it]->s.heap.get? c=some o->h2.get? c=some o:=λc o hc z=>by
   simp only[Yaq,gh,or_false,not_or] at hc;exact c2.extBut _ _ hc.1 (b6 c o hc.1 hc.2 z)
  refine⟨.ref s.heap.objs.size,upd H s.heap.objs.size (.tup [.int i,x]),Inv.turnedN (s:=s) (t':=tk+1) [e,it] I up hf (bb _) ?_,rfl,⟨s.heap.objs.size,x,rfl,I.fresh,rfl,λxs' h'=>by rw[I.sq_inj h' hx];exact ex⟩,?_,λc hc=>?_⟩
  .refine⟨by rw[sizeLine_eq];simp,[.int i tk,y],.cons ⟨_,rfl⟩ (.cons rux .nil),?_⟩
   exact⟨_,c2.extBut _ _ (Oy el) b4,rfl,_,rfl⟩
  .exact⟨⟨_,by simpa using c1⟩,b3.1.keep λo z=>c2.extBut _ o (Oy hne) z⟩
  .have he:∃o,s.heap.get? c=some o:=by
    simp only[Yaq,gh,or_false] at hc;rcases hc with rfl|rfl
    .exact⟨_,q1⟩
    .obtain⟨o,z,_⟩:=q2.obj;exact⟨o,z⟩
   obtain⟨o,z⟩:=he;rw[af (lt z)];exact(hf c hc).1
 done:=by
  intro X hP hw hK hc i pins s σ H E I hf ⟨⟨old,q1⟩,q2⟩ hg;subst hP hw hK;obtain⟨xs,hx,en⟩:=hg;obtain⟨its,rv,p,hz⟩:=I.sq hx;have l1:=rv.length;have oi:=I.sq_out hx (hf it (by simp));refine wpAny_pyNext_enum_endD (Kt (κ:=κ) (A:=X.A.in1) (I.ok.hd hc) it a its.toArray i (by simp;omega)) q1 ⟨rfl,q2,p⟩ λh' k=>⟨rfl,?_⟩;refine I.turnedL (t':=s.toks) [e,it] (λc o hc z=>?_) hf;simp only[Yaq,gh,or_false,not_or] at hc;exact k c o hc.2 z
 self:=λ_ _ _ _ _ st h=>let⟨⟨_,q⟩,_⟩:=st;OU q h
theorem Fa(n b:Nat)(h:b=n+1\/b=n):n<=b:=by omega
variable {X:Cx}
def vk(K:Oq)(ta:TA):TI:=λσ H R=>ta σ H λvs H1=>∃κ a,vs=[.ref a]/\(∃xs,Sq K κ H1 a xs)/\R (E9 K κ a) H1
theorem Kx{a:Expr}{ta:TA}{p pos ps:Pos}{es:List Expr}{n1:Nat}(hg:Gl X "enumerate")(hm:X.mg "enumerate" = none)(ha:PA X [a] ta)(hs:starEach [a] X.env=[(false,eval a X.env)]:=by rfl) :
  PI X (.Tuple es n1 ps) (.Call (.Name "enumerate" p) [a] [] pos) (vk X.K ta):=by
 intro pins s σ H R I h;refine Call_ (dm I hg hm boot_enumerate (PyProof.Rows.callWith_type1 (aI (ha pos pins s σ H _ I h) λus s1 ⟨vs,H1,I1,r1,q1⟩=>?_) hs rfl));obtain⟨κ,l,rfl,⟨xs,hx⟩,q⟩:=q1;cases r1 with
 |cons r rr=>
  cases rr;cases r;obtain⟨its,rv,p1,hz⟩:=I1.sq hx;refine Kv p1 λh' a1 a2 k=>OU (s:={ s1 with heap:=h' }) a1 ?_;refine⟨_,[s1.heap.objs.size+1,s1.heap.objs.size],_,_,H1,rfl,I1.kept (t':=s1.toks) k,Kw (κ:=κ) l _ _ (Nat.succ_ne_self _),⟨⟨_,a1⟩,a2⟩,λb hb=>?_,q⟩;have hb':s1.heap.objs.size<=b:=by
   simp only[Yaq,gh,or_false] at hb;exact Fa _ _ hb
  exact I1.fpOk hb' (I1.hok.fresh hb')
end L2
namespace LP
open PySem PySem.Spec PyProof.Rows L2
variable {X:Cx}{EX:XK}{pos p p2 ps:Pos}{tg e a b:Expr}{es:List Expr}{w wa wb:WE}
def cx:Nat->List D->List D
 |_,[]=>[]
 |i,x::xs=>.tup [.int i,x]::cx (i+1) xs
theorem BF:∀(i:Nat) (xs:List D),(cx i xs).length=xs.length
 |_,[]=>rfl
 |i,x::xs=>by rw[cx,cO,cO,BF]
theorem BG:∀(i j:Nat) (xs:List D) (d:D),(cx i xs)[j]? = some d->∃x,xs[j]? = some x/\d=.tup [.int ((i+j:Nat):Int),x]
 |_,_,[],_,h=>by simp[cx] at h
 |i,0,x::xs,d,h=>by
  rw[cx,b9] at h;exact⟨x,rfl,(Ow h).symm⟩
 |i,j+1,x::xs,d,h=>by
  rw[cx,cF] at h;obtain⟨y,e1,e2⟩:=BG (i+1) j xs d h;exact⟨y,by rw[cF];exact e1,by rw[e2,show i+1+j=i+(j+1) by omega]⟩
def iE(t:WA):WA:=λE ρ Q=>t E ρ λds=>match ds with
 |[x]=>isS (λxs=>Q (cx 0 xs)) x
 |_=>False
theorem oO{t:WA}{n1:Nat}(hm:X.mg "enumerate" = none)(ha:jo X EX [a] t)(hg:Gl X "enumerate" :=by rfl)(hs:starEach [a] X.env=[(false,eval a X.env)]:=by rfl) :
  lD X EX (.Tuple es n1 ps) (.Call (.Name "enumerate" p) [a] [] pos) (iE t):=by
 obtain⟨t,q,k⟩:=ha.t;refine⟨⟨_,Kx hg hm q hs,λW0 H0 W σ H ρ E R s eo h=>?_⟩,λE ρ P P' hp h=>ha.mono _ _ _ _ (λds hd=>?_) h⟩
 .refine k W0 H0 W σ H ρ E _ s eo (ha.mono _ _ _ _ (λds hd vs W1 H1 x1 r1=>?_) h)
  split at hd
  .obtain⟨v,rfl,rv⟩:=r1.one
   obtain⟨κ,l,vs,xs,rfl,rr,hd,sq⟩:=rv.sq hd;refine⟨κ,l,rfl,⟨vs,sq W1 H1 (λ_ _ z=>z) x1.ok⟩,hd W1 H1 _ x1 λW2 H2 i g2 p2 ok2=>⟨λd hd=>?_,λhi=>?_⟩⟩
   .have s1:=sq W2 H2 g2 ok2
    obtain⟨x,ex,rfl⟩:=BG 0 i xs d hd;obtain⟨vx,evx,rvx⟩:=rr.get ex;refine⟨⟨vs,vx,s1,evx⟩,λz H3 hy=>?_⟩;obtain⟨q,x',rfl,hq,rfl,e1⟩:=hy;have e1:=e1 _ s1;rw[evx] at e1;cases e1;have xt:=Ext.put (o:=.tup [.int i,vx]) ok2 hq;rw[qi];exact⟨_,xt,.tup (by unfold Wd.put;dsimp only;rw[ao]) (.cons (.int _) (.cons (xt.rep (rvx.mono g2 p2)) .nil))⟩
   .refine⟨vs,sq W2 H2 g2 ok2,?_⟩
    rw[rr.length];rw[BF] at hi;omega
  .exact hd.elim
 .split at hd
  .exact isS.mono (λxs h1=>hp _ h1) _ hd
  .exact hd.elim
end LP
namespace L2
open PySem PySem.Spec PyProof.Rows
variable {X:Cx}
end L2
namespace LP
open PySem PySem.Spec PyProof.Rows L2
variable {X:Cx}{EX:XK}{pos p p1 p2 ps sp1 sp2:Pos}{tg e a b:Expr}{es:List Expr}{w wa wb:WE}
def is2(Q:D->D->Prop):D->Prop
 |.tup [x,y]=>Q x y
 |_=>False
theorem is2.mono{Q Q':D->D->Prop}(h:∀x y,Q x y->Q' x y):∀d,is2 Q d->is2 Q' d:=λd z=>by
 unfold is2 at z ⊢;split at z
 .exact h _ _ z
 .exact z.elim
end LP
namespace PySem
open Sem (wp)
open AutoSeq1 (wpAny_loadPart')
variable {prog:Program}{w:World}{A:Around}{E:Value->Shared->Prop}{s:Shared}
def Zqs(h:Heap)(a t:Addr)(i:Int):Prop:=∃o,h.get? a=some o/\o.cls=.type "reversed" /\o.data=.fields #[.ref t,rawInt i]
theorem Zqs.at{h h':Heap}{a t:Addr}{i:Int}(x:Zqs h a t i)(e:∀o,h.get? a=some o->h'.get? a=some o):Zqs h' a t i:=let⟨o,ho,r⟩:=x;⟨o,e _ ho,r⟩
end PySem
namespace L2
open PySem PySem.Spec PyProof.Rows
variable {X:Cx}
end L2
namespace LP
open PySem PySem.Spec PyProof.Rows L2
variable {X:Cx}{EX:XK}{pos p p1 p2:Pos}{a:Expr}{w:WE}
def Fb(f l:List Rat)(i j k:Nat):Rat:=f.getD (i-k) 0*l.getD (f.length-1-j+k) 0
def Ky(f l:List Rat)(i j k:Nat):Rat:=l.getD (i-k-1) 0*f.getD (f.length-j+k) 0
def sp(f l:List Rat)(i j:Nat):Nat->Rat
 |0=>0
 |k+1=>if k<min i j then sp f l i j k+Fb f l i j k-Ky f l i j k else sp f l i j k+Fb f l i j k
variable {E:Ex->Prop}{Q:D->Prop}{f l:List Rat}{n i j:Nat}
abbrev Fc:List Str:=["one", "other"]
abbrev Kz:List Str:=["one", "other"]
def BH:WS:=(aj (wF rm (ad (w2 fj (w2 gMul (w2 gIx (wN 0) (wC (D.int (0)))) (w2 gIx (wN 1) (wC (D.int (1))))) (w2 gMul (w2 gIx (wN 1) (wC (D.int (0)))) (w2 gIx (wN 0) (wC (D.int (1)))))) (ad (w2 gMul (w2 gIx (wN 0) (wC (D.int (1)))) (w2 gIx (wN 1) (wC (D.int (1))))) aa))))
abbrev vm:List Str:=["one", "other"]
abbrev vn:List Str:=["one", "other"]
def rJ:WS:=(aj (wF rm (ad (w2 gMul (w2 gIx (wN 0) (wC (D.int (0)))) (w2 gIx (wN 1) (wC (D.int (1))))) (ad (w2 gMul (w2 gIx (wN 0) (wC (D.int (1)))) (w2 gIx (wN 1) (wC (D.int (0))))) aa))))
local macro_rules | `(tactic| walk_at "w1")=>`(tactic| simp only [aj,bE,ax,bD,dg,aT,aZ,aU,fi,bS,bJ,bC,d6,cb,fV,aL,eh,df,wM,Zcp,eu,cH,fg,cG,dB,aX,wT,eO,w1,w2,wB,wF,wL,aQ,aJ,ZaM,aB,bh,ad,aa,aLC,Zbq,bF,iS,iL,iT,dS,eY,iZ,cP,bV,wN,wC,gN,bW,aV,bR,bN,fA,cq,cJ,cK,bM,cL,bT,cm,aCut,aH,pub,bL,dM,cO,eW,dW,c9,List.replicate,b9,cF,dO,dP,Nat.reduceSub,Nat.reduceAdd,dJ,fH,true_and,da,if_true,if_false,ite_true,ite_false,eK,dQ,gF,
 fX,gW,gX,gY,gZ,g6,g9,hJ,hU,hV,hW,hX,hZ,h8,h9,ia,ic,ig,ii,ij,ik,il,ip,iq,ir,iu,iw,Zb,iy,iz,iA,iB,iC,iD,iF,iG,iH,iI,iJ,iK,iM,iN,iO,iP,iQ,iR,iU,iV,iW,cV,iX,iY,i3,i4,i6,c7,c8])
local macro_rules | `(tactic| walk_at "st")=>`(tactic| ((try dsimp only at *);(try walk_at "w1");(try dsimp only)))
local macro_rules | `(tactic| walk_at "nx")=>`(tactic| ((try dsimp only);(refine a8 ?_);walk_at "st"))
theorem KA:∀ds E Q,pL ds E Q->BH E { nx:=λ_=>Q .non,rt:=Q } (aH Fc ds):=by
 rintro _ E Q ⟨⟨p,q⟩,rfl,hb,h⟩;obtain⟨b1,b2,b3,b4,b5,b6,b7,b8⟩:=hb.mul;unfold BH;simp only[aj,wF,ad,w2,wN,wC,aH,bL,dW,b9,cF];refine pN (lY ⟨b1,pN (lY ⟨b2,?_⟩)⟩);dsimp only;simp only[cV,true_and];refine lY (lY ⟨b3,?_⟩);refine⟨(_,_),rfl,⟨b6,b5⟩,?_⟩;dsimp only at h ⊢;have e:Rat.divInt (p.num*q.den-q.num*p.den) ((p.den:Int)*q.den)=p-q:=by
  rw[Rat.sub_def',<-zt];rfl
 rw[e];exact h
theorem vo:∀ds E Q,m7 ds E Q->rJ E { nx:=λ_=>Q .non,rt:=Q } (aH vm ds):=by
 rintro _ E Q ⟨⟨p,q⟩,rfl,⟨hb,h0⟩,h⟩;dsimp only at hb h0 h;obtain⟨b1,b2,b3,b4,b5,b6,b7,b8⟩:=hb.mul;unfold rJ;simp only[aj,wF,ad,w2,wN,wC,aH,bL,dW,b9,cF];refine pN (lY ⟨b1,lY (pN ⟨b7,?_⟩)⟩);have hq:q.num≠0:=λz=>h0 (Rat.num_eq_zero.mp z);refine⟨(_,_),rfl,⟨md (by exact_mod_cast p.den_nz) hq,b8⟩,?_⟩;dsimp only at h ⊢;have e:Rat.divInt (p.num*q.den) ((p.den:Int)*q.num)=p/q:=by
  rw[gj,Rat.inv_def];have:p*Rat.divInt (q.den:Int) q.num=Rat.divInt p.num p.den*Rat.divInt (q.den:Int) q.num:=by rw[tx]
  rw[this,tB]
 rw[e];exact h
theorem Fd(p q:Rat):m6 (ay p) (ay q)=decide (p=q):=by
 unfold ay;rw[Km,jN];simp only[cQ,OQ,Ou];constructor
 .rintro⟨h1,h2⟩
  exact Rat.ext h1 (by exact_mod_cast h2)
 .rintro rfl
  exact⟨rfl,rfl⟩
theorem BI:ay 0=.tup [.int 0,.int 1]:=rfl
namespace B.C
def ga(r:List Int)(k:Nat):Int:=r.getD k 0
def gr(t:List (List Int))(k:Nat):List Int:=t.getD k []
def jz(row here:List Int)(a:Nat)(last:Int):List Int:=(List.range row.length).map λj=>(ga row j*ga here a-ga row a*ga here j).fdiv last
def lN(t:List (List Int))(a:Nat):List Nat:=((List.range (t.length-a)).map (a + ·)).filter λk=>ga (gr t k) a != 0
def dv(t:List (List Int))(a g:Nat):List (List Int):=(t.set a (gr t g)).set g (gr t a)
def bO(t:List (List Int))(a k:Nat)(last:Int):List (List Int):=(List.range t.length).map λi=>if a<i/\i<k then jz (gr t i) (gr t a) a last else gr t i
structure rK where
 t:List (List Int)
 s:Int
 l:Int
def ku(a:Nat)(x:rK):Option rK:=match lN x.t a with
 |[]=>none
 |g::_=>let t1:=dv x.t a g
  let t2:=bO t1 a t1.length x.l
  some ⟨t2,x.s*(1-2*(if g=a then 0 else 1)),ga (gr t2 a) a⟩
def d8(t:List (List Int)):Nat->Option rK
 |0=>some ⟨t,1,1⟩
 |a+1=>(d8 t a).bind (ku a)
def lO(t:List (List Int)):Int:=match d8 t t.length with
 |none=>0
 |some x=>x.s*x.l
def Fe(c:Nat):Nat->Nat
 |0=>c
 |a+1=>2*Fe c a+1
abbrev bt:Nat->Nat:=Fe 6
structure Sm(b n:Nat)(t:List (List Int)):Prop where
 len:t.length=n
 row:∀r∈t,r.length=n
 sm:∀r∈t,∀x∈r,x.natAbs<2^b
theorem Sm.up{b c n:Nat}{t:List (List Int)}(h:Sm b n t)(l:b<=c):Sm c n t:=⟨h.len,h.row,λr hr x hx=>cv (h.sm r hr x hx) (l6 (by decide) l)⟩
theorem KB{a b:Int}(h:b≠0):(a.fdiv b).natAbs<=a.natAbs:=Int.natAbs_fdiv_le_natAbs a b
theorem Sm.gr{b n k:Nat}{t:List (List Int)}(h:Sm b n t)(hk:k<n):t[k]? = some (gr t k)/\(C.gr t k).length=n/\∀x∈C.gr t k,x.natAbs<2^b:=by
 have e:=h.len;have:t[k]? = some (C.gr t k):=by unfold C.gr;rw[aM,bG (by omega)];rfl
 have hm:=jE this;exact⟨this,h.row _ hm,h.sm _ hm⟩
theorem ga_lt{b k:Nat}{r:List Int}(h:∀x∈r,x.natAbs<2^b):(ga r k).natAbs<2^b:=by
 unfold ga;rw[aM];cases e:r[k]? with
 |none=>exact Nat.two_pow_pos b
 |some v=>exact h _ (jE e)
theorem ga_get{k n:Nat}{r:List Int}(h:r.length=n)(hk:k<n):r[k]? = some (ga r k):=by
 unfold ga;rw[aM,bG (by omega)];rfl
theorem KC{b:Nat}{w x y z:Int}(h1:w.natAbs<2^b)(h2:x.natAbs<2^b)(h3:y.natAbs<2^b)(h4:z.natAbs<2^b):(w*x-y*z).natAbs<2^(2*b+1):=by
 have m1:(w*x).natAbs<2^b*2^b:=by rw[dE];exact o4 h1 h2
 have m2:(y*z).natAbs<2^b*2^b:=by rw[dE];exact o4 h3 h4
 have:=wJ (w*x) (y*z);rw[tm,show 2*b=b+b by omega,jO];omega
theorem KD{b n a:Nat}{row here:List Int}{last:Int}(h1:row.length=n)(h2:∀x∈row,x.natAbs<2^b)(h3:∀x∈here,x.natAbs<2^b)(hl:last≠0):(jz row here a last).length=n/\∀x∈jz row here a last,x.natAbs<2^(2*b+1):=by
 refine⟨by unfold jz;rw[aW,jc];exact h1,λx hx=>?_⟩;obtain⟨j,_,rfl⟩:=YbT.mp hx;exact kC (KB hl) (KC (ga_lt h2) (ga_lt h3) (ga_lt h2) (ga_lt h3))
theorem xZ{t:List (List Int)}{i k:Nat}{r:List Int}(h:i<t.length):gr (t.set i r) k=if k=i then r else gr t k:=by
 unfold gr;rw[aM,List.getElem?_set,aM]
 by_cases e:i=k
 .subst e
  rw[if_pos rfl,if_pos rfl,if_pos h];rfl
 .rw[if_neg e,if_neg (Oy e)]
theorem KF{b n a g:Nat}{t:List (List Int)}(h:Sm b n t)(ha:a<n)(hg:g<n):Sm b n (dv t a g):=by
 have e:=h.len;have m:∀r∈dv t a g,r∈t:=λr hr=>by
  unfold dv at hr;rcases zx hr with hr|rfl
  .rcases zx hr with hr|rfl
   .exact hr
   .exact jE (h.gr hg).1
  .exact jE (h.gr ha).1
 exact⟨by unfold dv;rw[dI,dI];exact e,λr hr=>h.row r (m r hr),λr hr=>h.sm r (m r hr)⟩
theorem Ff{b n a g:Nat}{t:List (List Int)}(h:Sm b n t)(ha:a<n)(hg:g<n):gr (dv t a g) a=gr t g:=by
 have e:=h.len;unfold dv;rw[xZ (by rw[dI];omega)]
 by_cases z:a=g
 .subst z;rw[if_pos rfl]
 .rw[if_neg z,xZ (by omega),if_pos rfl]
theorem KG{b n a g:Nat}{t:List (List Int)}(h:Sm b n t)(hg:g∈lN t a):a<=g/\g<n/\ga (gr t g) a≠0:=by
 have e:=h.len;unfold lN at hg;obtain⟨h1,h2⟩:=Yai.mp hg;obtain⟨k,hk,rfl⟩:=YbT.mp h1;rw[Yaj] at hk;exact⟨by omega,by omega,by simpa using h2⟩
theorem BJ{t:List (List Int)}{a k i:Nat}{l:Int}(hi:i<t.length):gr (bO t a k l) i=if a<i/\i<k then jz (gr t i) (gr t a) a l else gr t i:=by
 show(bO t a k l).getD i []=_;unfold bO;rw[aM,cc,jg hi];rfl
theorem KH{b n a k:Nat}{t:List (List Int)}{l:Int}(h:Sm b n t)(ha:a<n)(hl:l≠0):Sm (2*b+1) n (bO t a k l):=by
 have e:=h.len;have key:∀r∈bO t a k l,r.length=n/\∀x∈r,x.natAbs<2^(2*b+1):=λr hr=>by
  unfold bO at hr;obtain⟨i,hi,rfl⟩:=YbT.mp hr;have hi':i<n:=by rw[<-e];simpa using hi
  split
  .exact KD (h.gr hi').2.1 (h.gr hi').2.2 (h.gr ha).2.2 hl
  .exact⟨(h.gr hi').2.1,λx hx=>cv ((h.gr hi').2.2 x hx) (l6 (by decide) (by omega))⟩
 exact⟨by unfold bO;rw[aW,jc];exact e,λr hr=>(key r hr).1,λr hr=>(key r hr).2⟩
def tabD(t:List (List Int)):D:=.lst (t.map cw)
end B.C
namespace Dt
open B.C
def tA(t:List (List Int)):Nat->R:=λi j=>ga (gr t i) j
theorem vp(P:Nat->R){a k:Nat}(ha:a<=4)(hk:k<a)(j:Nat):M P a k j=0:=by
 match a,ha,k,hk with
 |1,_,0,_=>have:=tF (P 0) (P 0) 0 j;show m2 _ _ _ _=0;omega
 |2,_,0,_=>have:=tG (P 0) (P 1) (P 0) 0 1 j;show m3 _ _ _ _ _ _=0;omega
 |2,_,1,_=>have:=wU (P 0) (P 1) (P 1) 0 1 j;show m3 _ _ _ _ _ _=0;omega
 |3,_,0,_=>have:=tH (P 0) (P 1) (P 2) (P 0) 0 1 2 j;show m4 _ _ _ _ _ _ _ _=0;omega
 |3,_,1,_=>have:=wW (P 0) (P 1) (P 2) (P 1) 0 1 2 j;show m4 _ _ _ _ _ _ _ _=0;omega
 |3,_,2,_=>have:=wV (P 0) (P 1) (P 2) (P 2) 0 1 2 j;show m4 _ _ _ _ _ _ _ _=0;omega
 |4,_,0,_=>have:=Db (P 0) (P 1) (P 2) (P 3) (P 0) 0 1 2 3 j;show m5 _ _ _ _ _ _ _ _ _ _=0;omega
 |4,_,1,_=>have:=Da (P 0) (P 1) (P 2) (P 3) (P 1) 0 1 2 3 j;show m5 _ _ _ _ _ _ _ _ _ _=0;omega
 |4,_,2,_=>have:=C9 (P 0) (P 1) (P 2) (P 3) (P 2) 0 1 2 3 j;show m5 _ _ _ _ _ _ _ _ _ _=0;omega
 |4,_,3,_=>have:=C8 (P 0) (P 1) (P 2) (P 3) (P 3) 0 1 2 3 j;show m5 _ _ _ _ _ _ _ _ _ _=0;omega
def nv(P:Nat->R)(a:Nat):Nat->Int:=λj=>match a,j with
 |0,0=>1
 |1,0=>- P 0 1
 |1,1=>P 0 0
 |2,0=>m2 (P 0) (P 1) 1 2
 |2,1=>- m2 (P 0) (P 1) 0 2
 |2,2=>m2 (P 0) (P 1) 0 1
 |3,0=>- m3 (P 0) (P 1) (P 2) 1 2 3
 |3,1=>m3 (P 0) (P 1) (P 2) 0 2 3
 |3,2=>- m3 (P 0) (P 1) (P 2) 0 1 3
 |3,3=>m3 (P 0) (P 1) (P 2) 0 1 2
 |4,0=>m4 (P 0) (P 1) (P 2) (P 3) 1 2 3 4
 |4,1=>- m4 (P 0) (P 1) (P 2) (P 3) 0 2 3 4
 |4,2=>m4 (P 0) (P 1) (P 2) (P 3) 0 1 3 4
 |4,3=>- m4 (P 0) (P 1) (P 2) (P 3) 0 1 2 4
 |4,4=>m4 (P 0) (P 1) (P 2) (P 3) 0 1 2 3
 |_,_=>0
theorem KI(P:Nat->R){a j:Nat}(ha:a<=4)(h:a<j):nv P a j=0:=by
 match a,ha,j,h with
 |0,_,_+1,_=>rfl
 |1,_,_+2,_=>rfl
 |2,_,_+3,_=>rfl
 |3,_,_+4,_=>rfl
 |4,_,_+5,_=>rfl
theorem vq(P:Nat->R){a:Nat}(ha:a<=4):nv P a a=dt P a:=by
 match a,ha with
 |0,_=>rfl
 |1,_=>rfl
 |2,_=>rfl
 |3,_=>rfl
 |4,_=>rfl
theorem Fg{f:Nat->Int}{m:Nat}:∀{n:Nat},m<=n->(∀j,m<=j->f j=0)->sumI f n=sumI f m
 |0,h,_=>by rw[Nat.le_zero.mp h]
 |n+1,h,h0=>by
  by_cases e:m=n+1
  .rw[e]
  .rw[sumI,h0 n (by omega),Int.add_zero]
   exact Fg (by omega) h0
theorem KJ(P:Nat->R){a n k:Nat}(ha:a<=4)(hn:a<n):sumI (λj=>P k j*nv P a j) n=M P a k a:=by
 rw[Fg (m:=a+1) (by omega) (λj hj=>by rw[KI P ha (by omega),wd])]
 match a,ha with
 |0,_=>show 0+P k 0*1=P k 0;omega
 |1,_=>show 0+P k 0*(- P 0 1)+P k 1*P 0 0=m2 (P 0) (P k) 0 1;unfold m2;grind
 |2,_=>show 0+P k 0*m2 (P 0) (P 1) 1 2+P k 1*(- m2 (P 0) (P 1) 0 2)+P k 2*m2 (P 0) (P 1) 0 1=m3 (P 0) (P 1) (P k) 0 1 2;unfold m3;grind
 |3,_=>show 0+P k 0*(- m3 (P 0) (P 1) (P 2) 1 2 3)+P k 1*m3 (P 0) (P 1) (P 2) 0 2 3+P k 2*(- m3 (P 0) (P 1) (P 2) 0 1 3)+P k 3*m3 (P 0) (P 1) (P 2) 0 1 2=m4 (P 0) (P 1) (P 2) (P k) 0 1 2 3;unfold m4;grind
 |4,_=>show 0+P k 0*m4 (P 0) (P 1) (P 2) (P 3) 1 2 3 4+P k 1*(- m4 (P 0) (P 1) (P 2) (P 3) 0 2 3 4)+P k 2*m4 (P 0) (P 1) (P 2) (P 3) 0 1 3 4+P k 3*(- m4 (P 0) (P 1) (P 2) (P 3) 0 1 2 4)+P k 4*m4 (P 0) (P 1) (P 2) (P 3) 0 1 2 3=m5 (P 0) (P 1) (P 2) (P 3) (P k) 0 1 2 3 4;unfold m5;grind
structure Br(A:Nat->R)(n a:Nat)(x:rK)(P:Nat->R):Prop where
 sm:∃b,Sm b n x.t
 l0:x.l≠0
 sgn:dt A n=x.s*dt P n
 last:x.l=dt P a
 ent:∀i,a<=i->i<n->∀j,j<n->ga (gr x.t i) j=M P a i j
 row:∀i,i<n->∃i',i'<n/\A i=P i'
theorem KK{A B:Nat->R}{k:Nat}(h:∀l,l<k->A l=B l):dt A k=dt B k:=by
 cases k with
 |zero=>rfl
 |succ k=>exact Dc (λl hl=>h l (by omega)) (h k (by omega))
theorem KM{row here:List Int}{a j:Nat}{l:Int}(hj:j<row.length):ga (jz row here a l) j=(ga row j*ga here a-ga row a*ga here j).fdiv l:=by
 show(jz row here a l).getD j 0=_;unfold jz;rw[aM,cc,jg hj];rfl
theorem Br.step{A:Nat->R}{n a:Nat}{x y:rK}{P:Nat->R}(h:Br A n a x P)(hn:n<=5)(ha:a<n)(e:ku a x=some y):∃P',Br A n (a+1) y P':=by
 obtain⟨b,sm⟩:=h.sm;have xl:=sm.len;unfold ku at e;split at e
 .cases e
 rename_i g gs eg;cases e;obtain⟨g1,g2,g3⟩:=KG sm (g:=g) (by rw[eg];simp);have w:=KF sm ha g2;have wl:=w.len;have swr:∀k,k<n->gr (dv x.t a g) k=if k=g then gr x.t a else if k=a then gr x.t g else gr x.t k:=λk hk=>by
  unfold dv;rw[xZ (by rw[dI];omega),xZ (by omega)]
 refine⟨sw P a g,⟨_,KH (k:=(dv x.t a g).length) w ha h.l0⟩,?_,?_,?_,λi hi hin j hj=>?_,λi hi=>?_⟩
 .show ga (gr (bO (dv x.t a g) a (dv x.t a g).length x.l) a) a≠0
  rw[BJ (by omega),if_neg (by omega),Ff sm ha g2];exact g3
 .show dt A n=x.s*(1-2*(if g=a then 0 else 1))*dt (sw P a g) n
  rw[h.sgn]
  by_cases e:g=a
  .subst e
   rw[if_pos rfl,show sw P g g=P from by funext i;unfold sw;split<;>simp_all];grind
  .rw[if_neg e,zI P hn (by omega:a<g) g2]
   grind
 .show ga (gr (bO (dv x.t a g) a (dv x.t a g).length x.l) a) a=M (sw P a g) a a a
  rw[BJ (by omega),if_neg (by omega),Ff sm ha g2,h.ent g g1 g2 a ha];have:M (sw P a g) a a a=M (λl=>if l=g then sw P a g a else sw P a g l) a g a:=by
   have h1:∀(B:Nat->R) (k:Nat),M B k k k=M (λl=>if l=g then B k else B l) k g k->True:=λ_ _ _=>trivial
   match a,ha,g1 with
   |0,_,_=>simp[M]
   |1,_,_=>simp only[M];rw[if_neg (by omega)];simp
   |2,_,_=>simp only[M];rw[if_neg (by omega),if_neg (by omega)];simp
   |3,_,_=>simp only[M];rw[if_neg (by omega),if_neg (by omega),if_neg (by omega)];simp
   |4,_,_=>simp only[M];rw[if_neg (by omega),if_neg (by omega),if_neg (by omega),if_neg (by omega)];simp
   |_+5,h,_=>omega
  rw[this];refine Dc (λl hl=>?_) ?_
  .show P l=if l=g then _ else sw P a g l
   unfold sw;rw[if_neg (by omega),if_neg (by omega),if_neg (by omega)]
  .show P g=if g=g then sw P a g a else _
   unfold sw;rw[if_pos rfl,if_pos rfl]
 .have hai:a<i:=by omega
  have hA:∀k,a<=k->k<n->∀j,j<n->ga (gr (dv x.t a g) k) j=M (sw P a g) a k j:=λk hk hkn j hj=>by
   have low:∀l,l<a->P l=sw P a g l:=λl hl=>by unfold sw;rw[if_neg (by omega),if_neg (by omega)]
   have mv:∀k',a<=k'->k'<n->P k'=sw P a g k->M P a k' j=M (sw P a g) a k j:=λk' h1 h2 h3=>by
    have hh:∀(B C:Nat->R) (i i':Nat),(∀l,l<a->B l=C l)->B i=C i'->M B a i j=M C a i' j:=λB C i i' q1 q2=>by
     match a,q1 with
     |0,_=>show B i j=C i' j;rw[q2]
     |1,q1=>simp only[M];rw[q2,q1 0 (by omega)]
     |2,q1=>simp only[M];rw[q2,q1 0 (by omega),q1 1 (by omega)]
     |3,q1=>simp only[M];rw[q2,q1 0 (by omega),q1 1 (by omega),q1 2 (by omega)]
     |4,q1=>simp only[M];rw[q2,q1 0 (by omega),q1 1 (by omega),q1 2 (by omega),q1 3 (by omega)]
     |_+5,_=>simp only[M]
    exact hh _ _ _ _ low h3
   rw[swr k hkn]
   by_cases e1:k=g
   .subst e1
    rw[if_pos rfl,h.ent a (bb _) ha j hj];refine mv a (bb _) ha ?_;unfold sw
    by_cases e2:k=a
    .subst e2;rw[if_pos rfl]
    .rw[if_neg e2,if_pos rfl]
   .rw[if_neg e1]
    by_cases e2:k=a
    .subst e2
     rw[if_pos rfl,h.ent g g1 g2 j hj];refine mv g g1 g2 ?_;unfold sw;rw[if_pos rfl]
    .rw[if_neg e2,h.ent k hk hkn j hj]
     refine mv k hk hkn ?_;unfold sw;rw[if_neg e2,if_neg e1]
  show ga (gr (bO (dv x.t a g) a (dv x.t a g).length x.l) i) j=M (sw P a g) (a+1) i j;rw[BJ (by omega),if_pos ⟨hai,by omega⟩,KM (by rw[(w.gr hin).2.1];exact hj),hA i (by omega) hin j hj,hA a (bb _) ha a ha,hA i (by omega) hin a ha,hA a (bb _) ha j hj,<-Hu (sw P a g) (k:=a) (by omega) i j];have el:dt (sw P a g) a=x.l:=by
   rw[h.last];exact KK λl hl=>by unfold sw;rw[if_neg (by omega),if_neg (by omega)]
  rw[el];exact Int.mul_fdiv_cancel _ h.l0
 .obtain⟨i',h1,h2⟩:=h.row i hi
  by_cases e1:i'=a
  .subst e1
   refine⟨g,g2,?_⟩;rw[h2];unfold sw
   by_cases e2:g=i'
   .subst e2;rw[if_pos rfl]
   .rw[if_neg e2,if_pos rfl]
  .by_cases e2:i'=g
   .subst e2
    refine⟨a,ha,?_⟩;rw[h2];unfold sw;rw[if_pos rfl]
   .refine⟨i',h1,?_⟩
    rw[h2];unfold sw;rw[if_neg e1,if_neg e2]
theorem Br.run{b n:Nat}{t:List (List Int)}(h:Sm b n t)(hn:n<=5):∀{a:Nat},a<=n->∀{x:rK},d8 t a=some x->∃P,Br (tA t) n a x P
 |0,_,x,e=>by
  cases e;exact⟨tA t,⟨b,h⟩,show(1:Int)≠0 by decide,by show _=1*_;rw[tw],rfl,λi _ _ j _=>rfl,λi hi=>⟨i,hi,rfl⟩⟩
 |a+1,ha,x,e=>by
  rw[d8] at e;cases e1:d8 t a with
  |none=>rw[e1] at e;cases e
  |some y=>
   rw[e1] at e;obtain⟨P,hP⟩:=Br.run h hn (by omega) e1;exact hP.step hn (by omega) e
theorem Fh{t:List (List Int)}:∀{n:Nat},d8 t n=none->∃a x,a<n/\d8 t a=some x/\lN x.t a=[]
 |0,e=>by cases e
 |n+1,e=>by
  rw[d8] at e;cases e1:d8 t n with
  |none=>
   obtain⟨a,x,h1,h2,h3⟩:=Fh e1;exact⟨a,x,by omega,h2,h3⟩
  |some x=>
   rw[e1] at e;refine⟨n,x,by omega,e1,?_⟩;have e:ku n x=none:=e;unfold ku at e;split at e
   .assumption
   .cases e
theorem Fj{b n:Nat}{t:List (List Int)}(h:Sm b n t)(hn:n<=5):(lO t=dt (tA t) n/\lO t≠0/\∃x,d8 t n=some x)\/(lO t=0/\∃w:Nat->Int,(∃a,a<n/\w a≠0)/\∀i,i<n->sumI (λj=>tA t i j*w j) n=0):=by
 unfold lO;rw[h.len];cases e:d8 t n with
 |some x=>
  obtain⟨P,hP⟩:=Br.run h hn (bb _) e;refine .inl ⟨?_,?_,x,rfl⟩
  .show x.s*x.l=_
   rw[hP.last,hP.sgn]
  .show x.s*x.l≠0
   refine md ?_ hP.l0;have:∀{a:Nat} {x:rK},d8 t a=some x->x.s≠0:=λ{a}=>by
    induction a with
    |zero=>intro x e;cases e;exact show(1:Int)≠0 by decide
    |succ a ih=>
     intro x e;rw[d8] at e;cases e1:d8 t a with
     |none=>rw[e1] at e;cases e
     |some y=>
      rw[e1] at e;have e:ku a y=some x:=e;unfold ku at e;split at e
      .cases e
      .cases e
       exact md (ih e1) (by split<;>decide)
   exact this e
 |none=>
  obtain⟨a,x,ha,ea,eg⟩:=Fh e;obtain⟨P,hP⟩:=Br.run h hn (jC ha) ea;obtain⟨b',sm⟩:=hP.sm;have xl:=sm.len;have z:∀k,k<n->M P a k a=0:=λk hk=>by
   by_cases hka:k<a
   .exact vp P (by omega) hka a
   .rw[<-hP.ent k (by omega) hk a ha]
    refine Classical.byContradiction λc=>?_;have:k∈lN x.t a:=by
     unfold lN;refine Yai.mpr ⟨YbT.mpr ⟨k-a,Yaj.mpr (by omega),by omega⟩,by simpa using c⟩
    rw[eg] at this;cases this
  refine .inr ⟨rfl,nv P a,⟨a,ha,?_⟩,λi hi=>?_⟩
  .rw[vq P (by omega),<-hP.last]
   exact hP.l0
  .obtain⟨i',h1,h2⟩:=hP.row i hi
   rw[h2,KJ P (by omega) ha];exact z i' h1
theorem KN{b n:Nat}{t:List (List Int)}(h:Sm b n t)(hn:n<=5):lO t=dt (tA t) n:=by
 rcases Fj h hn with⟨e,_⟩|⟨e,w,⟨a,ha,wa⟩,hw⟩
 .exact e
 .rw[e]
  rcases Int.mul_eq_zero.mp (Hw (tA t) hn hw ha) with z|z
  .exact z.symm
  .exact Ot z wa
theorem KO{b n:Nat}{t:List (List Int)}(h:Sm b n t)(hn:n<=5)(e:lO t=0):∃w:Nat->Int,(∃a,a<n/\w a≠0)/\∀i,i<n->sumI (λj=>tA t i j*w j) n=0:=by
 rcases Fj h hn with⟨_,z,_⟩|⟨_,hw⟩
 .exact Ot e z
 .exact hw
end Dt
namespace B.C
theorem bd_of{x:Int}{b:Nat}(h:x.natAbs<2^b)(hb:b<=8990):Bd x:=cv h (l6 (by decide) hb)
theorem own_by{i:Nat}{t:WA}{E:Ex->Prop}{N:Nds}{ρ ρ':aN}{xs:List D}(e:ρ.set i (.ow xs)=ρ')(ht:∀P:List D->Prop,P xs->t E ρ P)(h:N.nx ρ'):aZ i t E N ρ:=ht _ (by rw[e];exact h)
theorem pub_by{i:Nat}{z:WS}{E:Ex->Prop}{N:Nds}{ρ ρ':aN}(e:pub i ρ=ρ')(h:z E N ρ'):aT i z E N ρ:=by unfold aT;rw[e];exact h
theorem ixN_nat{n k:Nat}(h:k<n):lV n (k:Int)=some k:=by
 unfold lV;rw[if_pos (by omega),if_pos (by omega),eK]
theorem gr_map{t:List (List Int)}{k:Nat}{a:Int}(hk:k<t.length)(ea:a=k):ee (t.map cw) a=some (cw (gr t k)):=by
 subst ea;refine cD ?_;rw[cc];unfold gr;rw[aM,bG hk];rfl
variable {E:Ex->Prop}{Q:D->Prop}{f l:List Rat}{n m k:Nat}{a x y:Rat}
def cutL(r:List Int)(i:Nat):List Int:=r.take i++r.drop (i+1)
theorem cut_mem{α:Type}{r:List α}{i:Nat}{x:α}(h:x∈r.take i++r.drop (i+1)):x∈r:=by
 rcases Yar.mp h with h|h
 .exact oZ h
 .exact kE h
end B.C
end LP
set_option exponentiation.threshold 400
namespace LP
open PySem PySem.Spec PyProof.Rows L2
namespace B.C
mutual
def bx(b:Nat):D->Nat->Bool
 |.non,_=>true
 |.bl _,_=>true
 |.int i,_=>decide (i.natAbs<2^300)
 |.str x,_=>decide (x.cps.size<=4)&&x.cps.toList.all λc=>decide (c<16^8)
 |.dic,_=>true
 |.tup xs,n=>decide (0<n)&&decide (xs.length<=b)&&kR b xs (n-1)
 |.lst xs,n=>decide (0<n)&&decide (xs.length<=b)&&kR b xs (n-1)
 |.pen,_=>false
 |.cls _,_=>false
 |.exc _,_=>false
 |.ty _,_=>false
 |.scr _,_=>false
def kR(b:Nat):List D->Nat->Bool
 |[],_=>true
 |x::r,n=>bx b x n&&kR b r n
end
theorem Zn0{b:Nat}:∀{xs:List D} {n:Nat},kR b xs n=true↔∀x∈xs,bx b x n=true
 |[],_=>by simp[kR]
 |x::r,n=>by rw[kR,cQ,Zn0];simp
mutual
theorem BK{b:Nat}:∀(x:D) {n m:Nat},n<=m->bx b x n=true->bx b x m=true
 |.non,_,_,_,h=>h
 |.bl _,_,_,_,h=>h
 |.int _,_,_,_,h=>h
 |.str _,_,_,_,h=>h
 |.dic,_,_,_,h=>h
 |.tup xs,n,m,l,h=>by
  rw[bx,cQ,cQ,Ou,Ou] at h ⊢;exact⟨⟨by omega,h.1.2⟩,BL xs (by omega) h.2⟩
 |.lst xs,n,m,l,h=>by
  rw[bx,cQ,cQ,Ou,Ou] at h ⊢;exact⟨⟨by omega,h.1.2⟩,BL xs (by omega) h.2⟩
 |.pen,n,_,_,h=>by rw[bx] at h;cases h
 |.cls _,n,_,_,h=>by rw[bx] at h;cases h
 |.exc _,n,_,_,h=>by rw[bx] at h;cases h
 |.ty _,n,_,_,h=>by rw[bx] at h;cases h
 |.scr _,n,_,_,h=>by rw[bx] at h;cases h
theorem BL{b:Nat}:∀(xs:List D) {n m:Nat},n<=m->kR b xs n=true->kR b xs m=true
 |[],_,_,_,_=>by rw[kR]
 |x::r,n,m,l,h=>by
  rw[kR,cQ] at h ⊢;exact⟨BK x l h.1,BL r l h.2⟩
end
theorem BM{b n:Nat}{xs:List D}(hl:xs.length<=b)(h:∀x∈xs,bx b x n=true):bx b (.tup xs) (n+1)=true:=by
 rw[bx,decide_eq_true hl,decide_eq_true (Nat.succ_pos n),Zn0.mpr (by simpa using h)];rfl
theorem KP{b n:Nat}{q:Rat}(hb:2<=b)(h:Sz 223 q):bx b (ay q) (n+1)=true:=by
 unfold ay;refine BM hb λx hx=>?_;simp only[Yaq,gh,or_false] at hx;have h1:q.num.natAbs<2^300:=wg h.1 (by decide);have h2:(q.den:Int).natAbs<2^300:=wg (by simpa using h.2) (by decide:2^223<2^300);rcases hx with rfl|rfl
 .rw[bx,decide_eq_true h1]
 .rw[bx,decide_eq_true h2]
theorem Fk{b n:Nat}{r:List Rat}(hb:2<=b)(hl:r.length<=b)(h:∀x∈r,Sz 223 x):bx b (ae r) (n+2)=true:=by
 unfold ae;refine BM (by simpa using hl) λx hx=>?_;obtain⟨q,hq,rfl⟩:=YbT.mp hx;exact KP hb (h q hq)
end B.C
def i7(x:D):Bool:=decide ((sI x).reverse=sI x)
def KQ(x:D):Except Str D:=eI x (.ok (.bl (i7 x)))
def BN(s:List Int)(n:Nat)(y z:D):Except Str D:=if gC n y=true/\gC n z=true then .ok (ay (bB (rQ y) (cU s n (rQ z)))) else .error "NoRow"
def ya(x y z:D):Except Str D:=eI x (if i7 x=true then BN (sI x) (sN x) y z else .error "NotEven")
def BO:aS:=xS (λx:D=>[x]) (λx=>kd x=true) KQ
def rL:aS:=xS (λx:D=>[x]) (λx=>kd x=true) λx=>eI x (if i7 x=true then .ok .non else .error "NotEven")
def na:aS:=xS (λx:D×D×D=>[x.1,x.2.1,x.2.2]) (λx=>kd x.1=true/\kd x.2.1=true/\kd x.2.2=true/\kq 170 x.2.1=true/\kq 170 x.2.2=true) λx=>ya x.1 x.2.1 x.2.2
namespace B
variable {E:Ex->Prop}{Q:D->Prop}{x y z:D}{s:List Int}{n k:Nat}{r p:List Rat}
end B
abbrev Fm:List Str:=["slants"]
abbrev KR:List Str:=["slants"]
def BP:WS:=(aj (w2 (gEq false) (wF xI (ad (wN 0) aa)) (wN 0)))
abbrev Fn:List Str:=["slants"]
abbrev KS:List Str:=["slants"]
def Zf:WS:=(bE (aX (wT (wF BO (ad (wN 0) aa)))) (eh (PySem.Str.ofString "NotEven")) bD)
abbrev Fo:List Str:=["slants", "one", "other"]
abbrev KU:List Str:=["slants", "one", "other"]
def BQ:WS:=(ai (dg (wF rL (ad (wN 0) aa))) (ai (bE (aX (wT (wF rp (ad (wN 0) (ad (wN 1) aa))))) (eh (PySem.Str.ofString "NoRow")) bD) (aj (wF u6 (ad (wN 1) (ad (wF xK (ad (wN 0) (ad (wN 2) aa))) aa))))))
local macro_rules | `(tactic| walk_at "w1")=>`(tactic| simp only [aj,bE,ax,bD,dg,aT,aZ,aU,fi,bS,bJ,bC,d6,cb,fV,aL,eh,df,wM,Zcp,eu,cH,fg,cG,dB,aX,wT,eO,w1,w2,wB,wF,wL,aQ,aJ,ZaM,aB,bh,ad,aa,aLC,Zbq,bF,iS,iL,iT,dS,eY,iZ,cP,bV,wN,wC,gN,bW,aV,bR,bN,fA,cq,cJ,cK,bM,cL,bT,cm,aCut,aH,pub,bL,dM,cO,eW,dW,c9,List.replicate,b9,cF,dO,dP,Nat.reduceSub,Nat.reduceAdd,dJ,fH,true_and,da,if_true,if_false,ite_true,ite_false,eK,dQ,gF,
 fX,gW,gX,gY,gZ,g6,g9,hJ,hU,hV,hW,hX,hZ,h8,h9,ia,ic,ig,ii,ij,ik,il,ip,iq,ir,iu,iw,Zb,iy,iz,iA,iB,iC,iD,iF,iG,iH,iI,iJ,iK,iM,iN,iO,iP,iQ,iR,iU,iV,iW,cV,iX,iY,i3,i4,i6,c7,c8])
local macro_rules | `(tactic| walk_at "st")=>`(tactic| ((try dsimp only at *);(try walk_at "w1");(try dsimp only)))
local macro_rules | `(tactic| walk_at "nx")=>`(tactic| ((try dsimp only);(refine a8 ?_);walk_at "st"))
theorem KW(a b:List Int):m6 (au a) (au b)=decide (a=b):=by
 unfold m6 au;rw[pd,pd,PyData.eqv]
 induction a generalizing b with
 |nil=>cases b<;>simp[ju,PyData.eqvAll]
 |cons x a ih=>
  cases b with
  |nil=>simp[ju,PyData.eqvAll]
  |cons y b=>
   rw[bL,bL,ju,ju,PyData.eqvAll,ih b,pd,pd,PyData.eqv,jN];simp
theorem Zl{s:List Int}{n m:Nat}{r:List Rat}(h:IsSl s n)(hm:∀x∈r,Sz m x):∀x∈cU s n r,Sz (5*(6+m+1)+1) x:=by
 intro x hx;unfold cU at hx;obtain⟨line,hl,rfl⟩:=YbT.mp hx;obtain⟨h1,h2⟩:=pP h line hl;refine Bj _ _ (λx hx=>?_) hm (by unfold ef;rw[aW,h1];exact h.n5);obtain⟨i,hi,rfl⟩:=YbT.mp hx;exact EC (h2 i hi)
theorem BT{s:List Int}{n:Nat}{p r:List Rat}(h:IsSl s n)(hp:p.length=n)(h1:∀x∈p,Sz 170 x)(h2:∀x∈r,Sz 170 x):BR p (cU s n r):=by
 refine⟨170,_,h1,Zl h h2,?_⟩;rw[hp];have h5:=h.n5;have:n*(170+(5*(6+170+1)+1)+1)<=5*(170+(5*(6+170+1)+1)+1):=ny _ h5;omega
theorem KY:∀ds E Q,BO ds E Q->BP E { nx:=λ_=>Q .non,rt:=Q } (aH Fm ds):=by
 rintro _ E Q ⟨x,rfl,hk,q⟩;unfold BP;walk_at "st";cases e:dC x with
 |false=>exact xS.err x rfl hk (kj e) (jx e q)
 |true=>
  obtain⟨s,n,rfl,h⟩:=km e;refine Jb h (xz (DY _ 59) (DY _ 59) ?_);replace q:=jy h q;unfold i7 at q;rw[dh] at q;simp only[da,if_false];rw[KW];exact q
theorem KZ:∀ds E Q,rL ds E Q->Zf E { nx:=λ_=>Q .non,rt:=Q } (aH Fn ds):=by
 rintro _ E Q ⟨x,rfl,hk,q⟩;unfold Zf;walk_at "st";cases e:dC x with
 |false=>exact xS.err x rfl hk (kj e) (jx e q)
 |true=>
  obtain⟨s,n,rfl,h⟩:=km e;replace q:=jy h q;refine xS.ok (au s) rfl hk (d7 h) ?_;walk_at "st";cases ev:i7 (au s) with
  |true=>rw[ev] at q;simpa[exQ] using q
  |false=>rw[ev] at q;simpa[exQ] using q
theorem K0:∀ds E Q,na ds E Q->BQ E { nx:=λ_=>Q .non,rt:=Q } (aH Fo ds):=by
 rintro _ E Q ⟨⟨x,y,z⟩,rfl,⟨hk,hk1,hk2,hs1,hs2⟩,q⟩;dsimp only at hk hk1 hk2 hs1 hs2 q;unfold BQ;walk_at "nx";cases e:dC x with
 |false=>exact xS.err x rfl hk (kj e) (jx e q)
 |true=>
 obtain⟨s,n,rfl,h⟩:=km e;replace q:=jy h q;cases ev:i7 (au s) with
 |false=>
  rw[ev] at q;exact xS.err (au s) rfl hk (by(try dsimp only);rw[d7 h,ev];rfl) q
 |true=>
 rw[ev,dh,h.sN] at q;simp only[if_true] at q;refine xS.ok (au s) rfl hk (v:=.non) (by(try dsimp only);rw[d7 h,ev];rfl) ?_;walk_at "nx";refine AR h hk1 ?_;walk_at "st";unfold BN at q;cases e1:gC n y with
 |false=>rw[e1] at q;simpa[exQ] using q
 |true=>
 obtain⟨p,rfl,hp'⟩:=AN e1;have hp:p.length=n:=by omega
 simp only[dQ,da,if_false];rw[e1] at q;cases e2:gC n z with
 |false=>
  rw[e2] at q;exact xS.err (au s,z) rfl ⟨hk,hk2,λr er=>⟨170,Zek.mp (by rw[<-er];exact hs2),by decide⟩⟩ (by(try dsimp only);rw[d7 h,h.sN,e2];rfl) (by simpa[exQ] using q)
 |true=>
 obtain⟨r,rfl,hr'⟩:=AN e2;have hr:r.length=n:=by omega
 rw[e2,pM,pM] at q;refine Je h hr ⟨170,Zek.mp hs2,by decide⟩ (D3 (BT h hp (Zek.mp hs1) (Zek.mp hs2)) ?_);simpa[exQ] using q
end LP
namespace L2
open PySem PySem.Spec PyProof.Rows
variable {X:Cx}{CX:jH}{E:XK}{pos:Pos}{c e:Expr}{es:List Expr}{tc:TE}{t:TA}
end L2
namespace LP
open PySem PySem.Spec PyProof.Rows L2
variable {X:Cx}{EX:XK}{pos:Pos}{c e:Expr}{es:List Expr}{wc:WE}{t:WA}{j:Nat}
def gEqS:G2:=λx y Q=>∃a b,x=.str a/\y=.str b/\Q (.bl (a==b))
theorem gEqS.mono:∀x y P P',(∀d,P d->P' d)->gEqS x y P->gEqS x y P':=λx y P P' hp ⟨a,b,h1,h2,h3⟩=>⟨a,b,h1,h2,hp _ h3⟩
local macro_rules | `(tactic| walk_at "w1")=>`(tactic| simp only [aj,bE,ax,bD,dg,aT,aZ,aU,fi,bS,bJ,bC,d6,cb,fV,aL,eh,df,wM,Zcp,eu,cH,fg,cG,dB,aX,wT,eO,w1,w2,wB,wF,wL,aQ,aJ,ZaM,aB,bh,ad,aa,aLC,Zbq,bF,iS,iL,iT,dS,eY,iZ,cP,bV,wN,wC,gN,bW,aV,bR,bN,fA,cq,cJ,cK,bM,cL,bT,cm,aCut,aH,pub,bL,dM,cO,eW,dW,c9,List.replicate,b9,cF,dO,dP,Nat.reduceSub,Nat.reduceAdd,dJ,fH,true_and,da,if_true,if_false,ite_true,ite_false,eK,dQ,gF,
 fX,gW,gX,gY,gZ,g6,g9,hJ,hU,hV,hW,hX,hZ,h8,h9,ia,ic,ig,ii,ij,ik,il,ip,iq,ir,iu,iw,Zb,iy,iz,iA,iB,iC,iD,iF,iG,iH,iI,iJ,iK,iM,iN,iO,iP,iQ,iR,iU,iV,iW,cV,iX,iY,i3,i4,i6,c7,c8])
local macro_rules | `(tactic| walk_at "st")=>`(tactic| ((try dsimp only at *);(try walk_at "w1");(try dsimp only)))
local macro_rules | `(tactic| walk_at "nx")=>`(tactic| ((try dsimp only);(refine a8 ?_);walk_at "st"))
namespace B.C
variable {E:Ex->Prop}{Q:D->Prop}{x y:D}{f l:List Rat}{t:List (List Int)}
theorem or_by{w w':WT}{E:Ex->Prop}{ρ:aN}{b c:Bool}(hw:∀ P:Bool->Prop,P b->w E ρ P)(hw':∀ P:Bool->Prop,P c->w' E ρ P):∀ P:Bool->Prop,P (b || c)->dB w w' E ρ P:=λP h=>hw _ (by
 cases b with
 |true=>rw[if_pos rfl];exact h
 |false=>rw[if_neg (by decide)];exact hw' _ h)
theorem for_seq{w:WE}{g:WG}{zb:WS}{E:Ex->Prop}{N:Nds}{ρ:aN}{xs:List D}(hw:∀P:D->Prop,P (.lst xs)->w E ρ P)(h:ZbW g zb E N xs ρ):aU (iS w) g zb E N ρ:=hw _ h
theorem one_at{a b:Int}{E:Ex->Prop}{ρ:aN}:∀P:D->Prop,P (.tup [.tup [.int a,.int b]])->aQ (ad (aQ (ad (wC (.int a)) (ad (wC (.int b)) aa))) aa) E ρ P:=λP h=>⟨show 2<=aw by decide,show 1<=aw by decide,h⟩
def okp(d:D):Prop:=∃a b,d=.tup [a,b]/\bx 7 a 3=true/\bx 7 b 3=true/\dl (.tup [a,b])=true
theorem okp.of{a b:D}(h1:bx 7 a 3=true)(h2:bx 7 b 3=true)(h3:dl (.tup [a,b])=true):okp (.tup [a,b]):=⟨a,b,rfl,h1,h2,h3⟩
theorem K1{a b:D}(h1:lL a=true)(h2:lZ a=true)(h:dl b=true):dl (.tup [a,b])=true/\dl (.tup [b,a])=true:=by
 refine ⟨E7 ?_,E7 ?_⟩<;>(
  rcases Bool.or_eq_true_iff.mp (show(lL b||lZ b)=true from h) with e|e
  .refine .inl λx hx=>?_
   simp only[Yaq,gh,or_false] at hx;rcases hx with rfl|rfl<;>assumption
  .refine .inr λx hx=>?_
   simp only[Yaq,gh,or_false] at hx;rcases hx with rfl|rfl<;>assumption)
theorem K2(r:List Rat):dl (ae r)=true:=by unfold dl;rw[BD];rfl
theorem Fq{r:List Rat}(h:r.length<=7)(hs:∀x∈r,Sz 223 x):bx 7 (ae r) 3=true:=BK _ (n:=2) (by decide) (Fk (by decide) h hs)
theorem okp.rows{p r:List Rat}(h1:p.length<=7)(h2:r.length<=7)(s1:∀x∈p,Sz 223 x)(s2:∀x∈r,Sz 223 x):okp (.tup [ae p,ae r]):=.of (Fq h1 s1) (Fq h2 s2) (K1 (BD _) (E6 _) (K2 _)).1
end B.C
def vt:aS:=fnS (λx:Nat×Nat=>[.int x.1,.int x.2]) (λx=>x.2<=5) λx=>ae (aA x.2 x.1)
section
variable{E:Ex->Prop}{Q:D->Prop}{x y:D}{s:List Int}{n k:Nat}{r:List Rat}
theorem Fs(h:n<=5)(q:Q (ae (aA n k))):vt [.int k,.int n] E Q:=⟨(k,n),rfl,h,q⟩
end
namespace B.C.E
variable {E:Ex->Prop}{Q:D->Prop}{x y:D}{s:List Int}{n k:Nat}{r:List Rat}{S T:List (List Rat)}
end B.C.E
abbrev Ft:List Str:=["place", "many"]
abbrev K3:List Str:=["place", "many"]
def BU:WS:=(aj (wF u5 (ad (wL (aLC (dS (ad (wN 1) aa)) 1 [0] (gN 0) bF (wB fT (ad (w2 (gEq false) (wN 0) (wN 1)) aa)))) aa)))
theorem eZ(n k:Nat):(aA n k).length=n:=by unfold aA;rw[aW,jc]
theorem K4(n k:Nat):ef ((List.range n).map λi:Nat=>if(i:Int)=(k:Int) then(1:Int) else 0)=aA n k:=by
 unfold ef aA;rw[cr];refine gE λi _=>?_;show(((if(i:Int)=(k:Int) then(1:Int) else 0):Int):Rat)=_
 by_cases e:i=k
 .rw[if_pos (by omega),if_pos e];rfl
 .rw[if_neg (by omega),if_neg e];rfl
theorem K6:∀ds E Q,vt ds E Q->BU E { nx:=λ_=>Q .non,rt:=Q } (aH Ft ds):=by
 rintro _ E Q ⟨⟨k,n⟩,rfl,h,q⟩;dsimp only at h q;unfold BU;walk_at "st";refine⟨by omega,by omega,?_⟩;rw[oN];refine jJ (g:=λi:Nat=>D.int (i:Int)) (f:=λi:Nat=>D.int (if(i:Int)=(k:Int) then 1 else 0)) (List.range n) (λi hi Q hq=>?_) .un [] (by simp[aw];omega) ?_
 .walk_at "st"
  by_cases e:(i:Int)=(k:Int)
  .rw[if_pos e] at hq
   simpa[e] using hq
  .rw[if_neg e] at hq
   simpa[e] using hq
 .have:=D2 (E:=E) (Q:=Q) (xs:=(List.range n).map λi:Nat=>if(i:Int)=(k:Int) then(1:Int) else 0) (by simp;omega) (by rw[K4];exact q)
  unfold cw at this;rw[cr] at this;exact this
def a9(a:List Rat)(s:Rat)(c:List Rat):List Rat:=List.zipWith (λl r=>l-s*r) a c
def nb(a:List Rat)(s:Rat):List Rat:=a.map λx=>x/s
def cW:List (List Rat)->Nat->Option Nat
 |[],_=>none
 |r::R,p=>if r.getD p 0=0 then(cW R p).map (· + 1) else some 0
def bu(R:List (List Rat))(lead:List Rat)(p:Nat):List (List Rat):=R.map λr=>a9 r (r.getD p 0) lead
structure Cl where
 ld:List (List Rat)
 pl:List Nat
 rs:List (List Rat)
def rM(R:List (List Rat))(a p:Nat):List Rat:=nb (R.getD a []) ((R.getD a []).getD p 0)
def rN(p:Nat)(x:Cl):Cl:=match cW x.rs p with
 |none=>x
 |some a=>⟨bu x.ld (rM x.rs a p) p++[rM x.rs a p],x.pl++[p],bu (x.rs.take a++x.rs.drop (a+1)) (rM x.rs a p) p⟩
def cj(R:List (List Rat)):Nat->Cl
 |0=>⟨[],[],R⟩
 |p+1=>rN p (cj R p)
structure Lf(b m:Nat)(row:List Rat):Prop where
 ex:∃(c:List Int) (e:Int),c.length=m/\e≠0/\e.natAbs<2^b/\(∀x∈c,x.natAbs<2^b)/\row=c.map λx=>Rat.divInt x e
theorem Lf.len{b m:Nat}{row:List Rat}(h:Lf b m row):row.length=m:=by
 obtain⟨c,e,h1,_,_,_,rfl⟩:=h.ex;rw[aW];exact h1
theorem Lf.mono{b b' m:Nat}{row:List Rat}(l:b<=b')(h:Lf b m row):Lf b' m row:=by
 obtain⟨c,e,h1,h2,h3,h4,h5⟩:=h.ex;have p:2^b<=2^b':=l6 (by decide) l;exact⟨c,e,h1,h2,cv h3 p,λx hx=>cv (h4 x hx) p,h5⟩
theorem Lf.sz{b m:Nat}{row:List Rat}(h:Lf b m row):∀x∈row,Sz b x:=by
 obtain⟨c,e,h1,h2,h3,h4,rfl⟩:=h.ex;intro x hx;obtain⟨y,hy,rfl⟩:=YbT.mp hx;exact sJ h2 (h4 y hy) h3
theorem Lf.get{b m k:Nat}{row:List Rat}(h:Lf b m row)(hk:k<m):row[k]? = some (row.getD k 0)/\Sz b (row.getD k 0):=by
 have e:row[k]? = some (row.getD k 0):=by rw[aM,bG (by rw[h.len];exact hk)];rfl
 exact⟨e,h.sz _ (jE e)⟩
theorem Lf.int{b:Nat}{c:List Int}(hb:0<b)(h:∀x∈c,x.natAbs<2^b):Lf b c.length (ef c):=by
 refine⟨c,1,rfl,by decide,?_,h,?_⟩
 .show 1<2^b
  exact tp (by omega)
 .unfold ef
  exact gE λx _=>by have:=tx (x:Rat);rw[wy,wz] at this;exact this.symm
theorem K7{c e:Int}(he:e≠0):Rat.divInt c e≠0↔c≠0:=by
 constructor
 .rintro h rfl
  exact h (zA e)
 .intro h z
  have e1:Rat.divInt c e*Rat.divInt e c=1:=by
   rw[tB,sf e c];have:=zB (n:=1) (d:=1) (md h he);rw[tw] at this;rw[this];rfl
  rw[z,eL] at e1;exact Ot e1 (by decide)
theorem Lf.norm{b m p:Nat}{row:List Rat}(h:Lf b m row)(hp:p<m)(h0:row.getD p 0≠0):Lf b m (nb row (row.getD p 0)):=by
 obtain⟨c,e,h1,h2,h3,h4,rfl⟩:=h.ex;have hc:c[p]? = some (c.getD p 0):=by rw[aM,bG (by omega)];rfl
 have eg:(c.map λx=>Rat.divInt x e).getD p 0=Rat.divInt (c.getD p 0) e:=by
  rw[aM,cc,hc];rfl
 rw[eg] at h0 ⊢;have hc0:c.getD p 0≠0:=(K7 h2).mp h0;refine⟨c,c.getD p 0,h1,hc0,h4 _ (jE hc),h4,?_⟩;unfold nb;rw[cr];refine gE λx _=>?_;show Rat.divInt x e/(Rat.divInt (c.getD p 0) e)=Rat.divInt x (c.getD p 0);rw[gj,Rat.inv_divInt,tB _ _ ,sf e];exact zB h2
theorem K9{b:Nat}{w x y z:Int}(h1:w.natAbs<2^b)(h2:x.natAbs<2^b)(h3:y.natAbs<2^b)(h4:z.natAbs<2^b):(w*x-y*z).natAbs<2^(2*b+1):=by
 have m1:(w*x).natAbs<2^b*2^b:=by rw[dE];exact o4 h1 h2
 have m2:(y*z).natAbs<2^b*2^b:=by rw[dE];exact o4 h3 h4
 have:=wJ (w*x) (y*z);rw[tm,show 2*b=b+b by omega,jO];omega
theorem Lf.less{b m p:Nat}{row piv:List Rat}(h:Lf b m row)(hq:Lf b m piv)(hp:p<m):Lf (2*b+1) m (a9 row (row.getD p 0) piv):=by
 obtain⟨c,e,h1,h2,h3,h4,rfl⟩:=h.ex;obtain⟨d,f,g1,g2,g3,g4,rfl⟩:=hq.ex;have hc:c[p]? = some (c.getD p 0):=by rw[aM,bG (by omega)];rfl
 have eg:(c.map λx=>Rat.divInt x e).getD p 0=Rat.divInt (c.getD p 0) e:=by
  rw[aM,cc,hc];rfl
 rw[eg];have bc:(c.getD p 0).natAbs<2^b:=h4 _ (jE hc);refine⟨List.zipWith (λx y=>x*f-c.getD p 0*y) c d,e*f,by rw[qg];omega,md h2 g2,?_,λz hz=>?_,?_⟩
 .rw[dE,tm,show 2*b=b+b by omega,jO]
  have:=o4 h3 g3;omega
 .obtain⟨i,hi,e1⟩:=Ybm.mp hz
  rw[zC] at e1;rw[<-e1];exact K9 (h4 _ (qd _)) g3 bc (g4 _ (qd _))
 .unfold a9
  rw[List.zipWith_map,zD];refine congrArg (λg=>List.zipWith g c d) ?_;funext x y;rw[tB,Rat.divInt_sub_divInt _ _ h2 (md h2 g2)];rw[show x*(e*f)-c.getD p 0*y*e=(x*f-c.getD p 0*y)*e by grind,sf e (e*f)];exact(zB h2)
def bq(b:Nat):Nat->Nat
 |0=>b
 |k+1=>2*bq b k+1
theorem sK{b:Nat}:∀{k k':Nat},k<=k'->bq b k<=bq b k'
 |k,0,h=>by rw[Nat.le_zero.mp h];exact bb _
 |k,k'+1,h=>by
  by_cases e:k=k'+1
  .rw[e];exact bb _
  .have:=sK (b:=b) (k:=k) (k':=k') (by omega)
   rw[bq];omega
theorem sL:∀{R:List (List Rat)} {p a:Nat},cW R p=some a->a<R.length/\(R.getD a []).getD p 0≠0
 |[],_,_,h=>nomatch h
 |r::R,p,a,h=>by
  rw[cW] at h;split at h
  .cases e:cW R p with
   |none=>rw[e] at h;cases h
   |some b=>
    rw[e] at h;have h':b+1=a:=by simpa using h
    subst h';obtain⟨h1,h2⟩:=sL e;exact⟨by simpa using h1,by simpa using h2⟩
  .rename_i h0
   have h':0=a:=by simpa using h
   subst h';exact⟨by simp,by simpa using h0⟩
structure oP(b w p m:Nat)(x:Cl):Prop where
 ld:∀r∈x.ld,Lf (bq b p) w r
 rs:∀r∈x.rs,Lf (bq b p) w r
 ln:x.ld.length+x.rs.length=m
 pl:x.pl.length=x.ld.length
 lt:∀a∈x.pl,a<p
theorem eC{R:List (List Rat)}{a:Nat}(h:a<R.length):R.getD a []∈R:=by
 rw[aM,bG h];exact qd _
theorem jA{α:Type}{R:List α}{a:Nat}{r:α}(h:r∈R.take a++R.drop (a+1)):r∈R:=by
 rcases Yar.mp h with h|h
 .exact oZ h
 .exact kE h
theorem Fu{b w p m a:Nat}{x:Cl}(h:oP b w p m x)(hp:p<w)(e:cW x.rs p=some a):Lf (bq b p) w (rM x.rs a p):=by
 obtain⟨h1,h2⟩:=sL e;exact(h.rs _ (eC h1)).norm hp h2
theorem La{b w p m:Nat}{x:Cl}(h:oP b w p m x)(hp:p<w):oP b w (p+1) m (rN p x):=by
 have up:bq b p<=bq b (p+1):=sK (by omega);unfold rN;split
 .exact⟨λr hr=>(h.ld r hr).mono up,λr hr=>(h.rs r hr).mono up,h.ln,h.pl,λa ha=>wK (h.lt a ha)⟩
 .rename_i a e
  have hl:=Fu h hp e;obtain⟨h1,h2⟩:=sL e;have ln:=h.ln;refine⟨λr hr=>?_,λr hr=>?_,?_,?_,λc hc=>?_⟩
  .rcases Yar.mp hr with hr|hr
   .unfold bu at hr
    obtain⟨r0,hr0,rfl⟩:=YbT.mp hr;exact(h.ld r0 hr0).less hl hp
   .rw[Ycn.mp hr];exact hl.mono up
  .unfold bu at hr
   obtain⟨r0,hr0,rfl⟩:=YbT.mp hr;exact(h.rs r0 (jA hr0)).less hl hp
  .show(bu _ _ _++[_]).length+(bu _ _ _).length=m
   unfold bu;simp only[dj,aW,kS,jf,jM];omega
  .show(x.pl++[p]).length=(bu _ _ _++[_]).length
   unfold bu;rw[dj,dj,aW,h.pl];rfl
  .rcases Yar.mp hc with hc|hc
   .exact wK (h.lt c hc)
   .rw[Ycn.mp hc];exact zd p
theorem BV{b w:Nat}{R:List (List Rat)}(h:∀r∈R,Lf b w r):∀{p:Nat},p<=w->oP b w p R.length (cj R p)
 |0,_=>⟨(λr hr=>by cases hr),h,(by simp[cj]),rfl,(λa ha=>by cases ha)⟩
 |p+1,hp=>La (BV h (by omega)) (by omega)
def aF(R:List (List Rat)):D:=.lst (R.map ae)
def jK(xs:List Nat):D:=.lst (xs.map λ(k:Nat)=>D.int (k:Int))
def oQ:Option Nat->D
 |none=>.non
 |some a=>.int (a:Int)
def Rz(b w:Nat)(R:List (List Rat)):Prop:=∀r∈R,r.length=w/\∀x∈r,Sz b x
def yb:aS:=fnS (λx:Nat×List Rat×Rat=>[ae x.2.1,ay x.2.2]) (λx=>2*x.1<8990/\x.2.1.length<=1000/\(∀y∈x.2.1,Sz x.1 y)/\Sz x.1 x.2.2/\x.2.2≠0) λx=>ae (nb x.2.1 x.2.2)
def rO:aS:=fnS (λx:(Nat×Rat)×List Rat×List Rat=>[ae x.2.1,ay x.1.2,ae x.2.2]) (λx=>3*x.1.1<8990/\x.2.1.length<=1000/\(∀y∈x.2.1,Sz x.1.1 y)/\Sz x.1.1 x.1.2/\∀y∈x.2.2,Sz x.1.1 y) λx=>ae (a9 x.2.1 x.1.2 x.2.2)
def yc:aS:=fnS (λx:Nat×List (List Rat)=>[aF x.2,.int x.1]) (λx=>x.2.length<=1000/\∀r∈x.2,x.1<r.length) λx=>oQ (cW x.2 x.1)
def vv:aS:=fnS (λx:((Nat×Nat)×Nat)×List (List Rat)×List Rat=>[aF x.2.1,ae x.2.2,.int x.1.2]) (λx=>3*x.1.1.1<8990/\x.1.1.2<=1000/\x.2.1.length<=1000/\x.1.2<x.1.1.2/\Rz x.1.1.1 x.1.1.2 x.2.1/\∀y∈x.2.2,Sz x.1.1.1 y) λx=>aF (bu x.2.1 x.2.2 x.1.2)
structure lP(b w m:Nat)(R:List (List Rat)):Prop where
 mw:m<=w
 w1:w<=1000
 len:R.length<=1000
 bits:3*bq b (m-1)<8990
 lf:∀r∈R,Lf b w r
def vw:aS:=fnS (λx:((Nat×Nat)×Nat)×List (List Rat)=>[aF x.2,.int x.1.2]) (λx=>lP x.1.1.1 x.1.1.2 x.1.2 x.2) λx=>.tup [aF (cj x.2 x.1.2).ld,jK (cj x.2 x.1.2).pl]
def lQ(place n:Nat)(L:List (List Rat))(pl:List Nat):List Rat:=(L.zip pl).foldl (λrow x=>row.set x.2 (0-x.1.getD place 0)) (aA n place)
def dU(s:List Int)(n:Nat):List (List Rat):=(tbl s n).map ef
def bP(s:List Int)(n:Nat):Cl:=cj (dU s n) n
def fE(s:List Int)(n:Nat):List (List Rat):=((List.range n).filter λp=>!(bP s n).pl.contains p).map λp=>lQ p n (bP s n).ld (bP s n).pl
def yd:aS:=fnS (λx:(Nat×Nat)×List (List Rat)×List Nat=>[.int x.1.1,.int x.1.2,aF x.2.1,jK x.2.2]) (λx=>x.1.1<x.1.2/\x.1.2<=5/\x.2.1.length<=5/\(∀r∈x.2.1,r.length=x.1.2/\∀y∈r,Sz 223 y)/\∀a∈x.2.2,a<x.1.2) λx=>ae (lQ x.1.1 x.1.2 x.2.1 x.2.2)
def ye(x:D):Except Str D:=eI x (.ok (aF (fE (sI x) (sN x))))
def BW(x:D):Except Str D:=eI x (.ok (.int ((fE (sI x) (sN x)).length:Int)))
def vz:aS:=xS (λx:D=>[x]) (λx=>kd x=true) ye
def vA:aS:=xS (λx:D=>[x]) (λx=>kd x=true) BW
section
variable{E:Ex->Prop}{Q:D->Prop}{x y:D}{s:List Int}{n k b w m p:Nat}{r t lead:List Rat}{R L:List (List Rat)}{q0:Rat}{pl:List Nat}
theorem Lc(h1:2*b<8990)(h2:r.length<=1000)(h3:∀y∈r,Sz b y)(h4:Sz b q0)(h5:q0≠0)(q:Q (ae (nb r q0))):yb [ae r,ay q0] E Q:=⟨(b,r,q0),rfl,⟨h1,h2,h3,h4,h5⟩,q⟩
theorem BX(h1:3*b<8990)(h2:r.length<=1000)(h3:∀y∈r,Sz b y)(h4:Sz b q0)(h5:∀y∈t,Sz b y)(q:Q (ae (a9 r q0 t))):rO [ae r,ay q0,ae t] E Q:=⟨((b,q0),r,t),rfl,⟨h1,h2,h3,h4,h5⟩,q⟩
theorem Le(h1:R.length<=1000)(h2:∀r∈R,p<r.length)(q:Q (oQ (cW R p))):yc [aF R,.int p] E Q:=⟨(p,R),rfl,⟨h1,h2⟩,q⟩
theorem Fv(h1:3*b<8990)(h2:w<=1000)(h3:R.length<=1000)(h4:p<w)(h5:Rz b w R)(h6:∀y∈lead,Sz b y)(q:Q (aF (bu R lead p))):vv [aF R,ae lead,.int p] E Q:=⟨(((b,w),p),R,lead),rfl,⟨h1,h2,h3,h4,h5,h6⟩,q⟩
theorem Fw(h:lP b w m R)(q:Q (.tup [aF (cj R m).ld,jK (cj R m).pl])):vw [aF R,.int m] E Q:=⟨(((b,w),m),R),rfl,h,q⟩
theorem Lg(h1:p<n)(h2:n<=5)(h3:L.length<=5)(h4:∀r∈L,r.length=n/\∀y∈r,Sz 223 y)(h5:∀a∈pl,a<n)(q:Q (ae (lQ p n L pl))):yd [.int p,.int n,aF L,jK pl] E Q:=⟨((p,n),L,pl),rfl,⟨h1,h2,h3,h4,h5⟩,q⟩
end
abbrev Fx:List Str:=["row", "share"]
abbrev Lh:List Str:=["row", "share"]
def yf:WS:=(aj (wB gR (ad (wL (aLC (iS (wN 0)) 1 [1] (gN 0) bF (wF m7 (ad (wN 0) (ad (wN 1) aa))))) aa)))
abbrev Fy:List Str:=["one", "share", "other"]
abbrev Li:List Str:=["one", "share", "other"]
def yg:WS:=(aj (wB gR (ad (wL (aLC (iZ (ad (wN 0) (ad (wN 2) aa))) 2 [1] (bW 2 (aV (gN 0) (aV (gN 1) bR))) bF (wF pL (ad (wN 0) (ad (wF rn (ad (wN 2) (ad (wN 1) aa))) aa))))) aa)))
abbrev Fz:List Str:=["rows", "place", "at", "row"]
abbrev Lj:List Str:=["rows", "place"]
def yh:WS:=(ai (aL (aU (iE (ad (wN 0) aa)) (bW 2 (aV (gN 2) (aV (gN 3) bR))) (bE (wT (w2 (gEq true) (w2 gIx (wN 3) (wN 1)) (wC (D.tup [(D.int (0)),(D.int (1))])))) (aj (wN 2)) bD))) (aj (wC D.non)))
abbrev FA:List Str:=["rows", "lead", "place"]
abbrev Lk:List Str:=["rows", "lead", "place"]
def yi:WS:=(aj (wL (aLC (iS (wN 0)) 1 [1,2] (gN 0) bF (wF rO (ad (wN 0) (ad (w2 gIx (wN 0) (wN 2)) (ad (wN 1) aa)))))))
abbrev FC:List Str:=["rows", "many", "leading", "places", "rest", "place", "at", "lead"]
abbrev Ll:List Str:=["rows", "many"]
def yj:WS:=(ai (ax 2 (wL (bh aa))) (ai (aZ 3 (bh aa)) (ai (ax 4 (wL (aB (fh (α:=Unit)) (ad (wN 0) aa)))) (ai (aL (aU (dS (ad (wN 1) aa)) (gN 5) (ai (ax 6 (wF yc (ad (wN 4) (ad (wN 5) aa)))) (bE (wT (w2 (gIsC true) (wN 6) (wC D.non))) (ai (ax 7 (wF yb (ad (w2 gIx (wN 4) (wN 6)) (ad (w2 gIx (w2 gIx (wN 4) (wN 6)) (wN 5)) aa)))) (ai (ax 2 (w2 gAdd (wF vv (ad (wN 2) (ad (wN 7) (ad (wN 5) aa)))) (wL (bh (ad (wN 7) aa))))) (ai (ax 4 (wF vv (ad (w2 gAdd (aJ (wN 4) cP (bV (wN 6))) (aJ (wN 4) (bV (w2 gAdd (wN 6) (wC (D.int (1))))) cP)) (ad (wN 7) (ad (wN 5) aa))))) (bC 3 (wN 5))))) bD)))) (aT 3 (aj (aQ (ad (wN 2) (ad (wN 3) aa)))))))))
abbrev FD:List Str:=["place", "size", "leading", "places", "row", "lead", "at"]
abbrev Lm:List Str:=["place", "size", "leading", "places"]
def ym:WS:=(ai (aZ 4 (aB (fh (α:=Unit)) (ad (wF vt (ad (wN 0) (ad (wN 1) aa))) aa))) (ai (aL (aU (iZ (ad (wN 2) (ad (wN 3) aa))) (bW 2 (aV (gN 5) (aV (gN 6) bR))) (d6 4 (wN 6) (wF pL (ad (wC (D.tup [(D.int (0)),(D.int (1))])) (ad (w2 gIx (wN 5) (wN 0)) aa)))))) (aT 4 (aj (wB gR (ad (wN 4) aa))))))
abbrev FE:List Str:=["slants", "size", "leading", "places"]
abbrev Ln:List Str:=["slants"]
def BY:WS:=(ai (dg (wF m8 (ad (wN 0) aa))) (ai (ax 1 (wF lX (ad (wN 0) aa))) (ai (bJ (wF vw (ad (wF u9 (ad (wN 0) aa)) (ad (wN 1) aa))) (bW 2 (aV (gN 2) (aV (gN 3) bR)))) (aj (wL (aLC (dS (ad (wN 1) aa)) 1 [1,2,3] (gN 0) (wT (w2 (gIn true) (wN 0) (wN 3))) (wF yd (ad (wN 0) (ad (wN 1) (ad (wN 2) (ad (wN 3) aa)))))))))))
abbrev FF:List Str:=["slants"]
abbrev Lo:List Str:=["slants"]
def BZ:WS:=(aj (wB bA (ad (wF vz (ad (wN 0) aa)) aa)))
local macro_rules | `(tactic| walk_at "w1")=>`(tactic| simp only [aj,bE,ax,bD,dg,aT,aZ,aU,fi,bS,bJ,bC,d6,cb,fV,aL,eh,df,wM,Zcp,eu,cH,fg,cG,dB,aX,wT,eO,w1,w2,wB,wF,wL,aQ,aJ,ZaM,aB,bh,ad,aa,aLC,Zbq,bF,iS,iE,iL,iT,dS,eY,iZ,cP,bV,wN,wC,gN,bW,aV,bR,bN,fA,cq,cJ,cK,bM,cL,bT,cm,aCut,aH,pub,bL,dM,cO,eW,dW,c9,List.replicate,b9,cF,dO,dP,Nat.reduceSub,Nat.reduceAdd,dJ,fH,true_and,da,if_true,if_false,ite_true,ite_false,eK,dQ,gF,
 fX,gW,gX,gY,gZ,g6,g9,hJ,hU,hV,hW,hX,hZ,h8,h9,ia,ic,ig,ii,ij,ik,il,ip,iq,ir,iu,iw,Zb,iy,iz,iA,iB,iC,iD,iF,iG,iH,iI,iJ,iK,iM,iN,iO,iP,iQ,iR,iU,iV,iW,cV,iX,iY,i3,i4,i6,c7,c8])
theorem Lp:∀ds E Q,yb ds E Q->yf E { nx:=λ_=>Q .non,rt:=Q } (aH Fx ds):=by
 rintro _ E Q ⟨⟨b,r,q0⟩,rfl,⟨h1,h2,h3,h4,h5⟩,q⟩;dsimp only at h1 h2 h3 h4 h5 q;show yf E _ [.d (ae r),.d (ay q0)];unfold yf ae;walk_at "st";refine jJ (g:=ay) (f:=λx:Rat=>ay (x/q0)) r (λx hx Q hq=>?_) .un [] (by simp[aw];omega) ?_
 .walk_at "st"
  exact va (B2.of (h3 x hx) h4 (by omega)) h5 hq
 .walk_at "st"
  unfold ae nb at q;rw[cr] at q;exact q
theorem FG{we:WE}{tail:aN}{Q:List D->Prop}{f:Rat->Rat->D}:∀(A C:List Rat),(∀x∈A,∀y∈C,∀Q:D->Prop,Q (f x y)->we No (.d (ay x)::.d (ay y)::tail) Q)->∀(sv sv':SV) (acc:List D),acc.length+A.length<=aw->Q (acc++List.zipWith f A C)->lcW (bW 2 (aV (gN 0) (aV (gN 1) bR))) bF we (bK (A.map ay) (C.map ay)) (sv::sv'::tail) acc Q
 |[],C,_,sv,sv',acc,_,hq=>by simpa[lcW,bK] using hq
 |x::A,[],_,sv,sv',acc,_,hq=>by simpa[lcW,bK] using hq
 |x::A,y::C,h,sv,sv',acc,hl,hq=>by
  have e:bK ((x::A).map ay) ((y::C).map ay)=.tup [ay x,ay y]::bK (A.map ay) (C.map ay):=by simp[bK]
  rw[e,lcW];refine⟨rfl,?_⟩;rw[cO] at hl;refine h x (by simp) y (by simp) _ ⟨by omega,FG A C (λa ha c hc=>h a (by simp[ha]) c (by simp[hc])) _ _ _ (by simp;omega) ?_⟩;rw[nu];simpa using hq
theorem Lq:∀ds E Q,rO ds E Q->yg E { nx:=λ_=>Q .non,rt:=Q } (aH Fy ds):=by
 rintro _ E Q ⟨⟨⟨b,q0⟩,r,t⟩,rfl,⟨h1,h2,h3,h4,h5⟩,q⟩;dsimp only at h1 h2 h3 h4 h5 q;show yg E _ [.d (ae r),.d (ay q0),.d (ae t)];unfold yg ae;walk_at "st";refine FG (f:=λx y=>ay (x-q0*y)) r t (λx hx y hy Q hq=>?_) .un .un [] (by simp[aw];omega) ?_
 .walk_at "st"
  exact IV (B2.of h4 (h5 y hy) (by omega)) (AM (B2.of (h3 x hx) (h4.mul (h5 y hy)) (by omega)) hq)
 .walk_at "st"
  unfold ae a9 at q;rw[zD] at q;exact q
theorem Lr(q:Rat):(if true=true then !m6 (ay q) (.tup [.int 0,.int 1]) else m6 (ay q) (.tup [.int 0,.int 1])) = !decide (q=0):=by
 rw[if_pos rfl,<-BI,Fd]
theorem FH{p:Nat}{Q:D->Prop}{E:Ex->Prop}{N:Nds}{s0:SV}(hN:N.rt=Q):∀(R:List (List Rat)) (k:Nat) (s2 s3:SV),(∀r∈R,p<r.length)->(∀a,cW R p=some a->Q (.int ((k+a:Nat):Int)))->(cW R p=none->∀s2 s3,N.nx [s0,.d (.int p),s2,s3])->ZbW (bW 2 (aV (gN 2) (aV (gN 3) bR))) (bE (wT (w2 (gEq true) (w2 gIx (wN 3) (wN 1)) (wC (D.tup [(D.int (0)),(D.int (1))])))) (aj (wN 2)) bD) E N (cx k (R.map ae)) [s0,.d (.int p),s2,s3]
 |[],k,s2,s3,_,_,h2=>h2 rfl s2 s3
 |r::R,k,s2,s3,hp,h1,h2=>by
  rw[bL,cx,ZbW];refine⟨rfl,?_⟩;simp only[aV,bR,gN,dP,dO];have hr:=hp r (by simp);have e1:(r.map ay)[p]? = some (ay (r.getD p 0)):=by
   rw[cc,aM,bG hr];rfl
  refine fW (b:=!decide (r.getD p 0=0)) (λP hP=>?_) (λe=>?_) λe=>?_
  .unfold ae
   walk_at "st";refine⟨_,cD e1,xz (uY _ 59) (by decide +kernel) ?_⟩;rw[Lr];exact hP
  .have e0:¬r.getD p 0=0:=by simpa using e
   have:=h1 0 (by rw[cW,if_neg e0]);rw[<-hN] at this;exact this
  .have e0:r.getD p 0=0:=by simpa using e
   refine FH hN R (k+1) _ _ (λx hx=>hp x (by simp[hx])) (λa ha=>?_) λhn=>?_
   .have:=h1 (a+1) (by rw[cW,if_pos e0,ha];rfl)
    rw[show k+1+a=k+(a+1) by omega];exact this
   .exact h2 (by rw[cW,if_pos e0,hn];rfl)
theorem Ls:∀ds E Q,yc ds E Q->yh E { nx:=λ_=>Q .non,rt:=Q } (aH Fz ds):=by
 rintro _ E Q ⟨⟨p,R⟩,rfl,⟨h1,h2⟩,q⟩;dsimp only at h1 h2 q;show yh E _ [.d (aF R),.d (.int p),.un,.un];unfold yh aF;refine a8 ?_;simp only[aL,aU,iE,ad,aa,wN,b9];refine FH (Q:=Q) rfl R 0 .un .un h2 (λa ha=>?_) λhn s2 s3=>?_
 .rw[ha] at q
  rw[qi];exact q
 .rw[hn] at q
  exact q
theorem Lu:∀ds E Q,vv ds E Q->yi E { nx:=λ_=>Q .non,rt:=Q } (aH FA ds):=by
 rintro _ E Q ⟨⟨⟨⟨b,w⟩,p⟩,R,lead⟩,rfl,⟨h1,h2,h3,h4,h5,h6⟩,q⟩;dsimp only at h1 h2 h3 h4 h5 h6 q;show yi E _ [.d (aF R),.d (ae lead),.d (.int p)];unfold yi aF;walk_at "st";refine jJ (g:=ae) (f:=λr:List Rat=>ae (a9 r (r.getD p 0) lead)) R (λr hr Q hq=>?_) .un [] (by simp[aw];omega) ?_
 .obtain⟨hl,hs⟩:=h5 r hr
  have e0:r[p]? = some (r.getD p 0):=by rw[aM,bG (by omega)];rfl
  have e1:(r.map ay)[p]? = some (ay (r.getD p 0)):=by rw[cc,e0];rfl
  simp only[wF,ad,aa,wN,w2,b9,cF];exact⟨_,cD e1,BX h1 (by omega) hs (hs _ (jE e0)) h6 hq⟩
 .unfold aF bu at q
  rw[cr] at q;exact q
theorem fY{i:Nat}{w:WE}{E:Ex->Prop}{N:Nds}{ρ ρ':aN}{d:D}(e:ρ.set i (.d d)=ρ')(hw:∀P:D->Prop,P d->w E ρ P)(h:N.nx ρ'):ax i w E N ρ:=hw _ (by rw[e];exact h)
theorem vB{i:Nat}{w:WE}{E:Ex->Prop}{N:Nds}{ρ ρ':aN}{xs:List D}{d:D}(e:ρ[i]? = some (.ow xs))(hl:xs.length<aw)(e2:ρ.set i (.ow (xs++[d]))=ρ')(hw:∀P:D->Prop,P d->w E ρ P)(h:N.nx ρ'):bC i w E N ρ:=by
 unfold bC;rw[e];exact hw _ ⟨hl,by rw[e2];exact h⟩
theorem FI{R:List (List Rat)}{k:Nat}(h:k<R.length):ee (R.map ae) (k:Int)=some (ae (R.getD k [])):=by
 refine cD ?_;rw[cc,aM,bG h];rfl
theorem FJ{r:List Rat}{k:Nat}(h:k<r.length):ee (r.map ay) (k:Int)=some (ay (r.getD k 0)):=by
 refine cD ?_;rw[cc,aM,bG h];rfl
theorem Lv:∀ds E Q,vw ds E Q->yj E { nx:=λ_=>Q .non,rt:=Q } (aH FC ds):=by
 rintro _ E Q ⟨⟨⟨⟨b,w⟩,m⟩,R⟩,rfl,h,q⟩;dsimp only at h q;obtain⟨mw,w1,hl,hb,hlf⟩:=h;show yj E _ [.d (aF R),.d (.int m),.un,.un,.un,.un,.un,.un];unfold yj;refine a8 (fY (d:=aF []) (ρ':=[.d (aF R),.d (.int m),.d (aF []),.un,.un,.un,.un,.un]) (by rfl) (λP hP=>⟨by decide,hP⟩) ?_);dsimp only;refine a8 (B.C.own_by (xs:=[]) (ρ':=[.d (aF R),.d (.int m),.d (aF []),.ow [],.un,.un,.un,.un]) (by rfl) (λP hP=>⟨by decide,hP⟩) ?_);dsimp only;refine a8 (fY (d:=aF R) (ρ':=[.d (aF R),.d (.int m),.d (aF []),.ow [],.d (aF R),.un,.un,.un]) (by rfl) (λP hP=>?_) ?_)
 .unfold aF
  walk_at "st";exact hP
 dsimp only;refine a8 ?_;simp only[aL,aU];walk_at "st";refine⟨by omega,by omega,?_⟩;refine Ko (λp ρ=>∃s5 s6 s7,ρ=[.d (aF R),.d (.int m),.d (aF (cj R p).ld),.ow ((cj R p).pl.map λ(k:Nat)=>D.int (k:Int)),.d (aF (cj R p).rs),s5,s6,s7]) m ?_ ?_ _ ⟨_,_,_,rfl⟩
 rotate_left
 .rintro _ ⟨s5,s6,s7,rfl⟩
  dsimp only;refine B.C.pub_by (ρ':=[.d (aF R),.d (.int m),.d (aF (cj R m).ld),.d (jK (cj R m).pl),.d (aF (cj R m).rs),s5,s6,s7]) rfl ?_;walk_at "st";exact⟨by decide,q⟩
 rintro p hp _ ⟨s5,s6,s7,rfl⟩ nx hnx;have ok:=BV hlf (p:=p) (by omega);have hbp:3*bq b p<8990:=by have:=sK (b:=b) (show p<=m-1 by omega);omega
 rw[show cj R (p+1)=rN p (cj R p) from rfl] at hnx;generalize cj R p=x at ok hnx;have ln:=ok.ln;have lp:=ok.pl;have rl:∀r∈x.rs,r.length=w:=λr hr=>(ok.rs r hr).len;show ai _ _ _ _ [.d (aF R),.d (.int m),.d (aF x.ld),.ow (x.pl.map λ(k:Nat)=>D.int (k:Int)),.d (aF x.rs),.d (.int p),s6,s7];refine a8 (fY (d:=oQ (cW x.rs p)) (ρ':=[.d (aF R),.d (.int m),.d (aF x.ld),.ow (x.pl.map λ(k:Nat)=>D.int (k:Int)),.d (aF x.rs),.d (.int p),.d (oQ (cW x.rs p)),s7]) (by rfl) (λP hP=>?_) ?_)
 .simp only[wF,ad,aa,wN,b9,cF]
  exact Le (by omega) (λr hr=>by rw[rl r hr];omega) hP
 dsimp only;unfold rN at hnx;cases e:cW x.rs p with
 |none=>
  rw[e] at hnx;refine fW (b:=false) (λP hP=>?_) (λe=>nomatch e) λ_=>hnx _ ⟨_,_,_,rfl⟩;walk_at "st";exact⟨rfl,hP⟩
 |some a=>
  rw[e] at hnx;dsimp only at hnx;obtain⟨a1,a2⟩:=sL e;have la:=ok.rs _ (eC a1);have hlead:=Fu ok (by omega) e;refine fW (b:=true) (λP hP=>?_) (λ_=>?_) λe=>nomatch e
  .walk_at "st"
   exact⟨rfl,hP⟩
  have hpa:p<(x.rs.getD a []).length:=by rw[rl _ (eC a1)];omega
  refine a8 (fY (d:=ae (rM x.rs a p)) (ρ':=[.d (aF R),.d (.int m),.d (aF x.ld),.ow (x.pl.map λ(k:Nat)=>D.int (k:Int)),.d (aF x.rs),.d (.int p),.d (.int a),.d (ae (rM x.rs a p))]) (by rfl) (λP hP=>?_) ?_)
  .show wF _ _ No [.d (aF R),.d (.int m),.d (aF x.ld),.ow (x.pl.map λ(k:Nat)=>D.int (k:Int)),.d (.lst (x.rs.map ae)),.d (.int p),.d (.int a),s7] P
   simp only[wF,ad,aa,wN,w2,b9,cF];refine⟨_,FI a1,_,FI a1,_,FJ hpa,?_⟩;exact Lc (b:=bq b p) (by omega) (by rw[rl _ (eC a1)];omega) la.sz (la.get (by omega)).2 a2 hP
  dsimp only;generalize rM x.rs a p=lead at hlead hnx;refine a8 (fY (d:=aF (bu x.ld lead p++[lead])) (ρ':=[.d (aF R),.d (.int m),.d (aF (bu x.ld lead p++[lead])),.ow (x.pl.map λ(k:Nat)=>D.int (k:Int)),.d (aF x.rs),.d (.int p),.d (.int a),.d (ae lead)]) (by rfl) (λP hP=>?_) ?_)
  .simp only[wF,ad,aa,wN,w2,wL,bh,b9,cF]
   refine Fv (b:=bq b p) (w:=w) hbp w1 (by omega) (by omega) (λr hr=>⟨(ok.ld r hr).len,(ok.ld r hr).sz⟩) hlead.sz ⟨fD (by simp),?_⟩;unfold aF at hP ⊢;rw[kT] at hP;exact⟨fD (by unfold bu;simp;omega),hP⟩
  dsimp only;have hcut:∀(b1:Nat),(x.rs.take a++x.rs.drop (a+1)).length<=1000:=λ_=>by rw[dj,jf,jM];omega
  refine a8 (fY (d:=aF (bu (x.rs.take a++x.rs.drop (a+1)) lead p)) (ρ':=[.d (aF R),.d (.int m),.d (aF (bu x.ld lead p++[lead])),.ow (x.pl.map λ(k:Nat)=>D.int (k:Int)),.d (aF (bu (x.rs.take a++x.rs.drop (a+1)) lead p)),.d (.int p),.d (.int a),.d (ae lead)]) (by rfl) (λP hP=>?_) ?_)
  .show wF _ _ No [.d (aF R),.d (.int m),.d (aF (bu x.ld lead p++[lead])),.ow (x.pl.map λ(k:Nat)=>D.int (k:Int)),.d (.lst (x.rs.map ae)),.d (.int p),.d (.int a),.d (ae lead)] P
   walk_at "st";rw[pO (b:=a) rfl,show((a:Int)+1)=((a+1:Nat):Int) by omega,rE (by rw[aW];omega),<-l8,<-nA];refine⟨fD (by simp;omega),?_⟩;rw[<-kT];exact Fv (b:=bq b p) (w:=w) hbp w1 (hcut 0) (by omega) (λr hr=>⟨(ok.rs r (jA hr)).len,(ok.rs r (jA hr)).sz⟩) hlead.sz hP
  dsimp only;refine vB (d:=.int p) rfl (cv (show _<2000 by rw[aW];omega) (by decide)) rfl (B.nm_at rfl) (hnx _ ⟨.d (.int p),.d (.int a),.d (ae lead),?_⟩);rw[kT];rfl
theorem vC{i:Nat}{wi wv:WE}{E:Ex->Prop}{N:Nds}{ρ ρ':aN}{xs:List D}{d:D}{k:Nat}(e:ρ[i]? = some (.ow xs))(hk:k<xs.length)(e2:ρ.set i (.ow (xs.set k d))=ρ')(hv:∀P:D->Prop,P d->wv E ρ P)(hi:∀P:D->Prop,P (.int k)->wi E ρ P)(h:N.nx ρ'):d6 i wi wv E N ρ:=by
 unfold d6;rw[e];exact hv _ (hi _ ⟨k,B.C.ixN_nat hk,by rw[e2];exact h⟩)
theorem Lw(s:List Int)(n:Nat):D.lst ((tbl s n).map λr=>ae (ef r))=aF (dU s n):=by
 unfold aF dU;rw[cr];rfl
theorem pQ{s:List Int}{n:Nat}(h:IsSl s n):∀r∈dU s n,Lf 6 n r:=λr hr=>by
 unfold dU at hr;obtain⟨t,ht,rfl⟩:=YbT.mp hr;obtain⟨h1,h2⟩:=pP h t ht;have:=Lf.int (b:=6) (c:=t) (by decide) λx hx=>by have:=h2 x hx;show _<64;omega
 rw[h1] at this;exact this
theorem oR{s:List Int}{n:Nat}:(dU s n).length=n:=by unfold dU;rw[aW,lK]
theorem Lx{s:List Int}{n:Nat}(h:IsSl s n):lP 6 n n (dU s n):=by
 have n5:=h.n5;refine⟨bb _,by omega,by rw[oR];omega,?_,pQ h⟩;have:=sK (b:=6) (show n-1<=5 by omega);have e:bq 6 5=223:=by decide
 omega
theorem Ly{n:Nat}(h:n<=5):bq 6 n<=223:=by
 have:=sK (b:=6) h;have e:bq 6 5=223:=by decide
 omega
theorem Lz{s:List Int}{n:Nat}(h:IsSl s n):(∀r∈(bP s n).ld,r.length=n/\∀y∈r,Sz 223 y)/\(bP s n).ld.length<=5/\(∀a∈(bP s n).pl,a<n)/\(bP s n).pl.length=(bP s n).ld.length:=by
 have ok:=BV (pQ h) (p:=n) (bb _);have l:=ok.ln;rw[oR] at l;have n5:=h.n5;exact⟨λr hr=>⟨(ok.ld r hr).len,λy hy=>((ok.ld r hr).sz y hy).mono (Ly n5)⟩,by unfold bP;omega,ok.lt,ok.pl⟩
def bv(place:Nat):List (List Rat)->List Nat->List Rat->List Rat
 |l::L,a::pl,row=>bv place L pl (row.set a (0-l.getD place 0))
 |_,_,row=>row
theorem B0(place:Nat):∀(L:List (List Rat)) (pl:List Nat) (row:List Rat),(L.zip pl).foldl (λrow x=>row.set x.2 (0-x.1.getD place 0)) row=bv place L pl row
 |[],_,_=>by simp[bv]
 |_::_,[],_=>by simp[bv]
 |l::L,a::pl,row=>by rw[List.zip_cons_cons,List.foldl_cons,bv];exact B0 place L pl _
theorem FK{place n:Nat}{E:Ex->Prop}{N:Nds}(hpn:place<n):∀(L:List (List Rat)) (pl:List Nat) (row:List Rat) (s0 s2 s3 s5 s6:SV),row.length=n->(∀r∈L,r.length=n/\∀y∈r,Sz 223 y)->(∀a∈pl,a<n)->(∀s5 s6,N.nx [.d (.int place),s0,s2,s3,.ow ((bv place L pl row).map ay),s5,s6])->ZbW (bW 2 (aV (gN 5) (aV (gN 6) bR))) (d6 4 (wN 6) (wF pL (ad (wC (D.tup [(D.int (0)),(D.int (1))])) (ad (w2 gIx (wN 5) (wN 0)) aa)))) E N (bK (L.map ae) (pl.map λ(k:Nat)=>D.int (k:Int))) [.d (.int place),s0,s2,s3,.ow (row.map ay),s5,s6]
 |[],pl,row,s0,s2,s3,s5,s6,_,_,_,h=>by simpa[bK,ZbW,bv] using h s5 s6
 |l::L,[],row,s0,s2,s3,s5,s6,_,_,_,h=>by simpa[bK,ZbW,bv] using h s5 s6
 |l::L,a::pl,row,s0,s2,s3,s5,s6,hr,hL,hp,h=>by
  have e:bK ((l::L).map ae) ((a::pl).map λ(k:Nat)=>D.int (k:Int))=.tup [ae l,.int (a:Int)]::bK (L.map ae) (pl.map λ(k:Nat)=>D.int (k:Int)):=by simp[bK]
  rw[e,ZbW];refine⟨rfl,?_⟩;simp only[aV,bR,gN,dP,dO];obtain⟨ll,ls⟩:=hL l (by simp);have ha:=hp a (by simp);have e0:l[place]? = some (l.getD place 0):=by rw[aM,bG (by omega)];rfl
  refine vC (xs:=row.map ay) (k:=a) (d:=ay (0-l.getD place 0)) (ρ':=[.d (.int place),s0,s2,s3,.ow ((row.set a (0-l.getD place 0)).map ay),.d (ae l),.d (.int a)]) rfl (by rw[aW];omega) (by rw[List.map_set];rfl) (λP hP=>?_) (B.nm_at rfl) ?_
  .simp only[wF,ad,aa,wN,wC,w2,b9,cF]
   refine⟨_,FJ (by omega),?_⟩;have:=AM (E:=No) (Q:=P) (B2.of (Sz.zero (n:=1) (by decide)) (ls _ (jE e0)) (by decide)) hP;rw[BI] at this;exact this
  .rw[bv] at h
   exact FK hpn L pl _ _ _ _ _ _ (by rw[dI];exact hr) (λr hr=>hL r (by simp[hr])) (λc hc=>hp c (by simp[hc])) h
theorem LA:∀ds E Q,yd ds E Q->ym E { nx:=λ_=>Q .non,rt:=Q } (aH FD ds):=by
 rintro _ E Q ⟨⟨⟨p,n⟩,L,pl⟩,rfl,⟨h1,h2,h3,h4,h5⟩,q⟩;dsimp only at h1 h2 h3 h4 h5 q;show ym E _ [.d (.int p),.d (.int n),.d (aF L),.d (jK pl),.un,.un,.un];unfold ym;refine a8 (B.C.own_by (xs:=(aA n p).map ay) (ρ':=[.d (.int p),.d (.int n),.d (aF L),.d (jK pl),.ow ((aA n p).map ay),.un,.un]) (by rfl) (λP hP=>?_) ?_)
 .simp only[aB,wF,ad,aa,wN,b9,cF]
  exact Fs h2 hP
 dsimp only;refine a8 ?_;simp only[aL,aU,iZ,ad,aa,wN,b9,cF];refine FK (N:=_) h1 L pl (aA n p) _ _ _ _ _ (eZ n p) h4 h5 λs5 s6=>?_;rw[<-B0];dsimp only;refine B.C.pub_by (ρ':=[.d (.int p),.d (.int n),.d (aF L),.d (jK pl),.d (.lst ((lQ p n L pl).map ay)),s5,s6]) rfl ?_;walk_at "st";exact q
theorem yn{α:Type}{wf:WT}{we:WE}{tail:aN}{Q:List D->Prop}{g f:α->D}{p:α->Bool}:∀(L:List α),(∀a∈L,∀P:Bool->Prop,P (p a)->wf No (.d (g a)::tail) P)->(∀a∈L,∀P:D->Prop,P (f a)->we No (.d (g a)::tail) P)->∀(sv:SV) (acc:List D),acc.length+L.length<=aw->Q (acc++(L.filter p).map f)->lcW (gN 0) wf we (L.map g) (sv::tail) acc Q
 |[],_,_,sv,acc,_,hq=>by simpa[lcW] using hq
 |a::L,h,h',sv,acc,hl,hq=>by
  rw[bL,lcW];rw[cO] at hl;refine h a (by simp) _ ?_;cases e:p a with
  |true=>
   rw[if_pos rfl];refine h' a (by simp) _ ⟨by omega,yn L (λx hx=>h x (by simp[hx])) (λx hx=>h' x (by simp[hx])) _ _ (by simp;omega) ?_⟩;rw[wO,e,if_pos rfl] at hq;rw[nu];exact hq
  |false=>
   rw[if_neg (by decide)];refine yn L (λx hx=>h x (by simp[hx])) (λx hx=>h' x (by simp[hx])) _ _ (by omega) ?_;rw[wO,e,if_neg (by decide)] at hq;exact hq
theorem LB(pl:List Nat)(p:Nat):(pl.map λ(k:Nat)=>(k:Int)).contains (p:Int)=pl.contains p:=by
 induction pl with
 |nil=>rfl
 |cons a pl ih=>
  rw[bL,sj,sj,ih];congr 1;rw[jN];simp
  exact_mod_cast Iff.rfl
theorem LC:∀ds E Q,vz ds E Q->BY E { nx:=λ_=>Q .non,rt:=Q } (aH FE ds):=by
 rintro _ E Q ⟨x,rfl,hk,q⟩;unfold BY;walk_at "nx";unfold ye at q;cases e:dC x with
 |false=>exact AQ hk e (jx e q)
 |true=>
 obtain⟨s,n,rfl,h⟩:=km e;have n1:=h.n1;have n5:=h.n5;replace q:=jy h q;rw[dh,h.sN] at q;replace q:Q (aF (fE s n)):=q;refine AO h ?_;walk_at "nx";refine rq h ?_;walk_at "nx";refine D7 h ?_;rw[Lw];refine Fw (Lx h) ?_;refine⟨rfl,?_⟩;obtain⟨c1,c2,c3,c4⟩:=Lz h;unfold fE at q;show -10000<=(n:Int)/\(n:Int)<10000/\lcW _ _ _ (rng 0 n) [.un,.d (.int n),.d (aF (bP s n).ld),.d (jK (bP s n).pl)] [] _;generalize bP s n=c at c1 c2 c3 c4 q;refine⟨by omega,by omega,?_⟩;rw[oN];refine yn (f:=λp=>ae (lQ p n c.ld c.pl)) (p:=λp=>!c.pl.contains p) (List.range n) (λp hp P hP=>?_) (λp hp P hP=>?_) .un [] (by simp[aw];omega) ?_
 .refine⟨_,c.pl.map λ(k:Nat)=>(k:Int),rfl,.inl ?_,?_⟩
  .show jK c.pl=.lst ((c.pl.map λ(k:Nat)=>(k:Int)).map .int)
   unfold jK;rw[cr];rfl
  .rw[LB]
   exact hP
 .rw[Yaj] at hp
  simp only[wF,ad,aa,wN,b9,cF];exact Lg hp n5 c2 c1 c3 hP
 .rw[c9]
  unfold aF at q;rw[cr] at q;exact q
theorem LD{E:Ex->Prop}{Q:D->Prop}{s:List Int}{n:Nat}(h:IsSl s n)(q:Q (aF (fE s n))):vz [au s] E Q:=xS.ok (au s) rfl h.kd (by(try dsimp only);unfold ye;rw[d7 h,dh,h.sN]) q
theorem LE{E:Ex->Prop}{Q:D->Prop}{x:D}(h:kd x=true)(e:dC x=false)(q:E "NoSlants"):vz [x] E Q:=⟨x,rfl,h,by(try dsimp only);unfold ye;rw[kj e];exact q⟩
theorem LF:∀ds E Q,vA ds E Q->BZ E { nx:=λ_=>Q .non,rt:=Q } (aH FF ds):=by
 rintro _ E Q ⟨x,rfl,hk,q⟩;unfold BZ;walk_at "st";unfold BW at q;cases e:dC x with
 |false=>exact LE hk e (jx e q)
 |true=>
 obtain⟨s,n,rfl,h⟩:=km e;replace q:=jy h q;rw[dh,h.sN] at q;refine LD h ?_;unfold aF;walk_at "st";rw[aW];exact q
theorem LG{E:Ex->Prop}{Q:D->Prop}{s:List Int}{n:Nat}(h:IsSl s n)(q:Q (.int ((fE s n).length:Int))):vA [au s] E Q:=xS.ok (au s) rfl h.kd (by(try dsimp only);unfold BW;rw[d7 h,dh,h.sN]) q
def ag(f:Nat->Rat):Nat->Rat
 |0=>0
 |n+1=>ag f n+f n
theorem bz{f g:Nat->Rat}:∀{n:Nat},(∀i,i<n->f i=g i)->ag f n=ag g n
 |0,_=>rfl
 |n+1,h=>by rw[ag,ag,bz (λi hi=>h i (by omega)),h n (by omega)]
theorem kv{f:Nat->Rat}:∀{n:Nat},(∀i,i<n->f i=0)->ag f n=0
 |0,_=>rfl
 |n+1,h=>by rw[ag,kv (λi hi=>h i (by omega)),h n (by omega),nO]
theorem fk{f:Nat->Rat}{k:Nat}:∀{n:Nat},k<n->(∀i,i<n->i≠k->f i=0)->ag f n=f k
 |0,h,_=>by omega
 |n+1,h,h0=>by
  rw[ag]
  by_cases e:k=n
  .subst e
   rw[kv (λi hi=>h0 i (by omega) (by omega)),Rat.zero_add]
  .rw[fk (k:=k) (by omega) (λi hi hk=>h0 i (by omega) hk),h0 n (by omega) (Oy e),nO]
theorem pR(f g:Nat->Rat):∀n:Nat,ag (λi=>f i-g i) n=ag f n-ag g n
 |0=>by simp only[ag];grind
 |n+1=>by rw[ag,ag,ag,pR f g n];grind
theorem FL(f:Nat->Rat):∀n:Nat,ag f (n+1)=f 0+ag (λi=>f (i+1)) n
 |0=>by simp only[ag];grind
 |n+1=>by rw[ag,FL f n,ag];grind
theorem i8:∀(r x:List Rat) (n:Nat),r.length=n->x.length=n->bB r x=ag (λj=>r.getD j 0*x.getD j 0) n
 |[],[],_,h,_=>by subst h;rfl
 |[],_::_,n,h,h'=>by simp at h h';omega
 |_::_,[],n,h,h'=>by simp at h h';omega
 |a::r,y::x,n,h,h'=>by
  subst h;rw[bB,i8 r x r.length rfl (by simpa using h'),cO,FL];rfl
theorem LH{r x:List Rat}{n:Nat}{q:Rat}(hr:r.length=n)(hx:x.length=n):bB (nb r q) x=bB r x/q:=by
 clear hr hx;unfold nb
 induction r generalizing x with
 |nil=>show(0:Rat)=0/q;rw[gj,eL]
 |cons a r ih=>
  cases x with
  |nil=>show(0:Rat)=0/q;rw[gj,eL]
  |cons y x=>
   rw[bL,bB,bB,ih,gj,gj,gj];grind
theorem sM{r c x:List Rat}{q:Rat}(h:r.length=c.length):bB (a9 r q c) x=bB r x-q*bB c x:=by
 unfold a9
 induction r generalizing c x with
 |nil=>
  cases c with
  |nil=>show(0:Rat)=0-q*0;grind
  |cons _ _=>simp at h
 |cons a r ih=>
  cases c with
  |nil=>simp at h
  |cons b c=>
   cases x with
   |nil=>show(0:Rat)=0-q*0;grind
   |cons y x=>
    rw[List.zipWith_cons_cons,bB,bB,bB,ih (by simpa using h)];grind
theorem FM{r:List Rat}{n k:Nat}(hr:r.length=n)(hk:k<n):bB r (aA n k)=r.getD k 0:=by
 rw[i8 r (aA n k) n hr (eZ n k),fk hk]
 .rw[unit_at' hk,if_pos rfl,nP]
 .intro i hi e
  rw[unit_at' hi,if_neg e,dX]
where
 unit_at' {n k i:Nat} (hi:i<n):(aA n k).getD i 0=if i=k then 1 else 0:=by
  unfold aA;rw[aM,cc,jg hi];rfl
theorem gD{n k i:Nat}(hi:i<n):(aA n k).getD i 0=if i=k then 1 else 0:=by
 unfold aA;rw[aM,cc,jg hi];rfl
theorem yo{x:List Rat}{a i:Nat}{v:Rat}(ha:a<x.length):(x.set a v).getD i 0=if i=a then v else x.getD i 0:=by
 rw[aM,List.getElem?_set,aM]
 by_cases e:a=i
 .subst e;rw[if_pos rfl,if_pos rfl,if_pos ha];rfl
 .rw[if_neg e,if_neg (Oy e)]
theorem LI{r x:List Rat}{n a:Nat}{v:Rat}(hr:r.length=n)(hx:x.length=n)(ha:a<n)(h0:x.getD a 0=0):bB r (x.set a v)=bB r x+r.getD a 0*v:=by
 rw[i8 r _ n hr (by rw[dI];exact hx),i8 r x n hr hx];have:ag (λj=>r.getD j 0*(x.set a v).getD j 0-r.getD j 0*x.getD j 0) n=r.getD a 0*v:=by
  rw[fk ha]
  .rw[yo (by omega),if_pos rfl,h0,dX];grind
  .intro i hi e
   rw[yo (by omega),if_neg e];grind
 rw[pR] at this;grind
structure Ec(n:Nat)(R:List (List Rat))(p:Nat)(ld:List (List Rat))(pl:List Nat)(rs:List (List Rat)):Prop where
 wl:∀r∈ld,r.length=n
 ws:∀r∈rs,r.length=n
 ll:ld.length=pl.length
 nul:∀x:List Rat,x.length=n->((∀r∈R,bB r x=0)↔(∀r∈ld,bB r x=0)/\∀r∈rs,bB r x=0)
 lt:∀a∈pl,a<p
 asc:pl.Pairwise (· < ·)
 one:∀i j,i<ld.length->j<pl.length->(ld.getD i []).getD (pl.getD j 0) 0=if i=j then 1 else 0
 low:∀i,i<ld.length->∀q,q<pl.getD i 0->(ld.getD i []).getD q 0=0
 zer:∀r∈rs,∀q,q<p->r.getD q 0=0
theorem Ec.start{n:Nat}{R:List (List Rat)}(h:∀r∈R,r.length=n):Ec n R 0 [] [] R:=⟨by simp,h,rfl,λx _=>by simp,by simp,.nil,λi j hi=>by simp at hi,λi hi=>by simp at hi,λr _ q hq=>by omega⟩
theorem Ec.skip{n p:Nat}{R ld rs:List (List Rat)}{pl:List Nat}(h:Ec n R p ld pl rs)(h0:∀r∈rs,r.getD p 0=0):Ec n R (p+1) ld pl rs:=
 ⟨h.wl,h.ws,h.ll,h.nul,λa ha=>wK (h.lt a ha),h.asc,h.one,h.low,λr hr q hq=>by
  by_cases e:q=p
  .rw[e];exact h0 r hr
  .exact h.zer r hr q (by omega)⟩
theorem Ec.pivot{n p:Nat}{R ld rs rs1 rs2:List (List Rat)}{pl:List Nat}{r lead:List Rat}(h:Ec n R p ld pl rs)(hp:p<n)(hr0:r.getD p 0≠0)(hrs:∀t,t∈rs↔t=r\/t∈rs1)(hld:lead=nb r (r.getD p 0))(h2:∀t,t∈rs2↔∃u∈rs1,t=a9 u (u.getD p 0) lead):Ec n R (p+1) (bu ld lead p++[lead]) (pl++[p]) rs2:=by
 have rr:r∈rs:=(hrs r).mpr (.inl rfl);have rl:=h.ws r rr;have ll:lead.length=n:=by rw[hld];unfold nb;rw[aW];exact rl
 have lat:∀j,lead.getD j 0=r.getD j 0/r.getD p 0:=λj=>by
  rw[hld];unfold nb;rw[aM,cc,aM (i:=j)];cases r[j]? with
  |none=>show(0:Rat)=0/_;rw[gj,eL]
  |some x=>rfl
 have lp:lead.getD p 0=1:=by rw[lat,gj,qj _ hr0]
 have lz:∀q,q<p->lead.getD q 0=0:=λq hq=>by rw[lat,h.zer r rr q hq,gj,eL]
 have lesL:∀(u:List Rat) (z:Rat),u.length=n->(a9 u z lead).length=n:=λu z hu=>by unfold a9;rw[qg];omega
 have lesA:∀(u:List Rat) (z:Rat) (j:Nat),u.length=n->(a9 u z lead).getD j 0=u.getD j 0-z*lead.getD j 0:=λu z j hu=>by
  unfold a9;simp only[aM]
  by_cases hj:j<n
  .rw[bG (by rw[qg];omega),bG (by omega),bG (by omega),zC]
   rfl
  .rw[dN (by rw[qg];omega),dN (by omega),dN (by omega)]
   show(0:Rat)=0-z*0;grind
 have wlen:(bu ld lead p).length=ld.length:=by unfold bu;rw[aW]
 have wat:∀i,i<ld.length->(bu ld lead p++[lead]).getD i []=a9 (ld.getD i []) ((ld.getD i []).getD p 0) lead:=λi hi=>by
  rw[aM,l5 (by omega)];unfold bu;rw[cc,aM,bG hi];rfl
 have wlast:(bu ld lead p++[lead]).getD ld.length []=lead:=by
  rw[aM,lT (by omega),wlen,Nat.sub_self];rfl
 have plat:∀i,i<pl.length->(pl++[p]).getD i 0=pl.getD i 0:=λi hi=>by
  rw[aM,l5 hi,aM]
 have plast:(pl++[p]).getD pl.length 0=p:=by
  rw[aM,lT (bb _),Nat.sub_self];rfl
 have plt:∀i,i<pl.length->pl.getD i 0<p:=λi hi=>by
  rw[aM,bG hi];exact h.lt _ (qd _)
 have ldm:∀i,i<ld.length->ld.getD i []∈ld:=λi hi=>eC hi;have hll:=h.ll;refine⟨λt ht=>?_,λt ht=>?_,?_,λx hx=>?_,λa ha=>?_,?_,λi j hi hj=>?_,λi hi q hq=>?_,λt ht q hq=>?_⟩
 .rcases Yar.mp ht with ht|ht
  .unfold bu at ht
   obtain⟨u,hu,rfl⟩:=YbT.mp ht;exact lesL u _ (h.wl u hu)
  .rw[Ycn.mp ht];exact ll
 .obtain⟨u,hu,rfl⟩:=(h2 t).mp ht
  exact lesL u _ (h.ws u ((hrs u).mpr (.inr hu)))
 .rw[dj,dj,wlen,hll];rfl
 .rw[h.nul x hx]
  have dl:bB lead x=bB r x/r.getD p 0:=by rw[hld];exact LH rl hx
  constructor
  .rintro⟨g1,g2⟩
   have z:bB lead x=0:=by rw[dl,g2 r rr,gj,eL]
   refine⟨λt ht=>?_,λt ht=>?_⟩
   .rcases Yar.mp ht with ht|ht
    .unfold bu at ht
     obtain⟨u,hu,rfl⟩:=YbT.mp ht;rw[sM (by rw[h.wl u hu,ll]),g1 u hu,z];grind
    .rw[Ycn.mp ht];exact z
   .obtain⟨u,hu,rfl⟩:=(h2 t).mp ht
    have hu':=(hrs u).mpr (.inr hu);rw[sM (by rw[h.ws u hu',ll]),g2 u hu',z];grind
  .rintro⟨g1,g2⟩
   have z:bB lead x=0:=g1 lead (by simp);have zr:bB r x=0:=by
    rw[dl,gj] at z;have:bB r x*(r.getD p 0)⁻¹*r.getD p 0=0:=by rw[z,eL]
    rw[Rat.mul_assoc,Rat.inv_mul_cancel _ hr0,nP] at this;exact this
   refine⟨λt ht=>?_,λt ht=>?_⟩
   .have:=g1 (a9 t (t.getD p 0) lead) (Yar.mpr (.inl (by unfold bu;exact ma (f:=λr=>a9 r (r.getD p 0) lead) ht)))
    rw[sM (by rw[h.wl t ht,ll]),z] at this;grind
   .rcases(hrs t).mp ht with rfl|hu
    .exact zr
    .have:=g2 (a9 t (t.getD p 0) lead) ((h2 _).mpr ⟨t,hu,rfl⟩)
     rw[sM (by rw[h.ws t ht,ll]),z] at this;grind
 .rcases Yar.mp ha with ha|ha
  .exact wK (h.lt a ha)
  .rw[Ycn.mp ha];exact zd p
 .refine YcL.mpr ⟨h.asc,by simp,λa ha b hb=>?_⟩
  rw[Ycn.mp hb];exact h.lt a ha
 .rw[dj,wlen,kS] at hi
  rw[dj,kS] at hj
  by_cases hi':i<ld.length
  .have hw:=h.wl _ (ldm i hi')
   rw[wat i hi',lesA _ _ _ hw]
   by_cases hj':j<pl.length
   .rw[plat j hj',h.one i j hi' hj',lz _ (plt j hj')];grind
   .obtain rfl:j=pl.length:=by omega
    rw[plast,lp,if_neg (by omega)];grind
  .obtain rfl:i=ld.length:=by omega
   rw[wlast]
   by_cases hj':j<pl.length
   .rw[plat j hj',lz _ (plt j hj'),if_neg (by omega)]
   .obtain rfl:j=pl.length:=by omega
    rw[plast,lp,if_pos hll]
 .rw[dj,wlen,kS] at hi
  by_cases hi':i<ld.length
  .have hw:=h.wl _ (ldm i hi')
   rw[plat i (by omega)] at hq;rw[wat i hi',lesA _ _ _ hw,h.low i hi' q hq,lz q (by have:=plt i (by omega);omega)];grind
  .obtain rfl:i=ld.length:=by omega
   rw[hll,plast] at hq;rw[wlast];exact lz q hq
 .obtain⟨u,hu,rfl⟩:=(h2 t).mp ht
  have hu':=(hrs u).mpr (.inr hu);rw[lesA _ _ _ (h.ws u hu')]
  by_cases e:q=p
  .rw[e,lp];grind
  .rw[h.zer u hu' q (by omega),lz q (by omega)];grind
def eT(r:List Rat)(q:Nat):List (List Rat)->List Nat->Rat
 |l::L,a::P=>r.getD a 0*l.getD q 0+eT r q L P
 |_,_=>0
theorem FN(q:Nat):∀(L:List (List Rat)) (P:List Nat) (row:List Rat),(bv q L P row).length=row.length
 |[],_,_=>by simp[bv]
 |_::_,[],_=>by simp[bv]
 |l::L,a::P,row=>by rw[bv,FN q L P,dI]
theorem rP{q t:Nat}:∀(L:List (List Rat)) (P:List Nat) (row:List Rat),(∀a∈P,a<row.length)->t∉P->(bv q L P row).getD t 0=row.getD t 0
 |[],_,_,_,_=>by simp[bv]
 |_::_,[],_,_,_=>by simp[bv]
 |l::L,a::P,row,h,ht=>by
  rw[bv,rP L P _ (λb hb=>by rw[dI];exact h b (by simp[hb])) (λhb=>ht (by simp[hb])),yo (h a (by simp)),if_neg (λe=>ht (by simp[e]))]
theorem B1{r:List Rat}{q n:Nat}(hr:r.length=n):∀(L:List (List Rat)) (P:List Nat) (row:List Rat),row.length=n->(∀a∈P,a<n)->P.Pairwise (· < ·)->(∀a∈P,row.getD a 0=0)->bB r (bv q L P row)=bB r row-eT r q L P
 |[],_,row,_,_,_,_=>by simp only[bv,eT];grind
 |_::_,[],row,_,_,_,_=>by simp only[bv,eT];grind
 |l::L,a::P,row,hw,hn,ha,h0=>by
  obtain⟨h1,h2⟩:=YcM.mp ha;rw [bv,B1 hr L P _ (by rw [dI];exact hw) (λb hb=>hn b (by simp [hb])) h2 (λb hb=>by
   rw[yo (by rw[hw];exact hn a (by simp)),if_neg (by have:=h1 b hb;omega)];exact h0 b (by simp[hb])),LI hr hw (hn a (by simp)) (h0 a (by simp)),eT]
  grind
theorem B3{r:List Rat}{q:Nat}:∀(L:List (List Rat)) (P:List Nat),(∀j,j<P.length->j<L.length->r.getD (P.getD j 0) 0*(L.getD j []).getD q 0=0)->eT r q L P=0
 |[],_,_=>by simp[eT]
 |_::_,[],_=>by simp[eT]
 |l::L,a::P,h=>by
  rw[eT,B3 L P (λj h1 h2=>by simpa using h (j+1) (by simpa using h1) (by simpa using h2))];have:=h 0 (by simp) (by simp);rw[tD,tD] at this;rw[this,nO]
theorem FO{r:List Rat}{q:Nat}:∀(L:List (List Rat)) (P:List Nat) (i:Nat),i<L.length->L.length=P.length->(∀j,j<P.length->r.getD (P.getD j 0) 0=if i=j then 1 else 0)->eT r q L P=(L.getD i []).getD q 0
 |[],_,i,hi,_,_=>by simp at hi
 |_::_,[],i,_,hl,_=>by simp at hl
 |l::L,a::P,0,hi,hl,h=>by
  have h0:=h 0 (by simp);rw[tD,if_pos rfl] at h0;rw [eT,h0,B3 L P (λj h1 h2=>by
   have:=h (j+1) (by simpa using h1);rw[zE,if_neg (by omega)] at this;rw[this,eL]),tD]
  grind
 |l::L,a::P,i+1,hi,hl,h=>by
  have h0:=h 0 (by simp);rw[tD,if_neg (by omega)] at h0;rw [eT,h0,FO L P i (by simpa using hi) (by simpa using hl) (λj hj=>by
   have:=h (j+1) (by simpa using hj);rw[zE] at this;rw[this]
   by_cases e:i=j
   .rw[if_pos e,if_pos (by omega)]
   .rw[if_neg e,if_neg (by omega)]),zE]
  grind
theorem Ec.free{n q:Nat}{R ld rs:List (List Rat)}{pl:List Nat}(h:Ec n R n ld pl rs)(hq:q<n)(hn:q∉pl):(bv q ld pl (aA n q)).length=n/\∀r∈R,bB r (bv q ld pl (aA n q))=0:=by
 have l:(bv q ld pl (aA n q)).length=n:=by rw[FN,eZ]
 have z0:∀a∈pl,(aA n q).getD a 0=0:=λa ha=>by
  rw[gD (h.lt a ha),if_neg (show¬a=q from λe=>hn (by rw[<-e];exact ha))]
 refine⟨l,(h.nul _ l).mpr ⟨λr hr=>?_,λr hr=>?_⟩⟩
 .obtain⟨i,hi,e⟩:=Ybm.mp hr
  have e':ld.getD i []=r:=by rw[aM,bG hi];exact e
  rw[B1 (h.wl r hr) ld pl _ (eZ n q) h.lt h.asc z0,FM (h.wl r hr) hq,FO ld pl i hi h.ll (λj hj=>by rw[<-e'];exact h.one i j hi hj),e'];grind
 .rw[i8 r _ n (h.ws r hr) l]
  exact kv λj hj=>by rw[h.zer r hr j hj,eL]
theorem Ec.sub{n:Nat}{R ld rs ld' rs':List (List Rat)}{pl pl':List Nat}(h:Ec n R n ld pl rs)(h':Ec n R n ld' pl' rs'){q:Nat}(hq:q∈pl):q∈pl':=by
 refine Classical.byContradiction λhn=>?_;have qn:=h.lt q hq;obtain⟨i,hi,e⟩:=Ybm.mp hq;have e':pl.getD i 0=q:=by rw[aM,bG hi];exact e
 have hi':i<ld.length:=by rw[h.ll];exact hi
 obtain⟨l,f0⟩:=h'.free qn hn;have fl:=((h.nul _ l).mp f0).1 _ (eC hi');have wl:=h.wl _ (eC hi');have z0:∀a∈pl',(aA n q).getD a 0=0:=λa ha=>by
  rw[gD (h'.lt a ha),if_neg (show¬a=q from λe=>hn (by rw[<-e];exact ha))]
 have o:=h.one i i hi' hi;rw[e',if_pos rfl] at o;rw[B1 wl ld' pl' _ (eZ n q) h'.lt h'.asc z0,FM wl qn,o,B3 ld' pl' (λj h1 h2=>?_)] at fl
 .exact Ot fl (by decide +kernel)
 .have hm:pl'.getD j 0∈pl':=by rw[aM,bG h1];exact qd _
  rcases Nat.lt_trichotomy (pl'.getD j 0) q with g|g|g
  .rw[h.low i hi' _ (by rw[e'];exact g),eL]
  .exact Ot (by rw[g] at hm;exact hm) hn
  .rw[h'.low j h2 q g,dX]
theorem pS:∀{a b:List Nat},a.Pairwise (· < ·)->b.Pairwise (· < ·)->(∀x,x∈a↔x∈b)->a=b
 |[],[],_,_,_=>rfl
 |[],y::b,_,_,h=>by have:=(h y).mpr (by simp);simp at this
 |x::a,[],_,_,h=>by have:=(h x).mp (by simp);simp at this
 |x::a,y::b,ha,hb,h=>by
  obtain⟨a1,a2⟩:=YcM.mp ha;obtain⟨b1,b2⟩:=YcM.mp hb;have hx:=(h x).mp (by simp);have hy:=(h y).mpr (by simp);have e:x=y:=by
   rcases Yaq.mp hx with e|hx
   .exact e
   .rcases Yaq.mp hy with e|hy
    .exact e.symm
    .have:=a1 y hy;have:=b1 x hx;omega
  subst e;rw[pS a2 b2 λz=>?_];constructor
  .intro hz
   rcases Yaq.mp ((h z).mp (by simp[hz])) with e|e
   .have:=a1 z hz;omega
   .exact e
  .intro hz
   rcases Yaq.mp ((h z).mpr (by simp[hz])) with e|e
   .have:=b1 z hz;omega
   .exact e
theorem Ec.places{n:Nat}{R ld rs ld' rs':List (List Rat)}{pl pl':List Nat}(h:Ec n R n ld pl rs)(h':Ec n R n ld' pl' rs'):pl=pl':=pS h.asc h'.asc λ_=>⟨h.sub h',h'.sub h⟩
theorem Ec.uniq{n q:Nat}{R ld rs ld' rs':List (List Rat)}{pl:List Nat}(h:Ec n R n ld pl rs)(h':Ec n R n ld' pl rs')(hq:q<n)(hn:q∉pl):bv q ld pl (aA n q)=bv q ld' pl (aA n q):=by
 obtain⟨l,f0⟩:=h.free hq hn;obtain⟨l',f0'⟩:=h'.free hq hn;have g1:=((h.nul _ l).mp f0).1;have g2:=((h.nul _ l').mp f0').1;have off:∀t,t∉pl->(bv q ld pl (aA n q)).getD t 0=(bv q ld' pl (aA n q)).getD t 0:=λt ht=>by
  rw[rP _ _ _ (by rw[eZ];exact h.lt) ht,rP _ _ _ (by rw[eZ];exact h.lt) ht]
 generalize bv q ld pl (aA n q)=f at l g1 off;generalize bv q ld' pl (aA n q)=g at l' g2 off;have on:∀t,t∈pl->f.getD t 0=g.getD t 0:=λt ht=>by
  obtain⟨i,hi,e⟩:=Ybm.mp ht;have e':pl.getD i 0=t:=by rw[aM,bG hi];exact e
  have hi':i<ld.length:=by rw[h.ll];exact hi
  have wl:=h.wl _ (eC hi');have o:=h.one i i hi' hi;rw[e',if_pos rfl] at o;have d1:=g1 _ (eC hi');have d2:=g2 _ (eC hi');rw[i8 _ f n wl l] at d1;rw[i8 _ g n wl l'] at d2;have s:ag (λj=>(ld.getD i []).getD j 0*f.getD j 0-(ld.getD i []).getD j 0*g.getD j 0) n=f.getD t 0-g.getD t 0:=by
   rw[fk (k:=t) (h.lt t ht)]
   .rw[o];grind
   .intro j hj ne
    by_cases hm:j∈pl
    .obtain⟨k,hk,ek⟩:=Ybm.mp hm
     have ek':pl.getD k 0=j:=by rw[aM,bG hk];exact ek
     have oz:=h.one i k hi' hk;rw[ek',if_neg (λz=>ne (by rw[<-ek',<-z,e']))] at oz;rw[oz];grind
    .rw[off j hm];grind
  rw[pR,d1,d2] at s;grind
 refine List.ext_getElem (by rw[l,l']) λt h1 h2=>?_;have e1:f[t]=f.getD t 0:=by rw[aM,bG h1];rfl
 have e2:g[t]=g.getD t 0:=by rw[aM,bG h2];rfl
 rw[e1,e2]
 by_cases hm:t∈pl
 .exact on t hm
 .exact off t hm
theorem FP:∀{R:List (List Rat)} {p:Nat},cW R p=none->∀r∈R,r.getD p 0=0
 |[],_,_,r,hr=>by cases hr
 |t::R,p,h,r,hr=>by
  rw[cW] at h
  by_cases e:t.getD p 0=0
  .rw[if_pos e] at h
   rcases Yaq.mp hr with rfl|hr
   .exact e
   .exact FP (by cases e2:cW R p with
     |none=>rfl
     |some a=>rw[e2] at h;cases h) r hr
  .rw[if_neg e] at h;cases h
theorem FQ{R:List (List Rat)}{a:Nat}(h:a<R.length)(t:List Rat):t∈R↔t=R.getD a []\/t∈R.take a++R.drop (a+1):=by
 have e:R=R.take a++R.getD a []::R.drop (a+1):=by
  conv=>lhs;rw[<-List.take_append_drop a R]
  rw[qf h,aM,bG h];rfl
 conv=>lhs;rw[e]
 simp only[Yar,Yaq];constructor
 .rintro(h|h|h)
  .exact .inr (.inl h)
  .exact .inl h
  .exact .inr (.inr h)
 .rintro(h|h|h)
  .exact .inr (.inl h)
  .exact .inl h
  .exact .inr (.inr h)
theorem rR{n:Nat}{R:List (List Rat)}(hR:∀r∈R,r.length=n):∀p,p<=n->Ec n R p (cj R p).ld (cj R p).pl (cj R p).rs
 |0,_=>Ec.start hR
 |p+1,hp=>by
  have ih:=rR hR p (by omega);rw[cj];generalize cj R p=x at ih;unfold rN;cases e:cW x.rs p with
  |none=>exact ih.skip (FP e)
  |some a=>
   obtain⟨a1,a2⟩:=sL e;exact ih.pivot (r:=x.rs.getD a []) (rs1:=x.rs.take a++x.rs.drop (a+1)) (by omega) a2 (FQ a1) rfl λt=>by
    unfold bu;rw[YbT];constructor
    .rintro⟨u,hu,rfl⟩;exact⟨u,hu,rfl⟩
    .rintro⟨u,hu,rfl⟩;exact⟨u,hu,rfl⟩
namespace Dt
open B.C
theorem yp(f g:Nat->Rat):∀n:Nat,ag (λi=>f i+g i) n=ag f n+ag g n
 |0=>by simp only[ag];grind
 |n+1=>by rw[ag,ag,ag,yp f g n];grind
theorem sumN_mul(f:Nat->Rat)(c:Rat):∀n:Nat,ag (λi=>c*f i) n=c*ag f n
 |0=>by simp only[ag];grind
 |n+1=>by rw[ag,ag,sumN_mul f c n];grind
theorem pT(f:Nat->Nat->Rat)(m:Nat):∀n:Nat,ag (λi=>ag (λj=>f i j) m) n=ag (λj=>ag (λi=>f i j) n) m
 |0=>by rw[ag];exact(kv λ_ _=>rfl).symm
 |n+1=>by
  rw[ag,pT f m n,<-yp];rfl
theorem sO(f:Nat->Int):∀n:Nat,ag (λi=>((f i:Int):Rat)) n=((sumI f n:Int):Rat)
 |0=>rfl
 |n+1=>by rw[ag,sumI,sO f n,wP]
theorem LJ(A:Nat->R){n:Nat}(hn:n<=5){w:Nat->Rat}(h:∀i,i<n->ag (λj=>(A i j:Rat)*w j) n=0){j:Nat}(hj:j<n):(dt A n:Rat)*w j=0:=by
 have e:ag (λk=>(jS A n k j:Rat)*ag (λl=>(A k l:Rat)*w l) n) n=(dt A n:Rat)*w j:=by
  rw[bz (g:=λk=>ag (λl=>(jS A n k j:Rat)*((A k l:Rat)*w l)) n) (λk _=>(sumN_mul _ _ n).symm),pT];rw [bz (g:=λl=>w l*((sumI (λk=>A k l*jS A n k j) n:Int):Rat)) (λl _=>by
   rw[<-sO,<-sumN_mul];exact bz λk _=>by rw[eD];grind)]
  rw[fk (k:=j) hj (λi hi ne=>by rw[wY A hn hi hj,if_neg ne];exact dX _),wY A hn hj hj,if_pos rfl,o5]
 rw[<-e];exact kv λk hk=>by rw[h k hk,dX]
theorem vD{A B:Nat->R}{k i j:Nat}(h:∀l,l<k->∀c,c<k\/c=j->A l c=B l c)(hi:∀c,c<k\/c=j->A i c=B i c):M A k i j=M B k i j:=by
 match k with
 |0=>exact hi j (.inr rfl)
 |1=>
  simp only[M,m2];rw[h 0 (by omega) 0 (by omega),h 0 (by omega) j (by omega),hi 0 (by omega),hi j (by omega)]
 |2=>
  simp only[M,m3,m2];rw[h 0 (by omega) 0 (by omega),h 0 (by omega) 1 (by omega),h 0 (by omega) j (by omega),h 1 (by omega) 0 (by omega),h 1 (by omega) 1 (by omega),h 1 (by omega) j (by omega),hi 0 (by omega),hi 1 (by omega),hi j (by omega)]
 |3=>
  simp only[M,m4,m3,m2];rw[h 0 (by omega) 0 (by omega),h 0 (by omega) 1 (by omega),h 0 (by omega) 2 (by omega),h 0 (by omega) j (by omega),h 1 (by omega) 0 (by omega),h 1 (by omega) 1 (by omega),h 1 (by omega) 2 (by omega),h 1 (by omega) j (by omega),h 2 (by omega) 0 (by omega),h 2 (by omega) 1 (by omega),h 2 (by omega) 2 (by omega),h 2 (by omega) j (by omega),hi 0 (by omega),hi 1 (by omega),hi 2 (by omega),hi j (by omega)]
 |4=>
  simp only[M,m5,m4,m3,m2];rw[h 0 (by omega) 0 (by omega),h 0 (by omega) 1 (by omega),h 0 (by omega) 2 (by omega),h 0 (by omega) 3 (by omega),h 0 (by omega) j (by omega),h 1 (by omega) 0 (by omega),h 1 (by omega) 1 (by omega),h 1 (by omega) 2 (by omega),h 1 (by omega) 3 (by omega),h 1 (by omega) j (by omega),h 2 (by omega) 0 (by omega),h 2 (by omega) 1 (by omega),h 2 (by omega) 2 (by omega),h 2 (by omega) 3 (by omega),h 2 (by omega) j (by omega),h 3 (by omega) 0 (by omega),h 3 (by omega) 1 (by omega),h 3 (by omega) 2 (by omega),h 3 (by omega) 3 (by omega),h 3 (by omega) j (by omega),hi 0 (by omega),hi 1 (by omega),hi 2 (by omega),hi 3 (by omega),hi j (by omega)]
 |_+5=>rfl
theorem B4{A B:Nat->R}{n:Nat}(h:∀i,i<n->∀j,j<n->A i j=B i j):dt A n=dt B n:=by
 cases n with
 |zero=>rfl
 |succ k=>exact vD (λl hl c hc=>h l (by omega) c (by omega)) λc hc=>h k (by omega) c (by omega)
theorem LK{s:List Int}{n i j:Nat}(h:IsSl s n)(hi:i<n):((dU s n).getD i []).getD j 0=(tA (tbl s n) i j:Rat):=by
 have l:=lK s n;unfold dU tA gr ga;have e:(tbl s n)[i]? = some ((tbl s n).getD i []):=by rw[aM,bG (by omega)];rfl
 rw[aM (l:=List.map ef (tbl s n)),cc,e];show(ef ((tbl s n).getD i [])).getD j 0=_;unfold ef;rw[aM,cc,aM (l:=(tbl s n).getD i [])];cases((tbl s n).getD i [])[j]? with
 |none=>rfl
 |some v=>rfl
def vE(n:Nat)(f:Nat->Rat):List Rat:=(List.range n).map f
theorem B5(n:Nat)(f:Nat->Rat):(vE n f).length=n:=by unfold vE;simp
theorem FR{n j:Nat}{f:Nat->Rat}(h:j<n):(vE n f).getD j 0=f j:=by
 unfold vE;rw[aM,cc,jg h];rfl
theorem LL{s:List Int}{n:Nat}{r:List Rat}(hr:r∈dU s n):∃i,i<n/\(dU s n).getD i []=r:=by
 obtain⟨i,hi,e⟩:=Ybm.mp hr;rw[oR] at hi;exact⟨i,hi,by rw[aM,bG (by rw[oR];exact hi)];exact e⟩
theorem yq{s:List Int}{n i:Nat}{x:List Rat}(h:IsSl s n)(hi:i<n)(hx:x.length=n):bB ((dU s n).getD i []) x=ag (λj=>(tA (tbl s n) i j:Rat)*x.getD j 0) n:=by
 have hm:(dU s n).getD i []∈dU s n:=eC (by rw[oR];exact hi);rw[i8 _ x n (pQ h _ hm).len hx];exact bz λj _=>by rw[LK h hi]
theorem rS(n:Nat):(List.range n).Pairwise (· < ·):=List.pairwise_lt_range
theorem FS{s:List Int}{n:Nat}(h:IsSl s n):fE s n=[]↔(bP s n).pl=List.range n:=by
 have ec:=rR (n:=n) (R:=dU s n) (λr hr=>(pQ h r hr).len) n (bb _);have ec:Ec n (dU s n) n (bP s n).ld (bP s n).pl (bP s n).rs:=ec;unfold fE;rw[List.map_eq_nil_iff,List.filter_eq_nil_iff];constructor
 .intro e
  refine pS ec.asc (rS n) λx=>⟨λhx=>Yaj.mpr (ec.lt x hx),λhx=>?_⟩;have:=e x hx;simpa using this
 .intro e a ha
  rw[e];simpa using ha
theorem FT{s:List Int}{n:Nat}(h:IsSl s n):fE s n=[]↔dt (tA (tbl s n)) n≠0:=by
 have hsm:Sm 6 n (tbl s n):=⟨lK s n,λr hr=>(pP h r hr).1,λr hr x hx=>by
  have:=(pP h r hr).2 x hx;show x.natAbs<64;omega⟩
 have ec:Ec n (dU s n) n (bP s n).ld (bP s n).pl (bP s n).rs:=rR (n:=n) (R:=dU s n) (λr hr=>(pQ h r hr).len) n (bb _);constructor
 .intro e z
  rw[<-KN hsm h.n5] at z;obtain⟨w,⟨a,ha,wa⟩,hw⟩:=KO hsm h.n5 z;have pl:=(FS h).mp e;have nul:=(ec.nul (vE n λj=>(w j:Rat)) (B5 _ _)).mp (λr hr=>by
   obtain⟨i,hi,rfl⟩:=LL hr;rw[yq h hi (B5 _ _)];have:=hw i hi;have c:=sO (λj=>tA (tbl s n) i j*w j) n;rw[this] at c;refine Eq.trans (bz λj hj=>?_) c;rw[FR hj,eD])
  have al:a<(bP s n).ld.length:=by rw[ec.ll,pl,jc];exact ha
  have one:∀j,j<n->((bP s n).ld.getD a []).getD j 0=if a=j then 1 else 0:=λj hj=>by
   have:=ec.one a j al (by rw[pl,jc];exact hj);rw[pl] at this;rw[show(List.range n).getD j 0=j from by rw[aM,jg hj];rfl] at this;exact this
  have d:=nul.1 _ (eC al);rw[i8 _ _ n (ec.wl _ (eC al)) (B5 _ _),fk (k:=a) ha (λj hj ne=>by rw[one j hj,if_neg (Oy ne),eL]),one a ha,if_pos rfl,FR ha,nB] at d;exact wa (by exact_mod_cast d)
 .intro z
  rw[FS h];refine pS ec.asc (rS n) λx=>⟨λhx=>Yaj.mpr (ec.lt x hx),λhx=>?_⟩;rw[Yaj] at hx;refine Classical.byContradiction λhn=>?_;obtain⟨fl,f0⟩:=ec.free hx hn;have:=LJ (tA (tbl s n)) h.n5 (w:=λj=>(bv x (bP s n).ld (bP s n).pl (aA n x)).getD j 0) (λi hi=>by
   rw[<-yq h hi fl];exact f0 _ (eC (by rw[oR];exact hi))) hx
  rw[rP _ _ _ (by rw[eZ];exact ec.lt) hn,gD hx,if_pos rfl,nP] at this;exact z (by exact_mod_cast this)
end Dt
local macro_rules | `(tactic| walk_at "w1")=>`(tactic| simp only [aj,bE,ax,bD,dg,aT,aZ,aU,fi,bS,bJ,bC,d6,cb,fV,aL,eh,df,wM,Zcp,eu,cH,fg,cG,dB,aX,wT,eO,w1,w2,wB,wF,wL,aQ,aJ,ZaM,aB,bh,ad,aa,aLC,Zbq,bF,iS,iL,iT,dS,eY,iZ,cP,bV,wN,wC,gN,bW,aV,bR,bN,fA,cq,cJ,cK,bM,cL,bT,cm,aCut,aH,pub,bL,dM,cO,eW,dW,c9,List.replicate,b9,cF,dO,dP,Nat.reduceSub,Nat.reduceAdd,dJ,fH,true_and,da,if_true,if_false,ite_true,ite_false,eK,dQ,gF,
 fX,gW,gX,gY,gZ,g6,g9,hJ,hU,hV,hW,hX,hZ,h8,h9,ia,ic,ig,ii,ij,ik,il,ip,iq,ir,iu,iw,Zb,iy,iz,iA,iB,iC,iD,iF,iG,iH,iI,iJ,iK,iM,iN,iO,iP,iQ,iR,iU,iV,iW,cV,iX,iY,i3,i4,i6,c7,c8])
namespace B.C.E
def cl(n:Nat)(d:D):Prop:=bx 7 d n=true/\lL d=true/\lZ d=true
theorem cl.up{n m:Nat}{d:D}(l:n<=m)(h:cl n d):cl m d:=⟨BK _ l h.1,h.2⟩
theorem cl.tup{n:Nat}{xs:List D}(hl:xs.length<=7)(h:∀x∈xs,cl n x):cl (n+1) (.tup xs):=⟨BM hl λx hx=>(h x hx).1,by rw[lL,xX];exact λx hx=>(h x hx).2.1,by rw[lZ,xY];exact λx hx=>(h x hx).2.2⟩
theorem cl.row{r:List Rat}(hl:r.length<=7)(h:∀x∈r,Sz 223 x):cl 2 (ae r):=⟨Fk (by decide) hl h,BD r,E6 r⟩
theorem cl.two{a b:D}{n:Nat}(h1:cl n a)(h2:cl n b):cl (n+1) (.tup [a,b]):=.tup (by simp) λx hx=>by
 simp only[Yaq,gh,or_false] at hx;rcases hx with rfl|rfl<;>assumption
theorem cl.non{n:Nat}:cl n .non:=⟨by rw[bx],rfl,rfl⟩
end B.C.E
namespace B.C.K5
variable {E:Ex->Prop}{Q:D->Prop}{x:D}{s:List Int}{n k:Nat}
end B.C.K5
local macro_rules | `(tactic| walk_at "w1")=>`(tactic| simp only [aj,bE,ax,bD,dg,aT,aZ,aU,fi,bS,bJ,bC,d6,cb,fV,aL,eh,df,wM,Zcp,eu,cH,fg,cG,dB,aX,wT,eO,w1,w2,wB,wF,wL,aQ,aJ,ZaM,aB,bh,ad,aa,aLC,Zbq,bF,iS,iE,iL,iT,dS,eY,iZ,cP,bV,wN,wC,gN,bW,aV,bR,bN,fA,cq,cJ,cK,bM,cL,bT,cm,aCut,aH,pub,bL,dM,cO,eW,dW,c9,List.replicate,b9,cF,dO,dP,Nat.reduceSub,Nat.reduceAdd,dJ,fH,true_and,da,if_true,if_false,ite_true,ite_false,eK,dQ,gF,
 fX,gW,gX,gY,gZ,g6,g9,hJ,hU,hV,hW,hX,hZ,h8,h9,ia,ic,ig,ii,ij,ik,il,ip,iq,ir,iu,iw,Zb,iy,iz,iA,iB,iC,iD,iF,iG,iH,iI,iJ,iK,iM,iN,iO,iP,iQ,iR,iU,iV,iW,cV,iX,iY,i3,i4,i6,c7,c8])
namespace Dt
open B.C
theorem LM{r:List Int}{i l:Nat}(hi:i<=r.length):ga (cutL r i) l=ga r (sk i l):=by
 unfold cutL ga sk;rw[aM,aM,List.getElem?_append,jf,tz hi]
 by_cases h:l<i
 .rw[if_pos h,if_pos h,List.getElem?_take,if_pos h]
 .rw[if_neg h,if_neg h,wI,show i+1+(l-i)=l+1 by omega]
end Dt
namespace Gs
open Dt
def dl(i j:Nat):Rat:=if i=j then 1 else 0
theorem FU(i:Nat):dl i i=1:=if_pos rfl
theorem FV{i j:Nat}(h:i≠j):dl i j=0:=if_neg h
theorem B6{n k:Nat}(f:Nat->Rat)(hk:k<n):ag (λi=>dl k i*f i) n=f k:=by
 rw[fk hk (λi _ ne=>by rw[FV (Oy ne),eL]),FU,nB]
theorem LN{n k:Nat}(f:Nat->Rat)(hk:k<n):ag (λi=>f i*dl i k) n=f k:=by
 rw[fk hk (λi _ ne=>by rw[FV ne,dX]),FU,nP]
structure Bk(n:Nat)(T B:Nat->Nat->Rat):Prop where
 tb:∀i j,i<n->j<n->ag (λk=>T i k*B k j) n=dl i j
 bt:∀i j,i<n->j<n->ag (λk=>B i k*T k j) n=dl i j
theorem Bk.uniq{n:Nat}{T B:Nat->Nat->Rat}(h:Bk n T B){X:Nat->Rat}{j:Nat}(hj:j<n)(e:∀i,i<n->ag (λk=>T i k*X k) n=dl i j){k:Nat}(hk:k<n):X k=B k j:=by
 rw[<-B6 X hk];rw [bz (g:=λi=>ag (λm=>B k m*(T m i*X i)) n) (λi hi=>by
  rw[<-h.bt k i hk hi,o5,<-sumN_mul];exact bz λm _=>by grind),pT]
 rw[bz (g:=λm=>B k m*dl m j) (λm hm=>by rw[sumN_mul,e m hm])];exact LN (λm=>B k m) hj
theorem tA_ent{s:List Int}{n i j:Nat}(h:IsSl s n)(hi:i<n)(hj:j<n):tA (tbl s n) i j=ent s n i j:=by
 unfold tA B.C.gr B.C.ga;rw[EV h,aM (l:=List.map _ _),cc,jg hi];show((List.range n).map λj=>ent s n i j).getD j 0=_;rw[aM,cc,jg hj];rfl
theorem Bk.turn{n:Nat}{T B T' B':Nat->Nat->Rat}(h:Bk n T B)(h':Bk n T' B')(e:∀i j,i<n->j<n->T' i j=T j i){i j:Nat}(hi:i<n)(hj:j<n):B' i j=B j i:=by
 refine(h'.uniq (X:=λk=>B j k) hj (λi hi=>?_) hi).symm;rw[bz (g:=λk=>B j k*T k i) (λk hk=>by rw[e i k hi hk,o5]),h.bt j i hj hi];unfold dl
 by_cases z:i=j
 .rw[if_pos z,if_pos z.symm]
 .rw[if_neg z,if_neg (Oy z)]
end Gs
def aC(K:Oq)(mg:Str->Option Value)(x:Str)(st:Stmt):Prop:=∃f fd,Fun K x x st f fd/\mg x=some (.ref f)/\j7 K x=some f
def CC(K:Oq)(mg:Str->Option Value)(x:Str):Prop:=∃a,mg x=some (.ref a)/\j7 K x=some a
def CI(mg:Str->Option Value)(x:Str)(i:Int):Prop:=∃t,mg x=some (.int i t)
def CT(K:Oq)(mg:Str->Option Value)(x:Str)(ds:List D):Prop:=∃a vs,mg x=some (.ref a)/\KT K a vs/\∀W,Reps K W vs ds
variable {K:Oq}{h:Heap}{mg:Str->Option Value}{x:Str}
theorem mkF(X:K.In h)(G:h.Ns mainGlobals mg){st:Stmt}{f:Addr}{oc:Value}{od an:Option Addr}{osl:Array (Option Value)}{kV doc pm cdv ct:Value}(a:PySem.W.nsIn K mainGlobals x=some (some (.ref f)))(l:K.lookup f=some ⟨oc,od,.func (PySem.W.fnOf x x (bQ st) (aR st) (aq st) .none kV doc pm an cdv ct),osl⟩)
  (c:PySem.W.codeIn K cdv x=true) (k:PySem.W.keepIn K (.ref f)=true):aC K mg x st:=⟨f,_,mT l c k,PySem.W.mg_of X G a,rC a⟩
theorem Oi(X:K.In h)(G:h.Ns mainGlobals mg){f:Addr}(a:PySem.W.nsIn K mainGlobals x=some (some (.ref f))):CC K mg x:=⟨f,PySem.W.mg_of X G a,rC a⟩
theorem mkI(X:K.In h)(G:h.Ns mainGlobals mg){i:Int}{t:Tok}(a:PySem.W.nsIn K mainGlobals x=some (some (.int i t))):CI mg x i:=⟨t,PySem.W.mg_of X G a⟩
theorem mkT(X:K.In h)(G:h.Ns mainGlobals mg){f:Addr}{d:Option Addr}{n:Nat}{sl:Array (Option Value)}{i j:Int}{t u:Tok}(a:PySem.W.nsIn K mainGlobals x=some (some (.ref f)))(l:K.lookup f=some ⟨.type "tuple",d,.seq #[.int i t,.int j u] n,sl⟩):CT K mg x [.int i,.int j]:=
 ⟨f,[.int i,.int j],PySem.W.mg_of X G a,⟨_,_,_,l,rfl,rfl,(by show 2<=sizeLine;decide),.cons ⟨_,rfl⟩ (.cons ⟨_,rfl⟩ .nil)⟩,λ_=>.cons (.int _) (.cons (.int _) .nil)⟩
theorem mkX(X:K.In h)(G:h.Ns mainGlobals mg){f:Addr}(a:PySem.W.nsIn K mainGlobals x=some (some (.ref f)))(e:PySem.W.excIn K f [.type "ValueError",.type "Exception",.type "BaseException",.type "object"] "ValueError.__new__" = true):XC K mg x:=
 ⟨f,_,_,_,rC a,PySem.W.mg_of X G a,e,PySem.F.excBase_ValueError⟩
theorem Oj(X:K.In h)(G:h.Ns mainGlobals mg){f:Addr}{L:List Str}(a:PySem.W.nsIn K mainGlobals x=some (some (.ref f)))(e:PySem.W.excIn K f [.type "ValueError",.type "Exception",.type "BaseException",.type "object"] "ValueError.__new__" = true)
  (m:∀n∈L,∃D,PySem.W.nsIn K mainGlobals (oB n)=some (some (.ref D))/\PySem.W.mroIn K D (.ref f)=some true):XT K mg x L:=
 ⟨f,_,_,PySem.W.mg_of X G a,e,by decide +kernel,λn hn D hD=>by
  obtain⟨D',e1,e2⟩:=m n hn;rw[rC e1] at hD;cases hD;exact e2⟩
section
variable{P:Program}{w:World}{K:Oq}{mg:Str->Option Value}{base:Heap}{x:Str}{st:Stmt}{N ps:List Str}{k:Nat}{S:aS}{z:WS}
theorem bp(h:aC K mg x st)
  (hbody:∀ (sc:N.Nodup) (f:Addr) (cdv:Value) (A:Around) (outer:List Env) (s:Shared) (H:Hp) (E:XK),Room k (A.deeper (envOfC x (aq st) s.heap.objs.size f cdv))->
   cX (dG P w) (cY (dG P w) P w K mg base N x (aq st) f cdv A outer s H E) E->lF (cY (dG P w) P w K mg base N x (aq st) f cdv A outer s H E) E->
   lA (cY (dG P w) P w K mg base N x (aq st) f cdv A outer s H E) E (aR st) z)
  (rd:∀ds E Q,S ds E Q->z E { nx:=λ_=>Q .non,rt:=Q } (aH N ds))
  (sc:cB N ps (aq st):=by exact⟨rfl,rfl,rfl,by decide +kernel,rfl,by decide +kernel,by decide +kernel⟩)
  (len:∀ds E Q,S ds E Q->ds.length=ps.length:=by first|exact fnS.len λ_=>rfl|exact xS.len λ_=>rfl|exact rlS.len λ_=>rfl)
  (hb:∀ (kV doc pm:Value) (an:Option Addr) (cdv ct:Value) (us:List Value),us.length=ps.length->bindArgs (PySem.W.fnOf x x (bQ st) (aR st) (aq st) .none kV doc pm an cdv ct) ⟨us,[]⟩=pure (ps.zip us):=by
   intro _ _ _ _ _ _ us hl
   first|(match us,hl with|[_],_=>rfl)|(match us,hl with|[_,_],_=>rfl)|(match us,hl with|[_,_,_],_=>rfl)|(match us,hl with|[_,_,_,_],_=>rfl))
  (mono:oF S:=by first|exact fnS.mono|exact rlS.mono|exact xS.mono):Fp P w K mg base (k+1) x ps S:=by
 obtain⟨f,fd,F,m,q⟩:=h;exact Fp.of (uP (z:=z) F sc len (λcdv A outer s H E hr hx hw=>hbody sc.nd f cdv A outer s H E hr hx hw) rd) mono m F.kp (F.binds hb)
theorem LO{l:PySem.W.OpenLaw}{fa:Addr}(h:aC K mg x st)(hfa:mg x=some (.ref fa))
  (hbody:∀ (base:Heap) (sc:N.Nodup) (f:Addr) (cdv:Value) (A:Around) (outer:List Env) (s:Shared) (H:Hp) (E:XK),Room k (A.deeper (envOfC x (aq st) s.heap.objs.size f cdv))->
   cX (dG l.prog w) (cY (dG l.prog w) l.prog w K mg base N x (aq st) f cdv A outer s H E) E->lF (cY (dG l.prog w) l.prog w K mg base N x (aq st) f cdv A outer s H E) E->
   lA (cY (dG l.prog w) l.prog w K mg base N x (aq st) f cdv A outer s H E) E (aR st) z)
  (rd:∀ds E Q,S ds E Q->z E { nx:=λ_=>Q .non,rt:=Q } (aH N ds))
  (sc:cB N ["_law_script"] (aq st):=by exact⟨rfl,rfl,rfl,by decide +kernel,rfl,by decide +kernel,by decide +kernel⟩)
  (len:∀ds E Q,S ds E Q->ds.length=1:=by exact fnS.len (ps:=["_law_script"]) λ_=>rfl)
  (hb:∀(kV doc pm:Value) (an:Option Addr) (cdv ct:Value) (s:Shared) (v:Value),BindsTo s (PySem.W.fnOf x x (bQ st) (aR st) (aq st) .none kV doc pm an cdv ct) ⟨[v],[]⟩ [("_law_script",v)]:=by exact λ_ _ _ _ _ _ _ _=>.of_eq rfl) :
  ∃fd:FuncData,(∀(s:Shared) (v:Value),BindsTo s fd ⟨[v],[]⟩ [("_law_script",v)])/\∀base:Heap,K.In base->base.Ns mainGlobals mg->FnOk l.prog w K mg base (dG l.prog w) (k+1) fa fd ["_law_script"] (fO K S):=by
 obtain⟨f,fd,F,m,q⟩:=h;rw[m] at hfa;cases hfa;refine⟨fd,?_,λbase _ _=>uP (z:=z) F sc len (λcdv A outer s H E hr hx hw=>hbody base sc.nd _ cdv A outer s H E hr hx hw) rd⟩;obtain⟨_,_,_,_,_,_,_,_,_,rfl,_⟩:=F.ex;exact hb _ _ _ _ _ _
end
variable {k:Nat}{ps:List Str}{S:aS}{l:List (Str×aS)}
theorem B7{i:Int}(h:CI X.mg x i)(hg:Gl X x:=by rfl)(hd:(x==("__debug__" : Str))=false:=by decide):PX X EX (.Name x pos) (wC (.int i)):=let⟨_,m⟩:=h;Iv m hg hd
theorem rT{ds:List D}(h:CT X.K X.mg x ds)(hg:Gl X x:=by rfl)(hd:(x==("__debug__" : Str))=false:=by decide):PX X EX (.Name x pos) (wC (.tup ds)):=let⟨_,_,m,k,r⟩:=h;Iw m k r hg hd
section
variable{K:Oq}{n m:Str}{D C f:Addr}{M:List Str}
theorem Ol(a:PySem.W.nsIn K mainGlobals n=some (some (.ref D)))(b:PySem.W.mroIn K D (.ref f)=some true):∃D,PySem.W.nsIn K mainGlobals n=some (some (.ref D))/\PySem.W.mroIn K D (.ref f)=some true:=⟨D,a,b⟩
theorem jB(a:PySem.W.nsIn K mainGlobals n=some (some (.ref D)))(c:rD K D)(k:PySem.W.kitOne K (.ref D) (.type "ValueError")=some true)(h:∀m∈M,∃C,j7 K m=some C/\PySem.W.kitOne K (.ref D) (.ref C)=some (n==m)) :
  ∃D,j7 K n=some D/\rD K D/\PySem.W.kitOne K (.ref D) (.type "ValueError")=some true/\∀m∈M,∃C,j7 K m=some C/\PySem.W.kitOne K (.ref D) (.ref C)=some (n==m):=⟨D,rC a,c,k,h⟩
theorem Om(a:PySem.W.nsIn K mainGlobals m=some (some (.ref C)))(b:PySem.W.kitOne K (.ref D) (.ref C)=some (n==m)):∃C,j7 K m=some C/\PySem.W.kitOne K (.ref D) (.ref C)=some (n==m):=⟨C,rC a,b⟩
end
end LP
namespace L2
open PySem PySem.Spec PyProof.Rows
variable {X:Cx}
end L2
namespace LP
open PySem PySem.Spec PyProof.Rows L2
variable {X:Cx}
variable {E:Ex->Prop}{Q:D->Prop}{x y:D}
local macro_rules | `(tactic| walk_at "w1")=>`(tactic| simp only [aj,bE,ax,bD,dg,aT,aZ,aU,fi,bS,bJ,bC,d6,cb,fV,aL,eh,wM,Zcp,eu,cH,fg,cG,dB,aX,wT,eO,w1,w2,wB,wF,wL,aQ,aJ,ZaM,aB,bh,ad,aa,aLC,Zbq,bF,iS,iL,iT,dS,eY,iZ,cP,bV,wN,wC,gN,bW,aV,bR,bN,fA,cq,cJ,cK,bM,cL,bT,cm,aCut,aH,pub,bL,dM,cO,eW,dW,c9,List.replicate,b9,cF,dO,dP,Nat.reduceSub,Nat.reduceAdd,dJ,fH,true_and,da,if_true,if_false,ite_true,ite_false,eK,dQ,gF,
 fX,gW,gX,gY,gZ,g6,g9,hJ,hU,hV,hW,hX,hZ,h8,h9,ia,ic,ig,ii,ij,ik,il,ip,iq,ir,iu,iw,Zb,iy,iz,iA,iB,iC,iD,iF,iG,iH,iI,iJ,iK,iM,iN,iO,iP,iQ,iR,iU,iV,iW,cV,iX,iY,i3,i4,i6,c7,c8])
local macro_rules | `(tactic| walk_at "st")=>`(tactic| ((try dsimp only at *);(try walk_at "w1");(try dsimp only)))
local macro_rules | `(tactic| walk_at "nx")=>`(tactic| ((try dsimp only);(refine a8 ?_);walk_at "st"))
namespace G
structure Pk(y:D):Prop where
 kd:kd y=true
 sz:kq 300 y=true
 hd:∀a r,y=.tup (a::r)->r≠[]->cM a 60=true
variable {E:Ex->Prop}{Q:D->Prop}{x y:D}{s:List Int}{n k:Nat}{r:List Rat}{u:List Int}
end G
local macro_rules | `(tactic| walk_at "w1")=>`(tactic| simp only [aj,bE,ax,bD,dg,aT,aZ,aU,fi,bS,bJ,bC,d6,cb,fV,aL,eh,df,wM,Zcp,eu,cH,fg,cG,dB,aX,wT,eO,w1,w2,wB,wF,wL,aQ,aJ,ZaM,aB,bh,ad,aa,aLC,Zbq,bF,iS,iE,iL,iT,dS,eY,iZ,cP,bV,wN,wC,gN,bW,aV,bR,bN,fA,cq,cJ,cK,bM,cL,bT,cm,aCut,aH,pub,bL,dM,cO,eW,dW,c9,List.replicate,b9,cF,dO,dP,Nat.reduceSub,Nat.reduceAdd,dJ,fH,true_and,da,if_true,if_false,ite_true,ite_false,eK,dQ,gF,
 fX,gW,gX,gY,gZ,g6,g9,hJ,hU,hV,hW,hX,hZ,h8,h9,ia,ic,ig,ii,ij,ik,il,ip,iq,ir,iu,iw,Zb,iy,iz,iA,iB,iC,iD,iF,iG,iH,iI,iJ,iK,iM,iN,iO,iP,iQ,iR,iU,iV,iW,cV,iX,iY,i3,i4,i6,c7,c8])
namespace G
theorem Pk.at{a b:D}{r:List D}(h:Pk (.tup (a::b::r))):cM a 60=true/\LP.kd b=true/\kq 300 b=true/\LP.kd a=true:=by
 have hz:=h.sz;rw[kq,Bw] at hz;exact⟨h.hd a (b::r) rfl (by simp),(sE h.kd).2 b (by simp),hz b (by simp),(sE h.kd).2 a (by simp)⟩
theorem Pk.non:Pk .non:=⟨by rw[LP.kd],by simp[kq],λ_ _ e=>nomatch e⟩
end G
def FW(m:Int):D->Bool
 |.tup xs=>xs.all (jv (-50) 50)&&decide (1<=(xs.length:Int))&&decide ((xs.length:Int)<=m)
 |_=>false
structure IsRg(r:List Int)(n:Nat):Prop where
 len:r.length=n
 n1:1<=n
 n5:n<=5
 b:∀x∈r,-50<=x/\x<=50
def B8(r:List Int):List Int:=r.drop 1++r
variable {r t:List Int}{n:Nat}
theorem IsRg.nm(h:IsRg r n):FW 5 (au r)=true:=by
 have h1:=h.n1;have h5:=h.n5;have hl:=h.len;unfold FW au;simp only[aW];rw[decide_eq_true (by omega:(1:Int)<=(r.length:Int)),decide_eq_true (by omega:(r.length:Int)<=5),wG,wG,Ybh];intro x hx;obtain⟨i,hi,rfl⟩:=YbT.mp hx;have:=h.b i hi;simp[jv,this.1,this.2]
theorem IsRg.sl(h:IsRg r n):IsSl (B8 r) n:=by
 have h1:=h.n1;have hl:=h.len;refine⟨by unfold B8;rw[dj,jM];omega,h1,h.n5,λx hx=>?_⟩;unfold B8 at hx;rcases Yar.mp hx with hx|hx
 .exact h.b x (kE hx)
 .exact h.b x hx
local macro_rules | `(tactic| walk_at "w1")=>`(tactic| simp only [aj,bE,ax,bD,dg,aT,aZ,aU,fi,bS,bJ,bC,d6,cb,fV,aL,eh,df,wM,Zcp,eu,cH,fg,cG,dB,aX,wT,eO,w1,w2,wB,wF,wL,aQ,aJ,ZaM,aB,bh,ad,aa,aLC,Zbq,bF,iS,iL,iT,dS,eY,iZ,cP,bV,wN,wC,gN,bW,aV,bR,bN,fA,cq,cJ,cK,bM,cL,bT,cm,aCut,aH,pub,bL,dM,cO,eW,dW,c9,List.replicate,b9,cF,dO,dP,Nat.reduceSub,Nat.reduceAdd,dJ,fH,true_and,da,if_true,if_false,ite_true,ite_false,eK,dQ,gF,
 fX,gW,gX,gY,gZ,g6,g9,hJ,hU,hV,hW,hX,hZ,h8,h9,ia,ic,ig,ii,ij,ik,il,ip,iq,ir,iu,iw,Zb,iy,iz,iA,iB,iC,iD,iF,iG,iH,iI,iJ,iK,iM,iN,iO,iP,iQ,iR,iU,iV,iW,cV,iX,iY,i3,i4,i6,c7,c8])
theorem set_by{i:Nat}{w:WE}{E:Ex->Prop}{N:Nds}{ρ ρ':aN}{d:D}(e:ρ.set i (.d d)=ρ')(hw:∀P:D->Prop,P d->w E ρ P)(h:N.nx ρ'):ax i w E N ρ:=hw _ (by rw[e];exact h)
theorem set_rl{i:Nat}{w:WE}{E:Ex->Prop}{N:Nds}{ρ:aN}(R:D->Prop)(hw:∀P:D->Prop,(∀d,R d->P d)->w E ρ P)(h:∀d,R d->N.nx (ρ.set i (.d d))):ax i w E N ρ:=hw _ h
theorem pair_at{w1 w2:WE}{E:Ex->Prop}{ρ:aN}{a b:D}(h1:∀P:D->Prop,P a->w1 E ρ P)(h2:∀P:D->Prop,P b->w2 E ρ P):∀P:D->Prop,P (.tup [a,b])->aQ (ad w1 (ad w2 aa)) E ρ P:=λP h=>h1 _ (h2 _ ⟨show 2<=aw by decide,h⟩)
theorem nm_at{i:Nat}{E:Ex->Prop}{ρ:aN}{d:D}(h:ρ[i]? = some (.d d)):∀P:D->Prop,P d->wN i E ρ P:=λP q=>by unfold wN;rw[h];exact q
theorem c_at{E:Ex->Prop}{ρ:aN}{d:D}:∀P:D->Prop,P d->wC d E ρ P:=λ_ h=>h
theorem for_seq{w:WE}{g:WG}{zb:WS}{E:Ex->Prop}{N:Nds}{ρ:aN}{xs:List D}(hw:∀P:D->Prop,P (.lst xs)->w E ρ P)(h:ZbW g zb E N xs ρ):aU (iS w) g zb E N ρ:=hw _ h
variable {s:List Int}
namespace B.C.E.K8
variable {E:Ex->Prop}{Q:D->Prop}{s:List Int}{n:Nat}{c:Str}
end B.C.E.K8
namespace Gs
open Dt
variable {s:List Int}{n:Nat}
end Gs
end LP
namespace L2
open PySem PySem.Spec PyProof.Rows
variable {X:Cx}
end L2
namespace LP
open PySem PySem.Spec PyProof.Rows L2
variable {X:Cx}
end LP
namespace L2
open PySem PySem.Spec PyProof.Rows
variable {X:Cx}{pos:Pos}
end L2
namespace LP
open PySem PySem.Spec PyProof.Rows L2
variable {X:Cx}{es:List Expr}{pos:Pos}
theorem Ext.none{W W':Wd}{H H':Hp}{a:Addr}(x:Ext W H W' H')(h:H' a=none):H a=none:=by
 cases e:H a with
 |none=>rfl
 |some o=>
  by_cases p:W.Pn a
  .obtain⟨po,_⟩:=x.ok.p a (x.p a p)
   unfold ZoV at po;rw[h] at po;simp at po
  .rw[x.h a o e p] at h
   cases h
abbrev FX:=List D->(Ex->Prop)->(List D->Prop)->Prop
abbrev LQ:=(Ex->Prop)->(List D->Prop)->aN->Prop
variable {EX:XK}{e:Expr}{st:Stmt}{rest:List Stmt}
variable {p:Pos}{t:WA}{x:Str}{k j:Nat}{ps:List Str}{S:FX}
variable {P:Program}{w:World}{K:Oq}{mg:Str->Option Value}{base:Heap}{N:List Str}{z:LQ}
section
variable{X:Cx}{EX:XK}{pos:Pos}{e:Expr}{w:WE}
def nh(i:Nat)(w:WE):WS:=λE N ρ=>match ρ[i]? with
 |some (.d (.int c))=>w E ρ (isI λd=>N.nx (ρ.set i (.d (.int (c+d)))))
 |_=>False
theorem sP(i:Nat){x:Str}{pos':Pos}(he:PX X EX e w)(hN:X.N.Nodup)(hi:X.N[i]? = some x:=by rfl)(hx:ml X.env.scope x:=by first|exact Or.inl rfl|exact Or.inr rfl)
  (hf:X.fn x=true\/X.env.scope.names.lookup x=some .local:=by first|exact .inl rfl|exact .inr rfl|assumption):PZ X EX (.AugAssign (.Name x pos') .Add e pos) (nh i w):=by
 obtain⟨t,p,k⟩:=he.t;refine⟨⟨_,qH hN hi hx p qI hf,λW0 H0 F W σ H ρ E Dn N s fl eo no h=>?_⟩,λE ρ N N' hl q=>?_⟩
 .unfold nh at h
  split at h
  .rename_i c ec
   obtain⟨v,e1,r⟩:=s.d i _ ec;cases r;refine⟨_,e1,k W0 H0 W σ H ρ E _ s eo (he.mono _ _ _ _ (λd hd v W1 H1 x1 r1=>?_) h)⟩;obtain⟨dn,rfl,hn⟩:=rc hd;cases r1;exact⟨c,dn,rfl,rfl,no.nx W1 _ H1 _ ((s.step x1).set (.int _)) (fl.ext x1) hn⟩
  .exact h.elim
 .unfold nh at q ⊢
  split at q
  .exact he.mono _ _ _ _ (λd hd=>isI.mono (λn hn=>hl.nx _ hn) _ hd) q
  .exact q.elim
end
variable {c:Expr}{wc:WE}
end LP
namespace L2
open PySem PySem.Spec PyProof.Rows
open PySem.Builtin PySem.Builtin.Str in
variable {X:Cx}
variable {tg:Expr}
variable {pos p2:Pos}{a b:Expr}{ta tb:TE}
end L2
namespace LP
open PySem PySem.Spec PyProof.Rows L2
def ZoG(Q:Str->Prop):D->Prop
 |.str x=>Q x
 |_=>False
theorem LR{Q:Str->Prop}{d:D}(h:ZoG Q d):∃b,d=.str b/\Q b:=by
 cases d with
 |str b=>exact⟨b,rfl,h⟩
 |_=>exact h.elim
theorem ZoG.mono{Q Q':Str->Prop}(h:∀b,Q b->Q' b)(d:D)(z:ZoG Q d):ZoG Q' d:=by
 obtain⟨b,rfl,q⟩:=LR z;exact h b q
variable {X:Cx}{EX:XK}{o e a b:Expr}{es:List Expr}{wo wa wb:WE}{t:WA}{name:Str}{apos cpos pos:Pos}{id:String}{g:Str->List D->(D->Prop)->Prop}
def CS(mg:Str->Option Value)(x y:Str):Prop:=∃t,mg x=some (.str y t)
theorem On{K:Oq}{h:Heap}{mg:Str->Option Value}{x y:Str}(X:K.In h)(G:h.Ns mainGlobals mg){t:Tok}(a:PySem.W.nsIn K mainGlobals x=some (some (.str y t))):CS mg x y:=⟨t,PySem.W.mg_of X G a⟩
end LP
namespace PySem
theorem LS{prog:Program}{w:World}{A:Around}{E:Value->Shared->Prop}{s:Shared}{T newId initId:String}{Bn Bi:Builtin}{args:List Value}{kw:List (Str×Value)}{S:Spec}{Q Q₁:Value->Shared->Prop}(ft:TypeCalled T newId initId)
  (hct:checkTypeCall T ⟨args,kw⟩=pure ()) (hcn:checkBuiltinCall newId ⟨.type T::args,kw⟩=pure ())
  (entryN:entryFor table newId=some Bn) (entryI:entryFor table initId=some Bi) (g:Meets (Bn ⟨.type T::args,kw⟩) S)
  (h:S A.in1 (wants Q₁ E) s)
  (hnext:∀obj s₁,Q₁ obj s₁->s₁.TypeIs obj T/\argsOk initId ⟨obj::args,kw⟩/\∃Si,Meets (Bi ⟨obj::args,kw⟩) Si/\Si A.in1 (wants (λr s₂=>r=.none/\Q obj s₂) E) s₁) :
  wpAny (model prog w) A (call (.type T) args kw) Q E s:=by
 obtain⟨c,tl,hmro⟩:=ft.mro;have hmade:=ft.made;have hsub:=ft.sub;refine wpAny_call (codeAny_of_tree ?_);show wpAny _ _ (callAny (.type T) _) _ _ _;refine Os ⟨Code.quiet_builtin _ (by decide +kernel),codeAny_builtin F.entry_type_call ?_⟩;rw[Around.under_plain (weight_type_call_type T args kw) (units_type_call_type T args kw)];have h1:=ft.notType;have h2:=ft.canCreate
 repeat (any_goals (first|assumption|wp_step))
 refine codeAny_mono (codeAny_call_builtin ft.plain entryN (wpAny_of_eq hcn (g prog w A.in1 _ s h))) λr s₁ hr=>?_;cases r with
 |error e=>exact hr
 |ok fl=>
  cases fl with
  |ret obj=>
   obtain⟨hT,hok,Si,gi,hsi⟩:=hnext _ _ hr;have hli:=ft.init.lookup;have hbi:=ft.init.bind obj
   repeat (any_goals (first|assumption|wp_step))
   refine codeAny_mono (codeAny_call_builtin ft.init.plain entryI (ft.init.check _ _ _ _ _ _ _ _ hT hok (gi prog w A.in1 _ s₁ hsi))) λr₂ s₂ hr₂=>?_;cases r₂ with
   |error e=>exact hr₂
   |ok fl₂=>
    cases fl₂ with
    |ret r=>
     obtain⟨rfl,hq⟩:=hr₂
     repeat (any_goals (first|assumption|wp_step))
    |_=>exact hr₂.elim
  |_=>exact hr.elim
theorem LT{T newId:String}{self:Value}{rest:List Value}{kw:List (Str×Value)}(hl:typeLookup (.type T) "__init__" = pure (some (.builtin "object.__init__")))
  (hm:Bind.madeBy (.type T)=pure (some newId)) (hne:(some newId != some "object.__new__")=true) :
  Meets (Builtin.«object.__init__» ⟨self::rest,kw⟩) (λ_ R s=>s.TypeIs self T/\R (.ok (.ret .none)) s):=by
 refine Meets.of_wp λprog w A R s hs=>?_;obtain⟨hT,hq⟩:=hs;cases rest with
 |nil=>
  cases kw with
  |nil=>exact Os ⟨_,rfl,hq⟩
  |cons k kw=>
   repeat (any_goals (first|assumption|wp_step))
   exact⟨_,rfl,hq⟩
 |cons a rest=>
  repeat (any_goals (first|assumption|wp_step))
  exact⟨_,rfl,hq⟩
theorem LU{M:Model}{A:Around}{E:Value->Shared->Prop}{s:Shared}{env:Env}{pos:Pos}{T:String}{e:Expr}{rest:List Expr}{kws:List Keyword}{Q:Value->Shared->Prop}
  (h:wpAny M A (spliced (backTo pos (starEach (e::rest) env))) (λvs s₁=>wpAny M A (evalAll ((backToKw pos (keywordEach kws env)).map (·.2)))
   (λkvs s₂=>wpAny M A (call (.type T) vs (((backToKw pos (keywordEach kws env)).filterMap (·.1)).zip kvs)) Q E s₂) E s₁) E s)
  (he:backTo pos (starEach (e::rest) env)=(false,eval e env)::backTo pos (starEach rest env):=by rfl)
  (hplain:(backTo pos (starEach (e::rest) env)).any (·.1)=false:=by rfl)
  (hall:(backToKw pos (keywordEach kws env)).all (·.1.isSome)=true:=by rfl)
  (hkw:(backToKw pos (keywordEach kws env)).any (·.1.isNone)=false:=by rfl) :
  wpAny M A (callWith pos (.type T) [] (backTo pos (starEach (e::rest) env)) (backToKw pos (keywordEach kws env))) Q E s:=by
 rw[he] at h hplain ⊢;unfold callWith;refine Op (OF (Ov (PyProof.Rows.evalArgs_kwB (Q:=λa s₁=>wpAny M A (call (.type T) ([]++a.pos) a.kw) Q E s₁) hall h) (λa s₁ h₁=>Op (OB ?_)) λ_ _ x=>x));simp only[hplain,hkw,Bool.or_false];refine Op (Os ?_);exact Op (Ov h₁ (λr s₂ hr=>Op (OF (wpAny_point (Os hr)))) λ_ _ x=>x)
end PySem
namespace L2
open PySem PySem.Spec PyProof.Rows
theorem LV(a b:Value):checkTypeCall "enumerate" ⟨[a],[("start",b)]⟩=pure ():=by kernel_rfl
theorem LW(a b:Value):checkBuiltinCall "enumerate.__new__" ⟨[.type "enumerate",a],[("start",b)]⟩=pure ():=by kernel_rfl
theorem LY(o a b:Value):argsOk "object.__init__" ⟨[o,a],[("start",b)]⟩:=by unfold argsOk;kernel_rfl
theorem LZ(l:Addr)(xs:Array Value)(n:Nat)(t:Tok)(dct:Option Addr)(sl:Array (Option Value)) :
  Meets (Builtin.«enumerate.__new__» ⟨[.type "enumerate",.ref l],[("start",.int 1 t)]⟩) (λ_ R s=>s.heap.get? l=some { cls:=.type "list",dict:=dct,data:=.seq xs n,slots:=sl }/\
   R (.ok (.ret (.ref (nL false s.heap l).objs.size))) { s with heap:=(nL false s.heap l).push { cls:=.type "enumerate",data:=.fields #[.none,.bool false,.ref s.heap.objs.size,rawInt 1,.none,.none] } }):=
 .of_wp λprog w A R s h=>by
  obtain⟨hp,g,d,tk,os⟩:=s;obtain⟨hl,h⟩:=h;have hsub:=sub_enumerate;have hT:SSq false (Shared.heap ⟨hp,g,d,tk,os⟩) l xs:=(show Heap.IsList _ l xs from⟨_,hl,rfl,n,rfl⟩)
  wp_walk using AutoSeq1.wpAny_loadPart' hl
  refine wpAny_stack_any λst=>(Os ?_);split
  .rename_i c _ _ _ _ _
   cases(c==Value.type "enumerate")
   .wp_walk using AutoSeq1.wpAny_loadPart' hl,rh hT
    exact⟨_,rfl,h⟩
   .wp_walk using AutoSeq1.wpAny_loadPart' hl,rh hT
    exact⟨_,rfl,h⟩
  .wp_walk using AutoSeq1.wpAny_loadPart' hl,rh hT
   exact⟨_,rfl,h⟩
theorem L0{prog:Program}{w:World}{A:Around}{E:Value->Shared->Prop}{s:Shared}{l:Addr}{t:Tok}{xs:Array Value}{Q:Value->Shared->Prop}(hL:SSq false s.heap l xs)
  (h:∀h',IsEnum h' (s.heap.objs.size+1) s.heap.objs.size 1 .none->SIt false h' s.heap.objs.size l 0->(∀b o,s.heap.get? b=some o->h'.get? b=some o)->Q (.ref (s.heap.objs.size+1)) { s with heap:=h' }) :
  wpAny (model prog w) A (call (.type "enumerate") [.ref l] [("start",.int 1 t)]) Q E s:=by
 obtain⟨⟨c,dct,dt,sl⟩,hl,hc,n,hd⟩:=(show s.heap.IsList l xs from hL)
 replace hc:c=.type "list" :=hc;replace hd:dt=.seq xs n:=hd;subst hc hd;refine LS (Q₁:=λobj s₁=>s₁.TypeIs obj "enumerate" /\Q obj s₁) F.called_enumerate (LV _ _) (LW _ _) F.entry_enumerate_new F.entry_object_init (LZ l xs n t dct sl) ⟨hl,?_⟩ λobj _ hq=>⟨hq.1,LY obj _ _,_,LT F.called_enumerate.init.lookup F.called_enumerate.made (by decide),hq.1,rfl,hq.2⟩;have hz:(nL false s.heap l).objs.size=s.heap.objs.size+1:=kz ..;have g2:((nL false s.heap l).push { cls:=.type "enumerate",data:=.fields #[.none,.bool false,.ref s.heap.objs.size,rawInt 1,.none,.none] }).get? (nL false s.heap l).objs.size=some _:=eV _ rfl;have g1:((nL false s.heap l).push { cls:=.type "enumerate",data:=.fields #[.none,.bool false,.ref s.heap.objs.size,rawInt 1,.none,.none] }).get? s.heap.objs.size=some _:=bZ _ (eV _ rfl);show _/\_;rw[hz] at g2 ⊢;exact⟨⟨_,g2,rfl⟩,h _ g2 (xu g1) λb o x=>bZ _ (bZ _ x)⟩
theorem L3{prog:Program}{w:World}{A:Around}(hh:A.handled=none)(it l:Addr)(hne:l≠it)(xs:Array Value):Draws prog w A it [it,l] (xs.size+1) (λi v=>xs[i-1]? = some v) (λi h=>1<=i/\SIt false h it l (i-1)/\SSq false h l xs) where
 live:=λ_ _ st=>let⟨o,ho,_⟩:=st.2.1.obj;⟨o,ho⟩
 frame:=λ_ _ _ st hk=>⟨st.1,st.2.1.keep λo e=>hk it (by simp) o e,st.2.2.keep λo e=>hk l (by simp) o e⟩
 item:=λi s Q E hi st hQ=>by
  have h2:=st.1;have hi':i-1<xs.size:=by omega
  exact uQ st.2.1 st.2.2 (x:=xs[i-1]) (by simp[hi']) λh' hit' hs'=>hQ _ h' s.toks (by simp[hi']) ⟨by omega,by rw[show i+1-1=i-1+1 by omega];exact hit',st.2.2.keep λo e=>hs'.extBut l o hne e⟩ hs'
 done:=λs Q E st hE=>sC hh st.2.1 st.2.2 (by simp) hE
theorem L4{prog:Program}{w:World}{A:Around}(hh:A.handled=none)(it l:Addr)(xs:Array Value)(n:Nat)(hn:xs[n]? = none):Draws prog w A it [it,l] (n+1) (λ_ _=>False) (λj h=>j=n+1/\SIt false h it l n/\SSq false h l xs) where
 live:=λ_ _ st=>let⟨o,ho,_⟩:=st.2.1.obj;⟨o,ho⟩
 frame:=λ_ _ _ st hk=>⟨st.1,st.2.1.keep λo e=>hk it (by simp) o e,st.2.2.keep λo e=>hk l (by simp) o e⟩
 item:=λi s Q E hi st hQ=>Ot st.1 (eJ hi)
 done:=λs Q E st hE=>sC hh st.2.1 st.2.2 hn hE
def vF(K:Oq)(a:Addr):It:=
  ⟨λi H=>∃ xs x,Sq K false H a xs/\xs[i]? = some x,
   λi H v H'=>∃p x,v=.ref p/\H p=none/\H'=upd H p (.tup [.int ((i+1:Nat):Int),x])/\∀xs,Sq K false H a xs->xs[i]? = some x,
   λi H=>∃xs,Sq K false H a xs/\xs.length<=i⟩
theorem L5{P:Program}{w:World}{K:Oq}{es:List Expr}{n1:Nat}{ps:Pos}(a e it:Addr)(hne:e≠it) :
  fL P w K (.Tuple es n1 ps) (vF K a) [e,it] e (λi h=>(∃old,IsEnum h e it ((i+1:Nat):Int) old)/\SIt false h it a i) where
 mem:=by simp
 obj:=λi h ⟨⟨old,q1⟩,q2⟩ c hc=>by
  simp only[Yaq,gh,or_false] at hc;rcases hc with rfl|rfl
  .exact⟨_,q1,λv e=>by cases e⟩
  .exact q2.obj
 keep:=λi h h' ⟨⟨old,q1⟩,q2⟩ k=>⟨⟨old,k e (by simp) _ q1⟩,q2.keep λo x=>k it (by simp) o x⟩
 item:=by
  intro X hP hw hK hc i pins s σ H E I hf ⟨⟨old,q1⟩,q2⟩ hg;subst hP hw hK;obtain⟨xs,x,hx,ex⟩:=hg;obtain⟨its,rv,p,hz⟩:=I.sq hx;obtain⟨ux,hux,rux⟩:=rv.get ex;have oe:=I.sq_out hx (hf e (by simp));have oi:=I.sq_out hx (hf it (by simp));have hi:i<its.toArray.size:=by have:=(Yas.mp hux).1;simpa using this
  refine wpAny_pyNext_enum_itemD (i:=i+1) (L3 (A:=X.A.in1) (I.ok.hd hc) it a oi its.toArray) q1 ⟨by omega,by rw[Nat.add_sub_cancel];exact q2,p⟩ (by omega) hne (by simp[hne,Oy oe]) λy h' tk b1 b2 b3 b4 b5 b6=>⟨_,rfl,?_⟩;have ey:y=ux:=by
   have:its[i]? = some y:=by simpa using b1
   rw[hux] at this;exact(Ow this).symm
  subst ey;refine wpAny_letOwnedTupleGo_enum (s:={ s with heap:=h',toks:=tk+1 }) b2 λh2 c1 c2=>?_;have lt:∀{c o},s.heap.get? c=some o->c≠s.heap.objs.size:=λz=>eJ (bX z);have el:=lt q1;have up:∀c o,c∉[e,it]->s.heap.get? c=some o->h2.get? c=some o:=λc o hc z=>by
   simp only[Yaq,gh,or_false,not_or] at hc;exact c2.extBut _ _ hc.1 (b6 c o hc.1 hc.2 z)
  refine⟨.ref s.heap.objs.size,upd H s.heap.objs.size (.tup [.int ((i+1:Nat):Int),x]),Inv.turnedN (s:=s) (t':=tk+1) [e,it] I up hf (bb _) ?_,rfl,⟨s.heap.objs.size,x,rfl,I.fresh,rfl,λxs' h'=>by rw[I.sq_inj h' hx];exact ex⟩,?_,λc hc=>?_⟩
  .refine⟨by rw[sizeLine_eq];simp,[.int ((i+1:Nat):Int) tk,y],.cons ⟨_,rfl⟩ (.cons rux .nil),?_⟩
   exact⟨_,c2.extBut _ _ (Oy el) b4,rfl,_,rfl⟩
  .refine⟨⟨y,?_⟩,?_⟩
   .have e1:(((i+1+1:Nat)):Int)=((i+1:Nat):Int)+1:=by omega
    rw[e1];exact c1
   .have:=b3.2.1.keep (h':=h2) λo z=>c2.extBut _ o (Oy hne) z
    rwa [show i+1+1-1=i+1 by omega] at this
  .have he:∃o,s.heap.get? c=some o:=by
    simp only[Yaq,gh,or_false] at hc;rcases hc with rfl|rfl
    .exact⟨_,q1⟩
    .obtain⟨o,z,_⟩:=q2.obj;exact⟨o,z⟩
   obtain⟨o,z⟩:=he;rw[af (lt z)];exact(hf c hc).1
 done:=by
  intro X hP hw hK hc i pins s σ H E I hf ⟨⟨old,q1⟩,q2⟩ hg;subst hP hw hK;obtain⟨xs,hx,en⟩:=hg;obtain⟨its,rv,p,hz⟩:=I.sq hx;have l1:=rv.length;have oi:=I.sq_out hx (hf it (by simp));refine wpAny_pyNext_enum_endD (L4 (A:=X.A.in1) (I.ok.hd hc) it a its.toArray i (by simp;omega)) q1 ⟨rfl,q2,p⟩ λh' k=>⟨rfl,?_⟩;refine I.turnedL (t':=s.toks) [e,it] (λc o hc z=>?_) hf;simp only[Yaq,gh,or_false,not_or] at hc;exact k c o hc.2 z
 self:=λ_ _ _ _ _ st h=>let⟨⟨_,q⟩,_⟩:=st;OU q h
variable {X:Cx}
def L6(K:Oq)(ta:TA):TI:=λσ H R=>ta σ H λvs H1=>∃a,vs=[.ref a]/\(∃xs,Sq K false H1 a xs)/\R (vF K a) H1
theorem L7{a:Expr}{ta:TA}{p pos ps kp cp:Pos}{j:Nat}{es:List Expr}{n1:Nat}(hg:Gl X "enumerate")(hm:X.mg "enumerate" = none)(ha:PA X [a] ta)(hs:starEach [a] X.env=[(false,eval a X.env)]:=by rfl) :
  PI X (.Tuple es n1 ps) (.Call (.Name "enumerate" p) [a] [⟨some "start",.Constant (.int 1) j cp,kp⟩] pos) (L6 X.K ta):=by
 intro pins s σ H R I h;refine OR (dm I hg hm boot_enumerate ?_);refine LU (aI (ha pos pins s σ H _ I h) λus s1 ⟨vs,H1,I1,r1,q1⟩=>?_) (by rw[hs];rfl) (by rw[hs];rfl);obtain⟨l,rfl,⟨xs,hx⟩,q⟩:=q1;cases r1 with
 |cons r rr=>
  cases rr;cases r;refine PyProof.Rows.kws_cons (wpAny_Constant_int (PyProof.Rows.kws_nil ?_));obtain⟨its,rv,p1,hz⟩:=I1.sq hx;refine L0 (s:={ s1 with toks:=s1.toks+1 }) p1 λh' a1 a2 k=>OU (s:={ s1 with heap:=h',toks:=s1.toks+1 }) a1 ?_;refine⟨_,[s1.heap.objs.size+1,s1.heap.objs.size],_,_,H1,rfl,I1.kept (t':=s1.toks+1) k,L5 l _ _ (Nat.succ_ne_self _),⟨⟨_,a1⟩,a2⟩,λb hb=>?_,q⟩;have hb':s1.heap.objs.size<=b:=by
   simp only[Yaq,gh,or_false] at hb;exact Fa _ _ hb
  exact I1.fpOk hb' (I1.hok.fresh hb')
end L2
namespace LP
open PySem PySem.Spec PyProof.Rows L2
variable {X:Cx}{EX:XK}{pos p ps kp cp:Pos}{a:Expr}{es:List Expr}
def B9(t:WA):WA:=λE ρ Q=>t E ρ λds=>∃xs,ds=[.lst xs]/\Q (cx 1 xs)
theorem L8{t:WA}{n1 j:Nat}(hm:X.mg "enumerate" = none)(ha:jo X EX [a] t)(hg:Gl X "enumerate" :=by rfl)(hs:starEach [a] X.env=[(false,eval a X.env)]:=by rfl) :
  lD X EX (.Tuple es n1 ps) (.Call (.Name "enumerate" p) [a] [⟨some "start",.Constant (.int 1) j cp,kp⟩] pos) (B9 t):=by
 obtain⟨t,q,k⟩:=ha.t;refine⟨⟨_,L7 hg hm q hs,λW0 H0 W σ H ρ E R s eo h=>?_⟩,λE ρ P P' hp h=>ha.mono _ _ _ _ (λds ⟨xs,e,z⟩=>⟨xs,e,hp _ z⟩) h⟩;refine k W0 H0 W σ H ρ E _ s eo (ha.mono _ _ _ _ (λds ⟨xs,e,hd⟩ vs W1 H1 x1 r1=>?_) h);subst e;obtain⟨v,rfl,rv⟩:=r1.one;cases rv with
 | @lst l vs _ e1 rr=>
  have sq:∀W2 H2,(∀a o,W1.G a=some o->W2.G a=some o)->WOk W2 H2->Sq X.K false H2 l vs:=λW2 H2 g ok=>SqL.of (ok.g _ _ (g _ _ e1));refine⟨l,rfl,⟨vs,sq W1 H1 (λ_ _ z=>z) x1.ok⟩,hd W1 H1 _ x1 λW2 H2 i g2 p2 ok2=>⟨λd hd=>?_,λhi=>?_⟩⟩
  .have s1:=sq W2 H2 g2 ok2
   obtain⟨x,ex,rfl⟩:=BG 1 i xs d hd;obtain⟨vx,evx,rvx⟩:=rr.get ex;refine⟨⟨vs,vx,s1,evx⟩,λz H3 hy=>?_⟩;obtain⟨q,x',rfl,hq,rfl,e1⟩:=hy;have e1:=e1 _ s1;rw[evx] at e1;cases e1;have xt:=Ext.put (o:=.tup [.int ((i+1:Nat):Int),vx]) ok2 hq;rw[td 1 i];exact⟨_,xt,.tup (by unfold Wd.put;dsimp only;rw[ao]) (.cons (.int _) (.cons (xt.rep (rvx.mono g2 p2)) .nil))⟩
  .refine⟨vs,sq W2 H2 g2 ok2,?_⟩
   rw[rr.length];rw[BF] at hi;omega
open Dt
abbrev tabD:=B.C.tabD
abbrev Sm:=B.C.Sm
def fo(t:List (List Int))(j:Nat):List (List Int):=(t.drop 1).map λr=>B.C.cutL r j
def bg(t:List (List Int)):Int:=dt (tA t) t.length
def i9(s:List Int)(n:Nat):List Int:=(List.range n).map λk=>bg (tbl (cor s n (k+1)) (k+1))
def eU(s:List Int)(n:Nat):List Nat:=((List.range n).filter λk=>bg (tbl (cor s n (k+1)) (k+1))==0).map (· + 1)
def yr:aS:=fnS (λx:Nat×List (List Int)=>[tabD x.2,.int x.1]) (λx=>x.2.length<=5/\(∀r∈x.2,r.length=x.2.length)/\x.1<x.2.length) λx=>tabD (fo x.2 x.1)
def kx(i:Nat):aS:=fnS (λt:List (List Int)=>[tabD t]) (λt=>Sm 10 t.length t/\t.length<=i/\i<=5) λt=>.int (bg t)
def Ca:aS:=kx 5
def Cb(x:D):Except Str D:=eI x (.ok (.int (bg (tbl (sI x) (sN x)))))
def Cc(x:D):Except Str D:=eI x (.ok (.lst ((i9 (sI x) (sN x)).map .int)))
def Cd(x:D):Except Str D:=eI x (.ok (jK (eU (sI x) (sN x))))
def vG:aS:=xS (λx:D=>[x]) (λx=>kd x=true) Cb
def sQ:aS:=xS (λx:D=>[x]) (λx=>kd x=true) Cc
def yt:aS:=xS (λx:D=>[x]) (λx=>kd x=true) Cd
variable {E:Ex->Prop}{Q:D->Prop}{x:D}{s:List Int}{n k i:Nat}{t:List (List Int)}
theorem L9(h1:t.length<=5)(h2:∀r∈t,r.length=t.length)(h3:k<t.length)(q:Q (tabD (fo t k))):yr [tabD t,.int k] E Q:=⟨(k,t),rfl,⟨h1,h2,h3⟩,q⟩
theorem Ma(h:Sm 10 t.length t)(h5:t.length<=5)(q:Q (.int (bg t))):Ca [tabD t] E Q:=⟨t,rfl,⟨h,h5,bb _⟩,q⟩
theorem Mb(h:IsSl s n)(q:Q (.int (bg (tbl s n)))):vG [au s] E Q:=xS.ok (au s) rfl h.kd (by(try dsimp only);unfold Cb;rw[d7 h,dh,h.sN]) q
theorem FY(h:IsSl s n)(q:Q (.lst ((i9 s n).map .int))):sQ [au s] E Q:=xS.ok (au s) rfl h.kd (by(try dsimp only);unfold Cc;rw[d7 h,dh,h.sN]) q
theorem Mc(h:kd x=true)(hb:dC x=false)(e:E "NoSlants"):sQ [x] E Q:=xS.err x rfl h (kj hb) e
theorem Md(h:IsSl s n)(q:Q (jK (eU s n))):yt [au s] E Q:=xS.ok (au s) rfl h.kd (by(try dsimp only);unfold Cd;rw[d7 h,dh,h.sN]) q
theorem yu(t:List (List Int))(j:Nat):(fo t j).length=t.length-1:=by unfold fo;rw[aW,jM]
theorem Ce{b n j:Nat}{t:List (List Int)}(h:Sm b n t)(hj:j<n):Sm b (n-1) (fo t j):=by
 refine⟨by rw[yu,h.len],λr hr=>?_,λr hr x hx=>?_⟩
 .obtain⟨r',hr',rfl⟩:=YbT.mp hr
  have:=h.row r' (kE hr');unfold B.C.cutL;simp only[dj,jf,jM];omega
 .obtain⟨r',hr',rfl⟩:=YbT.mp hr
  exact h.sm r' (kE hr') x (B.C.cut_mem hx)
theorem Me{b n j:Nat}{t:List (List Int)}(h:Sm b n t)(hj:j<n):bg (fo t j)=dt (cut (tA t) 0 j) (n-1):=by
 have e:=h.len;unfold bg;rw[yu,e];refine B4 λi hi k hk=>?_;show B.C.ga (B.C.gr (fo t j) i) k=B.C.ga (B.C.gr t (sk 0 i)) (sk j k);have e1:B.C.gr (fo t j) i=B.C.cutL (B.C.gr t (i+1)) j:=by
  show(fo t j).getD i []=_;unfold fo B.C.gr;rw[aM,cc,wI,aM,td 1 i,bG (by omega)];rfl
 rw[e1,show sk 0 i=i+1 from rfl,LM (by rw[(h.gr (k:=i+1) (by omega)).2.1];omega)]
theorem FZ{b n:Nat}{t:List (List Int)}(h:Sm b n t)(n1:1<=n)(hn:n<=5):sumI (λj=>tA t 0 j*(sg j*bg (fo t j))) n=bg t:=by
 have:=Ds (tA t) hn (i:=0) (k:=0) (by omega) (by omega);rw[if_pos rfl] at this;rw[show bg t=dt (tA t) n from by unfold bg;rw[h.len],<-this];refine tO λj hj=>?_;unfold jS;rw[Me h hj,qi]
theorem F0{f:Nat->Int}{B:Nat}:∀{n:Nat},(∀j,j<n->(f j).natAbs<=B)->(sumI f n).natAbs<=n*B
 |0,_=>by simp[sumI]
 |n+1,h=>by
  rw[sumI,nw];have h1:=F0 (n:=n) λj hj=>h j (by omega);have h2:=h n (by omega);have:=qh (sumI f n) (f n);omega
theorem Cf(j:Nat):(sg j).natAbs=1:=by unfold sg;split<;>rfl
theorem Mf{b n j:Nat}{t:List (List Int)}{Z:Nat}(h:Sm b n t)(n1:1<=n)(hB:(bg (fo t j)).natAbs<=Z):(tA t 0 j*(sg j*bg (fo t j))).natAbs<=2^b*Z:=by
 rw[dE,dE,Cf,Nat.one_mul];exact jF (jC (B.C.ga_lt (h.gr (k:=0) (by omega)).2.2)) hB
theorem Cg{b:Nat}:∀{n:Nat} {t:List (List Int)},Sm b n t->n<=5->(bg t).natAbs<=2^(n*(b+3))
 |0,t,h,_=>by
  unfold bg;rw[h.len,Nat.zero_mul];exact bb 1
 |n+1,t,h,hn=>by
  rw[<-FZ h (by omega) hn];refine gb (F0 (B:=2^b*2^(n*(b+3))) λj hj=>Mf h (by omega) (Cg (Ce h hj) (by omega))) ?_;rw[show(n+1)*(b+3)=3+(b+n*(b+3)) from by rw[nw];omega,jO,<-jO 2 b];exact jF (by omega) (bb _)
theorem Mg{s:List Int}{n k i j:Nat}(h:IsSl s n)(hk:k<=n)(hi:i<k)(hj:j<k):ent (cor s n k) k i j=ent s n i j:=by
 unfold ent cor;rw[aM,List.getElem?_take,if_pos (by omega),wI,aM,show n-k+(k-1-i+j)=n-1-i+j by omega]
theorem F1{s:List Int}{n:Nat}(h:IsSl s n):Sm 10 n (tbl s n):=⟨lK s n,λr hr=>(pP h r hr).1,λr hr x hx=>by
 have:=(pP h r hr).2 x hx;show x.natAbs<1024;omega⟩
abbrev F2:List Str:=["table", "column"]
abbrev Mh:List Str:=["table", "column"]
def yv:WS:=(aj (wL (aLC (iS (aJ (wN 0) (bV (wC (D.int (1)))) cP)) 1 [1] (gN 0) bF (w2 gAdd (aJ (wN 0) cP (bV (wN 1))) (aJ (wN 0) (bV (w2 gAdd (wN 1) (wC (D.int (1))))) cP)))))
abbrev pV:List Str:=["table", "total", "sign", "column", "number"]
abbrev rV:List Str:=["table"]
def l3(W:WA->WE):WS:=(ai (bE (wT (w2 (gEq false) (wB bA (ad (wN 0) aa)) (wC (D.int (0))))) (aj (wC (D.int (1)))) bD) (ai (ax 1 (wC (D.int (0)))) (ai (ax 2 (wC (D.int (1)))) (ai (aL (aU (iE (ad (w2 gIx (wN 0) (wC (D.int (0)))) aa)) (bW 2 (aV (gN 3) (aV (gN 4) bR))) (ai (nh 1 (w2 gMul (w2 gMul (wN 2) (wN 4)) (W (ad (wF yr (ad (wN 0) (ad (wN 3) aa))) aa)))) (ax 2 (w1 kf (wN 2)))))) (aj (wN 1))))))
abbrev F3:List Str:=["slants"]
abbrev Mi:List Str:=["slants"]
def yw:WS:=(aj (wF Ca (ad (wF u7 (ad (wN 0) aa)) aa)))
abbrev F5:List Str:=["slants"]
abbrev Mj:List Str:=["slants"]
def yx:WS:=(ai (dg (wF m8 (ad (wN 0) aa))) (aj (wL (aLC (eY (ad (wC (D.int (1))) (ad (w2 gAdd (wF lX (ad (wN 0) aa)) (wC (D.int (1)))) aa))) 1 [0] (gN 0) bF (wF vG (ad (wF u8 (ad (wN 1) (ad (wN 0) aa))) aa))))))
abbrev F6:List Str:=["slants"]
abbrev Mk:List Str:=["slants"]
def yy:WS:=(aj (wL (aLC (B9 (ad (wF sQ (ad (wN 0) aa)) aa)) 2 [] (bW 2 (aV (gN 0) (aV (gN 1) bR))) (wT (w2 (gEq false) (wN 1) (wC (D.int (0))))) (wN 0))))
local macro_rules | `(tactic| walk_at "w1")=>`(tactic| simp only [aj,bE,ax,bD,dg,aT,aZ,aU,fi,bS,bJ,bC,d6,cb,fV,aL,eh,df,wM,Zcp,eu,cH,fg,cG,dB,aX,wT,eO,w1,w2,wB,wF,wL,aQ,aJ,ZaM,aB,bh,ad,aa,aLC,Zbq,bF,iS,iE,iL,iT,dS,eY,iZ,cP,bV,wN,wC,gN,bW,aV,bR,bN,fA,cq,cJ,cK,bM,cL,bT,cm,aCut,aH,pub,bL,dM,cO,eW,dW,c9,List.replicate,b9,cF,dO,dP,Nat.reduceSub,Nat.reduceAdd,dJ,fH,true_and,da,if_true,if_false,ite_true,ite_false,eK,dQ,gF,
 fX,gW,gX,gY,gZ,g6,g9,hJ,hU,hV,hW,hX,hZ,h8,h9,ia,ic,ig,ii,ij,ik,il,ip,iq,ir,iu,iw,Zb,iy,iz,iA,iB,iC,iD,iF,iG,iH,iI,iJ,iK,iM,iN,iO,iP,iQ,iR,iU,iV,iW,cV,iX,iY,i3,i4,i6,c7,c8])
local macro_rules | `(tactic| walk_at "st")=>`(tactic| ((try dsimp only at *);(try walk_at "w1");(try dsimp only)))
local macro_rules | `(tactic| walk_at "nx")=>`(tactic| ((try dsimp only);(refine a8 ?_);walk_at "st"))
open Dt
theorem F7{g:WG}{zb:WS}{E:Ex->Prop}{N:Nds}(I:Nat->aN->Prop):∀(xs:List D) (k0:Nat),(∀k d,xs[k]? = some d->∀ρ,I (k0+k) ρ->∀nx:aN->Prop,(∀ρ,I (k0+k+1) ρ->nx ρ)->g (.tup [.int ((k0+k:Nat):Int),d]) ρ λρ1=>zb E { nx:=nx,rt:=N.rt,bk:=N.nx,ct:=nx } ρ1)->(∀ρ,I (k0+xs.length) ρ->N.nx ρ)->∀ρ,I k0 ρ->ZbW g zb E N (cx k0 xs) ρ
 |[],k0,_,hn,ρ,i=>hn ρ i
 | x::xs,k0,h,hn,ρ,i=>h 0 x rfl ρ i _ (F7 I xs (k0+1) (λk d hd ρ hi nx hnx=>by
   have:=h (k+1) d hd ρ (by rw[show k0+(k+1)=k0+1+k by omega];exact hi) nx (λρ hρ=>hnx ρ (by rw[show k0+1+k+1=k0+(k+1)+1 by omega];exact hρ));rw[show k0+1+k=k0+(k+1) by omega];exact this) (λρ hρ=>hn ρ (by rw[cO,show k0+(xs.length+1)=k0+1+xs.length by omega];exact hρ)))
theorem Ml:∀ds E Q,yr ds E Q->yv E { nx:=λ_=>Q .non,rt:=Q } (aH F2 ds):=by
 rintro _ E Q ⟨⟨k,t⟩,rfl,⟨h5,hr,hk⟩,q⟩;dsimp only at h5 hr hk q;show yv E _ [.d (.lst (t.map cw)),.d (.int k)];unfold yv;walk_at "st";rw[show bn (t.map cw) (some 1) none=(t.map cw).drop 1 from rE (a:=1) (by rw[aW];omega),<-nA];refine jJ (g:=cw) (f:=λr=>cw (B.C.cutL r k)) (t.drop 1) (λr hr' Q hq=>?_) .un [] (fD (by simp;omega)) ?_
 .have rl:=hr r (kE hr')
  unfold cw at hq ⊢;walk_at "st";rw[pO (b:=k) rfl,show((k:Int)+1)=((k+1:Nat):Int) from rfl,rE (by rw[aW];omega)];unfold B.C.cutL at hq;rw[kT,l8,nA] at hq;exact⟨fD (by simp;omega),hq⟩
 .unfold tabD B.C.tabD fo at q
  rw[cr] at q;exact q
theorem yz{x:Int}{b:Nat}(h:x.natAbs<=2^b)(hb:b<8990):Bd x:=kC h (Nat.pow_lt_pow_right (by decide) hb)
theorem Mm:∀ds E Q,kx 0 ds E Q->l3 (λ_=>Bz) E { nx:=λ_=>Q .non,rt:=Q } (aH pV ds):=by
 rintro _ E Q ⟨t,rfl,⟨h,h0,_⟩,q⟩;dsimp only at h h0 q;have e:t=[]:=List.length_eq_zero_iff.mp (by omega);subst e;show l3 _ E _ [.d (.lst []),.un,.un,.un,.un];unfold l3;refine a8 (fW (b:=true) (λP hP=>?_) (λ_=>?_) λe=>nomatch e)
 .walk_at "st"
  exact hP
 .exact q
theorem vH(i:Nat):∀ds E Q,kx (i+1) ds E Q->l3 (wF (kx i)) E { nx:=λ_=>Q .non,rt:=Q } (aH pV ds):=by
 rintro _ E Q ⟨t,rfl,⟨h,hi,i5⟩,q⟩;dsimp only at h hi i5 q;show l3 _ E _ [.d (.lst (t.map cw)),.un,.un,.un,.un];unfold l3
 by_cases t0:t=[]
 .subst t0
  refine a8 (fW (b:=true) (λP hP=>?_) (λ_=>?_) λe=>nomatch e)
  .walk_at "st"
   exact hP
  .exact q
 generalize hn:t.length=n at h hi;have n1:1<=n:=by rw[<-hn];exact List.length_pos_iff.mpr t0
 refine a8 (fW (b:=false) (λP hP=>?_) (λe=>nomatch e) λ_=>?_)
 .walk_at "st"
  rw[aW,hn,show((n:Int)==0)=false from by rw[beq_eq_false_iff_ne];omega];exact hP
 dsimp only;refine a8 (LP.set_by (d:=.int 0) (ρ':=[.d (.lst (t.map cw)),.d (.int 0),.un,.un,.un]) (by rfl) LP.c_at ?_);dsimp only;refine a8 (LP.set_by (d:=.int 1) (ρ':=[.d (.lst (t.map cw)),.d (.int 0),.d (.int 1),.un,.un]) (by rfl) LP.c_at ?_);dsimp only;refine a8 ?_;simp only[aL,aU];obtain⟨g1,g2,g3⟩:=h.gr (k:=0) (by omega);walk_at "st";refine⟨cw (B.C.gr t 0),B.C.gr_map (k:=0) (by omega) rfl,?_⟩;have s5:∀k,k<n->(bg (fo t k)).natAbs<=2^((n-1)*(10+3)):=λk hk=>Cg (Ce h hk) (by omega);refine F7 (λk ρ=>∃s3 s4,ρ=[.d (.lst (t.map cw)),.d (.int (sumI (λj=>tA t 0 j*(sg j*bg (fo t j))) k)),.d (.int (sg k)),s3,s4]) _ 0 ?_ ?_ _ ⟨_,_,rfl⟩
 .rintro k d hd _ ⟨s3,s4,rfl⟩ nx hnx
  rw[qi] at hnx ⊢;have hk:k<n:=by
   have:=(Yas.mp hd).1;rw[aW,g2] at this;exact this
  have ed:d=.int (tA t 0 k):=by
   rw[cc,B.C.ga_get g2 hk] at hd;exact(Ow hd).symm
  subst ed;refine⟨rfl,?_⟩;simp only[aV,bR,gN,dP,dO];show ai _ _ _ _ [.d (.lst (t.map cw)),.d (.int (sumI (λj=>tA t 0 j*(sg j*bg (fo t j))) k)),.d (.int (sg k)),.d (.int k),.d (.int (tA t 0 k))];generalize hS:sumI (λj=>tA t 0 j*(sg j*bg (fo t j))) k=Sk;have eS:sumI (λj=>tA t 0 j*(sg j*bg (fo t j))) (k+1)=Sk+sg k*tA t 0 k*bg (fo t k):=by
   rw[sumI,hS];grind
  have ba:(tA t 0 k).natAbs<=2^10:=jC (B.C.ga_lt g3);have bs:(sg k).natAbs<=2^0:=by rw[Cf];exact bb 1
  refine a8 ?_;simp only[nh,cF,b9,w2,wN];refine⟨⟨yz bs (by decide),yz ba (by decide)⟩,?_⟩;simp only[wF,ad,aa,wN,cF,b9];refine L9 (t:=t) (by omega) (λr hr=>by rw[h.row r hr,hn]) (by omega) ?_;refine⟨fo t k,rfl,⟨?_,?_,by omega⟩,?_⟩
  .rw[yu,hn];exact Ce h hk
  .rw[yu,hn];omega
  have hb4:(n-1)*(10+3)<8990:=kC (jF (show n-1<=4 by omega) (bb (10+3))) (by decide);have b1:(sg k*tA t 0 k).natAbs<=2^10:=by rw[dE,Cf,Nat.one_mul];exact ba
  refine⟨⟨yz b1 (by decide),yz (s5 k hk) hb4⟩,?_⟩
  try dsimp only
  show ax 2 (w1 kf (wN 2)) _ _ [.d (.lst (t.map cw)),.d (.int (Sk+sg k*tA t 0 k*bg (fo t k))),.d (.int (sg k)),.d (.int k),.d (.int (tA t 0 k))];refine LP.set_by (d:=.int (sg (k+1))) (ρ':=[.d (.lst (t.map cw)),.d (.int (Sk+sg k*tA t 0 k*bg (fo t k))),.d (.int (sg (k+1))),.d (.int k),.d (.int (tA t 0 k))]) (by rfl) (λP hP=>?_) (hnx _ ⟨_,_,by rw[eS]⟩);have:sg (k+1) = - sg k:=by
   unfold sg
   by_cases z:k%2=0
   .rw[if_pos z,if_neg (by omega)]
   .rw[if_neg z,if_pos (by omega)];rfl
  rw[this] at hP;exact hP
 .rintro _ ⟨s3,s4,rfl⟩
  rw[aW,g2,qi,FZ h n1 (by omega)];exact q
theorem Mn:∀ds E Q,vG ds E Q->yw E { nx:=λ_=>Q .non,rt:=Q } (aH F3 ds):=by
 rintro _ E Q ⟨x,rfl,hk,q⟩;show yw E _ [.d x];unfold yw;walk_at "st";unfold Cb at q;cases e:dC x with
 |false=>exact xS.err x rfl hk (kj e) (jx e q)
 |true=>
 obtain⟨s,n,rfl,h⟩:=km e;replace q:=jy h q;rw[dh,h.sN] at q;have:=F1 h;exact D6 h (Ma (t:=tbl s n) (by rw[lK];exact this) (by rw[lK];exact h.n5) q)
theorem Mo{s:List Int}{n:Nat}(h:IsSl s n){Q:List D->Prop}(q:Q ((i9 s n).map .int)):lcW (gN 0) bF (wF vG (ad (wF u8 (ad (wN 1) (ad (wN 0) aa))) aa)) (rng 1 n) [.un,.d (au s)] [] Q:=by
 have n5:=h.n5;have e:rng 1 n=(List.range n).map λ(k:Nat)=>D.int ((k+1:Nat):Int):=by
  unfold rng;exact gE λk _=>by simp;omega
 rw[e];refine jJ (g:=λk:Nat=>D.int ((k+1:Nat):Int)) (f:=λk=>D.int (bg (tbl (cor s n (k+1)) (k+1)))) (List.range n) (λk hk Q hq=>?_) .un [] (fD (by simp;omega)) ?_
 .rw[Yaj] at hk
  walk_at "st";exact Jc h (by omega) (by omega) (Mb (vh h (by omega) (by omega)) hq)
 .unfold i9 at q
  rw[cr] at q;exact q
theorem Mp:∀ds E Q,sQ ds E Q->yx E { nx:=λ_=>Q .non,rt:=Q } (aH F5 ds):=by
 rintro _ E Q ⟨x,rfl,hk,q⟩;show yx E _ [.d x];unfold yx;refine a8 ?_;simp only[dg,wF,ad,aa,wN,b9];unfold Cc at q;cases e:dC x with
 |false=>exact AQ hk e (jx e q)
 |true=>
 obtain⟨s,n,rfl,h⟩:=km e;replace q:=jy h q;rw[dh,h.sN] at q;have n5:=h.n5;refine AO h ?_;simp only[aj,wL,aLC,eY,wF,ad,aa,wN,wC,w2,Zbq,b9,bL,dM,List.replicate,dW,c9];refine rq h ?_;walk_at "st";refine⟨by omega,?_⟩;rw[show((n:Int)+1-1).toNat=n by omega];exact Mo h q
theorem Ch{Q:List D->Prop}(f:Nat->Int)(P:Nat->Bool)(hP:∀k,P k=(f k==0)):∀(n k0:Nat) (sv sv':SV) (acc:List D),acc.length+n<=5000->Q (acc++(((List.range n).filter λk=>P (k0+k)).map λk=>D.int ((k0+k+1:Nat):Int)))->lcW (bW 2 (aV (gN 0) (aV (gN 1) bR))) (wT (w2 (gEq false) (wN 1) (wC (D.int (0))))) (wN 0) (cx (k0+1) ((List.range n).map λk=>D.int (f (k0+k)))) (sv::sv'::[]) acc Q
 |0,k0,sv,sv',acc,_,hq=>by simpa[lcW,cx] using hq
 |n+1,k0,sv,sv',acc,hl,hq=>by
  rw[zy,bL,cr,cx,lcW];refine⟨rfl,?_⟩;show wT (w2 (gEq false) (wN 1) (wC (D.int 0))) No (SV.d (.int ((k0+1:Nat):Int))::SV.d (.int (f (k0+0)))::[]) _;simp only[wT,w2,wN,wC,cF,b9,fA];have eq1:(λk=>D.int (f (k0+k)))∘Nat.succ=λk=>D.int (f (k0+1+k)):=by funext k;show D.int (f (k0+(k+1)))=_;rw[show k0+(k+1)=k0+1+k by omega]
  rw[eq1];have eq2:((List.map Nat.succ (List.range n)).filter λk=>P (k0+k)).map (λk=>D.int ((k0+k+1:Nat):Int))=((List.range n).filter λk=>P (k0+1+k)).map λk=>D.int ((k0+1+k+1:Nat):Int):=by
   rw[wQ,cr];have:((λk=>P (k0+k))∘Nat.succ)=λk=>P (k0+1+k):=by funext k;show P (k0+(k+1))=_;rw[show k0+(k+1)=k0+1+k by omega]
   rw[this];exact gE λk _=>by show D.int ((k0+(k+1)+1:Nat):Int)=_;rw[show k0+(k+1)+1=k0+1+k+1 by omega]
  rw[zy] at hq;have b0:(f (k0+0)==0)=P (k0+0):=(hP _).symm;cases e:P (k0+0) with
  |true=>
   rw[List.filter_cons_of_pos (by exact e),bL,eq2] at hq;rw[fX,b0,e,if_pos (show(if false=true then !true else true)=true from rfl)];show acc.length<aw/\_;refine⟨by unfold aw;omega,?_⟩;exact Ch f P hP n (k0+1) _ _ _ (by simp;omega) (by rw[nu];exact hq)
  |false=>
   rw[List.filter_cons_of_neg (by rw[e];decide),eq2] at hq;rw[fX,b0,e,if_neg (show¬(if false=true then !false else false)=true by decide)];exact Ch f P hP n (k0+1) _ _ _ (by omega) hq
theorem Mq{s:List Int}{n:Nat}(h:IsSl s n){Q:List D->Prop}(q:Q ((eU s n).map λ(k:Nat)=>D.int (k:Int))):lcW (bW 2 (aV (gN 0) (aV (gN 1) bR))) (wT (w2 (gEq false) (wN 1) (wC (D.int (0))))) (wN 0) (cx 1 ((i9 s n).map .int)) (.un::.un::[]) [] Q:=by
 have n5:=h.n5;unfold i9;rw[cr];have:=Ch (Q:=Q) (λk=>bg (tbl (cor s n (k+1)) (k+1))) (λk=>bg (tbl (cor s n (k+1)) (k+1)) == 0) (λ_=>rfl) n 0 .un .un [] (by simp;omega) (by
  unfold eU at q;rw[cr] at q;simp only[qi,c9];exact q)
 simp only[qi] at this;exact this
theorem Mr:∀ds E Q,yt ds E Q->yy E { nx:=λ_=>Q .non,rt:=Q } (aH F6 ds):=by
 rintro _ E Q ⟨x,rfl,hk,q⟩;show yy E _ [.d x];unfold yy;simp only[aj,wL,aLC,B9,wF,ad,aa,wN,Zbq,b9,bL,dM,List.replicate,dW,c9];unfold Cd at q;cases e:dC x with
 |false=>exact Mc hk e (jx e q)
 |true=>
 obtain⟨s,n,rfl,h⟩:=km e;replace q:=jy h q;rw[dh,h.sN] at q;refine FY h ⟨_,rfl,?_⟩;exact Mq h q
end LP
namespace LP
open PySem PySem.Spec PyProof.Rows L2
namespace Gs
open Dt
section
variable{n:Nat}{T B:Nat->Nat->Rat}
theorem Bk.solve(h:Bk n T B){X y:Nat->Rat}(e:∀i,i<n->ag (λk=>T i k*X k) n=y i){k:Nat}(hk:k<n):X k=ag (λm=>B k m*y m) n:=by
 rw[<-B6 X hk];rw [bz (g:=λi=>ag (λm=>B k m*(T m i*X i)) n) (λi hi=>by
  rw[<-h.bt k i hk hi,o5,<-sumN_mul];exact bz λm _=>by grind),pT]
 exact bz λm hm=>by rw[sumN_mul,e m hm]
theorem Bk.made(h:Bk n T B){y:Nat->Rat}{i:Nat}(hi:i<n):ag (λk=>T i k*ag (λm=>B k m*y m) n) n=y i:=by
 rw[bz (g:=λk=>ag (λm=>y m*(T i k*B k m)) n) (λk _=>by rw[<-sumN_mul];exact bz λm _=>by grind),pT];rw[bz (g:=λm=>dl i m*y m) (λm hm=>by rw[sumN_mul,h.tb i m hi hm,o5])];exact B6 y hi
end
variable {s:List Int}{n k:Nat}
def Stg(s:List Int)(n:Nat):Prop:=∀k,1<=k->k<=n->fE (cor s n k) k=[]
theorem Ms(h:IsSl s n):LP.cor s n n=s:=by
 have:=h.len;unfold LP.cor;rw[Nat.sub_self,qe,List.take_of_length_le (by omega)]
theorem Stg.full(h:IsSl s n)(g:Stg s n):fE s n=[]:=by
 have:=g n h.n1 (bb _);rw[Ms h] at this;exact this
def tq(s:List Int)(n i j:Nat):Rat:=(tA (tbl s n) i j:Rat)
theorem tims_len(r:List Rat):(cU s n r).length=n:=by unfold cU;rw[aW,lK]
theorem tims_at{r:List Rat}{i:Nat}(h:IsSl s n)(hr:r.length=n)(hi:i<n):(cU s n r).getD i 0=ag (λj=>tq s n i j*r.getD j 0) n:=by
 have e1:cU s n r=(dU s n).map λl=>bB l r:=by unfold cU dU;rw[cr];rfl
 rw[e1,aM,cc];have:(dU s n)[i]? = some ((dU s n).getD i []):=by rw[aM,bG (by rw[oR];exact hi)];rfl
 rw[this];exact yq h hi hr
end Gs
namespace Gs
open Dt
variable {s:List Int}{n:Nat}
end Gs
open Dt Gs
theorem F8(R:List (List Rat)):∀p:Nat,(cj R p).ld.length+(cj R p).rs.length=R.length
 |0=>by simp[cj]
 |p+1=>by
  have ih:=F8 R p;rw[cj];generalize cj R p=x at ih;unfold rN;split
  .exact ih
  .rename_i a e
   obtain⟨h1,_⟩:=sL e;show(bu _ _ _++[_]).length+(bu _ _ _).length=_;unfold bu;simp only[dj,aW,kS,jf,jM];omega
theorem Ec.zero{n:Nat}{R ld rs:List (List Rat)}{pl:List Nat}(h:Ec n R n ld pl rs){x:List Rat}(lx:x.length=n)(x0:∀r∈R,bB r x=0)(xf:∀t,t<n->t∉pl->x.getD t 0=0):∀t,t<n->x.getD t 0=0:=λt ht=>by
 by_cases hm:t∈pl
 .obtain⟨i,hi,e⟩:=Ybm.mp hm
  have e':pl.getD i 0=t:=by rw[aM,bG hi];exact e
  have hi':i<ld.length:=by rw[h.ll];exact hi
  have wl:=h.wl _ (eC hi');have d1:=((h.nul _ lx).mp x0).1 _ (eC hi');rw[i8 _ x n wl lx,fk (k:=t) ht] at d1
  .have o:=h.one i i hi' hi
   rw[e',if_pos rfl] at o;rw[o,nB] at d1;exact d1
  .intro j hj ne
   by_cases hm2:j∈pl
   .obtain⟨k,hk,ek⟩:=Ybm.mp hm2
    have ek':pl.getD k 0=j:=by rw[aM,bG hk];exact ek
    have oz:=h.one i k hi' hk;rw[ek',if_neg (λz=>ne (by rw[<-ek',<-z,e']))] at oz;rw[oz,eL]
   .rw[xf j hj hm2,dX]
 .exact xf t ht hm
theorem Mu{m:Nat}{R:List (List Rat)}(hR:∀r∈R,r.length=m)(hl:R.length<m):∃c:List Rat,c.length=m/\(∃k,k<m/\c.getD k 0≠0)/\∀r∈R,bB r c=0:=by
 have ec:=rR hR m (bb _);have cn:=F8 R m;have:∃k,k<m/\k∉(cj R m).pl:=by
  refine Classical.byContradiction λhc=>?_;have all:∀k,k<m->k∈(cj R m).pl:=λk hk=>Classical.byContradiction λz=>hc ⟨k,hk,z⟩;have e:(cj R m).pl=List.range m:=pS ec.asc (rS m) λx=>⟨λhx=>Yaj.mpr (ec.lt x hx),λhx=>all x (Yaj.mp hx)⟩;have l:=ec.ll;rw[e,jc] at l;omega
 obtain⟨k,hk,hn⟩:=this;obtain⟨l,f0⟩:=ec.free hk hn;refine⟨_,l,⟨k,hk,?_⟩,f0⟩;rw[rP _ _ _ (by rw[eZ];exact ec.lt) hn,gD hk,if_pos rfl];decide +kernel
variable {s:List Int}{n:Nat}
def vI(s:List Int)(n:Nat):List Nat:=(bP s n).pl
def Ci(s:List Int)(n:Nat):List Nat:=(List.range n).filter λp=>!(vI s n).contains p
theorem Mv(h:IsSl s n):Ec n (dU s n) n (bP s n).ld (vI s n) (bP s n).rs:=rR (n:=n) (R:=dU s n) (λr hr=>(pQ h r hr).len) n (bb _)
theorem Mw:fE s n=(Ci s n).map λp=>bv p (bP s n).ld (vI s n) (aA n p):=by
 unfold fE Ci vI lQ;exact gE λp _=>B0 _ _ _ _
def HB(k:Nat)(e:Int)(x:Rat):Prop:=∃a:Int,a.natAbs<=k*2^228/\x=Rat.divInt a (6*e)
theorem HB.zero{e:Int}:HB 0 e 0:=⟨0,by simp,by rw[zA]⟩
theorem HB.sz{k:Nat}{e:Int}{x:Rat}(hk:k<=5)(e0:e≠0)(eb:e.natAbs<2^223)(h:HB k e x):Sz 240 x:=by
 obtain⟨a,ab,rfl⟩:=h;refine sJ (md (by decide) e0) (kC ab (kC (jF hk (bb _)) (by decide))) ?_;rw[dE];exact kC (jF (bb _) (jC eb)) (by decide)
end LP
namespace LP
open PySem PySem.Spec PyProof.Rows L2
open Gs
def F9:List Nat->D
 |[]=>.non
 |k::_=>.int (k:Int)
def Cj(x:D):Except Str D:=eI x (.ok (F9 (eU (sI x) (sN x))))
structure IsR(r:List Int)(n:Nat):Prop where
 len:r.length=n
 b:∀x∈r,-1000<=x/\x<=1000
def vJ:aS:=xS (λx:D=>[x]) (λx=>kd x=true) Cj
variable {E:Ex->Prop}{Q:D->Prop}{x:D}{s r:List Int}{n k:Nat}
theorem IsR.at(h:IsR r n)(k:Nat):(r.getD k 0).natAbs<=2^10:=by
 rw[aM];cases e:r[k]? with
 |none=>exact jD _
 |some v=>
  have:=h.b v (jE e);show v.natAbs<=1024;omega
theorem yA(h:IsSl s n)(q:Q (F9 (eU s n))):vJ [au s] E Q:=xS.ok (au s) rfl h.kd (by(try dsimp only);unfold Cj;rw[d7 h,dh,h.sN]) q
abbrev Ga:List Str:=["slants", "sizes"]
abbrev Mx:List Str:=["slants"]
def yB:WS:=(ai (ax 1 (wF yt (ad (wN 0) aa))) (aj (eO (wT (w2 lG (wB bA (ad (wN 1) aa)) (wC (D.int (0))))) (w2 gIx (wN 1) (wC (D.int (0)))) (wC D.non))))
local macro_rules | `(tactic| walk_at "w1")=>`(tactic| simp only [aj,bE,ax,bD,dg,aT,aZ,aU,fi,bS,bJ,bC,d6,cb,fV,aL,eh,df,wM,Zcp,eu,cH,fg,cG,dB,aX,wT,eO,w1,w2,wB,wF,wL,aQ,aJ,ZaM,aB,bh,ad,aa,aLC,Zbq,bF,iS,iE,iL,iT,dS,eY,iZ,cP,bV,wN,wC,gN,bW,aV,bR,bN,fA,cq,cJ,cK,bM,cL,bT,cm,aCut,aH,pub,bL,dM,cO,eW,dW,c9,List.replicate,b9,cF,dO,dP,Nat.reduceSub,Nat.reduceAdd,dJ,fH,true_and,da,if_true,if_false,ite_true,ite_false,eK,dQ,gF,
 fX,gW,gX,gY,gZ,g6,g9,hJ,hU,hV,hW,hX,hZ,h8,h9,ia,ic,ig,ii,ij,ik,il,ip,iq,ir,iu,iw,Zb,iy,iz,iA,iB,iC,iD,iF,iG,iH,iI,iJ,iK,iM,iN,iO,iP,iQ,iR,iU,iV,iW,cV,iX,iY,i3,i4,i6,c7,c8])
local macro_rules | `(tactic| walk_at "st")=>`(tactic| ((try dsimp only at *);(try walk_at "w1");(try dsimp only)))
local macro_rules | `(tactic| walk_at "nx")=>`(tactic| ((try dsimp only);(refine a8 ?_);walk_at "st"))
open Gs Dt
theorem My:∀ds E Q,vJ ds E Q->yB E { nx:=λ_=>Q .non,rt:=Q } (aH Ga ds):=by
 rintro _ E Q ⟨x,rfl,hk,q⟩;show yB E _ [.d x,.un];unfold yB;unfold Cj at q;cases e:dC x with
 |false=>
  refine a8 ?_;walk_at "st";exact xS.err x rfl hk (kj e) (jx e q)
 |true=>
 obtain⟨s,n,rfl,h⟩:=km e;replace q:=jy h q;rw[dh,h.sN] at q;refine a8 (LP.set_by (d:=jK (eU s n)) (ρ':=[.d (au s),.d (jK (eU s n))]) (by rfl) (λP hP=>?_) ?_)
 .walk_at "st"
  exact Md h hP
 dsimp only;generalize eU s n=W at q;unfold jK;cases W with
 |nil=>
  walk_at "st";exact q
 |cons k W=>
  walk_at "st";rw[decide_eq_true (by simp)];simp only[if_true];exact⟨_,cD (j:=0) rfl,q⟩
open Gs Dt
namespace G
structure Lf(b m:Nat)(row:List Rat):Prop where
 ex:∃(c:List Int) (e:Int),c.length=m/\e≠0/\e.natAbs<2^b/\(∀x∈c,x.natAbs<2^b)/\row=c.map λx=>Rat.divInt x e
theorem Lf.len{b m:Nat}{row:List Rat}(h:Lf b m row):row.length=m:=by
 obtain⟨c,e,h1,_,_,_,rfl⟩:=h.ex;rw[aW];exact h1
theorem Lf.mono{b b' m:Nat}{row:List Rat}(l:b<=b')(h:Lf b m row):Lf b' m row:=by
 obtain⟨c,e,h1,h2,h3,h4,h5⟩:=h.ex;have p:2^b<=2^b':=l6 (by decide) l;exact⟨c,e,h1,h2,cv h3 p,λx hx=>cv (h4 x hx) p,h5⟩
theorem Lf.sz{b m:Nat}{row:List Rat}(h:Lf b m row):∀x∈row,Sz b x:=by
 obtain⟨c,e,h1,h2,h3,h4,rfl⟩:=h.ex;intro x hx;obtain⟨y,hy,rfl⟩:=YbT.mp hx;exact sJ h2 (h4 y hy) h3
theorem Lf.get{b m k:Nat}{row:List Rat}(h:Lf b m row)(hk:k<m):row[k]? = some (row.getD k 0)/\Sz b (row.getD k 0):=by
 have e:row[k]? = some (row.getD k 0):=by rw[aM,bG (by rw[h.len];exact hk)];rfl
 exact⟨e,h.sz _ (jE e)⟩
theorem Lf.int{b:Nat}{c:List Int}(hb:0<b)(h:∀x∈c,x.natAbs<2^b):Lf b c.length (ef c):=by
 refine⟨c,1,rfl,by decide,?_,h,?_⟩
 .show 1<2^b
  exact tp (by omega)
 .unfold ef
  exact gE λx _=>by have:=tx (x:Rat);rw[wy,wz] at this;exact this.symm
def rr(R:List (List Rat))(i:Nat):List Rat:=R.getD i []
end G
namespace Sv
open Dt
abbrev rr:=G.rr
def Gb(n:Nat)(r:List Rat)(x:Nat->Rat)(c:Rat):Prop:=ag (λj=>r.getD j 0*x j) n=c*r.getD n 0
def Eqv(n:Nat)(A R:List (List Rat)):Prop:=∀x c,(∀i,i<n->Gb n (rr A i) x c)↔∀i,i<n->Gb n (rr R i) x c
theorem Eqv.refl{n:Nat}{A:List (List Rat)}:Eqv n A A:=λ_ _=>Iff.rfl
theorem Eqv.trans{n:Nat}{A B C:List (List Rat)}(h:Eqv n A B)(h':Eqv n B C):Eqv n A C:=λx c=>(h x c).trans (h' x c)
variable {s u:List Int}{n:Nat}
end Sv
namespace G
def wl(k:Nat):Int:=[1,3,9,27,81].getD k 1
end G
end LP
namespace LP
open PySem PySem.Spec PyProof.Rows L2
variable {X:Cx}{EX:XK}{pos p:Pos}{e target iter elt:Expr}{ifs:List Expr}{wi:WA}{g:WG}{wf:WT}{we:WE}{sc:Scope}
local macro_rules | `(tactic| walk_at "w1")=>`(tactic| simp only [aj,bE,ax,bD,dg,aT,aZ,aU,fi,bS,bJ,bC,d6,cb,fV,aL,eh,df,wM,Zcp,eu,cH,fg,cG,dB,aX,wT,eO,w1,w2,wB,wF,wL,aQ,aJ,ZaM,aB,bh,ad,aa,aLC,Zbq,bF,iS,iE,iL,iT,dS,eY,iZ,cP,bV,wN,wC,gN,bW,aV,bR,bN,fA,cq,cJ,cK,bM,cL,bT,cm,aCut,aH,pub,bL,dM,cO,eW,dW,c9,List.replicate,b9,cF,dO,dP,Nat.reduceSub,Nat.reduceAdd,dJ,fH,true_and,da,if_true,if_false,ite_true,ite_false,eK,dQ,gF,
 fX,gW,gX,gY,gZ,g6,g9,hJ,hU,hV,hW,hX,hZ,h8,h9,ia,ic,ig,ii,ij,ik,il,ip,iq,ir,iu,iw,Zb,iy,iz,iA,iB,iC,iD,iF,iG,iH,iI,iJ,iK,iM,iN,iO,iP,iQ,iR,iU,iV,iW,cV,iX,iY,i3,i4,i6,c7,c8])
local macro_rules | `(tactic| walk_at "st")=>`(tactic| ((try dsimp only at *);(try walk_at "w1");(try dsimp only)))
local macro_rules | `(tactic| walk_at "nx")=>`(tactic| ((try dsimp only);(refine a8 ?_);walk_at "st"))
namespace F4
variable {E:Ex->Prop}{Q:D->Prop}{x:D}{s:List Int}{n k:Nat}
end F4
open Dt Gs
namespace G
variable {s:List Int}{n:Nat}
end G
open Gs
variable {E:Ex->Prop}{Q:D->Prop}{x:D}{s r:List Int}{n k:Nat}
namespace G.V9
variable {E:Ex->Prop}{Q:D->Prop}{x:D}{s u:List Int}{n k:Nat}
end G.V9
open Dt Gs
namespace G.V5
theorem size_w{s:List Int}{n:Nat}(h:IsSl s n){P:D->Prop}(hP:P (.int n)):bA [au s] λx=>gAdd x (.int 1) λy=>fU y (.int 2) P:=by
 have hl:=h.len;unfold au;walk_at "st";rw[aW];refine⟨⟨by decide,B.C.bd_of (b:=3) (by decide) (by decide)⟩,?_⟩;rw[show((s.length:Int)+1).fdiv 2=n from by rw[C3 _ (by decide)];omega];exact hP
end G.V5
open Dt Gs
theorem Mz{s:List Int}{n k:Nat}{r:List Nat}(h:IsSl s n)(e:eU s n=k::r):1<=k/\k<=n/\fE (cor s n k) k≠[]/\∀j,1<=j->j<k->fE (cor s n j) j=[]:=by
 have key:∀j,j<n->(bg (tbl (cor s n (j+1)) (j+1))==0)=true->j+1∈eU s n:=λj hj z=>by
  unfold eU;exact YbT.mpr ⟨j,Yai.mpr ⟨Yaj.mpr hj,z⟩,rfl⟩
 have pw:(eU s n).Pairwise (· < ·):=by
  unfold eU;rw[List.pairwise_map];exact((rS n).filter _).imp λh=>by omega
 have hk:k∈eU s n:=by rw[e];simp
 have hk':=hk;unfold eU at hk';obtain⟨i,hi,rfl⟩:=YbT.mp hk';obtain⟨h1,h2⟩:=Yai.mp hi;rw[Yaj] at h1;refine⟨by omega,by omega,λz=>?_,λj j1 jk=>?_⟩
 .have:=(FT (vh h (by omega) (by omega))).mp z
  apply this;have z':bg (tbl (cor s n (i+1)) (i+1))=0:=by simpa using h2
  unfold bg at z';rw[lK] at z';exact z'
 .refine(FT (vh h j1 (by omega))).mpr λz=>?_
  have m:=key (j - 1) (by omega) (by
   rw[show j-1+1=j by omega];unfold bg;rw[lK,z];rfl)
  rw[show j-1+1=j by omega,e] at m;rw[e] at pw;rcases Yaq.mp m with z2|z2
  .omega
  .have:=(YcM.mp pw).1 j z2
   omega
open Dt Gs
namespace G.V9
theorem size_w{s:List Int}{n:Nat}(h:IsSl s n){P:D->Prop}(hP:P (.int n)):bA [au s] λx=>gAdd x (.int 1) λy=>fU y (.int 2) P:=G.V5.size_w h hP
def m3(s:List Int):List Int:=s.map λx=>x.fmod 3-1
end G.V9
open Dt Gs
end LP
namespace L2
open PySem PySem.Spec PyProof.Rows
namespace Fl
def quiet(f:Str):List Str:=["__setattr__", "__getattribute__", "__getattr__",f]
def yC(K:Oq)(ns:List Str)(bmB:List Value):List Value->Bool
 |[]=>bmB==[]
 |v::r=>(v::r)==bmB||match v with
  | .ref a=>(match K.lookup a with
   |some ⟨_,_,.cls cd,_⟩=>PySem.W.nsOkIn K cd.ns&&ns.all (λn=>PySem.W.nsIn K cd.ns n==some none)&&yC K ns bmB r
   |_=>false)
  |_=>false
theorem Gc{K:Oq}{h:Heap}{ns:List Str}{bmB:List Value}(X:K.In h):∀{l:List Value},yC K ns bmB l=true->Tl h ns bmB l
 |[],e=>by rw[<-beq_iff_eq.mp e];exact .last
 |v::r,e=>by
  unfold yC at e;rcases Bool.or_eq_true_iff.mp e with q|q
  .rw[<-beq_iff_eq.mp q];exact .last
  .split at q
   .split at q
    .rename_i ho
     simp only[cQ,Ybh,OQ] at q;exact .more (X _ _ ho) (.of_isNs (PySem.W.isNs_of_in X q.1.1)) (λn hn=>PySem.W.nsMap_none_of_in X q.1.1 (q.1.2 n hn)) (Gc X q.2)
    .cases q
   .cases q
theorem vK{K:Oq}{h:Heap}{N:Addr}{m:Str->Option Value}{n:Str}{v:Value}(X:K.In h)(G:h.Ns N m)(e:PySem.W.nsIn K N n=some (some v)):m n=some v:=by
 obtain⟨ob,es,ep,at1,at2,_,fnd⟩:=G;unfold PySem.W.nsIn at e;split at e
 .rename_i z
  have y:=X _ _ z;rw[at1] at y;cases y;cases at2;split at e
  .rename_i found
   cases e;rw[<-fnd];unfold nsFind findBy;rw[<-Array.find?_toList,found];rfl
  .split at e<;>cases e
 .cases e
def clsF(K:Oq)(C:Addr)(bmB:List Value)(newId:String)(f:Str)(fI:Addr):Bool:=match K.lookup C with
 | some ⟨.type "type",_,.cls cd,sl⟩=>(match cd.mro,sl.toList with
  |.ref C'::bm,[_,_,_,_,some (.builtin n),_]=>C'==C&&n==newId && !cd.hasDel&&cd.hasDict&&yC K ("__init__" ::quiet f) bmB bm&&PySem.W.nsOkIn K cd.ns&&PySem.W.nsIn K cd.ns "__init__" == some (some (.ref fI))&&(quiet f).all (λn=>PySem.W.nsIn K cd.ns n==some none)
  |_,_=>false)
 |_=>false
structure CF(h:Heap)(C:Addr)(bmB:List Value)(newId:String)(f:Str)(fI:Addr):Prop where
 h:∃(bm:List Value) (N:Addr) (nm qn:Str) (bs:List Value) (sn:List Str) (sub:List Value) (ab:Bool) (col:Option Bool) (dd:Option Addr) (k0 k1 k2 k3 k5:Option Value) (mN:Str->Option Value),
  h.get? C=some (excClassObj nm qn C N bs bm true sn sub ab col dd k0 k1 k2 k3 k5 newId)/\h.Ns N mN/\mN "__init__" = some (.ref fI)/\(∀n∈quiet f,mN n=none)/\Tl h ("__init__" ::quiet f) bmB bm
theorem Gd{K:Oq}{h:Heap}{C fI:Addr}{bmB:List Value}{newId:String}{f:Str}(X:K.In h)(q:clsF K C bmB newId f fI=true):CF h C bmB newId f fI:=by
 unfold clsF at q;split at q
 .rename_i dd cd sl ho
  split at q
  .rename_i C' bm k0 k1 k2 k3 n k5 hm hs
   simp only[cQ,OQ,qb,Ybh] at q;obtain⟨⟨⟨⟨⟨⟨⟨rfl,rfl⟩,hdel⟩,hdc⟩,ht⟩,hok⟩,hi⟩,hq⟩:=q;obtain⟨nm,bs,mro,ns,qn,hd,sn,sub,ab,col,del⟩:=cd;dsimp only at hm hdel hok hi hq hdc;subst hm hdel hdc;have hsl:sl = #[k0,k1,k2,k3,some (.builtin n),k5]:=by
    cases sl with
    |mk l=>exact congrArg Array.mk hs
   subst hsl;have pW:h.Ns ns (h.nsMap ns):=.of_isNs (PySem.W.isNs_of_in X hok);exact⟨bm,ns,nm,qn,bs,sn,sub,ab,col,dd,k0,k1,k2,k3,k5,_,X _ _ ho,pW,vK X pW hi,λm hm=>PySem.W.nsMap_none_of_in X hok (hq m hm),Gc X ht⟩
  .cases q
 .cases q
def jB(C t e:Addr)(dx:Option Addr):HO:=.ext λh=>h.get? e=some (rf C t dx)
def rem(H:Hp)(e:Addr):Hp:=λb=>if b=e then none else H b
theorem rem_ne{H:Hp}{e b:Addr}(h:b≠e):rem H e b=H b:=if_neg h
theorem MA{H:Hp}{e:Addr}:rem H e e=none:=if_pos rfl
theorem Ge{H:Hp}{e b:Addr}{u:HO}(h:rem H e b=some u):b≠e/\H b=some u:=by
 unfold rem at h;split at h
 .cases h
 .rename_i ne;exact⟨ne,h⟩
theorem HOk.obj{P:Program}{w:World}{H:Hp}{h:Heap}(k:HOk P w H h){b:Addr}{u:HO}(e:H b=some u):∃o,h.get? b=some o:=by
 have q:=k b u e;cases u with
 |lst xs=>obtain⟨_,_,_,_,e⟩:=q;exact⟨_,e⟩
 |tup xs=>obtain⟨_,_,_,o,e,_⟩:=q;exact⟨_,e⟩
 |dK kvs=>obtain⟨_,_,_,_,o,_,_,e,_⟩:=q;exact⟨_,e⟩
 |dT kvs=>obtain⟨_,_,_,_,o,_,_,e,_⟩:=q;exact⟨_,e⟩
 |set S n=>obtain⟨o,_,_,_,e,_⟩:=q;exact⟨_,e⟩
 |ins C dx fs=>obtain⟨_,_,_,e,_⟩:=q;exact⟨_,e⟩
 |own y=>obtain⟨o,e⟩:=q;exact⟨_,e⟩
 |xd fs=>obtain⟨_,⟨o,_,_,e,_⟩,_⟩:=q;exact⟨_,e⟩
 |rng lo hi=>obtain⟨_,_,_,e⟩:=q;exact⟨_,e⟩
 |frz ob u=>obtain⟨e,_⟩:=q;exact⟨_,e⟩
 |tbl ps=>exact⟨_,(show h.get? b=some _ from q)⟩
 |met f y=>exact⟨_,(show h.get? b=some _ from q)⟩
 |ext φ=>obtain⟨_,⟨o,e⟩,_⟩:=q;exact⟨_,e⟩
def RaisD(X:Cx)(E:XK):Prop:=∀(pins:List (Addr×Obj)) (σ:St) (H:Hp) (s:Shared) (e C t:Addr) (dx:Option Addr),Inv X pins σ H s->H e=some (jB C t e dx)->X.s₀.heap.get? e=none->E (.ref C) dx (rem H e)->X.xe (.ref e) s
variable {P:Program}{w:World}{K:Oq}{mg:Str->Option Value}{base:Heap}{N:List Str}{qual:Str}{scope:Scope}{f:Addr}{cd:Value}{A:Around}{outer:List Env}{s:Shared}{H:Hp}{E:XK}
theorem raisd_cx:RaisD (cY (dG P w) P w K mg base N qual scope f cd A outer s H E) E:=by
 intro pins σ H1 s1 e C t dx I he new hE;have ib:Un (cu outer) [] H H1 s.heap s1.heap:=I.base;have obj:s1.heap.get? e=some (rf C t dx):=(I.hok e _ he).1;generalize hS:envOfC qual scope s.heap.objs.size f cd::outer=S;have neL:∀b o,s.heap.get? b=some o->b∉cu outer->b∉cu S:=λb o q hb hm=>by
  rw[<-hS] at hm;rcases Yaq.mp (I.stkSub b hm) with z|z
  .have l2:s.heap.objs.size<=(envOfC qual scope s.heap.objs.size f cd).locals:=I.ok.above
   have z':b=(envOfC qual scope s.heap.objs.size f cd).locals:=z;rw[<-z'] at l2;exact Ot (cv (bX q) l2) (f9 _)
  .exact hb z
 have stk:s1.heap.FunFrames base S:=by rw[<-hS];exact I.stack
 have frm:∀b,b∈cu S->∃o,s1.heap.get? b=some o/\∀vs,o.data≠.fields vs:=λb hb=>(stk.mem hb).2;have noE:∀b o,s.heap.get? b=some o->b≠e:=λb o q z=>by
  rw[z] at q;have new':s.heap.get? e=none:=new;rw[new'] at q;cases q
 have eF:e∉cu S:=λz=>by
  obtain⟨o,q,nf⟩:=frm e z;rw[obj] at q;cases q;exact nf _ rfl
 let B:=PySem.W.hideAll s1.heap (e::cu S)
 have inB:∀{b o},s1.heap.get? b=some o->b≠e->b∉cu S->B.get? b=some o:=λq ne hb=>PySem.W.hideAll_get _ q λz=>(Yaq.mp z).elim ne hb;have st:B.StaysIn s1.heap:=λb o q=>PySem.W.of_hideAll _ q;have newB:B.get? e=none:=PySem.W.hideAll_none _ (jL ..);have hT:∀b u,rem H1 e b=some u->∃o,B.get? b=some o:=λb u q=>by
  obtain⟨ne,q⟩:=Ge q;obtain⟨o,z⟩:=HOk.obj I.hok q;refine⟨o,inB z ne λhm=>?_⟩;rw[<-hS] at hm;have:=I.stkFree b hm;rw[q] at this;cases this
 have hok1:HOk P w (rem H1 e) s1.heap:=λb u q=>by
  obtain⟨ne,q⟩:=Ge q;refine(I.hok b u q).stay (λ_ _ _ z=>z) (λc z=>?_) λc xs z=>?_
  .rw[rem_ne (λy=>by rw[y,he] at z;cases z)];exact z
  .rw[rem_ne (λy=>by rw[y,he] at z;cases z)];exact z
 show wpAny (model P w) (A.deeper (envOfC qual scope s.heap.objs.size f cd)) (leaving (envOfC qual scope s.heap.objs.size f cd) (.ref e)) (λ_ s''=>dG P w outer H s E (.ref e) s'') _ _;have fB:s1.heap.FunFrames B (envOfC qual scope s.heap.objs.size f cd::outer):=by
  rw[hS];exact PySem.W.funFrames_hide stk λenv hv b hb=>fG _ (YaB.mpr ⟨env,hv,hb⟩)
 refine leaves_new (P:=Is (.ref C) dx) Is.firm I.ok.frames fB rfl obj ⟨rfl,rfl⟩ st newB rfl rfl λh3 fl up=>?_;refine ⟨e,.ref C,dx,rem H1 e,B,rfl,fl,I.os,I.bare,⟨λb o q n hb _=>?_,λb o q n hb _=>?_,λb o q n _=>?_,λb o q _=>?_,λb xs q=>?_,λb o xs q=>?_,λb ps q=>?_,λ_ eg n ys=>by
   by_cases y:sysModules=e
   .rw[y,MA];exact λz=>by cases z
   .rw[rem_ne y];exact ib.sys (by simp) eg n ys⟩,HOk.through hok1 hT st fl.st,λb o q hb=>?_,hT,hE⟩
 .exact fl.st b o (inB (ib.keep b o q n hb (by simp)) (noE b o q) (neL b o q hb))
 .obtain⟨sl,e1⟩:=ib.slot b o q n hb (by simp)
  obtain⟨o3,e3,nf⟩:=frm b (by rw[<-hS];exact Zh hb);rw[e1] at e3;cases e3;obtain⟨sl3,e4⟩:=up b _ e1 nf;exact⟨sl3,e4⟩
 .rw[rem_ne (noE b o q)]
  exact ib.free b o q n (by simp)
 .obtain⟨o',e1⟩:=ib.there b o q (by simp)
  by_cases hb:b∈cu S
  .obtain⟨o3,e3,nf⟩:=frm b hb
   obtain⟨sl3,e4⟩:=up b _ e3 nf;exact⟨_,e4⟩
  .exact⟨o',fl.st b o' (inB e1 (noE b o q) hb)⟩
 .have:=ib.tups b xs q
  rw[rem_ne (λy=>by rw[y,he] at this;cases this)];exact this
 .have:=ib.frzs b o xs q
  rw[rem_ne (λy=>by rw[y,he] at this;cases this)];exact this
 .obtain⟨m,e1⟩:=ib.tbls b ps q
  exact⟨m,by rw[rem_ne (λy=>by rw[y,he] at e1;cases e1)];exact e1⟩
 .obtain⟨o',e1⟩:=ib.there b o q (by simp)
  exact⟨o',inB e1 (noE b o q) (neL b o q hb)⟩
abbrev bmV:List Value:=[.type "ValueError",.type "Exception",.type "BaseException",.type "object"]
variable {X:Cx}{C fI:Addr}{f:Str}{newId:String}{o value:Expr}{pos pos':Pos}
def vL(C:Addr)(f:Str):TS:=λD σ H=>∃e t k,σ[0]? = some (some (.ref e))/\σ[1]? = some (some (.int k))/\H e=some (jB C t e none)/\∀d,H d=none->d≠e->D.nx σ (upd (upd H e (jB C t e (some d))) d (.xd [(f,.int k)]))
theorem gI(hq:clsF X.K C bmV newId f fI=true)(hB:typeLookup (.type "ValueError") f=pure none)(ho:PE X o (qt 0))(hv:PE X value (qt 1))(hs:swapsWith value (some (.Attribute o f pos')) pos.line X.env=pure false) :
  PS X (.Assign [.Attribute o f pos'] value pos) (vL C f):=by
 rintro pins s σ H D I ⟨e,t,k,h0,h1,he,q⟩;refine plainObj_wpAny_Assign_Attribute (aI (hv pins s σ H (λv H'=>v=.int k/\H'=H) I ⟨_,h1,rfl,rfl⟩) λu s1 ⟨y,H1,I1,ry,ey,eH⟩=>?_) hs;subst ey eH;refine aI (ho pins s1 σ H1 (λv H'=>v=.ref e/\H'=H1) I1 ⟨_,h0,rfl,rfl⟩) λov s2 ⟨x,H2,I2,rx,ex,eH⟩=>?_;subst ex eH;cases rx;have obj:s2.heap.get? e=some (rf C t none):=(I2.hok e _ he).1;obtain⟨bm,N,nm,qn,bs,sn,sub,ab,col,dd,k0,k1,k2,k3,k5,mN,hC,hN,_,qm,T⟩:=(Gd I2.kIn hq).h;obtain⟨hp,g,dr,tk,os⟩:=s2;dsimp only at obj hC hN T I2;refine Io (B:= "ValueError") PySem.F.store_ValueError hC hN T (qm _ (by simp[quiet])) (qm _ (by simp[quiet])) (by simp[quiet]) (by simp[quiet]) hB obj rfl rfl rfl λh' tk' d m nd ne x1 x2 x3 x4 x5=>?_;have Hd:H2 d=none:=by
  cases z:H2 d with
  |none=>rfl
  |some w=>
   obtain⟨o,y⟩:=HOk.obj I2.hok z;have y':hp.get? d=some o:=y;rw[nd] at y';cases y'
 have ned:∀{b o},hp.get? b=some o->b≠d:=λz y=>by rw[y,nd] at z;cases z
 have nee:∀{b},H2 b=none->b≠e:=λz y=>by rw[y,he] at z;cases z
 have at1:∀{b},b≠d->b≠e->upd (upd H2 e (jB C t e (some d))) d (.xd [(f,.int k)]) b=H2 b:=λy z=>by rw[af y,af z]
 have un:Un X.fs [] H2 (upd (upd H2 e (jB C t e (some d))) d (.xd [(f,.int k)])) hp h':=by
  refine ⟨λb o z n _ _=>x5 b o (nee n) z,λb o z n _ _=>⟨o.slots,x5 b o (nee n) z⟩,λb o z n _=>?_,λb o z _=>?_,λb xs z=>?_,λb o xs z=>?_,λb ps z=>⟨#[],?_⟩,λ_ _ n ys=>by
   by_cases y:sysModules=d
   .rw[y,ao];exact λz=>by cases z
   by_cases v:sysModules=e
   .rw[af y,v,ao];exact λz=>by first|cases z|(unfold jB at z;cases z)
   .rw[at1 y v];exact n ys⟩
  .rw[at1 (ned z) (nee n)];exact n
  .by_cases y:b=e
   .rw[y];exact⟨_,x1⟩
   .exact⟨o,x5 b o y z⟩
  .rw[at1 (λy=>by rw[y,Hd] at z;cases z) (λy=>by rw[y,he] at z;cases z)];exact z
  .rw[at1 (λy=>by rw[y,Hd] at z;cases z) (λy=>by rw[y,he] at z;cases z)];exact z
  .rw[at1 (λy=>by rw[y,Hd] at z;cases z) (λy=>by rw[y,he] at z;cases z),z];simp
 have hok:HOk X.prog X.w (upd (upd H2 e (jB C t e (some d))) d (.xd [(f,.int k)])) h':=λb u z=>by
  by_cases y:b=d
  .subst y
   rw[ao] at z;cases z;refine⟨m,x2,λn=>?_⟩
   by_cases w:n=f
   .subst w
    rw[x3];simp only[lU,OG];exact ry
   .rw[x4 n w]
    have:(n==f)=false:=beq_eq_false_iff_ne.mpr w;simp only[lU,this,List.lookup_nil];trivial
  .rw[af y] at z
   by_cases w:b=e
   .subst w
    rw[ao] at z;cases z;exact⟨x1,⟨_,x1⟩,λ_ _ p r=>r _ p⟩
   .rw[af w] at z
    refine(I2.hok b u z).stay (λc v hc r=>?_) (λc r=>?_) λc xs r=>?_
    .refine x5 c v (λp=>?_) r
     rcases hc with hc|hc
     .exact w (hc.symm.trans p)
     .rw[p,he] at hc;cases hc
    .rw[at1 (λp=>by rw[p,Hd] at r;cases r) (λp=>by rw[p,he] at r;cases r)];exact r
    .rw[at1 (λp=>by rw[p,Hd] at r;cases r) (λp=>by rw[p,he] at r;cases r)];exact r
 exact⟨σ,_,I2.un (t':=tk') un hok,q d Hd ne⟩
def spI(C:Addr)(f:Str):Sp:=λvs H Q _=>∃e t k,vs=[.ref e,.int k]/\H e=some (jB C t e none)/\∀d,H d=none->d≠e->Q .non (upd (upd H e (jB C t e (some d))) d (.xd [(f,.int k)]))
theorem init_ok{P:Program}{w:World}{K:Oq}{mg:Str->Option Value}{base:Heap}{x qual a0 a1 f:Str}{st:Stmt}{fI C fJ:Addr}{fd:FuncData}{k:Nat}{newId:String}{p0 p1 pos pos':Pos}(F:Fun K x qual st fI fd)(sc:cB [a0,a1] [a0,a1] (aq st))
  (hq:clsF K C bmV newId f fJ=true) (hB:typeLookup (.type "ValueError") f=pure none) (hb:aR st=[.Assign [.Attribute (.Name a0 p0) f pos'] (.Name a1 p1) pos])
  (hs:∀env,swapsWith (.Name a1 p1) (some (.Attribute (.Name a0 p0) f pos')) pos.line env=pure false) (d0:(a0==("__debug__" : Str))=false) (d1:(a1==("__debug__" : Str))=false) (c0:(a0==("__classdict__" : Str))=false) (c1:(a1==("__classdict__" : Str))=false) :
  FnOk P w K mg base (dG P w) (k+1) fI fd [a0,a1] (spI C f):=by
 obtain⟨oc,od,kV,doc,pm,an,cdv,ct,osl,rfl,lk,hcd⟩:=F.ex;have v0:nC (aq st) a0:=(sc.par a0 (by simp)).elim .inl λz=>.inr (.inl z);have v1:nC (aq st) a1:=(sc.par a1 (by simp)).elim .inl λz=>.inr (.inl z);refine mJ lk hcd sc (λvs H Q E ⟨e,t,k,z,_⟩=>by rw[z];rfl) λA outer s H vs Q E hr hsp=>?_;obtain⟨e,t,k,rfl,he,q⟩:=hsp;refine⟨vL C f,?_,e,t,k,rfl,rfl,he,q⟩;rw[hb];exact kF (gI (X:=cY (dG P w) P w K mg base [a0,a1] qual (aq st) fI cdv A outer s H E) hq hB (ei rfl v0 d0 c0) (ei rfl v1 d1 c1) (hs _))
variable {X:Cx}{EX:XK}{C fI:Addr}{fd:FuncData}{x f:Str}{ps:List Str}{k:Nat}{a:Expr}{ta:TE}{np cpos pos:Pos}
theorem ps_raisef(hr:RaisD X EX)(hc:X.calm=true)(hm:X.mg x=some (.ref C))(hq:clsF X.K C bmV "ValueError.__new__" f fI=true)(Fi:FnOk X.prog X.w X.K X.mg X.base (dG X.prog X.w) k fI fd ps (spI C f))(hro:Room (k+1) X.A)(hb:Binds X.K fd ps [])(hl:∃od osl,X.K.lookup fI=some ⟨.type "function",od,.func fd,osl⟩)
  (ha:PE X a ta) (hg:Gl X x:=by rfl) (hd:(x==("__debug__" : Str))=false:=by decide) (he:starEach [a] X.env=[(false,eval a X.env)]:=by rfl) (hex:X.ex=[]:=by rfl) :
  PS X (.Raise (some (.Call (.Name x np) [a] [] cpos)) none pos) (λ_ σ H=>ta σ H λv H1=>∃n,v=.int n/\∀d,H1 d=none->EX (.ref C) (some d) (upd H1 d (.xd [(f,.int n)]))):=by
 intro pins s σ H D I h;obtain⟨bm,N,nm,qn,bs,sn,sub,ab,col,dd,k0,k1,k2,k3,k5,mN,hC,hN,hi,qm,T⟩:=(Gd I.mod.kin hq).h;have isB:bm.contains (.type "BaseException")=true:=T.has (by decide +kernel);obtain⟨od,osl,lI⟩:=hl;have hoI:=I.mod.kin _ _ lI;refine Im (C:=C) (nm:=nm) (q:=qn) (N:=N) (bs:=bs) (bm:=bm) (hdct:=true) (sn:=sn) (sub:=sub) (ab:=ab) (col:=col) (dd:=dd) (k0:=k0) (k1:=k1) (k2:=k2) (k3:=k3) (k5:=k5) (mN:=mN) (fI:=fI) (oI:=⟨.type "function",od,.func fd,osl⟩) PySem.F.excBase_ValueError isB (I.ok.hd hc) (by rw[he];rfl) hi rfl (eX I hg hm ⟨rfl,?_⟩ hd);have hp:=gJ (X:=X) (e:=a) (es:=[]) ha j0 (by rw[he];rfl);have go:=hp cpos pins s σ H (λvs H1=>match vs with|[v]=>∃n,v=.int n/\∀d,H1 d=none->EX (.ref C) (some d) (upd H1 d (.xd [(f,.int n)]))|_=>False) I;rw[he] at go ⊢;refine Calls.evalArgs_plain (aI (go (by
  unfold pk um;exact h)) λus s2 ⟨vs,H2,I2,rv,q⟩=>?_)
 obtain⟨v,rfl⟩:∃v,vs=[v]:=by
  match vs,q with
  |[v],_=>exact⟨v,rfl⟩
 obtain⟨n,rfl,q⟩:=q;have ul:us.length=1:=rv.length.symm;refine⟨rfl,by rw[ul];decide,I2.bk _ _ hC,hN.keeps I2.bk,(T.keeps I2.bk).own (by simp),I2.bk _ _ hoI,λh' e m=>?_⟩;obtain⟨t,at1,_,_⟩:=m.there;have I3:Inv X pins σ H2 { s2 with heap:=h' }:=I2.kept (t':=s2.toks) m.keeps;have noE:∀{b o},s2.heap.get? b=some o->b≠e:=λz y=>by rw[y,m.new] at z;cases z
 have He:H2 e=none:=by
  cases z:H2 e with
  |none=>rfl
  |some u=>obtain⟨o,y⟩:=HOk.obj I2.hok z;exact Ot rfl (noE y)
 have h0:X.s₀.heap.get? e=none:=by
  cases z:X.s₀.heap.get? e with
  |none=>rfl
  |some o=>obtain⟨o',y⟩:=I2.base.there e o z (by rw[hex];simp);exact Ot rfl (noE y)
 have hL:e≠X.env.locals:=λz=>by
  obtain⟨_,⟨o,_,_,y,_⟩,_⟩:=I2.loc;exact noE y z.symm
 have I4:Inv X pins σ (upd H2 e (jB C t e none)) { s2 with heap:=h' }:=I3.track He h0 hL (λy c z w=>by
  obtain⟨v,o,ho,_⟩:=I2.cell y c z;exact noE ho w) (λp hp w=>noE (I2.pin p hp).1 w) ⟨at1,⟨_,at1⟩,λ_ _ p r=>r _ p⟩ (λ_ z=>by first|cases z|(unfold jB at z;cases z))
 have hlen:(Value.ref e::us++[]).length=ps.length:=by
  have:=Fi.len [.ref e,.int n] (upd H2 e (jB C t e none)) (λ_ _=>True) E0 ⟨e,t,n,rfl,ao,λ_ _ _=>trivial⟩;rw[<-this,p8,cO,ul];rfl
 have bi:=hb { s2 with heap:=h' } (.ref e::us) I4.kIn hlen;rw[p8] at bi;refine wpAny_call (codeAny_mono (Fi.run _ X.stack _ _ ⟨.ref e::us,[]⟩ (.ref e::us) [.ref e,.int n] (λv H5=>v = .non/\∃ d,H2 d=none/\d≠e/\H5=upd (upd H2 e (jB C t e (some d))) d (.xd [(f,.int n)])) E0 (hro.make C us []) (I4.env0.make C us []) bi (.cons rfl rv)
  ⟨e,t,n,rfl,ao,λd hd ne=>⟨rfl,d,by rw[af ne] at hd;exact hd,ne,by rw[nQ]⟩⟩) λr s3 z=>?_)
 cases r with
 |error e'=>exact(bo pins σ _ _ e' s3 I4 z:_)
 |ok fl=>
  cases fl with
  |ret u=>
   obtain⟨v,H',I5,r5,rfl,d,hd,ne,rfl⟩:=I4.after z;have e5:upd (upd H2 e (jB C t e (some d))) d (.xd [(f,.int n)]) e=some (jB C t e (some d)):=by rw[af (Oy ne),ao]
   refine⟨r5,t,some d,I5.bk _ _ hC,(I5.hok e _ e5).1,hr pins σ _ s3 e C t (some d) I5 e5 h0 ?_⟩;have:rem (upd (upd H2 e (jB C t e (some d))) d (.xd [(f,.int n)])) e=upd H2 d (.xd [(f,.int n)]):=by
    funext b;unfold rem upd
    by_cases y:b=e
    .rw[if_pos y,if_neg (λw=>ne (w.symm.trans y)),y,He]
    .rw[if_neg y,if_neg y]
   rw[this];exact q d hd
  |next=>exact OE z
  |brk=>exact OE z
  |cont=>exact OE z
end Fl
end L2
namespace LP
open PySem PySem.Spec PyProof.Rows L2
structure XF(P:Program)(w:World)(K:Oq)(mg:Str->Option Value)(base:Heap)(x f:Str)(k:Nat):Prop where
 h:∃(C fI:Addr) (fd:FuncData) (ps:List Str),j7 K x=some C/\mg x=some (.ref C)/\Fl.clsF K C Fl.bmV "ValueError.__new__" f fI=true/\FnOk P w K mg base (dG P w) k fI fd ps (Fl.spI C f)/\Binds K fd ps []/\∃od osl,K.lookup fI=some ⟨.type "function",od,.func fd,osl⟩
theorem MB{n c f:Str}{k:Int}(h:jn n=some (c,f,k)):oB n=c:=by unfold oB;rw[h]
variable {X:Cx}{EX:XK}{x f:Str}{k:Nat}{a:Expr}{wa:WE}{np cpos pos:Pos}
def Gf(x f:Str)(wa:WE):WS:=λE _ ρ=>wa E ρ λd=>∃(n:Int) (ex:Str),d=.int n/\jn ex=some (x,f,n)/\E ex
theorem MC(hr:Fl.RaisD X EX)(hx:XF X.prog X.w X.K X.mg X.base x f k)(hro:Room (k+1) X.A)(ha:PX X EX a wa)(hc:X.calm=true:=by rfl)(hg:Gl X x:=by rfl)(hd:(x==("__debug__" : Str))=false:=by decide)(he:starEach [a] X.env=[(false,eval a X.env)]:=by rfl)(hex:X.ex=[]:=by rfl) :
  PZ X EX (.Raise (some (.Call (.Name x np) [a] [] cpos)) none pos) (Gf x f wa):=by
 obtain⟨C,fI,fd,ps,h1,h2,h3,h4,h5,h6⟩:=hx.h;obtain⟨ta,pa,ka⟩:=ha.t;refine⟨⟨_,Fl.ps_raisef hr hc h2 h3 h4 hro h5 h6 pa hg hd he hex,λW0 H0 F W σ H ρ E Dn N s fl eo no q=>ka W0 H0 W σ H ρ E _ s eo (ha.mono _ _ _ _ (λd ⟨n,ex,ed,er,hE⟩=>?_) q)⟩,λE ρ N N' hl q=>q⟩;subst ed;intro v W' H' x' r';cases r';refine⟨n,rfl,λd hd=>?_⟩;have xt:Ext W' H' (W'.put d (.xd [(f,.int n)])) (upd H' d (.xd [(f,.int n)])):=Ext.put x'.ok hd;refine eo ex _ _ _ _ hE (s.ext.trans (x'.trans xt)) ⟨C,by rw[MB er];exact h1,rfl,λc f' k' e'=>?_⟩;rw[er] at e';cases e';exact⟨d,rfl,by unfold Wd.put;dsimp only;rw[ao]⟩
def Ck(s:Stmt):Stmt:=match s with
 |.ClassDef _ _ _ (b::_) _ _ _ _ _ _ _=>b
 |s=>s
structure XK1(K:Oq)(mg:Str->Option Value)(x qual f:Str)(st:Stmt):Prop where
 h:∃(C fI:Addr) (od:Option Addr) (osl:Array (Option Value)) (kV doc pm:Value) (an:Option Addr) (cdv ct:Value),j7 K x=some C/\mg x=some (.ref C)/\Fl.clsF K C Fl.bmV "ValueError.__new__" f fI=true/\
  K.lookup fI=some ⟨.type "function",od,.func (PySem.W.fnOf "__init__" qual (bQ st) (aR st) (aq st) .none kV doc pm an cdv ct),osl⟩/\PySem.W.codeIn K cdv qual=true/\PySem.W.keepIn K (.ref fI)=true
section
variable{P:Program}{w:World}{K:Oq}{mg:Str->Option Value}{base:Heap}{x qual f:Str}{st:Stmt}{k:Nat}
theorem mkXF{hp:Heap}(X:K.In hp)(G:hp.Ns mainGlobals mg){C fI:Addr}{od an:Option Addr}{osl:Array (Option Value)}{kV doc pm cdv ct:Value}{dd:Option Addr}{cd:ClassData}{sl:Array (Option Value)}(a:PySem.W.nsIn K mainGlobals x=some (some (.ref C)))(lc:K.lookup C=some ⟨.type "type",dd,.cls cd,sl⟩)(ni:PySem.W.nsIn K cd.ns "__init__" = some (some (.ref fI)))(q:Fl.clsF K C Fl.bmV "ValueError.__new__" f fI=true)
  (l:K.lookup fI=some ⟨.type "function",od,.func (PySem.W.fnOf "__init__" qual (bQ st) (aR st) (aq st) .none kV doc pm an cdv ct),osl⟩) (c:PySem.W.codeIn K cdv qual=true) (kp:PySem.W.keepIn K (.ref fI)=true):XK1 K mg x qual f st:=
 ⟨C,fI,od,osl,kV,doc,pm,an,cdv,ct,rC a,PySem.W.mg_of X G a,q,l,c,kp⟩
theorem XK1.xf(h:XK1 K mg x qual f st)(hB:typeLookup (.type "ValueError") f=pure none)(sc:cB [("self" : Str),f] [("self" : Str),f] (aq st):=by exact⟨rfl,rfl,rfl,by decide +kernel,rfl,by decide +kernel,by decide +kernel⟩)
  (hb:∃p0 p1 pos pos',aR st=[.Assign [.Attribute (.Name "self" p0) f pos'] (.Name f p1) pos]/\∀env,swapsWith (.Name f p1) (some (.Attribute (.Name "self" p0) f pos')) pos.line env=pure false:=by exact⟨_,_,_,_,rfl,λ_=>rfl⟩)
  (bi:∀ (kV doc pm:Value) (an:Option Addr) (cdv ct:Value) (us:List Value),us.length=[("self" : Str),f].length->bindArgs (PySem.W.fnOf "__init__" qual (bQ st) (aR st) (aq st) .none kV doc pm an cdv ct) ⟨us,[]⟩=pure ([("self" : Str),f].zip us):=by
   intro _ _ _ _ _ _ us hl
   match us,hl with|[_,_],_=>rfl)
  (d1:(f==("__debug__" : Str))=false:=by decide) (c1:(f==("__classdict__" : Str))=false:=by decide):XF P w K mg base x f (k+1):=by
 obtain⟨C,fI,od,osl,kV,doc,pm,an,cdv,ct,h1,h2,h3,h4,h5,h6⟩:=h.h;obtain⟨p0,p1,pos,pos',e1,e2⟩:=hb;have F:=mT h4 h5 h6;exact⟨C,fI,_,_,h1,h2,h3,Fl.init_ok F sc h3 hB e1 e2 (by decide) d1 (by decide) c1,F.binds bi,od,osl,h4⟩
section
variable{X:Cx}{EX:XK}{a:Expr}{wa:WE}{pos:Pos}
end
theorem MD:typeLookup (.type "ValueError") "size" = pure none:=by rw[typeLookup_type,builtinLookup_eq_fast];kernel_rfl
end
def pW(k:Nat):Str:=match k with
 |1=> "NotStrong1" |2=> "NotStrong2" |3=> "NotStrong3" |4=> "NotStrong4" |_=> "NotStrong5"
theorem ME{k:Nat}(h1:1<=k)(h5:k<=5):jn (pW k)=some (("NotStrong" : Str),("size" : Str),(k:Int)):=by
 have:k=1\/k=2\/k=3\/k=4\/k=5:=by omega
 rcases this with rfl|rfl|rfl|rfl|rfl<;>decide +kernel
open Gs
namespace G.V9.W
def oS(s:List Int)(n:Nat)(v:Except Str D):Except Str D:=match eU s n with
 |[]=>v
 |k::_=>.error (pW k)
theorem Gg{s:List Int}{n k:Nat}{r:List Nat}{v:Except Str D}(e:eU s n=k::r):oS s n v=.error (pW k):=by unfold oS;rw[e]
def yD:aS:=xS (λx:D=>[x]) (λx=>kd x=true) λx=>eI x (oS (sI x) (sN x) (.ok .non))
variable {E:Ex->Prop}{Q:D->Prop}{x y:D}{s r:List Int}{n k:Nat}
theorem MF(h:IsSl s n){l:List Nat}(e:eU s n=k::l)(q:E (pW k)):yD [au s] E Q:=xS.err (au s) rfl h.kd (by(try dsimp only);rw[d7 h,dh,h.sN,Gg e]) q
end G.V9.W
end LP
namespace LP
open PySem PySem.Spec PyProof.Rows L2
namespace G.V9.W
abbrev Gh:List Str:=["slants", "size"]
abbrev MG:List Str:=["slants"]
def yE:WS:=(ai (ax 1 (wF vJ (ad (wN 0) aa))) (bE (wT (w2 (gIsC true) (wN 1) (wC D.non))) (Gf (PySem.Str.ofString "NotStrong") (PySem.Str.ofString "size") (wN 1)) bD))
end G.V9.W
local macro_rules | `(tactic| walk_at "w1")=>`(tactic| simp only [aj,bE,ax,bD,dg,aT,aZ,aU,fi,bS,bJ,bC,d6,cb,fV,aL,eh,df,wM,Zcp,eu,cH,fg,cG,dB,aX,wT,eO,w1,w2,wB,wF,wL,aQ,aJ,ZaM,aB,bh,ad,aa,aLC,Zbq,bF,iS,iE,iL,iT,dS,eY,iZ,cP,bV,wN,wC,gN,bW,aV,bR,bN,fA,cq,cJ,cK,bM,cL,bT,cm,aCut,aH,pub,bL,dM,cO,eW,dW,c9,List.replicate,b9,cF,dO,dP,Nat.reduceSub,Nat.reduceAdd,dJ,fH,true_and,da,if_true,if_false,ite_true,ite_false,eK,dQ,gF,
 fX,gW,gX,gY,gZ,g6,g9,hJ,hU,hV,hW,hX,hZ,h8,h9,ia,ic,ig,ii,ij,ik,il,ip,iq,ir,iu,iw,Zb,iy,iz,iA,iB,iC,iD,iF,iG,iH,iI,iJ,iK,iM,iN,iO,iP,iQ,iR,iU,iV,iW,cV,iX,iY,i3,i4,i6,c7,c8])
local macro_rules | `(tactic| walk_at "st")=>`(tactic| ((try dsimp only at *);(try walk_at "w1");(try dsimp only)))
local macro_rules | `(tactic| walk_at "nx")=>`(tactic| ((try dsimp only);(refine a8 ?_);walk_at "st"))
open Gs Dt
namespace G.V9.W
theorem MH:∀ds E Q,yD ds E Q->yE E { nx:=λ_=>Q .non,rt:=Q } (aH Gh ds):=by
 rintro _ E Q ⟨x,rfl,hk,q⟩;show yE E _ [.d x,.un];unfold yE;cases e:dC x with
 |false=>
  refine a8 ?_;simp only[ax,wF,ad,aa,wN,b9];exact xS.err x rfl hk (kj e) (jx e q)
 |true=>
 obtain⟨s,n,rfl,h⟩:=km e;replace q:=jy h q;rw[dh,h.sN] at q;unfold oS at q;cases ew:eU s n with
 |nil=>
  rw[ew] at q;refine a8 (LP.set_by (d:=.non) (ρ':=[.d (au s),.d .non]) (by rfl) (λP hP=>?_) ?_)
  .walk_at "st"
   refine yA h ?_;rw[ew];exact hP
  dsimp only;refine fW (b:=false) (λP hP=>?_) (λe=>nomatch e) λ_=>q;walk_at "st";exact⟨rfl,hP⟩
 |cons k l=>
  rw[ew] at q;obtain⟨k1,kn,_⟩:=Mz h ew;refine a8 (LP.set_by (d:=.int k) (ρ':=[.d (au s),.d (.int k)]) (by rfl) (λP hP=>?_) ?_)
  .walk_at "st"
   refine yA h ?_;rw[ew];exact hP
  dsimp only;refine fW (b:=true) (λP hP=>?_) (λ_=>?_) λe=>nomatch e
  .walk_at "st"
   exact⟨rfl,hP⟩
  .exact⟨(k:Int),pW k,rfl,ME k1 (by have:=h.n5;omega),q⟩
end G.V9.W
end LP
namespace LP
open PySem PySem.Spec PyProof.Rows L2
local macro_rules | `(tactic| walk_at "w1")=>`(tactic| simp only [aj,bE,ax,bD,dg,aT,aZ,aU,fi,bS,bJ,bC,d6,cb,fV,aL,eh,df,wM,Zcp,eu,cH,fg,cG,dB,aX,wT,eO,w1,w2,wB,wF,wL,aQ,aJ,ZaM,aB,bh,ad,aa,aLC,Zbq,bF,iS,iL,iT,dS,eY,iZ,cP,bV,wN,wC,gN,bW,aV,bR,bN,fA,cq,cJ,cK,bM,cL,bT,cm,aCut,aH,pub,bL,dM,cO,eW,dW,c9,List.replicate,b9,cF,dO,dP,Nat.reduceSub,Nat.reduceAdd,dJ,fH,true_and,da,if_true,if_false,ite_true,ite_false,eK,dQ,gF,
 fX,gW,gX,gY,gZ,g6,g9,hJ,hU,hV,hW,hX,hZ,h8,h9,ia,ic,ig,ii,ij,ik,il,ip,iq,ir,iu,iw,Zb,iy,iz,iA,iB,iC,iD,iF,iG,iH,iI,iJ,iK,iM,iN,iO,iP,iQ,iR,iU,iV,iW,cV,iX,iY,i3,i4,i6,c7,c8])
local macro_rules | `(tactic| walk_at "st")=>`(tactic| ((try dsimp only at *);(try walk_at "w1");(try dsimp only)))
local macro_rules | `(tactic| walk_at "nx")=>`(tactic| ((try dsimp only);(refine a8 ?_);walk_at "st"))
abbrev Oo:List Str:=["NoSlants", "NoRow", "NoNumber", "NoLine", "NotEven", "NotFull", "NotStrong1", "NotStrong2", "NotStrong3", "NotStrong4", "NotStrong5"]
variable {X:Cx}{EX:XK}{x:Str}{p pos:Pos}
local macro_rules | `(tactic| walk_at "w1")=>`(tactic| simp only [aj,bE,ax,bD,dg,aT,aZ,aU,fi,bS,bJ,bC,d6,cb,fV,aL,eh,df,wM,Zcp,eu,cH,fg,cG,dB,aX,wT,eO,w1,w2,wB,wF,wL,aQ,aJ,ZaM,aB,bh,ad,aa,aLC,Zbq,bF,iS,iE,iL,iT,dS,eY,iZ,cP,bV,wN,wC,gN,bW,aV,bR,bN,fA,cq,cJ,cK,bM,cL,bT,cm,aCut,aH,pub,bL,dM,cO,eW,dW,c9,List.replicate,b9,cF,dO,dP,Nat.reduceSub,Nat.reduceAdd,dJ,fH,true_and,da,if_true,if_false,ite_true,ite_false,eK,dQ,gF,
 fX,gW,gX,gY,gZ,g6,g9,hJ,hU,hV,hW,hX,hZ,h8,h9,ia,ic,ig,ii,ij,ik,il,ip,iq,ir,iu,iw,Zb,iy,iz,iA,iB,iC,iD,iF,iG,iH,iI,iJ,iK,iM,iN,iO,iP,iQ,iR,iU,iV,iW,cV,iX,iY,i3,i4,i6,c7,c8])
open Gs Dt
end LP
namespace LP
open PySem PySem.Spec PyProof.Rows L2
open Gs
namespace G.V9.W
namespace E8
variable {E:Ex->Prop}{Q:D->Prop}{x y t:D}{s r:List Int}{n w:Nat}
end E8
end G.V9.W
local macro_rules | `(tactic| walk_at "w1")=>`(tactic| simp only [aj,bE,ax,bD,dg,aT,aZ,aU,fi,bS,bJ,bC,d6,cb,fV,aL,eh,df,wM,Zcp,eu,cH,fg,cG,dB,aX,wT,eO,w1,w2,wB,wF,wL,aQ,aJ,ZaM,aB,bh,ad,aa,aLC,Zbq,bF,iS,iE,iL,iT,dS,eY,iZ,cP,bV,wN,wC,gN,bW,aV,bR,bN,fA,cq,cJ,cK,bM,cL,bT,cm,aCut,aH,pub,bL,dM,cO,eW,dW,c9,List.replicate,b9,cF,dO,dP,Nat.reduceSub,Nat.reduceAdd,dJ,fH,true_and,da,if_true,if_false,ite_true,ite_false,eK,dQ,gF,
 fX,gW,gX,gY,gZ,g6,g9,hJ,hU,hV,hW,hX,hZ,h8,h9,ia,ic,ig,ii,ij,ik,il,ip,iq,ir,iu,iw,Zb,iy,iz,iA,iB,iC,iD,iF,iG,iH,iI,iJ,iK,iM,iN,iO,iP,iQ,iR,iU,iV,iW,cV,iX,iY,i3,i4,i6,c7,c8])
local macro_rules | `(tactic| walk_at "st")=>`(tactic| ((try dsimp only at *);(try walk_at "w1");(try dsimp only)))
local macro_rules | `(tactic| walk_at "nx")=>`(tactic| ((try dsimp only);(refine a8 ?_);walk_at "st"))
open Gs Dt
end LP
namespace LP
open PySem PySem.Spec PyProof.Rows L2
theorem Gi{K:Oq}{W:Wd}:∀{bs:List Int} {vs:List V} {its:List Value},Reps K W vs (bs.map .int)->Vals vs its->its.length=bs.length/\∀(i:Nat) (v:Value),its[i]? = some v->∃b t,bs[i]? = some b/\v=.int b t
 |[],_,_,.nil,.nil=>⟨rfl,λi v e=>by simp at e⟩
 |b::bs,_,_,.cons r1 r2,.cons v1 v2=>by
  cases r1;obtain⟨t,rfl⟩:=v1;obtain⟨l,k⟩:=Gi r2 v2;refine⟨by simp[l],λi v e=>?_⟩;cases i with
  |zero=>simp at e;exact⟨b,t,by simp,e.symm⟩
  |succ i=>exact(by simpa using k i v (by simpa using e))
variable {X:Cx}
end LP
namespace LP
open Dt
namespace Lb
def pl:List Int->Int
 |[]=>1
 |x::xs=>x*pl xs
end Lb
end LP
namespace LP
open PySem PySem.Spec PyProof.Rows L2
namespace G.V9.W
def sg2(x y:Int):Int:=if 0<x*y then 1 else -1
def cgF(s:List Int)(n:Nat):List Int:=List.zipWith sg2 (1::i9 s n) (i9 s n)
def rW(x:D):Except Str D:=eI x (if i7 x=true then oS (sI x) (sN x) (.ok (cw (cgF (sI x) (sN x)))) else .error "NotEven")
def Cm:aS:=xS (λx:D=>[x]) (λx=>kd x=true) rW
namespace E1
variable {E:Ex->Prop}{Q:D->Prop}{x:D}{s:List Int}{n k:Nat}
theorem yF:i7 (au s)=decide (s.reverse=s):=by unfold i7;rw[dh]
theorem MI(h:dC x=false):rW x=.error "NoSlants" :=kj h
theorem MJ(h:IsSl s n)(e:s.reverse≠s):rW (au s)=.error "NotEven" :=by unfold rW;rw[d7 h,yF,if_neg (by simpa using e)]
theorem Gj(h:IsSl s n)(e:s.reverse=s):rW (au s)=oS s n (.ok (cw (cgF s n))):=by unfold rW;rw[d7 h,yF,if_pos (by simpa using e),dh,h.sN]
theorem Gk:(i9 s n).length=n:=by unfold i9;simp
theorem vM(h:IsSl s n):∀x∈i9 s n,x.natAbs<=2^65:=λx hx=>by
 obtain⟨k,hk,rfl⟩:=YbT.mp hx;have hk:=Yaj.mp hk;have n5:=h.n5;exact gb (Cg (F1 (vh h (show 1<=k+1 by omega) (by omega))) (by omega)) (l6 (by decide) (by omega))
theorem Gm(h:IsSl s n):∀x∈(1:Int)::i9 s n,Bd x:=λx hx=>by
 rcases Yaq.mp hx with rfl|hx
 .unfold Bd;exact tp (by decide)
 .exact kC (vM h x hx) (Nat.pow_lt_pow_right (by decide) (by decide))
end E1
end G.V9.W
namespace G.V9.W.E1
abbrev Gn:List Str:=["slants", "numbers"]
abbrev MK:List Str:=["slants"]
def yG:WS:=(ai (dg (wF rL (ad (wN 0) aa))) (ai (dg (wF yD (ad (wN 0) aa))) (ai (ax 1 (w2 gAdd (wL (bh (ad (wC (D.int (1))) aa))) (wF sQ (ad (wN 0) aa)))) (aj (wL (aLC (iZ (ad (wN 1) (ad (aJ (wN 1) (bV (wC (D.int (1)))) cP) aa))) 2 [] (bW 2 (aV (gN 0) (aV (gN 1) bR))) bF (eO (wT (w2 lG (w2 gMul (wN 0) (wN 1)) (wC (D.int (0))))) (wC (D.int (1))) (w1 kf (wC (D.int (1)))))))))))
end G.V9.W.E1
local macro_rules | `(tactic| walk_at "w1")=>`(tactic| simp only [aj,bE,ax,bD,dg,aT,aZ,aU,fi,bS,bJ,bC,d6,cb,fV,aL,eh,df,wM,Zcp,eu,cH,fg,cG,dB,aX,wT,eO,w1,w2,wB,wF,wL,aQ,aJ,ZaM,aB,bh,ad,aa,aLC,Zbq,bF,iS,iE,iL,iT,dS,eY,iZ,cP,bV,wN,wC,gN,bW,aV,bR,bN,fA,cq,cJ,cK,bM,cL,bT,cm,aCut,aH,pub,bL,dM,cO,eW,dW,c9,List.replicate,b9,cF,dO,dP,Nat.reduceSub,Nat.reduceAdd,dJ,fH,true_and,da,if_true,if_false,ite_true,ite_false,eK,dQ,gF,
 fX,gW,gX,gY,gZ,g6,g9,hJ,hU,hV,hW,hX,hZ,h8,h9,ia,ic,ig,ii,ij,ik,il,ip,iq,ir,iu,iw,Zb,iy,iz,iA,iB,iC,iD,iF,iG,iH,iI,iJ,iK,iM,iN,iO,iP,iQ,iR,iU,iV,iW,cV,iX,iY,i3,i4,i6,c7,c8])
local macro_rules | `(tactic| walk_at "st")=>`(tactic| ((try dsimp only at *);(try walk_at "w1");(try dsimp only)))
local macro_rules | `(tactic| walk_at "nx")=>`(tactic| ((try dsimp only);(refine a8 ?_);walk_at "st"))
open Gs Dt
namespace G.V9.W.E1
theorem Cn{x:D}{xs:List D}:bn (x::xs) (some 1) none=xs:=by
 rw[show(1:Int)=((1:Nat):Int) from rfl,rE (by simp)];rfl
theorem ML{s:List Int}{n:Nat}{Q:List D->Prop}(h:IsSl s n)(q:Q ((cgF s n).map .int)) :
  lcW (bW 2 (aV (gN 0) (aV (gN 1) bR))) bF (eO (wT (w2 lG (w2 gMul (wN 0) (wN 1)) (wC (D.int (0))))) (wC (D.int (1))) (w1 kf (wC (D.int (1))))) (bK (((1:Int)::i9 s n).map D.int) ((i9 s n).map D.int)) [.un,.un] [] Q:=by
 let f:D->D->D:=λa b=>match a,b with
  |.int x,.int y=>.int (sg2 x y)
  |_,_=>.non
 refine DT (f:=f) _ _ (λp hp P hP=>?_) _ _ _ ?_ ?_
 .have h1:=wn hp
  obtain⟨x,hx,e1⟩:=YbT.mp h1.1;obtain⟨y,hy,e2⟩:=YbT.mp h1.2;obtain⟨p1,p2⟩:=p;dsimp only at e1 e2 hP ⊢;subst e1 e2;have hP:P (.int (sg2 x y)):=hP;have bx:=Gm h x hx;have bY:=Gm h y (fG _ hy);walk_at "st";refine⟨⟨bx,bY⟩,?_⟩;unfold sg2 at hP
  by_cases z:0<x*y
  .rw[if_pos z] at hP
   rw[show decide (x*y>0)=true from decide_eq_true z,if_pos rfl];exact hP
  .rw[if_neg z] at hP
   rw[show decide (x*y>0)=false from Ox z,if_neg (by decide)];exact hP
 .have:=h.n5
  simp[Gk];unfold aw;omega
 .have:List.zipWith f (((1:Int)::i9 s n).map D.int) ((i9 s n).map D.int)=(cgF s n).map .int:=by
   unfold cgF;rw[List.zipWith_map,zD]
  rw[this];exact q
theorem MM:∀ds E Q,Cm ds E Q->yG E { nx:=λ_=>Q .non,rt:=Q } (aH Gn ds):=by
 rintro _ E Q ⟨x,rfl,hk,q⟩;show yG E _ [.d x,.un];unfold yG;refine a8 ?_;simp only[dg,wF,ad,aa,wN,b9];cases e:dC x with
 |false=>
  rw[MI e] at q;exact xS.err x rfl hk (kj e) q
 |true=>
 obtain⟨s,n,rfl,h⟩:=km e
 by_cases ev:s.reverse=s
 case neg=>
  rw[MJ h ev] at q;exact xS.err (au s) rfl hk (by(try dsimp only);rw[d7 h,yF,if_neg (by simpa using ev)]) q
 rw[Gj h ev] at q;refine xS.ok (au s) rfl hk (by(try dsimp only);rw[d7 h,yF,if_pos (by simpa using ev)]) ?_;refine a8 ?_;simp only[dg,wF,ad,aa,wN,b9];cases ew:eU s n with
 |cons k l=>
  rw[Gg ew] at q;exact MF h ew q
 |nil=>
 unfold oS at q;rw[ew] at q;refine xS.ok (au s) rfl hk (by(try dsimp only);rw[d7 h,dh,h.sN];unfold oS;rw[ew]) ?_;have n5:=h.n5;refine a8 (LP.set_by (d:=.lst (((1:Int)::i9 s n).map .int)) (ρ':=[.d (au s),.d (.lst (((1:Int)::i9 s n).map .int))]) (by rfl) (λP hP=>?_) ?_)
 .walk_at "st"
  refine⟨by decide,FY h ?_⟩;walk_at "st";refine⟨fD (by simp[Gk];omega),hP⟩
 dsimp only;simp only[aj,wL,aLC,iZ,ad,aa,wN,aJ,bV,cP,wC,b9,cF];walk_at "st";rw[Cn];exact ML (Q:=λys=>Q (.lst ys)) h q
end G.V9.W.E1
open Gs Dt
open Lb
open Gs Dt
end LP
namespace LP
open PySem PySem.Spec PyProof.Rows L2
open Dt
def bf(T:Nat->Nat->Rat)(n:Nat)(u v:Nat->Rat):Rat:=ag (λi=>u i*ag (λj=>T i j*v j) n) n
def dw(c:Nat->Rat)(U:Nat->Nat->Rat)(m:Nat):Nat->Rat:=λk=>ag (λa=>c a*U a k) m
theorem Go(f:Nat->Rat)(n:Nat):∀m:Nat,ag f (n+m)=ag f n+ag (λj=>f (n+j)) m
 |0=>by simp only[ag,Nat.add_zero];grind
 |m+1=>by rw[Nat.add_succ,ag,Go f n m,ag];grind
theorem Co{f:Nat->Rat}:∀{n:Nat},(∀i,i<n->0<=f i)->0<=ag f n
 |0,_=>by simp only[ag];grind
 |n+1,h=>by
  have h1:=Co (f:=f) (n:=n) λi hi=>h i (by omega);have h2:=h n (by omega);rw[ag];grind
theorem Gp{f:Nat->Rat}:∀{n:Nat},(∀i,i<n->0<=f i)->ag f n<=0->∀i,i<n->f i=0
 |0,_,_,i,hi=>by omega
 |n+1,h,h0,i,hi=>by
  have h1:=Co (f:=f) (n:=n) λi hi=>h i (by omega);have h2:=h n (by omega);rw[ag] at h0
  by_cases e:i=n
  .subst e;grind
  .exact Gp (n:=n) (λi hi=>h i (by omega)) (by grind) i (by omega)
variable {T:Nat->Nat->Rat}{n m:Nat}
theorem sR{u v u' v':Nat->Rat}(hu:∀i,i<n->u i=u' i)(hv:∀i,i<n->v i=v' i):bf T n u v=bf T n u' v':=
 bz λi hi=>by rw[hu i hi,bz (g:=λj=>T i j*v' j) λj hj=>by rw[hv j hj]]
theorem oU(hT:∀i j,i<n->j<n->T i j=T j i)(u v:Nat->Rat):bf T n u v=bf T n v u:=by
 unfold bf;rw[bz (g:=λi=>ag (λj=>u i*(T i j*v j)) n) λi _=>by rw[sumN_mul],pT];refine bz λj hj=>?_;rw[<-sumN_mul];exact bz λi hi=>by rw[hT i j hi hj];grind
theorem oV(u:Nat->Rat)(c:Nat->Rat)(U:Nat->Nat->Rat):∀m:Nat,bf T n u (dw c U m)=ag (λa=>c a*bf T n u (U a)) m
 |0=>by
  rw[ag];refine kv λi _=>?_;rw[kv λj _=>by show T i j*0=0;rw[dX],dX]
 |m+1=>by
  rw[ag,<-oV u c U m];unfold bf;rw[<-sumN_mul,<-yp];refine bz λi _=>?_;rw[bz (g:=λj=>T i j*dw c U m j+c m*(T i j*U m j)) λj _=>by show T i j*(dw c U m j+c m*U m j)=_;grind,yp,sumN_mul];grind
theorem sS(u v w:Nat->Rat)(q:Rat):bf T n u (λk=>v k-q*w k)=bf T n u v-q*bf T n u w:=by
 unfold bf;rw[<-sumN_mul,<-pR];refine bz λi _=>?_;rw[bz (g:=λj=>T i j*v j-q*(T i j*w j)) λj _=>by grind,pR,sumN_mul];grind
structure Ap(T:Nat->Nat->Rat)(n:Nat)(U:Nat->Nat->Rat):Prop where
 ap:∀a b,a<n->b<n->a≠b->bf T n (U a) (U b)=0
 fu:∀x:Nat->Rat,(∀a,a<n->ag (λk=>U a k*x k) n=0)->∀k,k<n->x k=0
def bO(m:Nat)(f:Nat->Rat):List Rat:=(List.range m).map f
theorem oW(m:Nat)(f:Nat->Rat):(bO m f).length=m:=by unfold bO;rw[aW,jc]
theorem rX{m k:Nat}(f:Nat->Rat)(hk:k<m):(bO m f).getD k 0=f k:=by
 unfold bO;rw[aM,cc,jg hk];rfl
theorem MN{m:Nat}(f:Nat->Rat){c:List Rat}(hc:c.length=m):bB (bO m f) c=ag (λj=>f j*c.getD j 0) m:=by
 rw[i8 _ c m (oW m f) hc];exact bz λj hj=>by rw[rX f hj]
theorem wish(m:Nat)(L:List (Nat->Rat))(hl:L.length<m):∃x:Nat->Rat,(∃k,k<m/\x k≠0)/\∀f∈L,ag (λj=>f j*x j) m=0:=by
 obtain⟨c,h1,h2,h3⟩:=Mu (m:=m) (R:=L.map (bO m)) (λr hr=>by obtain⟨f,_,rfl⟩:=YbT.mp hr;exact oW m f) (by rw[aW];exact hl);exact⟨λk=>c.getD k 0,h2,λf hf=>by have:=h3 _ (ma hf);rwa [MN f h1] at this⟩
def nq(a:Nat):Nat->Rat:=λj=>if j=a then 1 else 0
theorem yH{a m:Nat}(x:Nat->Rat)(ha:a<m):ag (λj=>nq a j*x j) m=x a:=by
 rw[fk ha λi _ ne=>by unfold nq;rw[if_neg ne,eL]];unfold nq;rw[if_pos rfl,nB]
theorem Ap.ind{U:Nat->Nat->Rat}(h:Ap T n U){c:Nat->Rat}(h0:∀k,k<n->dw c U n k=0):∀a,a<n->c a=0:=λt ht=>by
 refine Classical.byContradiction λhc=>?_;obtain ⟨x,⟨k,hk,hx⟩,hz⟩:=wish n (((List.range n).filter λa=>decide (a≠t)).map U) (by
  rw[aW];have:=List.length_filter_lt_length_iff_exists (p:=λa=>decide (a≠t)) (l:=List.range n);rw[jc] at this;exact this.mpr ⟨t,Yaj.mpr ht,by simp⟩)
 have oth:∀a,a<n->a≠t->ag (λk=>U a k*x k) n=0:=λa ha ne=>hz _ (ma (Yai.mpr ⟨Yaj.mpr ha,by simpa using ne⟩));have s:ag (λa=>c a*ag (λk=>U a k*x k) n) n=0:=by
  rw[bz (g:=λa=>ag (λk=>c a*(U a k*x k)) n) λa _=>by rw[sumN_mul],pT];refine kv λk hk=>?_;rw[bz (g:=λa=>x k*(c a*U a k)) λa _=>by grind,sumN_mul];have:=h0 k hk;unfold dw at this;rw[this,dX]
 rw[fk ht λa ha ne=>by rw[oth a ha ne,dX]] at s;have z:ag (λk=>U t k*x k) n=0:=by
  rcases YcU.mp s with e|e
  .exact Ot e hc
  .exact e
 have al:∀a,a<n->ag (λk=>U a k*x k) n=0:=λa ha=>by
  by_cases e:a=t
  .rw[e];exact z
  .exact oth a ha e
 exact hx (h.fu x al k hk)
theorem Ap.diag{U:Nat->Nat->Rat}(h:Ap T n U)(hT:∀i j,i<n->j<n->T i j=T j i)(c:Nat->Rat):bf T n (dw c U n) (dw c U n)=ag (λa=>c a*(c a*bf T n (U a) (U a))) n:=by
 rw[oV];refine bz λa ha=>?_;rw[oU hT,oV,fk ha λb hb ne=>by rw[h.ap a b ha hb (Oy ne),dX]]
def dH(n:Nat)(p:Nat->Bool):Nat:=((List.range n).filter p).length
theorem Gq{α:Type}(p:α->Bool):∀l:List α,(l.filter λa=>!p a).length+(l.filter p).length=l.length
 |[]=>rfl
 |a::l=>by
  have:=Gq p l;cases e:p a<;>simp[wO,e]<;>omega
theorem Cp(n:Nat)(p:Nat->Bool):dH n (λa=>!p a)+dH n p=n:=by
 have:=Gq p (List.range n);rw[jc] at this;exact this
def dA(T:Nat->Nat->Rat)(n:Nat)(σ:Rat)(U:Nat->Nat->Rat)(a:Nat):Bool:=decide (0<σ*bf T n (U a) (U a))
theorem Ap.le{U V:Nat->Nat->Rat}(hT:∀i j,i<n->j<n->T i j=T j i)(h:Ap T n U)(h':Ap T n V)(σ:Rat):dH n (dA T n σ U)<=dH n (dA T n σ V):=by
 refine Classical.byContradiction λhlt=>?_;have c1:=Cp n (dA T n σ U);obtain ⟨x,⟨k0,hk0,hx0⟩,hz⟩:=wish (n+n) ((List.range n).map (λk j=>if j < n then U j k else V (j - n) k)++(((List.range n).filter λa=>!dA T n σ U a).map nq++((List.range n).filter (dA T n σ V)).map λb=>nq (n+b))) (by
  rw[dj,dj,aW,aW,aW,jc];unfold dH at *;omega)
 have z1:∀k,k<n->dw x U n k+dw (λb=>x (n+b)) V n k=0:=λk hk=>by
  have:=hz (λj=>if j<n then U j k else V (j-n) k) (Yar.mpr (.inl (YbT.mpr ⟨k,Yaj.mpr hk,rfl⟩)));rw[Go] at this;unfold dw;rw[<-this];congr 1
  .exact bz λj hj=>by rw[if_pos hj];grind
  .exact bz λj hj=>by rw[if_neg (by omega),Nat.add_sub_cancel_left];grind
 have zU:∀a,a<n->dA T n σ U a=false->x a=0:=λa ha hp=>by
  have:=hz (nq a) (Yar.mpr (.inr (Yar.mpr (.inl (ma (Yai.mpr ⟨Yaj.mpr ha,by rw[hp];rfl⟩))))))
  rwa [yH x (by omega)] at this
 have zV:∀b,b<n->dA T n σ V b=true->x (n+b)=0:=λb hb hp=>by
  have:=hz (nq (n+b)) (Yar.mpr (.inr (Yar.mpr (.inr (YbT.mpr ⟨b,Yai.mpr ⟨Yaj.mpr hb,hp⟩,rfl⟩)))))
  rwa [yH x (by omega)] at this
 have d1:=h.diag hT x;have d2:=h'.diag hT λb=>x (n+b);have e12:bf T n (dw x U n) (dw x U n)=bf T n (dw (λb=>x (n+b)) V n) (dw (λb=>x (n+b)) V n):=by
  have neg:∀k,k<n->dw x U n k = -dw (λb=>x (n+b)) V n k:=λk hk=>by have:=z1 k hk;grind
  unfold bf;refine bz λi hi=>?_;rw[neg i hi,bz (g:=λj=>-1*(T i j*dw (λb=>x (n+b)) V n j)) (λj hj=>by rw[neg j hj];grind),sumN_mul];grind
 have p1:∀a,a<n->0<=x a*(x a*(σ*bf T n (U a) (U a))):=λa ha=>by
  cases hp:dA T n σ U a with
  |false=>rw[zU a ha hp,eL];grind
  |true=>
   have:0<σ*bf T n (U a) (U a):=by unfold dA at hp;simpa using hp
   have sq:0<=x a*x a:=by
    rcases Rat.le_total (a:=0) (b:=x a) with q|q
    .exact qk q q
    .have:=qk (show(0:Rat)<=-x a by grind) (show(0:Rat)<=-x a by grind);grind
   have:=qk sq (Rat.le_of_lt this);grind
 have p2:ag (λb=>x (n+b)*(x (n+b)*(σ*bf T n (V b) (V b)))) n<=0:=by
  have:0<=ag (λb=>-(x (n+b)*(x (n+b)*(σ*bf T n (V b) (V b))))) n:=Co λb hb=>by
   cases hp:dA T n σ V b with
   |true=>rw[zV b hb hp,eL];grind
   |false=>
    have:σ*bf T n (V b) (V b)<=0:=by unfold dA at hp;have:=of_decide_eq_false hp;grind
    have sq:0<=x (n+b)*x (n+b):=by
     rcases Rat.le_total (a:=0) (b:=x (n+b)) with q|q
     .exact qk q q
     .have:=qk (show(0:Rat)<=-x (n+b) by grind) (show(0:Rat)<=-x (n+b) by grind);grind
    have:=qk sq (show(0:Rat)<=-(σ*bf T n (V b) (V b)) by grind);grind
  have e:ag (λb=>-(x (n+b)*(x (n+b)*(σ*bf T n (V b) (V b))))) n = -1*ag (λb=>x (n+b)*(x (n+b)*(σ*bf T n (V b) (V b)))) n:=by
   rw[<-sumN_mul];exact bz λb _=>by grind
  grind
 have q1:ag (λa=>x a*(x a*(σ*bf T n (U a) (U a)))) n=σ*bf T n (dw x U n) (dw x U n):=by
  rw[d1,<-sumN_mul];exact bz λa _=>by grind
 have q2:ag (λb=>x (n+b)*(x (n+b)*(σ*bf T n (V b) (V b)))) n=σ*bf T n (dw (λb=>x (n+b)) V n) (dw (λb=>x (n+b)) V n):=by
  rw[d2,<-sumN_mul];exact bz λa _=>by grind
 have a0:=Gp p1 (by rw[q1,e12,<-q2];exact p2);have xU:∀a,a<n->x a=0:=λa ha=>by
  cases hp:dA T n σ U a with
  |false=>exact zU a ha hp
  |true=>
   have hpos:0<σ*bf T n (U a) (U a):=by unfold dA at hp;simpa using hp
   rcases YcU.mp (a0 a ha) with e|e
   .exact e
   .rcases YcU.mp e with e|e
    .exact e
    .rw[e] at hpos;exact Ot hpos (by decide)
 have xV:=h'.ind (c:=λb=>x (n+b)) λk hk=>by
  have:=z1 k hk;rw[show dw x U n k=0 from kv λa ha=>by rw[xU a ha,eL]] at this;grind
 refine hx0 ?_
 by_cases hkn:k0<n
 .exact xU k0 hkn
 .have:=xV (k0-n) (by omega)
  rwa [show n+(k0-n)=k0 by omega] at this
theorem Ap.eq{U V:Nat->Nat->Rat}(hT:∀i j,i<n->j<n->T i j=T j i)(h:Ap T n U)(h':Ap T n V)(σ:Rat):dH n (dA T n σ U)=dH n (dA T n σ V):=Nat.le_antisymm (h.le hT h' σ) (h'.le hT h σ)
end LP
namespace LP
open PySem PySem.Spec PyProof.Rows L2
open Dt
def tq(R:List (List Rat))(i j:Nat):Rat:=(R.getD i []).getD j 0
def nul(T:Nat->Nat->Rat)(n:Nat)(U:Nat->Nat->Rat)(a:Nat):Bool:=decide (bf T n (U a) (U a)=0)
theorem MO{T:Nat->Nat->Rat}{n:Nat}{U:Nat->Nat->Rat}:dH n (nul T n U)+dH n (dA T n 1 U)+dH n (dA T n (-1) U)=n:=by
 unfold dH;have key:∀l:List Nat,(l.filter (nul T n U)).length+(l.filter (dA T n 1 U)).length+(l.filter (dA T n (-1) U)).length=l.length:=λl=>by
  induction l with
  |nil=>rfl
  |cons a l ih=>
   have h1:nul T n U a=decide (bf T n (U a) (U a)=0):=rfl;have h2:dA T n 1 U a=decide (0<1*bf T n (U a) (U a)):=rfl;have h3:dA T n (-1) U a=decide (0 < -1*bf T n (U a) (U a)):=rfl;generalize bf T n (U a) (U a)=q at h1 h2 h3;simp only[wO];have tri:q<0\/q=0\/0<q:=by grind
   rcases tri with z|z|z
   .rw[h1,h2,h3,Ox (by grind),Ox (by grind),decide_eq_true (by grind)]
    simp;omega
   .rw[h1,h2,h3,decide_eq_true (by grind),Ox (by grind),Ox (by grind)]
    simp;omega
   .rw[h1,h2,h3,Ox (by grind),decide_eq_true (by grind),Ox (by grind)]
    simp;omega
 have:=key (List.range n)
 rwa [jc] at this
variable {n:Nat}{R ld rs:List (List Rat)}{pl:List Nat}{U:Nat->Nat->Rat}
theorem MP(hlt:∀a∈pl,a<n)(asc:pl.Pairwise (· < ·)):dH n (λp=>!pl.contains p)+pl.length=n:=by
 have e:(List.range n).filter (λp=>pl.contains p)=pl:=pS ((rS n).filter _) asc λx=>by
  rw[Yai,Yaj];constructor
  .rintro⟨_,h⟩;simpa using h
  .intro h;exact⟨hlt x h,by simpa using h⟩
 have:=Cp n λp=>pl.contains p;unfold dH at *;rw[e] at this;exact this
theorem Cq(hR:∀r∈R,r.length=n){i:Nat}(hi:i<R.length)(x:Nat->Rat):bB (R.getD i []) (bO n x)=ag (λj=>tq R i j*x j) n:=by
 rw[i8 _ _ n (hR _ (eC hi)) (oW n x)];exact bz λj hj=>by rw[rX x hj];rfl
theorem Ap.none_cnt(h:Ap (tq R) n U)(hl:R.length=n)(hR:∀r∈R,r.length=n)(ec:Ec n R n ld pl rs):dH n (nul (tq R) n U)=dH n (λp=>!pl.contains p):=by
 have c1:=Cp n (nul (tq R) n U);have c2:=MP ec.lt ec.asc;have all:∀x:Nat->Rat,(∀i,i<n->ag (λj=>tq R i j*x j) n=0)↔∀r∈R,bB r (bO n x)=0:=λx=>by
  constructor
  .intro hx r hr
   obtain⟨i,hi,e⟩:=Ybm.mp hr;have e':R.getD i []=r:=by rw[aM,bG hi];exact e
   rw[<-e',Cq hR hi];exact hx i (by omega)
  .intro hx i hi
   rw[<-Cq hR (by omega)];exact hx _ (eC (by omega))
 refine Nat.le_antisymm (ze λhlt=>?_) (ze λhlt=>?_)
 .obtain ⟨x,⟨k0,hk0,hx0⟩,hz⟩:=wish n (((List.range n).filter λa=>!nul (tq R) n U a).map nq++((List.range n).filter λp=>!pl.contains p).map λt a=>U a t) (by
   rw[dj,aW,aW];unfold dH at *;omega)
  have zU:∀a,a<n->nul (tq R) n U a=false->x a=0:=λa ha hp=>by
   have:=hz (nq a) (Yar.mpr (.inl (ma (Yai.mpr ⟨Yaj.mpr ha,by rw[hp];rfl⟩))))
   rwa [yH x ha] at this
  have zf:∀t,t<n->t∉pl->dw x U n t=0:=λt ht hn=>by
   have:=hz (λa=>U a t) (Yar.mpr (.inr (YbT.mpr ⟨t,Yai.mpr ⟨Yaj.mpr ht,by simpa using hn⟩,rfl⟩)));unfold dw;rw[<-this];exact bz λa _=>by grind
  have y0:=h.fu (λi=>ag (λj=>tq R i j*dw x U n j) n) λb hb=>by
   have:=oV (T:=tq R) (n:=n) (U b) x U n;unfold bf at this;rw[this];refine kv λa ha=>?_;cases hp:nul (tq R) n U a with
   |false=>rw[zU a ha hp,eL]
   |true=>
    have h0:bf (tq R) n (U a) (U a)=0:=by unfold nul at hp;simpa using hp
    by_cases e:a=b
    .subst e
     unfold bf at h0;rw[h0,dX]
    .have:=h.ap b a hb ha (Oy e)
     unfold bf at this;rw[this,dX]
  have x0:=h.ind (c:=x) λk hk=>by
   have:=ec.zero (x:=bO n (dw x U n)) (oW _ _) ((all _).mp y0) (λt ht hn=>by rw[rX _ ht];exact zf t ht hn) k hk
   rwa [rX _ hk] at this
  exact hx0 (x0 k0 hk0)
 .have hll:=ec.ll
  obtain ⟨x,⟨k0,hk0,hx0⟩,hz⟩:=wish n (ld.map (λr a=>ag (λk=>r.getD k 0*U a k) n)++((List.range n).filter (nul (tq R) n U)).map nq) (by
   rw[dj,aW,aW];unfold dH at *;omega)
  have zU:∀a,a<n->nul (tq R) n U a=true->x a=0:=λa ha hp=>by
   have:=hz (nq a) (Yar.mpr (.inr (ma (Yai.mpr ⟨Yaj.mpr ha,hp⟩))))
   rwa [yH x ha] at this
  have zl:∀r∈ld,bB r (bO n (dw x U n))=0:=λr hr=>by
   have:=hz _ (Yar.mpr (.inl (ma (f:=λr a=>ag (λk=>r.getD k 0*U a k) n) hr)));refine Eq.trans ?_ this;rw[i8 _ _ n (ec.wl r hr) (oW _ _),bz (g:=λk=>ag (λa=>r.getD k 0*(x a*U a k)) n) (λk hk=>by rw[rX _ hk,sumN_mul];rfl),pT];exact bz λa _=>by rw[o5,<-sumN_mul];exact bz λk _=>by grind
  have T0:=(all (dw x U n)).mpr ((ec.nul _ (oW _ _)).mpr ⟨zl,λr hr=>by
   rw[i8 _ _ n (ec.ws r hr) (oW _ _)];exact kv λj hj=>by rw[ec.zer r hr j hj,eL]⟩)
  refine hx0 ?_;cases hp:nul (tq R) n U k0 with
  |true=>exact zU k0 hk0 hp
  |false=>
   have h0:bf (tq R) n (U k0) (U k0)≠0:=by unfold nul at hp;simpa using hp
   have:=oV (T:=tq R) (n:=n) (U k0) x U n;rw[show bf (tq R) n (U k0) (dw x U n)=0 from kv λi hi=>by rw[T0 i hi,dX],fk hk0 λb hb ne=>by rw[h.ap k0 b hk0 hb (Oy ne),dX]] at this;rcases YcU.mp this.symm with e|e
   .exact e
   .exact Ot e h0
variable {A:Nat->Nat->Int}
def lR(A:Nat->Nat->Int)(i k:Nat):Rat:=if k<=i then((jS A (i+1) i k:Int):Rat) else 0
theorem yI{f:Nat->Rat}{m:Nat}:∀{n:Nat},m<=n->(∀i,m<=i->i<n->f i=0)->ag f n=ag f m
 |0,h,_=>by rw[Nat.le_zero.mp h]
 |n+1,h,h0=>by
  by_cases e:m=n+1
  .rw[e]
  .rw[ag,yI (by omega) (λi h1 h2=>h0 i h1 (by omega)),h0 n (by omega) (by omega),nO]
theorem vN(hn:n<=5){i k:Nat}(hi:i<n)(hk:k<=i):ag (λl=>((A k l:Int):Rat)*lR A i l) n=if k=i then((dt A (i+1):Int):Rat) else 0:=by
 rw[yI (m:=i+1) (by omega) λl h1 h2=>by unfold lR;rw[if_neg (by omega),dX],bz (g:=λl=>((A k l*jS A (i+1) i l:Int):Rat)) (λl hl=>by unfold lR;rw[if_pos (by omega),eD]),sO,Ds A (by omega) (by omega) (by omega)];split<;>rfl
theorem Gr(hn:n<=5){i:Nat}(hi:i<n):lR A i i=((dt A i:Int):Rat):=by
 unfold lR jS;rw[if_pos (bb i)];have h1:sg (i+i)=1:=by unfold sg;rw[if_pos (by omega)]
 have h2:dt (cut A i i) (i+1-1)=dt A i:=by
  have:∀a b,a<i->b<i->cut A i i a b=A a b:=λa b ha hb=>by unfold cut sk;rw[if_pos ha,if_pos hb]
  rw[Nat.add_sub_cancel];exact B4 λa ha b hb=>this a b ha hb
 rw[h1,h2,tw]
theorem Cr(hn:n<=5){i j:Nat}(hi:i<n)(hj:j<=i):bf (λa b=>((A a b:Int):Rat)) n (lR A j) (lR A i)=if j=i then((dt A i*dt A (i+1):Int):Rat) else 0:=by
 unfold bf;rw[yI (m:=j+1) (by omega) λk h1 h2=>by unfold lR;rw[if_neg (by omega),eL],bz (g:=λk=>lR A j k*(if k=i then((dt A (i+1):Int):Rat) else 0)) λk hk=>by rw[vN hn hi (by omega)]]
 by_cases e:j=i
 .subst e
  rw[if_pos rfl,fk (k:=j) (by omega) λk hk ne=>by rw[if_neg ne,dX],if_pos rfl,Gr hn hi,eD]
 .rw[if_neg e]
  exact kv λk hk=>by rw[if_neg (by omega),dX]
theorem MQ(hn:n<=5)(hs:∀a b,a<n->b<n->A a b=A b a)(h0:∀i,i<n->dt A i≠0):Ap (λa b=>((A a b:Int):Rat)) n (lR A):=by
 refine⟨λa b ha hb ne=>?_,λx hx=>?_⟩
 .rcases gg a b with l|l
  .rw[Cr hn hb (by omega),if_neg ne]
  .rw[oU (λi j hi hj=>by rw[hs i j hi hj]),Cr hn ha l,if_neg (Oy ne)]
 .intro k
  induction k using Nat.strongRecOn with
  |ind k ih=>
   intro hk;have:=hx k hk;rw[yI (m:=k+1) (by omega) λl h1 h2=>by unfold lR;rw[if_neg (by omega),eL],fk (k:=k) (by omega) λl hl ne=>by rw[ih l (by omega) (by omega),dX],Gr hn hk] at this;rcases YcU.mp this with e|e
   .exact Ot (by exact_mod_cast e) (h0 k hk)
   .exact e
end LP
set_option exponentiation.threshold 2000
namespace LP
open PySem PySem.Spec PyProof.Rows L2
open Dt
namespace Pj
def tb:Nat->Nat->Nat
 |_,0=>0
 |b,1=>b
 |b,2=>2*b+1
 |b,r+3=>b+tb (2*b+1) (r+2)+4
theorem Gu{a:Nat->Int}{x:Nat->Rat}{b t:Nat}:∀{r:Nat},(∀k,k<r->(a k).natAbs<2^b)->(∀k,k<r->∃z:Int,z.natAbs<=2^t/\x k=z)->∃z:Int,z.natAbs<=r*2^(b+t)/\ag (λk=>(a k:Rat)*x k) r=z
 |0,_,_=>⟨0,by simp,rfl⟩
 |r+1,ha,h=>by
  obtain⟨z,z1,hz⟩:=Gu (a:=a) (r:=r) (λk hk=>ha k (by omega)) λk hk=>h k (by omega);obtain⟨y,y1,hy⟩:=h r (by omega);refine⟨z+a r*y,?_,?_⟩
  .have h1:(a r*y).natAbs<=2^(b+t):=by
    rw[dE,jO];exact jF (jC (ha r (by omega))) y1
   have:=qh z (a r*y);rw[nw];omega
  .rw[ag,hz,hy,wP,eD]
theorem yJ{r m:Nat}{a:Nat->Nat->Int}(hu:∀y:Nat->Rat,(∀i,i<m->ag (λk=>(a i k:Rat)*y k) (r+1)=0)->∀k,k<r+1->y k=0):∃i,i<m/\a i r≠0:=by
 apply Classical.byContradiction;intro hn;have:=hu (λk=>if k=r then 1 else 0) (λi hi=>by
  rw[fk (k:=r) (by omega) λj hj hjr=>by rw[if_neg hjr,dX]];have:a i r=0:=Classical.byContradiction λz=>hn ⟨i,hi,z⟩;rw[this,if_pos rfl];rw[nP];rfl) r (by omega)
 rw[if_pos rfl] at this;exact Ot this (by decide)
theorem Gv{r m i0:Nat}{a:Nat->Nat->Int}{c:Nat->Int}{x:Nat->Rat}(hi0:i0<m)(hh:a i0 r≠0)(hx:∀i,i<m->ag (λk=>(a i k:Rat)*x k) (r+1)=(c i:Rat))(hu:∀y:Nat->Rat,(∀i,i<m->ag (λk=>(a i k:Rat)*y k) (r+1)=0)->∀k,k<r+1->y k=0) :
  (∀i,i<m->ag (λk=>((a i k*a i0 r-a i r*a i0 k:Int):Rat)*x k) r=((c i*a i0 r-a i r*c i0:Int):Rat))/\∀y:Nat->Rat,(∀i,i<m->ag (λk=>((a i k*a i0 r-a i r*a i0 k:Int):Rat)*y k) r=0)->∀k,k<r->y k=0:=by
 have hq:((a i0 r:Int):Rat)≠0:=λz=>hh (by exact_mod_cast z);have split:∀(y:Nat->Rat) (i:Nat),ag (λk=>((a i k*a i0 r-a i r*a i0 k:Int):Rat)*y k) r=(a i0 r:Rat)*ag (λk=>(a i k:Rat)*y k) r-(a i r:Rat)*ag (λk=>(a i0 k:Rat)*y k) r:=λy i=>by
  rw[<-sumN_mul,<-sumN_mul,<-pR];refine bz λk hk=>?_;rw[o6,eD,eD];grind
 refine⟨λi hi=>?_,λy hy k hk=>?_⟩
 .rw[split]
  have e1:=hx i hi;have e2:=hx i0 hi0;rw[ag] at e1 e2;rw[o6,eD,eD,<-e1,<-e2];grind
 .have:=hu (λk=>if k=r then -(ag (λk=>(a i0 k:Rat)*y k) r) / (a i0 r:Rat) else y k) (λi hi=>by
   rw[ag,if_pos rfl,bz (g:=λk=>(a i k:Rat)*y k) λk hk=>by rw[if_neg (by omega)]];have:=hy i hi;rw[split] at this;grind) k (by omega)
  rw[if_neg (by omega)] at this;exact this
theorem vO{b:Nat}{x y z w:Int}(h1:x.natAbs<2^b)(h2:y.natAbs<2^b)(h3:z.natAbs<2^b)(h4:w.natAbs<2^b):(x*y-z*w).natAbs<2^(2*b+1):=by
 have p1:(x*y).natAbs<2^(2*b):=by
  rw[dE,show 2*b=b+b by omega,jO];exact o4 h1 h2
 have p2:(z*w).natAbs<2^(2*b):=by
  rw[dE,show 2*b=b+b by omega,jO];exact o4 h3 h4
 rw[tm];omega
theorem vP:∀(r b m:Nat) (a:Nat->Nat->Int) (c:Nat->Int) (x:Nat->Rat),r<=8->(∀i,i<m->∀k,k<r->(a i k).natAbs<2^b)->(∀i,i<m->(c i).natAbs<2^b)->(∀i,i<m->ag (λk=>(a i k:Rat)*x k) r=(c i:Rat))->(∀y:Nat->Rat,(∀i,i<m->ag (λk=>(a i k:Rat)*y k) r=0)->∀k,k<r->y k=0)->∃D:Int,D≠0/\D.natAbs<=2^tb b r/\∀k,k<r->∃z:Int,z.natAbs<=2^tb b r/\(D:Rat)*x k=(z:Rat)
 |0,b,m,a,c,x,_,_,_,_,_=>⟨1,by decide,by simp[tb],λk hk=>by omega⟩
 |1,b,m,a,c,x,_,hb,hc,hx,hu=>by
  obtain⟨i0,hi0,hh⟩:=yJ hu;refine⟨a i0 0,hh,jC (hb i0 hi0 0 (by omega)),λk hk=>⟨c i0,jC (hc i0 hi0),?_⟩⟩;have:=hx i0 hi0;rw[show k=0 by omega];simp only[ag] at this;grind
 |2,b,m,a,c,x,_,hb,hc,hx,hu=>by
  obtain⟨i0,hi0,hh⟩:=yJ hu;obtain⟨h1,h2⟩:=Gv hi0 hh hx hu;obtain⟨i1,hi1,hh1⟩:=yJ (a:=λi k=>a i k*a i0 1-a i 1*a i0 k) h2;have e0:=hx i0 hi0;have e1:=hx i1 hi1;simp only[ag] at e0 e1;refine⟨a i1 0*a i0 1-a i1 1*a i0 0,hh1,jC (vO (hb _ hi1 _ (by omega)) (hb _ hi0 _ (by omega)) (hb _ hi1 _ (by omega)) (hb _ hi0 _ (by omega))),λk hk=>?_⟩
  by_cases hk0:k=0
  .refine⟨c i1*a i0 1-a i1 1*c i0,jC (vO (hc _ hi1) (hb _ hi0 _ (by omega)) (hb _ hi1 _ (by omega)) (hc _ hi0)),?_⟩
   rw[hk0,o6,eD,eD,o6,eD,eD,<-e0,<-e1];grind
  .refine⟨a i1 0*c i0-a i0 0*c i1,jC (vO (hb _ hi1 _ (by omega)) (hc _ hi0) (hb _ hi0 _ (by omega)) (hc _ hi1)),?_⟩
   rw[show k=1 by omega,o6,eD,eD,o6,eD,eD,<-e0,<-e1];grind
 |r+3,b,m,a,c,x,hr,hb,hc,hx,hu=>by
  obtain⟨i0,hi0,hh⟩:=yJ hu;obtain⟨h1,h2⟩:=Gv hi0 hh hx hu;obtain⟨D,d0,dl,dx⟩:=vP (r+2) (2*b+1) m (λi k=>a i k*a i0 (r+2)-a i (r+2)*a i0 k) (λi=>c i*a i0 (r+2)-a i (r+2)*c i0) x (by omega) (λi hi k hk=>vO (hb _ hi _ (by omega)) (hb _ hi0 _ (by omega)) (hb _ hi _ (by omega)) (hb _ hi0 _ (by omega))) (λi hi=>vO (hc _ hi) (hb _ hi0 _ (by omega)) (hb _ hi _ (by omega)) (hc _ hi0)) h1 h2;have hmul:∀y z:Int,y.natAbs<=2^tb (2*b+1) (r+2)->z.natAbs<2^b->(y*z).natAbs<=2^(b+tb (2*b+1) (r+2)):=λy z hy hz=>by
   rw[dE,td,jO];exact jF hy (jC hz)
  have h16:2^(b+tb (2*b+1) (r+2)+4)=2^(b+tb (2*b+1) (r+2))*16:=by rw[jO]
  refine⟨D*a i0 (r+2),md d0 hh,?_,λk hk=>?_⟩
  .have:=hmul D _ dl (hb i0 hi0 (r+2) (by omega))
   rw[tb,h16];omega
  .by_cases e:k=r+2
   .subst e
    obtain⟨z,z1,hz⟩:=Gu (a:=a i0) (x:=λk=>(D:Rat)*x k) (r:=r+2) (λk hk=>hb i0 hi0 k (by omega)) dx;refine⟨D*c i0-z,?_,?_⟩
    .have h3:=hmul D _ dl (hc i0 hi0)
     have h4:=wJ (D*c i0) z;have h5:(r+2)*2^(b+tb (2*b+1) (r+2))<=8*2^(b+tb (2*b+1) (r+2)):=ny _ (by omega);rw[tb,h16];omega
    .have e2:=hx i0 hi0
     rw[ag] at e2;have:ag (λj=>(a i0 j:Rat)*((D:Rat)*x j)) (r+2)=(D:Rat)*ag (λj=>(a i0 j:Rat)*x j) (r+2):=by
      rw[<-sumN_mul];exact bz λj _=>by grind
     rw[this] at hz;rw[o6,eD,eD,<-hz,<-e2];grind
   .obtain⟨z,z1,hz⟩:=dx k (by omega)
    refine⟨z*a i0 (r+2),?_,?_⟩
    .have:=hmul z _ z1 (hb i0 hi0 (r+2) (by omega))
     rw[tb,h16];omega
    .rw[eD,eD,<-hz]
     grind
def bI(A:Nat->Nat->Int)(n:Nat)(u v:Nat->Int):Int:=sumI (λi=>u i*sumI (λj=>A i j*v j) n) n
theorem bI_cast(A:Nat->Nat->Int)(n:Nat)(u v:Nat->Int):bf (λa b=>((A a b:Int):Rat)) n (λi=>(u i:Rat)) (λi=>(v i:Rat))=((bI A n u v:Int):Rat):=by
 unfold bf bI;rw[<-sO];refine bz λi _=>?_;rw[eD,<-sO];congr 1;exact bz λj _=>by rw[eD]
theorem sumI_bd{f:Nat->Int}{c:Nat}:∀{n:Nat},(∀i,i<n->(f i).natAbs<=c)->(sumI f n).natAbs<=n*c
 |0,_=>by simp[sumI]
 |n+1,h=>by
  have h1:=sumI_bd (f:=f) (n:=n) λi hi=>h i (by omega);have h2:=h n (by omega);have h3:=qh (sumI f n) (f n);rw[sumI,nw];omega
theorem Gw{A:Nat->Nat->Int}{n:Nat}{u v:Nat->Int}(hn:n<=5)(hA:∀i j,i<n->j<n->(A i j).natAbs<=50)(hu:∀i,i<n->(u i).natAbs<=2)(hv:∀i,i<n->(v i).natAbs<=2):(bI A n u v).natAbs<2^13:=by
 have h1:∀i,i<n->(sumI (λj=>A i j*v j) n).natAbs<=500:=λi hi=>by
  have:=sumI_bd (f:=λj=>A i j*v j) (c:=100) (n:=n) λj hj=>by
   rw[dE];exact jF (hA i j hi hj) (hv j hj)
  have:n*100<=5*100:=ny _ hn;omega
 have:=sumI_bd (f:=λi=>u i*sumI (λj=>A i j*v j) n) (c:=1000) (n:=n) λi hi=>by
  rw[dE];exact jF (hu i hi) (h1 i hi)
 have:n*1000<=5*1000:=ny _ hn;unfold bI;omega
theorem Cs:∀{k:Nat},k<=4->tb 13 k<=159
 |0,_=>by decide
 |1,_=>by decide
 |2,_=>by decide
 |3,_=>by decide
 |4,_=>by decide
 |k+5,h=>by omega
structure Mt(A:Nat->Nat->Int)(n k:Nat)(M:Nat->Nat->Int):Prop where
 sz:∀i,i<k->∀j,j<n->(M i j).natAbs<=2
 one:∀y:Nat->Rat,(∀i,i<k->ag (λj=>((bI A n (M i) (M j):Int):Rat)*y j) k=0)->∀j,j<k->y j=0
def Lt(A:Nat->Nat->Int)(n k:Nat)(M:Nat->Nat->Int)(v:Nat->Int)(r:Nat->Rat):Prop:=
 (∃x:Nat->Rat,∀j,j<n->r j=(v j:Rat)-ag (λi=>x i*(M i j:Rat)) k)/\∀i,i<k->bf (λa b=>((A a b:Int):Rat)) n (λj=>(M i j:Rat)) r=0
variable {A:Nat->Nat->Int}{n k:Nat}{M:Nat->Nat->Int}
theorem Lt.lf(hn:n<=5)(hA:∀i j,i<n->j<n->(A i j).natAbs<=50)(mt:Mt A n k M)(hk:k<=4){v:Nat->Int}(hv:∀j,j<n->(v j).natAbs<=2){r:Nat->Rat}(h:Lt A n k M v r):Lf 163 n (bO n r):=by
 obtain⟨⟨x,hx⟩,h0⟩:=h;have sys:∀i,i<k->ag (λj=>((bI A n (M i) (M j):Int):Rat)*x j) k=((bI A n (M i) v:Int):Rat):=λi hi=>by
  have e:=h0 i hi;rw[sR (u':=λj=>(M i j:Rat)) (v':=λj=>(v j:Rat)-1*dw x (λi j=>(M i j:Rat)) k j) (λ_ _=>rfl) (λj hj=>by rw[hx j hj];unfold dw;grind),sS,oV,bI_cast] at e;have e2:ag (λj=>((bI A n (M i) (M j):Int):Rat)*x j) k=ag (λa=>x a*bf (λa b=>((A a b:Int):Rat)) n (λj=>(M i j:Rat)) λj=>(M a j:Rat)) k:=bz λa _=>by rw[bI_cast];grind
  rw[e2];grind
 obtain⟨D,d0,dl,dx⟩:=vP k 13 k (λi j=>bI A n (M i) (M j)) (λi=>bI A n (M i) v) x (by omega) (λi hi j hj=>Gw hn hA (mt.sz i hi) (mt.sz j hj)) (λi hi=>Gw hn hA (mt.sz i hi) hv) sys mt.one;have tb4:=Cs hk;have p2:2^tb 13 k<=2^159:=l6 (by decide) tb4;have e163:2^163=2^159*16:=by decide
 have hz:∀j,j<n->∃z:Int,z.natAbs<2^163/\r j=Rat.divInt z D:=λj hj=>by
  have hD:((D:Int):Rat)≠0:=λz=>d0 (by exact_mod_cast z);obtain⟨z,z1,z2⟩:∃z:Int,z.natAbs<=k*(2^159*2)/\(D:Rat)*ag (λi=>x i*(M i j:Rat)) k=(z:Rat):=by
   have:∀m,m<=k->∃z:Int,z.natAbs<=m*(2^159*2)/\(D:Rat)*ag (λi=>x i*(M i j:Rat)) m=(z:Rat):=λm=>by
    induction m with
    |zero=>exact λ_=>⟨0,by simp,by simp[ag]⟩
    |succ m ih=>
     intro hm;obtain⟨z,z1,z2⟩:=ih (by omega);obtain⟨w,w1,w2⟩:=dx m (by omega);refine⟨z+w*M m j,?_,?_⟩
     .have:=qh z (w*M m j)
      have h2:(w*M m j).natAbs<=2^159*2:=by
       rw[dE];exact jF (gb w1 p2) (mt.sz m (by omega) j hj)
      rw[nw];omega
     .rw[ag,wP,eD,<-z2,<-w2]
      grind
   exact this k (bb _)
  refine⟨D*v j-z,?_,?_⟩
  .have h1:=wJ (D*v j) z
   have h2:(D*v j).natAbs<=2^159*2:=by
    rw[dE];exact jF (gb dl p2) (hv j hj)
   have h3:k*(2^159*2)<=4*(2^159*2):=ny _ hk;omega
  .rw[hx j hj,tE,o6,eD,<-z2,gj]
   have:=qj _ hD;grind
 obtain⟨c,hc⟩:∃c:Nat->Int,∀j,j<n->(c j).natAbs<2^163/\r j=Rat.divInt (c j) D:=⟨λj=>if h:j<n then Classical.choose (hz j h) else 0,λj hj=>by dsimp only;rw[dif_pos hj];exact Classical.choose_spec (hz j hj)⟩
 refine⟨(List.range n).map c,D,by simp,d0,kC (gb dl p2) (by omega),λy hy=>?_,?_⟩
 .obtain⟨j,hj,rfl⟩:=YbT.mp hy
  exact(hc j (Yaj.mp hj)).1
 .unfold bO
  rw[cr];exact gE λj hj=>(hc j (Yaj.mp hj)).2
end Pj
end LP
namespace LP
open PySem PySem.Spec PyProof.Rows L2
open Dt
namespace Pj
variable {A:Nat->Nat->Int}{n k:Nat}{M:Nat->Nat->Int}
abbrev cA(A:Nat->Nat->Int):Nat->Nat->Rat:=λa b=>((A a b:Int):Rat)
def nxt(M:Nat->Nat->Int)(k:Nat)(v:Nat->Int):Nat->Nat->Int:=λi=>if i<k then M i else v
theorem Lt.v{v:Nat->Int}{l:Nat->Rat}(h:Lt A n k M v l)(hs:∀i j,i<n->j<n->A i j=A j i){w:Nat->Rat}(hw:∀i,i<k->bf (cA A) n (λj=>(M i j:Rat)) w=0):bf (cA A) n (λj=>(v j:Rat)) w=bf (cA A) n l w:=by
 obtain⟨⟨x,hx⟩,_⟩:=h;have sy:∀i j,i<n->j<n->cA A i j=cA A j i:=λi j hi hj=>by show((A i j:Int):Rat)=_;rw[hs i j hi hj]
 rw[oU sy l w,sR (u:=w) (u':=w) (v:=l) (v':=λj=>(v j:Rat)-1*dw x (λi j=>(M i j:Rat)) k j) (λ_ _=>rfl) (λj hj=>by rw[hx j hj];unfold dw;grind),sS,oV,kv λa ha=>by rw[oU sy,hw a ha,dX],oU sy];grind
theorem Mt.next(m:Mt A n k M)(hs:∀i j,i<n->j<n->A i j=A j i){v:Nat->Int}(hv:∀j,j<n->(v j).natAbs<=2){l:Nat->Rat}(h:Lt A n k M v l)(h0:bf (cA A) n l l≠0):Mt A n (k+1) (nxt M k v):=by
 have sy:∀i j,i<n->j<n->cA A i j=cA A j i:=λi j hi hj=>by show((A i j:Int):Rat)=_;rw[hs i j hi hj]
 refine⟨λi hi j hj=>?_,λy hy=>?_⟩
 .unfold nxt
  split
  .exact m.sz i ‹_› j hj
  .exact hv j hj
 have hw:∀i,i<k+1->bf (cA A) n (λj=>(nxt M k v i j:Rat)) (dw y (λi j=>(nxt M k v i j:Rat)) (k+1))=0:=λi hi=>by
  rw[oV,<-hy i hi];exact bz λj _=>by rw[bI_cast];grind
 have old:∀i,i<k->nxt M k v i=M i:=λi hi=>by unfold nxt;rw[if_pos hi]
 have new:nxt M k v k=v:=by unfold nxt;rw[if_neg (f9 k)]
 have e1:=h.v hs (w:=dw y (λi j=>(nxt M k v i j:Rat)) (k+1)) λi hi=>by have:=hw i (by omega);rwa [old i hi] at this
 have e2:=hw k (by omega);rw[new,e1,oV,ag,kv λa ha=>by rw[old a ha,oU sy,h.2 a ha,dX],new,oU sy l,h.v hs h.2] at e2;have yk:y k=0:=by
  rcases YcU.mp (show y k*bf (cA A) n l l=0 by grind) with e|e
  .exact e
  .exact Ot e h0
 have rest:=m.one y λi hi=>by
  have:=hy i (by omega);rw[ag,yk,dX,nO] at this;rw[<-this];exact bz λj hj=>by rw[old i hi,old j hj]
 intro j hj
 by_cases e:j=k
 .rw[e];exact yk
 .exact rest j (by omega)
theorem Lt.next{v v':Nat->Int}{l r:Nat->Rat}(h:Lt A n k M v l)(h':Lt A n k M v' r)(hs:∀i j,i<n->j<n->A i j=A j i)(h0:bf (cA A) n l l≠0):Lt A n (k+1) (nxt M k v) v' (λj=>r j-bf (cA A) n r l/bf (cA A) n l l*l j):=by
 have sy:∀i j,i<n->j<n->cA A i j=cA A j i:=λi j hi hj=>by show((A i j:Int):Rat)=_;rw[hs i j hi hj]
 have old:∀i,i<k->nxt M k v i=M i:=λi hi=>by unfold nxt;rw[if_pos hi]
 have new:nxt M k v k=v:=by unfold nxt;rw[if_neg (f9 k)]
 have z:∀i,i<k->bf (cA A) n (λj=>(M i j:Rat)) (λj=>r j-bf (cA A) n r l/bf (cA A) n l l*l j)=0:=λi hi=>by rw[sS,h.2 i hi,h'.2 i hi];grind
 refine⟨?_,λi hi=>?_⟩
 .obtain⟨x,hx⟩:=h.1
  obtain⟨x',hx'⟩:=h'.1;refine⟨λi=>if i<k then x' i-bf (cA A) n r l/bf (cA A) n l l*x i else bf (cA A) n r l/bf (cA A) n l l,λj hj=>?_⟩;rw[ag];dsimp only;generalize bf (cA A) n r l/bf (cA A) n l l=q;rw[if_neg (f9 k),new,bz (g:=λi=>x' i*(M i j:Rat)-q*(x i*(M i j:Rat))) (λi hi=>by rw[if_pos hi,old i hi];grind),pR,sumN_mul,hx j hj,hx' j hj];grind
 .by_cases e:i=k
  .subst e
   rw[new];refine(h.v hs z).trans ?_;rw[sS,oU sy l r];have:=qj _ h0;rw[gj];grind
  .rw[old i (by omega)]
   exact z i (by omega)
theorem Lt.add{v v':Nat->Int}{l r:Nat->Rat}(h:Lt A n k M v l)(h':Lt A n k M v' r):Lt A n k M (λj=>v j+v' j) (λj=>l j - -1*r j):=by
 refine⟨?_,λi hi=>by rw[sS,h.2 i hi,h'.2 i hi];grind⟩;obtain⟨x,hx⟩:=h.1;obtain⟨x',hx'⟩:=h'.1;refine⟨λi=>x i - -1*x' i,λj hj=>?_⟩;dsimp only;rw[bz (g:=λi=>x i*(M i j:Rat) - -1*(x' i*(M i j:Rat))) (λi hi=>by grind),pR,sumN_mul,hx j hj,hx' j hj,wP];grind
end Pj
end LP
namespace LP
open PySem PySem.Spec PyProof.Rows L2
open Dt
def aY(s:List Int)(n:Nat)(u v:List Rat):Rat:=bB u (cU s n v)
def lS(s:List Int)(n:Nat):List (List Rat)->Option (List Rat)
 |[]=>none
 |l::L=>if aY s n l l=0 then lS s n L else some l
def fq(s:List Int)(n:Nat):Nat->List (List Rat)->Option (Nat×List Rat)
 |_,[]=>none
 |k,r::R=>match lS s n (r::R.map λo=>a9 r (-1) o) with
  |some l=>some (k,l)
  |none=>fq s n (k+1) R
def fZ(s:List Int)(n:Nat)(l r:List Rat):List Rat:=a9 r (aY s n r l/aY s n l l) l
def rY(s:List Int)(n:Nat):Nat->List (List Rat)->List (List Rat)->List (List Rat)
 |0,f,R=>f++R
 |k+1,f,R=>match fq s n 0 R with
  |none=>f++R
  |some (a,l)=>rY s n k (f++[l]) ((R.take a++R.drop (a+1)).map (fZ s n l))
def bw(s:List Int)(n:Nat):List (List Rat):=rY s n n [] ((List.range n).map (aA n))
theorem Gx{s:List Int}{n:Nat}:∀{L:List (List Rat)},lS s n L=none->∀l∈L,aY s n l l=0
 |[],_,l,hl=>by cases hl
 |x::L,h,l,hl=>by
  rw[lS] at h;split at h
  .rcases Yaq.mp hl with rfl|hl
   .assumption
   .exact Gx h l hl
  .cases h
theorem Gy{s:List Int}{n:Nat}{l:List Rat}:∀{L:List (List Rat)},lS s n L=some l->l∈L/\aY s n l l≠0
 |[],h=>by cases h
 |x::L,h=>by
  rw[lS] at h;split at h
  .obtain⟨h1,h2⟩:=Gy h
   exact⟨fG _ h1,h2⟩
  .rename_i hx
   cases h;exact⟨jL ..,hx⟩
theorem Gz{s:List Int}{n:Nat}:∀{k:Nat} {R:List (List Rat)},fq s n k R=none->(∀r∈R,aY s n r r=0)/\R.Pairwise λr o=>aY s n (a9 r (-1) o) (a9 r (-1) o)=0
 |_,[],_=>⟨by simp,.nil⟩
 |k,r::R,h=>by
  rw[fq] at h;cases e:lS s n (r::R.map λo=>a9 r (-1) o) with
  |some l=>rw[e] at h;cases h
  |none=>
   rw[e] at h;obtain⟨h1,h2⟩:=Gz (k:=k+1) (R:=R) h;have z:=Gx e;refine⟨λx hx=>?_,YcM.mpr ⟨λo ho=>z _ (fG _ (ma ho)),h2⟩⟩;rcases Yaq.mp hx with rfl|hx
   .exact z _ (jL ..)
   .exact h1 x hx
theorem GA{s:List Int}{n:Nat}{a:Nat}{l:List Rat}:∀{k:Nat} {R:List (List Rat)},fq s n k R=some (a,l)->∃i,a=k+i/\i<R.length/\(l=R.getD i []\/∃o∈R.drop (i+1),l=a9 (R.getD i []) (-1) o)/\aY s n l l≠0
 |_,[],h=>by cases h
 |k,r::R,h=>by
  rw[fq] at h;cases e:lS s n (r::R.map λo=>a9 r (-1) o) with
  |some l'=>
   rw[e] at h;cases h;obtain⟨h1,h2⟩:=Gy e;refine⟨0,rfl,by simp,?_,h2⟩;rcases Yaq.mp h1 with e1|h1
   .exact .inl e1
   .obtain⟨o,ho,e1⟩:=YbT.mp h1
    exact .inr ⟨o,ho,e1.symm⟩
  |none=>
   rw[e] at h;obtain⟨i,h1,h2,h3,h4⟩:=GA (k:=k+1) (R:=R) h;exact⟨i+1,by omega,by simpa using h2,by simpa using h3,h4⟩
def gq(r:List Rat):Nat->Rat:=λj=>r.getD j 0
abbrev sA(s:List Int)(n:Nat):Nat->Nat->Int:=tA (tbl s n)
variable {s:List Int}{n:Nat}
theorem ky(h:IsSl s n){u v:List Rat}(hu:u.length=n)(hv:v.length=n):aY s n u v=bf (Pj.cA (sA s n)) n (gq u) (gq v):=by
 unfold aY;rw[i8 u _ n hu (Gs.tims_len v)];exact bz λi hi=>by rw[Gs.tims_at h hv hi];rfl
theorem rZ{r o:List Rat}{q:Rat}(hr:r.length=n)(ho:o.length=n):(a9 r q o).length=n:=by unfold a9;rw[qg];omega
theorem yK{r o:List Rat}{q:Rat}(hr:r.length=n)(ho:o.length=n):∀j,j<n->gq (a9 r q o) j=gq r j-q*gq o j:=λj hj=>by
 unfold gq a9;simp only[aM];rw[bG (by rw[qg];omega),bG (by omega),bG (by omega),zC];rfl
theorem yL{r:List Rat}(hr:r.length=n):bO n (gq r)=r:=by
 refine si λi=>?_;unfold bO gq;rw[cc];rcases gg i n with hi|hi
 .rw[jg hi,bG (by omega)]
  show some (r.getD i 0)=_;rw[aM,bG (by omega)];rfl
 .rw[dN (by rw[jc];exact hi),dN (by omega)]
  rfl
theorem vQ(h:IsSl s n)(ev:s.reverse=s):∀i j,i<n->j<n->sA s n i j=sA s n j i:=λi j hi hj=>by
 have e1:=ky h (eZ n i) (eZ n j);have e2:=ky h (eZ n j) (eZ n i);have e3:aY s n (aA n i) (aA n j)=aY s n (aA n j) (aA n i):=by
  unfold aY;rw[EY h (eZ n j) (eZ n i),ev]
 have key:∀a b,a<n->b<n->bf (Pj.cA (sA s n)) n (gq (aA n a)) (gq (aA n b))=((sA s n a b:Int):Rat):=λa b ha hb=>by
  unfold bf;rw[fk ha λi hi ne=>by show(aA n a).getD i 0*_=0;rw[gD hi,if_neg ne,eL],fk hb λj hj ne=>by show _*(aA n b).getD j 0=0;rw[gD hj,if_neg ne,dX]];show(aA n a).getD a 0*(_*(aA n b).getD b 0)=_;rw[gD ha,gD hb,if_pos rfl,if_pos rfl,nB,nP]
 rw[e1,e2,key i j hi hj,key j i hj hi] at e3
 exact_mod_cast e3
theorem yM(h:IsSl s n):∀i j,i<n->j<n->(sA s n i j).natAbs<=50:=λi j hi hj=>by
 show(tA (tbl s n) i j).natAbs<=50;rw[Gs.tA_ent h hi hj];have hl:=h.len;unfold ent;rw[aM,bG (by omega)];have:=h.b _ (qd (l:=s) (n:=n-1-i+j) (by omega));show(s[n-1-i+j]).natAbs<=50;omega
structure Sg(s:List Int)(n:Nat)(f R:List (List Rat)):Prop where
 len:f.length+R.length=n
 wf:∀r∈f,r.length=n
 wR:∀r∈R,r.length=n
 ex:∃M,Pj.Mt (sA s n) n f.length M/\∀r∈R,∃v:Nat->Int,(∀j,j<n->(v j).natAbs<=1)/\Pj.Lt (sA s n) n f.length M v (gq r)
 lf:∀r∈f,Lf 163 n r
 ff:f.Pairwise λu v=>aY s n u v=0
 fR:∀u∈f,∀r∈R,aY s n u r=0
 fu:∀x:List Rat,x.length=n->(∀r∈f++R,bB r x=0)->∀k,k<n->x.getD k 0=0
theorem Sg.rows(h:IsSl s n){f R:List (List Rat)}(g:Sg s n f R):∀r∈R,Lf 163 n r:=λr hr=>by
 obtain⟨M,m,hM⟩:=g.ex;obtain⟨v,hv,l⟩:=hM r hr;have hl:=g.len;have:0<R.length:=List.length_pos_of_mem hr;have:=l.lf h.n5 (yM h) m (by have:=h.n5;omega) λj hj=>gb (hv j hj) (by decide)
 rwa [yL (g.wR r hr)] at this
theorem Sg.start(h:IsSl s n):Sg s n [] ((List.range n).map (aA n)):=by
 refine⟨by simp,by simp,λr hr=>?_,⟨λ_ _=>0,⟨λi hi=>by simp at hi,λy _ j hj=>by simp at hj⟩,λr hr=>?_⟩,by simp,.nil,by simp,λx hx h0 k hk=>?_⟩
 .obtain⟨k,_,rfl⟩:=YbT.mp hr;exact eZ n k
 .obtain⟨k,hk,rfl⟩:=YbT.mp hr
  refine⟨λj=>if j=k then 1 else 0,λj hj=>by dsimp only;split<;>decide,⟨λ_=>0,λj hj=>?_⟩,λi hi=>by simp at hi⟩;show(aA n k).getD j 0=_;rw[gD hj];simp only[eW,ag];split<;>grind
 .have:=h0 (aA n k) (by simp;exact⟨k,hk,rfl⟩)
  rw[i8 _ x n (eZ n k) hx,fk hk λi hi ne=>by rw[gD hi,if_neg ne,eL],gD hk,if_pos rfl,nB] at this;exact this
end LP
namespace LP
open PySem PySem.Spec PyProof.Rows L2
open Dt
variable {s:List Int}{n:Nat}
theorem vR(h:IsSl s n)(ev:s.reverse=s){u v:List Rat}(hu:u.length=n)(hv:v.length=n):aY s n u v=aY s n v u:=by
 unfold aY;rw[EY h hv hu,ev]
theorem sT(h:IsSl s n){u v w:List Rat}{q:Rat}(hu:u.length=n)(hv:v.length=n)(hw:w.length=n):aY s n u (a9 v q w)=aY s n u v-q*aY s n u w:=by
 rw[ky h hu (rZ hv hw),ky h hu hv,ky h hu hw,sR (u':=gq u) (v':=λj=>gq v j-q*gq w j) (λ_ _=>rfl) (yK hv hw),sS]
structure Ld(s:List Int)(n:Nat)(f R:List (List Rat))(a:Nat)(l:List Rat):Prop where
 at_:a<R.length
 len:l.length=n
 le:l=R.getD a []\/∃o∈R.take a++R.drop (a+1),l=a9 (R.getD a []) (-1) o
 nz:aY s n l l≠0
theorem Sg.ld{f R:List (List Rat)}(g:Sg s n f R){a:Nat}{l:List Rat}(e:fq s n 0 R=some (a,l)):Ld s n f R a l:=by
 obtain⟨i,h1,h2,h3,h4⟩:=GA e;obtain rfl:a=i:=by omega
 have ha:=g.wR _ (eC h2);rcases h3 with rfl|⟨o,ho,rfl⟩
 .exact⟨h2,ha,.inl rfl,h4⟩
 .exact⟨h2,rZ ha (g.wR _ (kE ho)),.inr ⟨o,ge _ ho,rfl⟩,h4⟩
theorem Ld.lt(h:IsSl s n){f R:List (List Rat)}(g:Sg s n f R){a:Nat}{l:List Rat}(d:Ld s n f R a l){M:Nat->Nat->Int}(hM:∀r∈R,∃v:Nat->Int,(∀j,j<n->(v j).natAbs<=1)/\Pj.Lt (sA s n) n f.length M v (gq r)):∃v:Nat->Int,(∀j,j<n->(v j).natAbs<=2)/\Pj.Lt (sA s n) n f.length M v (gq l):=by
 obtain⟨v,hv,hl⟩:=hM _ (eC d.at_);rcases d.le with e|⟨o,ho,e⟩
 .rw[e]
  exact⟨v,λj hj=>gb (hv j hj) (by decide),hl⟩
 .obtain⟨v',hv',hl'⟩:=hM o (jA ho)
  refine⟨λj=>v j+v' j,λj hj=>?_,?_⟩
  .have:=qh (v j) (v' j)
   have:=hv j hj;have:=hv' j hj;dsimp only;omega
  .have:=hl.add hl'
   obtain⟨⟨x,hx⟩,h2⟩:=this;have eq:=yK (q:=-1) (g.wR _ (eC d.at_)) (g.wR _ (jA ho));rw[<-e] at eq;exact⟨⟨x,λj hj=>(eq j hj).trans (hx j hj)⟩,λi hi=>by rw[sR (λ_ _=>rfl) eq];exact h2 i hi⟩
theorem Ld.lf(h:IsSl s n){f R:List (List Rat)}(g:Sg s n f R){a:Nat}{l:List Rat}(d:Ld s n f R a l):Lf 163 n l:=by
 obtain⟨M,m,hM⟩:=g.ex;obtain⟨v,hv,hl⟩:=d.lt h g hM;have:=d.at_;have:=g.len;have:=hl.lf h.n5 (yM h) m (by have:=h.n5;omega) hv
 rwa [yL d.len] at this
theorem MR{l r:List Rat}(hr:r.length=n)(hl:l.length=n):(fZ s n l r).length=n:=rZ hr hl
theorem Ld.out(h:IsSl s n)(ev:s.reverse=s){f R:List (List Rat)}(g:Sg s n f R){a:Nat}{l:List Rat}(d:Ld s n f R a l):∀u∈f,aY s n u l=0:=λu hu=>by
 have e1:=g.fR u hu _ (eC d.at_);rcases d.le with e|⟨o,ho,e⟩
 .rw[e];exact e1
 .rw[e,sT h (g.wf u hu) (g.wR _ (eC d.at_)) (g.wR _ (jA ho)),e1,g.fR u hu o (jA ho)]
  grind
theorem Sg.step(h:IsSl s n)(ev:s.reverse=s){f R:List (List Rat)}(g:Sg s n f R){a:Nat}{l:List Rat}(d:Ld s n f R a l):Sg s n (f++[l]) ((R.take a++R.drop (a+1)).map (fZ s n l)):=by
 have hlen:=g.len;have ha:=d.at_;have ra:=g.wR _ (eC d.at_);have hl:=d.len;have sy:=vQ h ev;have nz:bf (Pj.cA (sA s n)) n (gq l) (gq l)≠0:=by rw[<-ky h hl hl];exact d.nz
 have wa:∀r∈R,(fZ s n l r).length=n:=λr hr=>MR (g.wR r hr) hl;have own:∀r∈R,aY s n l (fZ s n l r)=0:=λr hr=>by
  unfold fZ;rw[sT h hl (g.wR r hr) hl,vR h ev hl (g.wR r hr),gj];have:=qj _ d.nz;grind
 refine⟨by simp;omega,λr hr=>?_,λr hr=>?_,?_,λr hr=>?_,?_,λu hu r hr=>?_,λx hx h0=>?_⟩
 .rcases Yar.mp hr with hr|hr
  .exact g.wf r hr
  .rw[Ycn.mp hr];exact hl
 .obtain⟨r0,h0,rfl⟩:=YbT.mp hr
  exact wa r0 (jA h0)
 .obtain⟨M,m,hM⟩:=g.ex
  obtain⟨v,hv,lt⟩:=d.lt h g hM;refine⟨Pj.nxt M f.length v,?_,λr hr=>?_⟩
  .rw[dj,kS]
   exact m.next sy hv lt nz
  .obtain⟨r0,h0,rfl⟩:=YbT.mp hr
   obtain⟨v',hv',lt'⟩:=hM r0 (jA h0);rw[dj,kS];obtain⟨⟨x,hx⟩,h2⟩:=lt.next lt' sy nz;have eq:∀j,j<n->gq (fZ s n l r0) j=gq r0 j-bf (Pj.cA (sA s n)) n (gq r0) (gq l)/bf (Pj.cA (sA s n)) n (gq l) (gq l)*gq l j:=λj hj=>by
    unfold fZ;rw[yK (g.wR r0 (jA h0)) hl j hj,ky h (g.wR r0 (jA h0)) hl,ky h hl hl]
   exact⟨v',hv',⟨x,λj hj=>(eq j hj).trans (hx j hj)⟩,λi hi=>by rw[sR (λ_ _=>rfl) eq];exact h2 i hi⟩
 .rcases Yar.mp hr with hr|hr
  .exact g.lf r hr
  .rw[Ycn.mp hr];exact d.lf h g
 .exact YcL.mpr ⟨g.ff,by simp,λu hu v hv=>by rw[Ycn.mp hv];exact d.out h ev g u hu⟩
 .obtain⟨r0,h0,rfl⟩:=YbT.mp hr
  rcases Yar.mp hu with hu|hu
  .unfold fZ
   rw[sT h (g.wf u hu) (g.wR r0 (jA h0)) hl,g.fR u hu r0 (jA h0),d.out h ev g u hu];grind
  .rw[Ycn.mp hu]
   exact own r0 (jA h0)
 .have zl:bB l x=0:=h0 l (by simp)
  have zc:∀r∈R.take a++R.drop (a+1),bB r x=0:=λr hr=>by
   have:=h0 (fZ s n l r) (ge _ (ma hr));unfold fZ at this;rw[sM (by rw[g.wR r (jA hr),hl]),zl] at this;grind
  refine g.fu x hx λr hr=>?_;rcases Yar.mp hr with hr|hr
  .exact h0 r (by simp[hr])
  .rcases(FQ ha r).mp hr with rfl|hr
   .rcases d.le with e|⟨o,ho,e⟩
    .rw[<-e];exact zl
    .rw[e,sM (by rw[ra,g.wR o (jA ho)]),zc o ho] at zl
     grind
   .exact zc r hr
structure Pa(s:List Int)(n:Nat)(P:List (List Rat)):Prop where
 len:P.length=n
 lf:∀r∈P,Lf 163 n r
 ap:P.Pairwise λu v=>aY s n u v=0
 fu:∀x:List Rat,x.length=n->(∀r∈P,bB r x=0)->∀k,k<n->x.getD k 0=0
theorem Sg.fin(h:IsSl s n)(ev:s.reverse=s){f R:List (List Rat)}(g:Sg s n f R)(e:fq s n 0 R=none):Pa s n (f++R):=by
 obtain⟨h1,h2⟩:=Gz e;refine⟨by rw[dj];exact g.len,λr hr=>?_,YcL.mpr ⟨g.ff,?_,g.fR⟩,g.fu⟩
 .rcases Yar.mp hr with hr|hr
  .exact g.lf r hr
  .exact g.rows h r hr
 .refine h2.imp_of_mem λ{r o} hr ho hz=>?_
  have wr:=g.wR r hr;have wo:=g.wR o ho;rw[sT h (rZ wr wo) wr wo,vR h ev (rZ wr wo) wr,vR h ev (rZ wr wo) wo,sT h wr wr wo,sT h wo wr wo,h1 r hr,h1 o ho,vR h ev wo wr] at hz;grind
theorem GB(h:IsSl s n)(ev:s.reverse=s):∀(k:Nat) {f R:List (List Rat)},Sg s n f R->R.length<=k->Pa s n (rY s n k f R)
 |0,f,R,g,hk=>by
  have:R=[]:=List.length_eq_zero_iff.mp (by omega);subst this;exact g.fin h ev rfl
 |k+1,f,R,g,hk=>by
  rw[rY];cases e:fq s n 0 R with
  |none=>exact g.fin h ev e
  |some al=>
   obtain⟨a,l⟩:=al;have d:=g.ld e;have ha:=d.at_;exact GB h ev k (g.step h ev d) (by rw[aW,dj,jf,jM];omega)
theorem pX(h:IsSl s n)(ev:s.reverse=s):Pa s n (bw s n):=GB h ev n (Sg.start h) (by simp)
def pU(P:List (List Rat)):Nat->Nat->Rat:=λa=>gq (P.getD a [])
theorem Pa.ap'(h:IsSl s n)(ev:s.reverse=s){P:List (List Rat)}(p:Pa s n P):Ap (Pj.cA (sA s n)) n (pU P):=by
 have wl:∀a,a<n->(P.getD a []).length=n:=λa ha=>(p.lf _ (eC (by rw[p.len];exact ha))).len;refine⟨λa b ha hb ne=>?_,λx hx k hk=>?_⟩
 .have key:∀a b,a<b->b<n->bf (Pj.cA (sA s n)) n (pU P a) (pU P b)=0:=λa b hab hb=>by
   have hp:=List.pairwise_iff_getElem.mp p.ap a b (by rw[p.len];omega) (by rw[p.len];exact hb) hab;unfold pU;rw[<-ky h (wl a (by omega)) (wl b hb),aM,aM,bG (by rw[p.len];omega),bG (by rw[p.len];exact hb)];exact hp
  rcases gg a b with l|l
  .exact key a b l hb
  .rw[oU λi j hi hj=>by show((sA s n i j:Int):Rat)=_;rw[vQ h ev i j hi hj]]
   exact key b a (by omega) ha
 .have:=p.fu (bO n x) (oW n x) (λr hr=>?_) k hk
  .rwa [rX x hk] at this
  .obtain⟨a,ha,e⟩:=Ybm.mp hr
   have e':P.getD a []=r:=by rw[aM,bG ha];exact e
   rw[p.len] at ha;have:=hx a ha;refine Eq.trans ?_ this;rw[<-e',i8 _ _ n (wl a ha) (oW n x)];exact bz λj hj=>by rw[rX x hj];rfl
theorem Pa.ind(h:IsSl s n){P:List (List Rat)}(p:Pa s n P):(cj P n).ld.length=n:=by
 have hR:∀r∈P,r.length=n:=λr hr=>(p.lf r hr).len;have ec:=rR hR n (bb _);have:∀q,q<n->q∈(cj P n).pl:=λq hq=>Classical.byContradiction λhn=>by
  obtain⟨l,f0⟩:=ec.free hq hn;have:=p.fu _ l f0 q hq;rw[rP _ _ _ (by rw[eZ];exact ec.lt) hn,gD hq,if_pos rfl] at this;exact Ot this (by decide)
 have e:(cj P n).pl=List.range n:=pS ec.asc (rS n) λx=>⟨λhx=>Yaj.mpr (ec.lt x hx),λhx=>this x (Yaj.mp hx)⟩;rw[ec.ll,e,jc]
end LP
namespace L2
open PySem PySem.Spec PyProof.Rows
variable {prog:Program}{w:World}{A:Around}{E:Value->Shared->Prop}{R:Result->Shared->Prop}{s:Shared}{elt t1 i1 t2 i2:Expr}{f1 f2:List Expr}{scope:Scope}{pos:Pos}{it acc:Value}{env:Env}
theorem MS:compTurn (.ListComp elt [⟨t1,i1,f1,0⟩,⟨t2,i2,f2,0⟩] scope pos) 0 it acc env=(do
   standAt i1.pos
   match<-pyNext it with
   |none=>pure (.done .next)
   |some v=>
    letOwnedTupleGo t1 it v
    assign t1 env v
    let mut ok:=true
    for c in f1 do
     if ok then ok <-isTrue c env (eval c env)
    if ok then
     let x <-eval i2 env
     standAt i2.pos
     let x <-foldedSetIterable i2 env x
     let _ <-runOwn (.compStart (.ListComp elt [⟨t1,i1,f1,0⟩,⟨t2,i2,f2,0⟩] scope pos) 1 (<-holding [x] (pyIter x)) acc env) env
    again (.compLoop (.ListComp elt [⟨t1,i1,f1,0⟩,⟨t2,i2,f2,0⟩] scope pos) 0 it acc env)):=by rfl
theorem MT:compTurn (.ListComp elt [⟨t1,i1,f1,0⟩,⟨t2,i2,f2,0⟩] scope pos) 1 it acc env=(do
   standAt i2.pos
   match<-pyNext it with
   |none=>pure (.done .next)
   |some v=>
    letOwnedTupleGo t2 it v
    assign t2 env v
    let mut ok:=true
    for c in f2 do
     if ok then ok <-isTrue c env (eval c env)
    if ok then
     (do let _ <-call (.builtin "list.append") [acc,<-eval elt env])
    again (.compLoop (.ListComp elt [⟨t1,i1,f1,0⟩,⟨t2,i2,f2,0⟩] scope pos) 1 it acc env)):=by rfl
theorem MU
  (h0:codeAny (model prog w) A (.compLoop (.ListComp elt [⟨t1,i1,f1,0⟩,⟨t2,i2,f2,0⟩] scope pos) 1 it acc env) R s)
  (h:wpAny (model prog w) A (pyIter it) (λit' s'=>codeAny (model prog w) A (.compLoop (.ListComp elt [⟨t1,i1,f1,0⟩,⟨t2,i2,f2,0⟩] scope pos) 1 it' acc env) R s')
   (notedBy (model prog w) A env λx s'=>R (.error x) s') s) :
  codeAny (model prog w) A (.compStart (.ListComp elt [⟨t1,i1,f1,0⟩,⟨t2,i2,f2,0⟩] scope pos) 1 it acc env) R s:=by
 refine codeAny_of_tree ?_;show wpAny _ _ ((compStart (.ListComp elt [⟨t1,i1,f1,0⟩,⟨t2,i2,f2,0⟩] scope pos) 1 it acc env).onRaise (λx=>do noteFrame x env;standAt theWindowsPlace)) _ _ s;refine wpAny_notedAt ?_;unfold compStart;show wpAny _ _ (ask >>= _) _ _ s;refine Op (wpAny_askSetting (wpAny_ite ?_));split
 .first
   |exact Op (Os (Os (And.intro rfl h0)))
   |exact Os (And.intro rfl h0)
 .first
   |exact Op (OO (Op (OB (Op (Ov h (λit' s' h'=>Os (And.intro rfl h')) λ_ _ x=>x)))))
   |(refine Op (OO ?_);show wpAny _ _ (standAt i2.pos >>= _) _ _ s;exact Op (OB (Op (Ov h (λit' s' h'=>Os (And.intro rfl h')) λ_ _ x=>x))))
theorem MV(I:Nat->Shared->Prop)
  (turn:∀ n s,I n s->wpAny (model prog w) A (pyNext it) (λr s₁=>match r with
   |none=>R (.ok .next) s₁
   | some v=>wpAny (model prog w) A (letOwnedTupleGo t2 it v) (λ_ s₁'=>wpAny (model prog w) A (assign t2 env v) (λ_ s₂=>
     wpAny (model prog w) A (forIn f2 true λc r=>if r=true then do let ok <- isTrue c env (eval c env);pure (ForInStep.yield ok) else pure (ForInStep.yield r)) (λok s₃=>
      if ok=true then wpAny (model prog w) A (eval elt env) (λx s₄=>
       wpAny (model prog w) A (call (.builtin "list.append") [acc,x]) (λ_ s₅=>∃m,m<n/\I m s₅) (λ_ _=>False) s₄) (λ_ _=>False) s₃
      else∃m,m<n/\I m s₃) (λ_ _=>False) s₂) (λ_ _=>False) s₁') (λ_ _=>False) s₁) (λ_ _=>False) s)
  (n:Nat) (h:I n s) :
  codeAny (model prog w) A (.compLoop (.ListComp elt [⟨t1,i1,f1,0⟩,⟨t2,i2,f2,0⟩] scope pos) 1 it acc env) R s:=by
 refine codeAny_loop rfl I (λn s hI=>?_) n h;show wpAny _ A ((compTurn (.ListComp elt [⟨t1,i1,f1,0⟩,⟨t2,i2,f2,0⟩] scope pos) 1 it acc env).onRaise (λx=>do noteFrame x env;theTreesLotGoes x)) _ _ s;refine wpAny_noted ?_;rw[MT];refine Op (OB (Op (Ov (turn n s hI) (λr s₁ h₁=>?_) λ_ _ h'=>h'.elim)));cases r with
 |none=>exact Os h₁
 |some v=>
  refine Op (Ov h₁ (λ_ s₁' h₁'=>?_) λ_ _ h'=>h'.elim);refine Op (Ov h₁' (λ_ s₂ h₂=>Op (Ov h₂ (λok s₃ h₃=>?_) λ_ _ h'=>h'.elim)) λ_ _ h'=>h'.elim);cases ok with
  |false=>exact Os ⟨rfl,h₃⟩
  |true=>
   exact Op (Op (Ov h₃ (λx s₄ h₄=>Op (Ov h₄ (λ_ s₅ h₅=>Os (Os ⟨rfl,h₅⟩)) λ_ _ h'=>h'.elim)) λ_ _ h'=>h'.elim))
theorem MW(I:Nat->Shared->Prop)(hs:∀x,foldedSetIterable i2 env x=pure x)
  (turn:∀ n s,I n s->wpAny (model prog w) A (pyNext it) (λr s₁=>match r with
   |none=>R (.ok .next) s₁
   | some v=>wpAny (model prog w) A (letOwnedTupleGo t1 it v) (λ_ s₁'=>wpAny (model prog w) A (assign t1 env v) (λ_ s₂=>
     wpAny (model prog w) A (forIn f1 true λc r=>if r=true then do let ok <- isTrue c env (eval c env);pure (ForInStep.yield ok) else pure (ForInStep.yield r)) (λok s₃=>
      if ok=true then wpAny (model prog w) A (eval i2 env) (λx s₄=>
       wpAny (model prog w) A (pyIter x) (λitv s₅=>codeAny (model prog w) A (.compStart (.ListComp elt [⟨t1,i1,f1,0⟩,⟨t2,i2,f2,0⟩] scope pos) 1 itv acc env)
        (λr s₆=>r=.ok .next/\∃m,m<n/\I m s₆) s₅) (λ_ _=>False) s₄) (λ_ _=>False) s₃
      else∃m,m<n/\I m s₃) (λ_ _=>False) s₂) (λ_ _=>False) s₁') (λ_ _=>False) s₁) (λ_ _=>False) s)
  (n:Nat) (h:I n s) :
  codeAny (model prog w) A (.compLoop (.ListComp elt [⟨t1,i1,f1,0⟩,⟨t2,i2,f2,0⟩] scope pos) 0 it acc env) R s:=by
 refine codeAny_loop rfl I (λn s hI=>?_) n h;show wpAny _ A ((compTurn (.ListComp elt [⟨t1,i1,f1,0⟩,⟨t2,i2,f2,0⟩] scope pos) 0 it acc env).onRaise (λx=>do noteFrame x env;theTreesLotGoes x)) _ _ s;refine wpAny_noted ?_;rw[MS];refine Op (OB (Op (Ov (turn n s hI) (λr s₁ h₁=>?_) λ_ _ h'=>h'.elim)));cases r with
 |none=>exact Os h₁
 |some v=>
  refine Op (Ov h₁ (λ_ s₁' h₁'=>?_) λ_ _ h'=>h'.elim);refine Op (Ov h₁' (λ_ s₂ h₂=>Op (Ov h₂ (λok s₃ h₃=>?_) λ_ _ h'=>h'.elim)) λ_ _ h'=>h'.elim);cases ok with
  |false=>exact Os ⟨rfl,h₃⟩
  |true=>
   refine Op (Ov h₃ (λx s₄ h₄=>Op (OB (Op (wpAny_of_eq (hs x) ?_)))) λ_ _ h'=>h'.elim);refine Op (OF (Ov h₄ (λitv s₅ h₅=>?_) λ_ _ h'=>h'.elim));refine Op (wpAny_runOwn (codeAny_mono h₅ λr s₆ h₆=>?_));obtain⟨rfl,h₆⟩:=h₆;exact Os ⟨rfl,h₆⟩
def vS(g:TG)(tf:TT)(te:TE)(J:It)(D:Addr)(Q:List V->St->Hp->Prop)(W:Nat->Nat->List V->St->Hp->Prop):Prop:=
 ∀ i m ys σ2 H2,W i m ys σ2 H2->H2 D=some (.lst ys)/\((J.stop i H2/\Q ys σ2 H2)\/(J.go i H2/\∀ x H3,J.yld i H2 x H3->g x σ2 H3 λσ4 H4=>tf σ4 H4 λb H5=>
  if b=true then te σ4 H5 λv H6=>H6 D=some (.lst ys)/\ys.length<sizeLine/\∃m',m'<m/\W (i+1) m' (ys++[v]) σ4 (upd H6 D (.lst (ys++[v]))) else∃m',m'<m/\W (i+1) m' ys σ4 H5))
def GC(g:TG)(tf:TT)(wi2:TI)(g2:TG)(tf2:TT)(te:TE)(J:It)(D:Addr)(Q:Hp->Prop)(W:Nat->Nat->List V->St->Hp->Prop):Prop:=
 ∀ i m ys σ2 H2,W i m ys σ2 H2->H2 D=some (.lst ys)/\((J.stop i H2/\Q H2)\/(J.go i H2/\∀ x H3,J.yld i H2 x H3->g x σ2 H3 λσ4 H4=>tf σ4 H4 λb H5=>
  if b=true then wi2 σ4 H5 λJ2 H6=>∃W2:Nat->Nat->List V->St->Hp->Prop,(∃k,W2 0 k ys σ4 H6)/\vS g2 tf2 te J2 D (λys' σ' H'=>∃m',m'<m/\W (i+1) m' ys' σ' H') W2 else∃m',m'<m/\W (i+1) m' ys σ4 H5))
def Ct(wi:TI)(nv:Nat)(sel:List Nat)(g:TG)(tf:TT)(wi2:TI)(g2:TG)(tf2:TT)(te:TE):TE:=λσ H Q=>wi σ H λJ H1=>∀D,H1 D=none->
 ∃W:Nat->Nat->List V->St->Hp->Prop,(∃m,W 0 m [] (eN nv sel σ) (upd H1 D (.lst [])))/\GC g tf wi2 g2 tf2 te J D (Q (.ref D)) W
variable {X:Cx}{pins:List (Addr×Obj)}{σ:St}{H1:Hp}{s2:Shared}{sc:Scope}{vars:List Str}{sel:List Nat}{target iter:Expr}{ifs:List Expr}{g g2:TG}{tf tf2:TT}{te:TE}{wi2:TI}
theorem MY{Y:Cx}{pins:List (Addr×Obj)}{σ:St}{H:Hp}{s:Shared}{J:It}{fp:List Addr}{it D:Addr}{tn:Nat->Heap->Prop}{Q:List V->St->Hp->Prop}{R:Result->Shared->Prop}{ys:List V}{m0:Nat}{W:Nat->Nat->List V->St->Hp->Prop}
  (hc:Y.calm=true) (hxe:Y.xe=λ_ _=>False) (hg:PG Y t2 g2) (hf:PF Y f2 tf2) (he:PE Y elt te) (I:Inv Y pins σ H s) (T:fL Y.prog Y.w Y.K t2 J fp it tn) (st:tn 0 s.heap) (f:∀b∈fp,cR Y pins H b)
  (w0:W 0 m0 ys σ H) (turn:vS g2 tf2 te J D Q W) (hR:∀ys' σ' H' s',Inv Y pins σ' H' s'->Q ys' σ' H'->R (.ok .next) s') :
  codeAny (model Y.prog Y.w) Y.A (.compStart (.ListComp elt [⟨target,iter,ifs,0⟩,⟨t2,i2,f2,0⟩] sc pos) 1 (.ref it) (.ref D) Y.env) R s:=by
 have stat:∀{σ':St} {H':Hp} {s':Shared},(∀b∈fp,H' b=none)->∀b∈fp,cR Y pins H' b:=λ{σ' H' s'} hn b hb=>⟨hn b hb,(f b hb).2⟩;have loop:codeAny (model Y.prog Y.w) Y.A (.compLoop (.ListComp elt [⟨target,iter,ifs,0⟩,⟨t2,i2,f2,0⟩] sc pos) 1 (.ref it) (.ref D) Y.env) R s:=by
  refine MV (λn s'=>∃i ys σ' H',Inv Y pins σ' H' s'/\tn i s'.heap/\(∀b∈fp,H' b=none)/\W i n ys σ' H') ?_ m0 ⟨0,ys,_,_,I,st,λb hb=>(f b hb).1,w0⟩;rintro n s5 ⟨i,ys,σ5,H5,I5,st5,fr5,w5⟩;obtain⟨hD,⟨stop,qn⟩|⟨go,step⟩⟩:=turn i n ys σ5 H5 w5
  .refine aI (T.done Y rfl rfl rfl hc i pins s5 σ5 H5 _ I5 (stat (σ':=σ5) (s':=s5) fr5) st5 stop) λr s6 ⟨hr,I6⟩=>?_
   subst hr;exact hR _ _ H5 s6 I6 qn
  .refine aI (T.item Y rfl rfl rfl hc i pins s5 σ5 H5 _ I5 (stat (σ':=σ5) (s':=s5) fr5) st5 go) λr s6 ⟨u,hr,h6⟩=>?_
   subst hr;refine aI h6 λ_ s7 ⟨x,H7,I7,r7,y7,st7,fr7⟩=>?_;have I7':=I7.pinned (stat (σ':=σ5) (s':=s7) fr7) (T.obj _ _ st7);have hg':=hg (pins++dq fp s7.heap) s7 σ5 H7 x u _ I7' r7 (step x H7 y7);rw[hxe] at hg';refine aI hg' λ_ s8 ⟨σ8,H8,I8,q8⟩=>?_;have hf':=hf _ s8 σ8 H8 _ I8 q8;rw[hxe] at hf';refine aI hf' λb s9 ⟨H9,I9,q9⟩=>?_;have back:∀{σ':St} {H':Hp} {s':Shared},Inv Y (pins++dq fp s7.heap) σ' H' s'->tn (i+1) s'.heap/\∀b∈fp,H' b=none:=λ{σ' H' s'} I'=>by
    refine⟨T.keep _ _ _ st7 λb hb o e=>(I'.pin (b,o) (ge _ (ge _ (bj hb e)))).1,λb hb=>?_⟩;obtain⟨o,e,d⟩:=T.obj _ _ st7 b hb;exact(I'.pin (b,o) (ge _ (ge _ (bj hb e)))).2.1
   cases b with
   |false=>
    rw[if_neg (by decide)] at q9 ⊢;obtain⟨m',hm,w9⟩:=q9;exact⟨m',hm,i+1,ys,σ8,H9,I9.unpinned,(back I9).1,(back I9).2,w9⟩
   |true=>
    rw[if_pos rfl] at q9 ⊢;have he':=he _ s9 σ8 H9 _ I9 q9;rw[hxe] at he';refine aI he' λv sA ⟨y,HA,IA,rA,hDA,hz,m',hm,wA⟩=>?_;obtain⟨z,its,nn,rr,hl,e⟩:=IA.lstM hDA;refine call_meets F.slot_list_append ⟨_,e,rfl⟩ F.entry_list_append (F.args_list_append_2 _ _) (PySem.list_append _ its.toArray nn v (by rw[dL];omega)) ⟨e,?_⟩;have IB:=IA.lset (its':=its++[v]) (f:=(·.push v)) (t':=sA.toks) hDA e (by simp) (rr.append (.cons rA .nil)) (by rw[dj,kS];omega);exact⟨m',hm,i+1,ys++[y],σ8,_,IB.unpinned,(back IB).1,(back IB).2,wA⟩
 exact MU loop (T.self _ 0 _ _ _ st loop)
variable {fz:List Expr}
theorem MZ{J:It}{fp:List Addr}{it:Addr}{tn:Nat->Heap->Prop}{Q:VK}{E:Value->Shared->Prop}{R:Value->Addr->Result->Shared->Prop}(hc:X.calm=true)
  (hg:∀s H fp,PG (X.lc sc vars sel s H fp) target g) (hf:∀s H fp,PF (X.lc sc vars sel s H fp) ifs tf) (hi2:∀s H fp,PI (X.lc sc vars sel s H fp) t2 i2 wi2) (hg2:∀s H fp,PG (X.lc sc vars sel s H fp) t2 g2) (hf2:∀s H fp,PF (X.lc sc vars sel s H fp) fz tf2) (he:∀s H fp,PE (X.lc sc vars sel s H fp) elt te) (hs2:∀a x,foldedSetIterable i2 (gA sc X.env a) x=pure x)
  (ok:j6 sc X.env.scope=true) (so:oA X.N sc sel=true)
  (I2:Inv X pins σ H1 s2) (T:fL X.prog X.w X.K target J fp it tn) (st2:tn 0 s2.heap) (f2:∀b∈fp,cR X pins H1 b)
  (q:∀D,H1 D=none->∃W:Nat->Nat->List V->St->Hp->Prop,(∃m,W 0 m [] (eN vars.length sel σ) (upd H1 D (.lst [])))/\GC g tf wi2 g2 tf2 te J D (Q (.ref D)) W)
  (hR:∀D C H' s',Inv X pins σ H' s'->Q (.ref D) H'->(∃m,s'.heap.Ns C m)->cR X pins H' C->R (.ref D) C (.ok .next) s') :
  wpAny (model X.prog X.w) X.A (newList []) (λacc s₃=>wpAny (model X.prog X.w) X.A (newFunctionEnv sc X.env.globals (ca X.env.cells sc.names []) [] X.env.qual none .none (some X.env)) (λcenv s₄=>
   codeAny (model X.prog X.w) X.A (.compStart (.ListComp elt [⟨target,iter,ifs,0⟩,⟨t2,i2,fz,0⟩] sc pos) 0 (.ref it) acc { cenv with scope:=relabel sc X.env }) (R acc cenv.locals) s₄) E s₃) E s2:=by
 refine OA ?_;have hD0:H1 s2.heap.objs.size=none:=I2.hok.fresh (bb _);obtain⟨W,⟨m0,w0⟩,turn⟩:=q _ hD0;have I3:Inv X pins σ (upd H1 s2.heap.objs.size (.lst [])) { s2 with heap:=s2.heap.push { cls:=.type "list",data:=.seq ([]:List Value).toArray },toks:=s2.toks }:=I2.lnew (ys:=[]) .nil (jD _);have ho2:∀b∈fp,∃o,s2.heap.get? b=some o/\∀v,o.data≠.cell v:=T.obj _ _ st2;have lt2:∀b∈fp,b<s2.heap.objs.size:=λb hb=>by obtain⟨o,e,_⟩:=ho2 b hb;exact bX e
 have f3:∀b∈fp,cR X pins (upd H1 s2.heap.objs.size (.lst [])) b:=λb hb=>⟨by rw[af (eJ (lt2 b hb))];exact(f2 b hb).1,(f2 b hb).2⟩;have ho3:∀b∈fp,∃o,(s2.heap.push { cls:=.type "list",data:=.seq ([]:List Value).toArray }).get? b=some o:=λb hb=>by obtain⟨o,e,_⟩:=ho2 b hb;exact⟨o,bZ _ e⟩
 refine DD (s:={ s2 with heap:=s2.heap.push { cls:=.type "list",data:=.seq ([]:List Value).toArray },toks:=s2.toks }) ?_;generalize hs3:({ s2 with heap:=s2.heap.push { cls:=.type "list",data:=.seq ([]:List Value).toArray },toks:=s2.toks }:Shared)=s3 at I3 ⊢;have kp23:∀b o,s2.heap.get? b=some o->s3.heap.get? b=some o:=λb o e=>by rw[<-hs3];exact bZ _ e
 have sz3:s3.heap.objs.size=s2.heap.objs.size+1:=by rw[<-hs3];exact kz ..
 have os3:s3.os=s2.os:=by rw[<-hs3]
 have ho3':∀b∈fp,∃o,s3.heap.get? b=some o:=λb hb=>by rw[<-hs3];exact ho3 b hb
 have I4:=DE (vars:=vars) I3 ok so f3 ho3' I2.ok.kind;have kp4:∀b o,s3.heap.get? b=some o->(pushCells (s3.heap.push { cls:=.type "dict",data:=.dict #[] }) sc.names).get? b=some o:=λb o e=>pushCells_keeps _ _ _ _ (bZ _ e);have st4:tn 0 (pushCells (s3.heap.push { cls:=.type "dict",data:=.dict #[] }) sc.names):=T.keep _ _ _ st2 λb hb o e=>kp4 b o (kp23 b o e)
 -- what stays true of the iterator
 have stat:∀{H':Hp},(∀b∈fp,H' b=none)->∀b∈fp,cR (X.lc sc vars sel s3 (upd H1 s2.heap.objs.size (.lst [])) fp) [] H' b:=λ{H'} hn b hb=>by
  refine⟨hn b hb,(I4.ok.exf b hb).1,I4.ok.exfs b hb,.inl hb,λx c e z=>(I4.ok.exf b hb).2 x c e z,λp hp=>Ot (show p∈([]:List (Addr×Obj)) from hp) (by simp)⟩
 have loop:codeAny (model X.prog X.w) X.A (.compLoop (.ListComp elt [⟨target,iter,ifs,0⟩,⟨t2,i2,fz,0⟩] sc pos) 0 (.ref it) (.ref s2.heap.objs.size) (gA sc X.env s3.heap.objs.size))
   (R (.ref s2.heap.objs.size) s3.heap.objs.size) { s3 with heap:=pushCells (s3.heap.push { cls:=.type "dict",data:=.dict #[] }) sc.names }:=by
  refine MW (λn s'=>∃i ys σ' H',Inv (X.lc sc vars sel s3 (upd H1 s2.heap.objs.size (.lst [])) fp) [] σ' H' s'/\tn i s'.heap/\(∀b∈fp,H' b=none)/\W i n ys σ' H') (hs2 _) ?_ m0
   ⟨0,[],_,_,I4,st4,λb hb=>(f3 b hb).1,w0⟩
  rintro n s5 ⟨i,ys,σ5,H5,I5,st5,fr5,w5⟩;obtain⟨hD,⟨stop,qn⟩|⟨go,step⟩⟩:=turn i n ys σ5 H5 w5
  .refine aI (T.done (X.lc sc vars sel s3 (upd H1 s2.heap.objs.size (.lst [])) fp) rfl rfl rfl hc i [] s5 σ5 H5 _ I5 (stat fr5) st5 stop) λr s6 ⟨hr,I6⟩=>?_
   subst hr;have un:Un (cu X.stack) fp H1 H5 s2.heap s6.heap:=by
    have a:Un (cu X.stack) fp H1 (upd H1 s2.heap.objs.size (.lst [])) s2.heap s3.heap:=Un.laid kp23 (bb _) hD0;exact a.trans I6.base
   have I7:Inv X pins σ H5 s6:=I2.call' (ch:=fp) (I6.os.trans os3) un I6.hok I6.bare λb hb=>⟨(f2 b hb).2.2.2.1,(f2 b hb).2.1,(f2 b hb).2.2.2.2.1,(f2 b hb).2.2.2.2.2⟩;refine hR _ _ H5 s6 I7 qn ?_ ?_
   .obtain⟨m,hn,_⟩:=I6.loc
    exact⟨m,hn⟩
   .exact I3.fpOk (bb _) I6.free
  .refine aI (T.item (X.lc sc vars sel s3 (upd H1 s2.heap.objs.size (.lst [])) fp) rfl rfl rfl hc i [] s5 σ5 H5 _ I5 (stat fr5) st5 go) λr s6 ⟨u,hr,h6⟩=>?_
   subst hr;refine aI h6 λ_ s7 ⟨x,H7,I7,r7,y7,st7,fr7⟩=>?_;have I7':=I7.pinned (stat fr7) (T.obj _ _ st7);refine aI (hg _ _ _ _ s7 σ5 H7 x u _ I7' r7 (step x H7 y7)) λ_ s8 ⟨σ8,H8,I8,q8⟩=>?_;refine aI (hf _ _ _ _ s8 σ8 H8 _ I8 q8) λb s9 ⟨H9,I9,q9⟩=>?_;have back:∀{σ':St} {H':Hp} {s':Shared},Inv (X.lc sc vars sel s3 (upd H1 s2.heap.objs.size (.lst [])) fp) ([]++dq fp s7.heap) σ' H' s'->tn (i+1) s'.heap/\∀b∈fp,H' b=none:=λ{σ' H' s'} I'=>by
    refine⟨T.keep _ _ _ st7 λb hb o e=>(I'.pin (b,o) (ge _ (ge _ (bj hb e)))).1,λb hb=>?_⟩;obtain⟨o,e,d⟩:=T.obj _ _ st7 b hb;exact(I'.pin (b,o) (ge _ (ge _ (bj hb e)))).2.1
   cases b with
   |false=>
    rw[if_neg (by decide)] at q9 ⊢;obtain⟨m',hm,w9⟩:=q9;exact⟨m',hm,i+1,ys,σ8,H9,I9.unpinned,(back I9).1,(back I9).2,w9⟩
   |true=>
    rw[if_pos rfl] at q9 ⊢;refine aI (hi2 _ _ _ _ s9 σ8 H9 _ I9 q9) λv sA hA=>aI hA λitv sB hB=>?_;obtain⟨it2,fp2,tn2,J2,HB,e2,IB,T2,stB,fB,W2,⟨k0,wB⟩,tr2⟩:=hB;subst e2;exact MY (Y:=X.lc sc vars sel s3 (upd H1 s2.heap.objs.size (.lst [])) fp) hc rfl (hg2 _ _ _) (hf2 _ _ _) (he _ _ _) IB T2 stB fB wB tr2 λys' σ' H' s' I' ⟨m',hm,w'⟩=>⟨rfl,m',hm,i+1,ys',σ',H',I'.unpinned,(back I').1,(back I').2,w'⟩
 exact codeAny_compStart_list loop (T.self _ 0 _ _ _ st4 loop)
theorem M0{wi:TI}(vars:List Str)(sel:List Nat)(hc:X.calm=true)(hi:PI X target iter wi)
  (ok:j6 sc X.env.scope=true) (so:oA X.N sc sel=true)
  (hg:∀s H fp,PG (X.lc sc vars sel s H fp) target g) (hf:∀s H fp,PF (X.lc sc vars sel s H fp) ifs tf) (hi2:∀s H fp,PI (X.lc sc vars sel s H fp) t2 i2 wi2) (hg2:∀s H fp,PG (X.lc sc vars sel s H fp) t2 g2) (hf2:∀s H fp,PF (X.lc sc vars sel s H fp) fz tf2) (he:∀s H fp,PE (X.lc sc vars sel s H fp) elt te) (hs2:∀a x,foldedSetIterable i2 (gA sc X.env a) x=pure x)
  (hs:∀x,foldedSetIterable iter X.env x=pure x:=by intro _;rfl):PE X (.ListComp elt [⟨target,iter,ifs,0⟩,⟨t2,i2,fz,0⟩] sc pos) (Ct wi vars.length sel g tf wi2 g2 tf2 te):=by
 intro pins s σ H Q I h;rw[eval_ListComp];have ok':=ok;simp only[j6,cQ,Ou] at ok';refine OS (use:=none) rfl hs (Ak (xh I ok)) ok'.1.1 (λx hx hl=>?_) ?_
 .obtain⟨n,k⟩:=x
  have hl':k=.local:=hl;subst hl';exact xg ok'.1.2 hx
 .refine aI (hi pins s σ H _ I h) λv s1 h1=>aI h1 λitv s2 h2=>?_
  obtain⟨it,fp,tn,J,H2,e,I2,T,st2,f2,q⟩:=h2;subst e;refine MZ (Q:=Q) hc hg hf hi2 hg2 hf2 he hs2 ok so I2 T st2 f2 q λD C H' s' I' q' hn fC=>?_;obtain⟨m,hn⟩:=hn;refine⟨m,hn,λh' hs'=>?_⟩;obtain⟨f0,f1,f2,f3,f4,f5⟩:=fC;exact⟨.ref D,H',I'.turned (t':=s'.toks) (λb o hb e=>(hs'.2 b hb).trans e) f0 f1 f3 f4 f5,rfl,q'⟩
end L2
namespace LP
open PySem PySem.Spec PyProof.Rows L2
def lcV(g:WG)(wf:WT)(we:WE):List D->aN->List D->(aN->List D->Prop)->Prop
 |[],ρ,acc,Q=>Q ρ acc
 |d::ds,ρ,acc,Q=>g d ρ λρ2=>wf No ρ2 λb=>if b=true then we No ρ2 λy=>acc.length<aw/\lcV g wf we ds ρ2 (acc++[y]) Q else lcV g wf we ds ρ2 acc Q
def lcW2(g:WG)(wf:WT)(wi2:WA)(g2:WG)(wf2:WT)(we:WE):List D->aN->List D->(List D->Prop)->Prop
 |[],_,acc,Q=>Q acc
 |d::ds,ρ,acc,Q=>g d ρ λρ2=>wf No ρ2 λb=>if b=true then wi2 No ρ2 λds2=>lcV g2 wf2 we ds2 ρ2 acc λρ3 acc'=>lcW2 g wf wi2 g2 wf2 we ds ρ3 acc' Q else lcW2 g wf wi2 g2 wf2 we ds ρ2 acc Q
def vT(wi:WA)(nv:Nat)(sel:List Nat)(g:WG)(wf:WT)(wi2:WA)(g2:WG)(wf2:WT)(we:WE):WA:=λE ρ Q=>wi E ρ λds=>lcW2 g wf wi2 g2 wf2 we ds (Zbq nv sel ρ) [] Q
variable {X:Cx}{EX:XK}{pos:Pos}{sc:Scope}{vars:List Str}{sel:List Nat}{elt target iter t2 i2:Expr}{ifs fz:List Expr}{g g2:WG}{wf wf2:WT}{we:WE}{wi wi2:WA}
theorem lcV.mono(hg:∀d ρ P P',(∀r,P r->P' r)->g d ρ P->g d ρ P')(hf:∀E ρ P P',(∀d,P d->P' d)->wf E ρ P->wf E ρ P')(he:∀E ρ P P',(∀d,P d->P' d)->we E ρ P->we E ρ P') :
  ∀ds ρ acc P P',(∀r xs,P r xs->P' r xs)->lcV g wf we ds ρ acc P->lcV g wf we ds ρ acc P'
 |[],_,acc,P,P',hp,h=>hp _ _ h
 | d::ds,ρ,acc,P,P',hp,h=>hg _ _ _ _ (λr hr=>hf _ _ _ _ (λb hb=>by
   cases b with
   |false=>rw[if_neg (by decide)] at hb ⊢;exact lcV.mono hg hf he ds r acc P P' hp hb
   |true=>rw[if_pos rfl] at hb ⊢;exact he _ _ _ _ (λy hy=>⟨hy.1,lcV.mono hg hf he ds r _ P P' hp hy.2⟩) hb) hr) h
theorem lcW2.mono(hg:∀d ρ P P',(∀r,P r->P' r)->g d ρ P->g d ρ P')(hf:∀E ρ P P',(∀d,P d->P' d)->wf E ρ P->wf E ρ P')(hi2:∀E ρ P P',(∀d,P d->P' d)->wi2 E ρ P->wi2 E ρ P')(hg2:∀d ρ P P',(∀r,P r->P' r)->g2 d ρ P->g2 d ρ P')(hf2:∀E ρ P P',(∀d,P d->P' d)->wf2 E ρ P->wf2 E ρ P')(he:∀E ρ P P',(∀d,P d->P' d)->we E ρ P->we E ρ P') :
  ∀ds ρ acc P P',(∀xs,P xs->P' xs)->lcW2 g wf wi2 g2 wf2 we ds ρ acc P->lcW2 g wf wi2 g2 wf2 we ds ρ acc P'
 |[],_,acc,P,P',hp,h=>hp _ h
 | d::ds,ρ,acc,P,P',hp,h=>hg _ _ _ _ (λr hr=>hf _ _ _ _ (λb hb=>by
   cases b with
   |false=>rw[if_neg (by decide)] at hb ⊢;exact lcW2.mono hg hf hi2 hg2 hf2 he ds r acc P P' hp hb
   |true=>rw[if_pos rfl] at hb ⊢;exact hi2 _ _ _ _ (λds2 h2=>lcV.mono hg2 hf2 he ds2 r acc _ _ (λr' xs hx=>lcW2.mono hg hf hi2 hg2 hf2 he ds r' xs P P' hp hx) h2) hb) hr) h
theorem M1(vars:List Str)(sel:List Nat)(hc:X.calm=true)(hi:lD X EX target iter wi)(hg:∀s H fp,nJ (X.lc sc vars sel s H fp) target g)(hf:∀s H fp,re (X.lc sc vars sel s H fp) E0 ifs wf)
  (hi2:∀s H fp,lD (X.lc sc vars sel s H fp) E0 t2 i2 wi2) (hg2:∀s H fp,nJ (X.lc sc vars sel s H fp) t2 g2) (hf2:∀s H fp,re (X.lc sc vars sel s H fp) E0 fz wf2) (he:∀s H fp,PX (X.lc sc vars sel s H fp) E0 elt we)
  (ok:j6 sc X.env.scope=true:=by rfl) (so:oA X.N sc sel=true:=by rfl) (hs:∀x,foldedSetIterable iter X.env x=pure x:=by intro _;rfl) (hs2:∀a x,foldedSetIterable i2 (gA sc X.env a) x=pure x:=by intro _ _;rfl) :
  PXL X EX (.ListComp elt [⟨target,iter,ifs,0⟩,⟨t2,i2,fz,0⟩] sc pos) (vT wi vars.length sel g wf wi2 g2 wf2 we):=by
 have gm:=(hg {} (λ_=>none) []).mono;have go:=(hg {} (λ_=>none) []).own;have fm:=(hf {} (λ_=>none) []).mono;have im:=(hi2 {} (λ_=>none) []).mono;have gm2:=(hg2 {} (λ_=>none) []).mono;have go2:=(hg2 {} (λ_=>none) []).own;have fm2:=(hf2 {} (λ_=>none) []).mono;have em:=(he {} (λ_=>none) []).mono;refine⟨?_,λE ρ P P' hp h=>hi.mono _ _ _ _ (λds hds=>lcW2.mono gm fm im gm2 fm2 em ds _ _ _ _ hp hds) h⟩;obtain⟨ti,pi,ki⟩:=hi.t;refine ⟨_,M0 (wi:=ti) (g:=λv σ H Q=>∃ W0 H0 W ρ d,SOk X.K W0 H0 W σ H ρ/\Rep X.K W v d/\g d ρ (λρ'=>∀ σ',SOk X.K W0 H0 W σ' H ρ'->Q σ' H))
  (tf:=λσ H Q=>∃W0 H0 W ρ,SOk X.K W0 H0 W σ H ρ/\wf No ρ (λb=>∀W' H',Ext W H W' H'->Q b H'))
  (wi2:=λσ H R=>∃W0 H0 W ρ,SOk X.K W0 H0 W σ H ρ/\wi2 No ρ (λds=>∀W' H' J,Ext W H W' H'->mX X.K W' J ds->R J H'))
  (g2:=λv σ H Q=>∃W0 H0 W ρ d,SOk X.K W0 H0 W σ H ρ/\Rep X.K W v d/\g2 d ρ (λρ'=>∀σ',SOk X.K W0 H0 W σ' H ρ'->Q σ' H))
  (tf2:=λσ H Q=>∃W0 H0 W ρ,SOk X.K W0 H0 W σ H ρ/\wf2 No ρ (λb=>∀W' H',Ext W H W' H'->Q b H'))
  (te:=λσ H Q=>∃W0 H0 W ρ,SOk X.K W0 H0 W σ H ρ/\we No ρ (RQ X.K W H Q)) vars sel hc pi ok so (λs1 H1 fp=>?_) (λs1 H1 fp=>?_) (λs1 H1 fp=>?_) (λs1 H1 fp=>?_) (λs1 H1 fp=>?_) (λs1 H1 fp=>?_) hs2 hs,?_⟩
 .obtain⟨t,q,k⟩:=(hg s1 H1 fp).t
  rintro pins s σ H v u Q I r ⟨W0,H0,W,ρ,d,s',r',h⟩;exact q pins s σ H v u Q I r (k W0 H0 W σ H ρ d v Q s' r' h)
 .obtain⟨t,q,k⟩:=(hf s1 H1 fp).t
  rintro pins s σ H Q I ⟨W0,H0,W,ρ,s',h⟩;exact q pins s σ H Q I (k W0 H0 W σ H ρ No Q s' (λ_ _ _ _ _ z=>z.elim) h)
 .obtain⟨t,q,k⟩:=(hi2 s1 H1 fp).t
  rintro pins s σ H R I ⟨W0,H0,W,ρ,s',h⟩;exact q pins s σ H R I (k W0 H0 W σ H ρ No R s' (λ_ _ _ _ _ z=>z.elim) h)
 .obtain⟨t,q,k⟩:=(hg2 s1 H1 fp).t
  rintro pins s σ H v u Q I r ⟨W0,H0,W,ρ,d,s',r',h⟩;exact q pins s σ H v u Q I r (k W0 H0 W σ H ρ d v Q s' r' h)
 .obtain⟨t,q,k⟩:=(hf2 s1 H1 fp).t
  rintro pins s σ H Q I ⟨W0,H0,W,ρ,s',h⟩;exact q pins s σ H Q I (k W0 H0 W σ H ρ No Q s' (λ_ _ _ _ _ z=>z.elim) h)
 .obtain⟨t,q,k⟩:=(he s1 H1 fp).t
  rintro pins s σ H Q I ⟨W0,H0,W,ρ,s',h⟩;exact q pins s σ H Q I (k W0 H0 W σ H ρ No Q s' (λ_ _ _ _ _ z=>z.elim) h)
 intro W0 H0 W σ H ρ E Q s eo h;refine ki W0 H0 W σ H ρ E _ s eo (hi.mono _ _ _ _ (λds hds W1 H1 J x1 it D hD=>?_) h);have hDf:=x1.ok.fresh hD;have hD0:H0 D=none:=s.ext.isN (x1.isN hD);refine ⟨λi m ys σ2 H2=>m=ds.length - i/\i<=ds.length/\∃ W2 ρ2 acc,Ext W1 H1 W2 H2/\SOk X.K W0 H0 W2 σ2 H2 ρ2/\ZgY ρ2/\H2 D=some (.lst ys)/\W2.G D=none/\¬ W2.Pn D/\Reps X.K W2 ys acc/\
  lcW2 g wf wi2 g2 wf2 we (ds.drop i) ρ2 acc (λds=>∀a vs W' H',Ext W H W' H'->H' a=some (.lst vs)->W'.G a=none->¬W'.Pn a->H a=none->Reps X.K W' vs ds->Q (.ref a) H'),⟨_,rfl,jD _,W1,_,[],.new x1.ok hD,?_,Zbq.own _ _ ρ,ao,hDf.1,hDf.2,.nil,by rw[qe];exact hds⟩,?_⟩
 .exact(((s.step x1).step (.new x1.ok hD)).lc vars.length sel)
 rintro i m ys σ2 H2 ⟨rfl,hi',W2,ρ2,acc,x2,s2,no2,hD2,g2',p2,r2,q2⟩;refine⟨hD2,?_⟩;obtain⟨itg,its⟩:=it W2 H2 i x2.g x2.p x2.ok;have kpD:∀{V0:Wd} {G:Hp} {zs:List V} {W':Wd} {H':Hp},G D=some (.lst zs)->V0.G D=none->¬V0.Pn D->Ext V0 G W' H'->H' D=some (.lst zs)/\W'.G D=none/\¬W'.Pn D:=λ{V0 G zs W' H'} hG hg' hp' x'=>by
  refine⟨x'.h D _ hG hp',?_,λz=>?_⟩
  .cases q:W'.G D with
   |none=>rfl
   |some o=>have:=x'.gf D hg' (by rw[q];simp);rw[hG] at this;cases this
  .have:=x'.pf D hp' z;rw[hG] at this;cases this
 rcases gg i ds.length with hlt|hge
 .have hd:ds[i]? = some ds[i]:=bG hlt
  obtain⟨go',yl⟩:=itg _ hd;refine .inr ⟨go',λx H3 y=>?_⟩;obtain⟨W3,x3,r3⟩:=yl x H3 y;rw[qf hlt] at q2;refine⟨W0,H0,W3,ρ2,ds[i],s2.step x3,r3,gm _ _ _ _ (λρ4 hr σ4 s4=>?_) (go _ _ _ no2 q2)⟩;obtain⟨no4,hr⟩:=hr;refine⟨W0,H0,W3,ρ4,s4,fm _ _ _ _ (λb hb W5 H5 x5=>?_) hr⟩;have kD:=kpD hD2 g2' p2 (x3.trans x5);cases b with
  |false=>
   rw[if_neg (by decide)] at hb;show ite _ _ _;rw[if_neg (by decide)];exact⟨ds.length-(i+1),by omega,rfl,hlt,W5,ρ4,acc,x2.trans (x3.trans x5),s4.step x5,no4,kD.1,kD.2.1,kD.2.2,(x3.trans x5).reps r2,hb⟩
  |true=>
   rw[if_pos rfl] at hb;show ite _ _ _;rw[if_pos rfl];refine⟨W0,H0,W5,ρ4,s4.step x5,im _ _ _ _ (λds2 hds2 W6 H6 J2 x6 it2=>?_) hb⟩;have kD6:=kpD hD2 g2' p2 (x3.trans (x5.trans x6));refine ⟨λi2 k zs σ7 H7=>k=ds2.length - i2/\i2<=ds2.length/\∃ W7 ρ7 acc7,Wle W6 W7/\Ext W1 H1 W7 H7/\SOk X.K W0 H0 W7 σ7 H7 ρ7/\ZgY ρ7/\H7 D=some (.lst zs)/\W7.G D=none/\¬ W7.Pn D/\Reps X.K W7 zs acc7/\
    lcV g2 wf2 we (ds2.drop i2) ρ7 acc7 (λρ3 acc'=>lcW2 g wf wi2 g2 wf2 we (ds.drop (i+1)) ρ3 acc' (λds=>∀a vs W' H',Ext W H W' H'->H' a=some (.lst vs)->W'.G a=none->¬W'.Pn a->H a=none->Reps X.K W' vs ds->Q (.ref a) H')),
    ⟨_,rfl,jD _,W6,ρ4,acc,.refl W6,x2.trans (x3.trans (x5.trans x6)),(s4.step x5).step x6,no4,kD6.1,kD6.2.1,kD6.2.2,(x3.trans (x5.trans x6)).reps r2,by rw[qe];exact hds2⟩,?_⟩
   rintro i2 k zs σ7 H7 ⟨rfl,hi2',W7,ρ7,acc7,f7,x7,s7,no7,hD7,g7,p7,r7,q7⟩;refine⟨hD7,?_⟩;obtain⟨itg2,its2⟩:=it2 W7 H7 i2 f7.g f7.p s7.ok;rcases gg i2 ds2.length with hlt2|hge2
   .have hd2:ds2[i2]? = some ds2[i2]:=bG hlt2
    obtain⟨go2',yl2⟩:=itg2 _ hd2;refine .inr ⟨go2',λx H8 y=>?_⟩;obtain⟨W8,x8,r8⟩:=yl2 x H8 y;rw[qf hlt2] at q7;refine⟨W0,H0,W8,ρ7,ds2[i2],s7.step x8,r8,gm2 _ _ _ _ (λρ9 hr9 σ9 s9=>?_) (go2 _ _ _ no7 q7)⟩;obtain⟨no9,hr9⟩:=hr9;refine⟨W0,H0,W8,ρ9,s9,fm2 _ _ _ _ (λb hb WA HA xA=>?_) hr9⟩;cases b with
    |false=>
     rw[if_neg (by decide)] at hb;show ite _ _ _;rw[if_neg (by decide)];have kA:=kpD hD7 g7 p7 (x8.trans xA);exact⟨ds2.length-(i2+1),by omega,rfl,hlt2,WA,ρ9,acc7,f7.ext (x8.trans xA),x7.trans (x8.trans xA),s9.step xA,no9,kA.1,kA.2.1,kA.2.2,(x8.trans xA).reps r7,hb⟩
    |true=>
     rw[if_pos rfl] at hb;show ite _ _ _;rw[if_pos rfl];refine⟨W0,H0,WA,ρ9,s9.step xA,em _ _ _ _ (λy hy v WB HB xB rB=>?_) hb⟩;have xx:=x8.trans (xA.trans xB);have kB:=kpD hD7 g7 p7 xx;have hl:zs.length=acc7.length:=r7.length;refine⟨kB.1,by rw[hl];exact cv hy.1 (nE (bb _)),ds2.length-(i2+1),by omega,rfl,hlt2,WB,ρ9,acc7++[y],f7.ext xx,(x7.trans xx).chg hD kB.1 kB.2.2 kB.2.1,?_,no9,ao,kB.2.1,kB.2.2,(xx.reps r7).append (.cons rB .nil),hy.2⟩;exact((s9.step xA).step xB).chgD no9 hD0 kB.1 kB.2.2 kB.2.1
   .refine .inl ⟨its2 hge2,?_⟩
    rw[ww hge2] at q7;exact⟨ds.length-(i+1),by omega,rfl,hlt,W7,ρ7,acc7,x7,s7,no7,hD7,g7,p7,r7,q7⟩
 .refine .inl ⟨its hge,?_⟩
  rw[ww hge] at q2;exact q2 D ys W2 H2 (x1.trans x2) hD2 g2' p2 (x1.isN hD) r2
def yN:D->List D->(D->Prop)->Prop:=λx ds Q=>∃(bs:List Int) (b:Int),x=.lst (bs.map .int)/\ds=[.int b]/\Q (.int ((bs.countP (· == b):Nat):Int))
theorem GD{K:Oq}{W:Wd}(b:Int):∀{bs:List Int} {vs:List V} {its:List Value},Reps K W vs (bs.map .int)->Vals vs its->its.countP (Value.isInt b)=bs.countP (· == b)
 |[],_,_,.nil,.nil=>rfl
 |c::bs,_,_,.cons r1 r2,.cons v1 v2=>by
  cases r1;obtain⟨t,rfl⟩:=v1;rw[List.countP_cons,List.countP_cons,GD b r2 v2];rfl
theorem GE:D8 X "list.count" yN:=by
 refine⟨⟨λx vs H Q=>∃W dx ds,WOk W H/\Rep X.K W x dx/\Reps X.K W vs ds/\yN dx ds (RQ X.K W H Q),?_,λW H x vs dx ds Q ok r rs hg=>⟨W,dx,ds,ok,r,rs,hg⟩⟩,λdx ds P ⟨bs,b,h,_⟩=>⟨_,h⟩,λx ds P P' hp ⟨bs,b,h1,h2,h3⟩=>⟨bs,b,h1,h2,hp _ h3⟩⟩;rintro pins s σ H x vs v us Q I rx rv ⟨W,dx,ds,ok,r,rs,bs,b,rfl,rfl,q⟩;obtain⟨y,rfl,ry⟩:=rs.one;cases ry;obtain⟨u,rfl,ru⟩:=eE rv;obtain⟨tu,rfl⟩:=ru;cases r with
 | @lst a xs ds e1 rr=>
  cases rx;obtain⟨its,rvs,pl,hz⟩:=I.list (SqL.of (ok.g _ _ e1));have hc1:=GD b rr rvs;obtain⟨hl,hv⟩:=Gi rr rvs;obtain⟨⟨cls,dd,data,sl⟩,ho,hc,n,hd⟩:=pl.isList;simp only at hc hd;subst hc hd;refine call_meets PySem.F.slot_list_count ⟨_,ho,rfl⟩ PySem.F.entry_list_count (PySem.F.args_list_count_2 _ _) (SeqAt.list_countAt a _ n dd sl (.int b tu) (Value.isInt b)) ⟨ho,λy hy=>?_,?_⟩
  .have hy':y∈its:=by simpa using hy
   obtain⟨m,hm,rfl⟩:=Ybm.mp hy';obtain⟨c,t,e1,e2⟩:=hv m _ (bG hm);rw[e2];exact PySem.SeqAt.EqAt.int_int c t b tu
  .rw[show(its.toArray.toList)=its from rfl,hc1]
   exact⟨.int _,H,I.tok _,⟨_,rfl⟩,q.now ok (.int _)⟩
def f6:Option (Nat×List Rat)->D
 |none=>.non
 |some (a,l)=>.tup [.int (a:Int),ae l]
def yO(x:D):Except Str D:=eI x (if i7 x=true then .ok (aF (bw (sI x) (sN x))) else .error "NotEven")
def f8(s:List Int)(n:Nat)(P:List (List Rat)):Nat:=(P.filter λr=>decide (0<aY s n r r)).length
def jb(s:List Int)(n:Nat)(P:List (List Rat)):Nat:=(P.filter λr=>decide (aY s n r r<0)).length
def nM(s:List Int)(n:Nat)(P:List (List Rat)):D:=.tup [.int (f8 s n P:Int),.int (jb s n P:Int),.int ((P.length:Int)-(f8 s n P:Int)-(jb s n P:Int))]
def Cu(x:D):Except Str D:=eI x (if i7 x=true then .ok (nM (sI x) (sN x) (bw (sI x) (sN x))) else .error "NotEven")
structure Pq0(s:List Int)(n:Nat)(P:List (List Rat)):Prop where
 sl:IsSl s n
 ev:s.reverse=s
 len:P.length=n
 lf:∀r∈P,Lf 168 n r
def yP:aS:=fnS (λx:((Nat×Nat)×Nat)×List (List Rat)=>[aF x.2,.int x.1.2]) (λx=>lP x.1.1.1 x.1.1.2 x.1.2 x.2) λx=>.bl (decide ((cj x.2 x.1.2).ld.length=x.2.length))
def vU:aS:=fnS (λx:SL×List (List Rat)×List (List Rat)=>[au x.1.1,aF x.2.2]) (λx=>IsSl x.1.1 x.1.2/\x.1.1.reverse=x.1.1/\Sg x.1.1 x.1.2 x.2.1 x.2.2) λx=>f6 (fq x.1.1 x.1.2 0 x.2.2)
def yQ:aS:=fnS (λx:SL×List Rat×List Rat=>[au x.1.1,ae x.2.1,ae x.2.2]) (λx=>IsSl x.1.1 x.1.2/\x.1.1.reverse=x.1.1/\Lf 163 x.1.2 x.2.1/\Lf 163 x.1.2 x.2.2/\aY x.1.1 x.1.2 x.2.2 x.2.2≠0) λx=>ae (fZ x.1.1 x.1.2 x.2.2 x.2.1)
def vV:aS:=xS (λx:D=>[x]) (λx=>kd x=true) yO
def pY:aS:=xS (λx:D×D=>[x.1,x.2]) (λx=>kd x.1=true/\kd x.2=true/\kq 170 x.2=true) λx=>ya x.1 x.2 x.2
def yR:aS:=fnS (λx:SL×List (List Rat)=>[au x.1.1,aF x.2]) (λx=>Pq0 x.1.1 x.1.2 x.2) λx=>.bl (decide (x.2.Pairwise λu v=>aY x.1.1 x.1.2 u v=0))
def sU:aS:=fnS (λx:SL×List (List Rat)=>[au x.1.1,aF x.2]) (λx=>Pq0 x.1.1 x.1.2 x.2) λx=>.bl (decide ((cj x.2 x.1.2).ld.length=x.2.length/\x.2.Pairwise λu v=>aY x.1.1 x.1.2 u v=0))
def sV:aS:=fnS (λx:SL×List (List Rat)=>[au x.1.1,aF x.2]) (λx=>Pq0 x.1.1 x.1.2 x.2/\(cj x.2 x.1.2).ld.length=x.2.length/\x.2.Pairwise λu v=>aY x.1.1 x.1.2 u v=0) λx=>nM x.1.1 x.1.2 x.2
def yS:aS:=vV
def vW:aS:=xS (λx:D=>[x]) (λx=>kd x=true) Cu
variable {E:Ex->Prop}{Q:D->Prop}{x y z:D}{s:List Int}{n k b w m:Nat}{r l u v:List Rat}{R P f:List (List Rat)}
theorem M2(h:lP b w m R)(q:Q (.bl (decide ((cj R m).ld.length=R.length)))):yP [aF R,.int m] E Q:=⟨(((b,w),m),R),rfl,h,q⟩
theorem GF(h:IsSl s n)(ev:s.reverse=s)(g:Sg s n f R)(q:Q (f6 (fq s n 0 R))):vU [au s,aF R] E Q:=⟨((s,n),f,R),rfl,⟨h,ev,g⟩,q⟩
theorem M3(h:IsSl s n)(ev:s.reverse=s)(h1:Lf 163 n r)(h2:Lf 163 n l)(h3:aY s n l l≠0)(q:Q (ae (fZ s n l r))):yQ [au s,ae r,ae l] E Q:=⟨((s,n),r,l),rfl,⟨h,ev,h1,h2,h3⟩,q⟩
theorem GG(h:IsSl s n)(ev:s.reverse=s)(q:Q .non):rL [au s] E Q:=xS.ok (au s) rfl h.kd (by(try dsimp only);rw[d7 h];unfold i7;rw[dh,decide_eq_true ev];rfl) q
theorem GH(h:IsSl s n)(ev:s.reverse=s)(q:Q (aF (bw s n))):vV [au s] E Q:=xS.ok (au s) rfl h.kd (by(try dsimp only);unfold yO;rw[d7 h];unfold i7;rw[dh,decide_eq_true ev,h.sN];rfl) q
theorem GI(h:IsSl s n)(ev:s.reverse=s)(q:Q (nM s n (bw s n))):vW [au s] E Q:=xS.ok (au s) rfl h.kd (by(try dsimp only);unfold Cu;rw[d7 h];unfold i7;rw[dh,decide_eq_true ev,h.sN];rfl) q
theorem GJ(h:IsSl s n)(ev:s.reverse=s)(hu:u.length=n)(hv:v.length=n):ya (au s) (ae u) (ae v)=.ok (ay (aY s n u v)):=by
 unfold ya BN;rw[d7 h];unfold i7;have e1:gC n (ae u)=true:=by have:=vb u;rwa [hu] at this
 have e2:gC n (ae v)=true:=by have:=vb v;rwa [hv] at this
 rw[dh,decide_eq_true ev,h.sN,e1,e2,pM,pM];rfl
theorem yT(h:IsSl s n)(ev:s.reverse=s)(hu:u.length=n)(hv:v.length=n)(zu:∀x∈u,Sz 170 x)(zv:∀x∈v,Sz 170 x)(q:Q (ay (aY s n u v))):na [au s,ae u,ae v] E Q:=
 xS.ok (au s,ae u,ae v) rfl ⟨h.kd,sF (by have:=h.n5;omega),sF (by have:=h.n5;omega),Zek.mpr zu,Zek.mpr zv⟩ (GJ h ev hu hv) q
theorem vX(h:IsSl s n)(ev:s.reverse=s)(hu:u.length=n)(zu:∀x∈u,Sz 170 x)(q:Q (ay (aY s n u u))):pY [au s,ae u] E Q:=
 xS.ok (au s,ae u) rfl ⟨h.kd,sF (by have:=h.n5;omega),Zek.mpr zu⟩ (GJ h ev hu hu) q
theorem M4(h:Pq0 s n P)(q:Q (.bl (decide (P.Pairwise λu v=>aY s n u v=0)))):yR [au s,aF P] E Q:=⟨((s,n),P),rfl,h,q⟩
theorem Cv(h:Pq0 s n P)(q:Q (.bl (decide ((cj P n).ld.length=P.length/\P.Pairwise λu v=>aY s n u v=0)))):sU [au s,aF P] E Q:=⟨((s,n),P),rfl,h,q⟩
theorem Cw(h:Pq0 s n P)(h1:(cj P n).ld.length=P.length)(h2:P.Pairwise λu v=>aY s n u v=0)(q:Q (nM s n P)):sV [au s,aF P] E Q:=⟨((s,n),P),rfl,⟨h,h1,h2⟩,q⟩
theorem vY:∀{m:Nat},m<=4->3*bq 168 m<8990:=λ{m} h=>by
 have:=sK (b:=168) h;have e:bq 168 4=2703:=by decide
 omega
theorem Pq0.clin{s:List Int}{n:Nat}{P:List (List Rat)}(p:Pq0 s n P):lP 168 n n P:=⟨bb _,by have:=p.sl.n5;omega,by rw[p.len];have:=p.sl.n5;omega,vY (by have:=p.sl.n5;omega),p.lf⟩
theorem GK{s:List Int}{n b:Nat}(h:IsSl s n){u v:List Rat}(hu:Lf b n u)(hv:Lf b n v):Sz (2*b+11) (aY s n u v):=by
 rw[ky h hu.len hv.len];obtain⟨c,e,h1,h2,h3,h4,rfl⟩:=hu.ex;obtain⟨d,g,g1,g2,g3,g4,rfl⟩:=hv.ex;have gc:∀(c:List Int) (e:Int) j,gq (c.map λx=>Rat.divInt x e) j=Rat.divInt (c.getD j 0) e:=λc e j=>by
  unfold gq;rw[aM,cc,aM];cases c[j]? with
  |none=>show(0:Rat)=Rat.divInt 0 e;rw[zA]
  |some x=>rfl
 have key:bf (Pj.cA (sA s n)) n (gq (c.map λx=>Rat.divInt x e)) (gq (d.map λx=>Rat.divInt x g))=Rat.divInt (Pj.bI (sA s n) n (λj=>c.getD j 0) λj=>d.getD j 0) (e*g):=by
  have ie:((e*g:Int):Rat)⁻¹=((e:Int):Rat)⁻¹*((g:Int):Rat)⁻¹:=by
   have ne:((e:Int):Rat)≠0:=λz=>h2 (by exact_mod_cast z);have ng:((g:Int):Rat)≠0:=λz=>g2 (by exact_mod_cast z);have a1:=qj _ ne;have a2:=qj _ ng;have a3:=qj (((e:Int):Rat)*((g:Int):Rat)) (λz=>by rcases YcU.mp z with z|z;exact ne z;exact ng z);rw[eD];generalize (((e:Int):Rat)*((g:Int):Rat))⁻¹=x at *;grind
  rw[tE,<-Pj.bI_cast,gj,o5,ie];unfold bf;rw[<-Dt.sumN_mul];refine bz λi _=>?_;rw[gc,tE,bz (g:=λj=>((g:Int):Rat)⁻¹*((sA s n i j:Rat)*((d.getD j 0:Int):Rat))) (λj _=>by rw[gc,tE,gj];grind),Dt.sumN_mul,gj];grind
 rw[key];have m5:=h.n5;have cz:∀(c:List Int) (j:Nat),(∀x∈c,x.natAbs<2^b)->(c.getD j 0).natAbs<=2^b:=λc j hc=>by
  rw[aM];cases e:c[j]? with
  |none=>exact jD _
  |some x=>exact jC (hc x (jE e))
 refine sJ (md h2 g2) ?_ ?_
 .have h1:∀i,i<n->(Dt.sumI (λj=>sA s n i j*d.getD j 0) n).natAbs<=n*(50*2^b):=λi hi=>Pj.sumI_bd λj hj=>by
   rw[dE];exact jF (yM h i j hi hj) (cz d j g4)
  have h2:=Pj.sumI_bd (f:=λi=>c.getD i 0*Dt.sumI (λj=>sA s n i j*d.getD j 0) n) (c:=2^b*(n*(50*2^b))) (n:=n) λi hi=>by
   rw[dE];exact jF (cz c i h4) (h1 i hi)
  have h3:n*(2^b*(n*(50*2^b)))<=5*(2^b*(5*(50*2^b))):=jF m5 (Nat.mul_le_mul_left _ (ny _ m5));have e1:2^(2*b+11)=2^b*2^b*2048:=by rw[jO,show 2*b=b+b by omega,jO]
  have e2:5*(2^b*(5*(50*2^b)))=1250*(2^b*2^b):=by grind
  have e3:0<2^b*2^b:=Nat.mul_pos (wx (by decide)) (wx (by decide));unfold Pj.bI;dsimp only;omega
 .rw[dE,jO,show 2*b=b+b by omega,jO]
  have:=o4 h3 g3;omega
abbrev Ze:List Str:=["rows", "many"]
abbrev M5:List Str:=["rows", "many"]
def Cy:WS:=(aj (w2 (gEq false) (wB bA (ad (w2 gIx (wF vw (ad (wN 0) (ad (wN 1) aa))) (wC (D.int (0)))) aa)) (wB bA (ad (wN 0) aa))))
abbrev GL:List Str:=["slants", "rows", "at", "row", "sums", "lead"]
abbrev M6:List Str:=["slants", "rows"]
def yU:WS:=(aT 4 (ai (aL (aU (iE (ad (wN 1) aa)) (bW 2 (aV (gN 2) (aV (gN 3) bR))) (ai (aZ 4 (aLC (iS (aJ (wN 1) (bV (w2 gAdd (wN 2) (wC (D.int (1))))) cP)) 1 [3] (gN 0) bF (wF rO (ad (wN 1) (ad (wF pL (ad (wC (D.tup [(D.int (0)),(D.int (1))])) (ad (wC (D.tup [(D.int (1)),(D.int (1))])) aa))) (ad (wN 0) aa)))))) (aT 4 (aL (aU (iS (w2 gAdd (wL (bh (ad (wN 3) aa))) (wN 4))) (gN 5) (bE (wT (w2 (gEq true) (wF na (ad (wN 0) (ad (wN 5) (ad (wN 5) aa)))) (wC (D.tup [(D.int (0)),(D.int (1))])))) (aj (aQ (ad (wN 2) (ad (wN 5) aa)))) bD))))))) (aj (wC D.non))))
abbrev GM:List Str:=["slants", "row", "lead"]
abbrev Zj:List Str:=["slants", "row", "lead"]
def Cz:WS:=(aj (wF rO (ad (wN 1) (ad (wF m7 (ad (wF na (ad (wN 0) (ad (wN 1) (ad (wN 2) aa)))) (ad (wF na (ad (wN 0) (ad (wN 2) (ad (wN 2) aa)))) aa))) (ad (wN 2) aa)))))
abbrev GN:List Str:=["slants", "size", "found", "rest", "place_and_lead", "at", "lead"]
abbrev M7:List Str:=["slants"]
def yV:WS:=(ai (dg (wF rL (ad (wN 0) aa))) (ai (ax 1 (wF lX (ad (wN 0) aa))) (ai (aZ 2 (bh aa)) (ai (aZ 3 (aLC (dS (ad (wN 1) aa)) 1 [1] (gN 0) bF (wF vt (ad (wN 0) (ad (wN 1) aa))))) (aT 3 (ai (ax 4 (wF vU (ad (wN 0) (ad (wN 3) aa)))) (aT 3 (ai (aL (xr (wT (w2 (gIsC true) (wN 4) (wC D.non))) (ai (bJ (wN 4) (bW 2 (aV (gN 5) (aV (gN 6) bR)))) (ai (bC 2 (wN 6)) (aT 3 (ai (aZ 3 (aLC (iS (w2 gAdd (aJ (wN 3) cP (bV (wN 5))) (aJ (wN 3) (bV (w2 gAdd (wN 5) (wC (D.int (1))))) cP))) 1 [0,6] (gN 0) bF (wF yQ (ad (wN 1) (ad (wN 0) (ad (wN 2) aa)))))) (aT 3 (ax 4 (wF vU (ad (wN 0) (ad (wN 3) aa))))))))))) (aT 2 (aT 3 (aj (w2 gAdd (wN 2) (wN 3)))))))))))))
abbrev GO:List Str:=["slants", "row"]
abbrev M8:List Str:=["slants", "row"]
def CA:WS:=(aj (wF na (ad (wN 0) (ad (wN 1) (ad (wN 1) aa)))))
abbrev GP:List Str:=["slants", "rows"]
abbrev M9:List Str:=["slants", "rows"]
def yW:WS:=(aj (wB jq (ad (wL (vT (iE (ad (wN 1) aa)) 3 [0,1] (bW 2 (aV (gN 0) (aV (gN 1) bR))) bF (iS (aJ (wN 4) (bV (w2 gAdd (wN 0) (wC (D.int (1))))) cP)) (gN 2) bF (w2 (gEq false) (wF na (ad (wN 3) (ad (wN 1) (ad (wN 2) aa)))) (wC (D.tup [(D.int (0)),(D.int (1))]))))) aa)))
abbrev GQ:List Str:=["slants", "thing", "size"]
abbrev Na:List Str:=["slants", "thing"]
def yX:WS:=(ai (dg (wF rL (ad (wN 0) aa))) (ai (ax 2 (wF lX (ad (wN 0) aa))) (ai (bE (dB (aX (wT (wB gIs (ad (wN 1) (ad (wC (.ty "list")) aa))))) (wT (w2 (gEq true) (wB bA (ad (wN 1) aa)) (wN 2)))) (aj (wC (D.bl false))) bD) (ai (bE (aX (wT (wB jq (ad (wL (aLC (iS (wN 1)) 1 [0] (gN 0) bF (wF rp (ad (wN 1) (ad (wN 0) aa))))) aa)))) (aj (wC (D.bl false))) bD) (aj (eu (wF yP (ad (wN 1) (ad (wN 2) aa))) (wF yR (ad (wN 0) (ad (wN 1) aa)))))))))
abbrev GR:List Str:=["slants", "paper", "tops", "above", "below"]
abbrev Nb:List Str:=["slants", "paper"]
def yY:WS:=(ai (bE (aX (wT (wF sU (ad (wN 0) (ad (wN 1) aa))))) (eh (PySem.Str.ofString "NoRow")) bD) (ai (aZ 2 (aLC (iS (wN 1)) 1 [0] (gN 0) bF (w2 gIx (wF pY (ad (wN 1) (ad (wN 0) aa))) (wC (D.int (0)))))) (aT 2 (ai (ax 3 (wB bA (ad (wL (aLC (iS (wN 2)) 1 [] (gN 0) (wT (w2 lG (wN 0) (wC (D.int (0))))) (wN 0))) aa))) (aT 2 (ai (ax 4 (wB bA (ad (wL (aLC (iS (wN 2)) 1 [] (gN 0) (wT (w2 mY (wN 0) (wC (D.int (0))))) (wN 0))) aa))) (aT 2 (aj (aQ (ad (wN 3) (ad (wN 4) (ad (w2 fj (w2 fj (wB bA (ad (wN 2) aa)) (wN 3)) (wN 4)) aa))))))))))))
abbrev GS:List Str:=["slants"]
abbrev Nc:List Str:=["slants"]
def CB:WS:=(aj (wF vV (ad (wN 0) aa)))
abbrev GT:List Str:=["slants"]
abbrev Nd:List Str:=["slants"]
def CD:WS:=(aj (wF sV (ad (wN 0) (ad (wF yS (ad (wN 0) aa)) aa))))
local macro_rules | `(tactic| walk_at "w1")=>`(tactic| simp only [aj,bE,ax,bD,dg,aT,aZ,aU,fi,bS,bJ,bC,d6,cb,fV,aL,eh,df,wM,Zcp,eu,cH,fg,cG,dB,aX,wT,eO,w1,w2,wB,wF,wL,aQ,aJ,ZaM,aB,bh,ad,aa,aLC,Zbq,bF,iS,iE,iL,iT,dS,eY,iZ,cP,bV,wN,wC,gN,bW,aV,bR,bN,fA,cq,cJ,cK,bM,cL,bT,cm,aCut,aH,pub,bL,dM,cO,eW,dW,c9,List.replicate,b9,cF,dO,dP,Nat.reduceSub,Nat.reduceAdd,dJ,fH,true_and,da,if_true,if_false,ite_true,ite_false,eK,dQ,gF,
 fX,gW,gX,gY,gZ,g6,g9,hJ,hU,hV,hW,hX,hZ,h8,h9,ia,ic,ig,ii,ij,ik,il,ip,iq,ir,iu,iw,Zb,iy,iz,iA,iB,iC,iD,iF,iG,iH,iI,iJ,iK,iM,iN,iO,iP,iQ,iR,iU,iV,iW,cV,iX,iY,i3,i4,i6,c7,c8])
local macro_rules | `(tactic| walk_at "st")=>`(tactic| ((try dsimp only at *);(try walk_at "w1");(try dsimp only)))
local macro_rules | `(tactic| walk_at "nx")=>`(tactic| ((try dsimp only);(refine a8 ?_);walk_at "st"))
theorem Nf:∀ds E Q,yP ds E Q->Cy E { nx:=λ_=>Q .non,rt:=Q } (aH Ze ds):=by
 rintro _ E Q ⟨⟨⟨⟨b,w⟩,m⟩,R⟩,rfl,h,q⟩;dsimp only at h q;unfold Cy;walk_at "st";refine Fw h ?_;refine⟨_,rfl,?_⟩;unfold aF;walk_at "st";rw[aW,aW,show((((cj R m).ld.length:Nat):Int)==((R.length:Nat):Int))=decide ((cj R m).ld.length=R.length) by rw[jN];simp;exact Int.ofNat_inj];exact q
theorem Ng:∀ds E Q,pY ds E Q->CA E { nx:=λ_=>Q .non,rt:=Q } (aH GO ds):=by
 rintro _ E Q ⟨⟨x,y⟩,rfl,⟨h1,h2,h3⟩,q⟩;dsimp only at h1 h2 h3 q;unfold CA;walk_at "st";exact⟨(x,y,y),rfl,⟨h1,h2,h2,h3,h3⟩,q⟩
theorem Nh:∀ds E Q,yQ ds E Q->Cz E { nx:=λ_=>Q .non,rt:=Q } (aH GM ds):=by
 rintro _ E Q ⟨⟨⟨s,n⟩,r,l⟩,rfl,⟨h,ev,hr,hl,h0⟩,q⟩;dsimp only at h ev hr hl h0 q;unfold Cz;walk_at "st";have up:∀x:Rat,Sz 163 x->Sz 170 x:=λx hx=>hx.mono (by decide);have z1:=GK h hr hl;have z2:=GK h hl hl;refine yT h ev hr.len hl.len (λx hx=>up x (hr.sz x hx)) (λx hx=>up x (hl.sz x hx)) (yT h ev hl.len hl.len (λx hx=>up x (hl.sz x hx)) (λx hx=>up x (hl.sz x hx)) (va (B2.of z1 z2 (by decide)) h0 ?_));exact BX (b:=674) (by decide) (by rw[hr.len];have:=h.n5;omega) (λy hy=>(hr.sz y hy).mono (by decide)) ((z1.div z2).mono (by decide)) (λy hy=>(hl.sz y hy).mono (by decide)) q
theorem GU{q:Rat}{neg:Bool}{P:D->Prop}(h:P (.bl (if neg then !decide (q=0) else decide (q=0)))):gEq neg (ay q) (.tup [.int 0,.int 1]) P:=by
 refine xz (uY _ 59) (by decide +kernel) ?_;have e:m6 (ay q) (.tup [.int 0,.int 1])=decide (q=0):=by
  rw[<-BI,Fd]
 rw[e];exact h
theorem GV{s:List Int}{n:Nat}{Q:D->Prop}{E:Ex->Prop}{N:Nds}{s1 s3 s4:SV}{k:Nat}(h:IsSl s n)(ev:s.reverse=s)(hN:N.rt=Q):∀(L:List (List Rat)) (s5:SV),(∀r∈L,Lf 163 n r)->(∀l,lS s n L=some l->Q (.tup [.int k,ae l]))->(lS s n L=none->∀s5,N.nx [.d (au s),s1,.d (.int k),s3,s4,s5])->ZbW (gN 5) (bE (wT (w2 (gEq true) (wF na (ad (wN 0) (ad (wN 5) (ad (wN 5) aa)))) (wC (D.tup [(D.int (0)),(D.int (1))])))) (aj (aQ (ad (wN 2) (ad (wN 5) aa)))) bD) E N (L.map ae) [.d (au s),s1,.d (.int k),s3,s4,s5]
 |[],s5,_,_,h2=>h2 rfl s5
 |r::L,s5,hl,h1,h2=>by
  rw[bL,ZbW];simp only[gN,dP,dO];have hr:=hl r (by simp);have up:∀x∈r,Sz 170 x:=λx hx=>(hr.sz x hx).mono (by decide);refine fW (b:=!decide (aY s n r r=0)) (λP hP=>?_) (λe=>?_) λe=>?_
  .walk_at "st"
   exact yT h ev hr.len hr.len up up (GU hP)
  .have e0:¬aY s n r r=0:=by simpa using e
   have:=h1 r (by rw[lS,if_neg e0]);rw[<-hN] at this;walk_at "st";exact⟨by decide,this⟩
  .have e0:aY s n r r=0:=by simpa using e
   exact GV h ev hN L _ (λx hx=>hl x (by simp[hx])) (λl hl'=>h1 l (by rw[lS,if_pos e0];exact hl')) λhn=>h2 (by rw[lS,if_pos e0];exact hn)
theorem Sg.sums{s:List Int}{n:Nat}(h:IsSl s n){f R:List (List Rat)}(g:Sg s n f R):∀r∈R,∀o∈R,Lf 163 n (a9 r (-1) o):=λr hr o ho=>by
 obtain⟨M,m,hM⟩:=g.ex;obtain⟨v,hv,hl⟩:=hM r hr;obtain⟨v',hv',hl'⟩:=hM o ho;obtain⟨⟨x,hx⟩,h2⟩:=hl.add hl';have eq:=yK (q:=-1) (g.wR r hr) (g.wR o ho);have hlen:=g.len;have:0<R.length:=List.length_pos_of_mem hr;have lt:Pj.Lt (sA s n) n f.length M (λj=>v j+v' j) (gq (a9 r (-1) o)):=⟨⟨x,λj hj=>(eq j hj).trans (hx j hj)⟩,λi hi=>by rw[sR (λ_ _=>rfl) eq];exact h2 i hi⟩
 have:=lt.lf h.n5 (yM h) m (by have:=h.n5;omega) λj hj=>by
  have:=qh (v j) (v' j);have:=hv j hj;have:=hv' j hj;omega
 rwa [yL (rZ (g.wR r hr) (g.wR o ho))] at this
theorem GW{s:List Int}{n:Nat}{Q:D->Prop}{E:Ex->Prop}{N:Nds}{f R:List (List Rat)}(h:IsSl s n)(ev:s.reverse=s)(g:Sg s n f R)(hN:N.rt=Q):∀(R':List (List Rat)) (k:Nat) (s2 s3 s4 s5:SV),R.drop k=R'->k+R'.length=R.length->(∀a l,fq s n k R'=some (a,l)->Q (.tup [.int (a:Int),ae l]))->(fq s n k R'=none->∀s2 s3 s4 s5,N.nx [.d (au s),.d (aF R),s2,s3,s4,s5])->ZbW (bW 2 (aV (gN 2) (aV (gN 3) bR))) (ai (aZ 4 (aLC (iS (aJ (wN 1) (bV (w2 gAdd (wN 2) (wC (D.int (1))))) cP)) 1 [3] (gN 0) bF (wF rO (ad (wN 1) (ad (wF pL (ad (wC (D.tup [(D.int (0)),(D.int (1))])) (ad (wC (D.tup [(D.int (1)),(D.int (1))])) aa))) (ad (wN 0) aa)))))) (aT 4 (aL (aU (iS (w2 gAdd (wL (bh (ad (wN 3) aa))) (wN 4))) (gN 5) (bE (wT (w2 (gEq true) (wF na (ad (wN 0) (ad (wN 5) (ad (wN 5) aa)))) (wC (D.tup [(D.int (0)),(D.int (1))])))) (aj (aQ (ad (wN 2) (ad (wN 5) aa)))) bD))))) E N (cx k (R'.map ae)) [.d (au s),.d (aF R),s2,s3,s4,s5]
 |[],k,s2,s3,s4,s5,_,_,_,h2=>h2 rfl s2 s3 s4 s5
 |r::R',k,s2,s3,s4,s5,hd,hk,h1,h2=>by
  rw[bL,cx,ZbW];refine⟨rfl,?_⟩;simp only[aV,bR,gN,dP,dO];have n5:=h.n5;have gl:=g.len;have hr:r∈R:=kE (i:=k) (by rw[hd];simp);have hR':∀o∈R',o∈R:=λo ho=>kE (i:=k) (by rw[hd];simp[ho]);have tl:R.drop (k+1)=R':=by rw[<-List.drop_drop,hd];rfl
  simp only[cO] at hk;have lr:=g.rows h r hr;refine a8 (B.C.own_by (xs:=(R'.map λo=>a9 r (-1) o).map ae) (ρ':=[.d (au s),.d (aF R),.d (.int k),.d (ae r),.ow ((R'.map λo=>a9 r (-1) o).map ae),s5]) rfl (λP hP=>?_) ?_)
  .unfold aF
   walk_at "st";rw[show(k:Int)+1=((k+1:Nat):Int) by omega,rE (by rw[aW];omega),<-nA,tl];refine jJ (g:=ae) (f:=λo=>ae (a9 r (-1) o)) R' (λo ho P hP=>?_) .un [] (fD (by simp;omega)) ?_
   .walk_at "st"
    refine AM (p:=0) (q:=1) (B2.of (n:=1) (m:=1) (Sz.zero (by decide)) (Sz.int 1 (by decide) (by decide)) (by decide)) ?_;rw[show(0:Rat)-1 = -1 from by decide +kernel];have lo:=g.rows h o (hR' o ho);exact BX (b:=163) (by decide) (by rw[lr.len];omega) lr.sz (Sz.mono (n:=2) (by decide) ⟨by decide,by decide⟩) lo.sz hP
   .rw[c9,cr] at *
    exact hP
  dsimp only;refine B.C.pub_by (ρ':=[.d (au s),.d (aF R),.d (.int k),.d (ae r),.d (.lst ((R'.map λo=>a9 r (-1) o).map ae)),s5]) rfl ?_;simp only[aL];refine B.C.for_seq (xs:=(r::R'.map λo=>a9 r (-1) o).map ae) (λP hP=>?_) ?_
  .walk_at "st"
   exact⟨by decide,fD (by simp;omega),hP⟩
  refine GV (Q:=Q) h ev (by exact hN) _ _ (λo ho=>?_) (λl hl=>h1 k l (by rw[fq,hl])) λhn s5'=>?_
  .rcases Yaq.mp ho with rfl|ho
   .exact lr
   .obtain⟨o',ho',rfl⟩:=YbT.mp ho
    exact g.sums h r hr o' (hR' o' ho')
  .exact GW h ev g hN R' (k+1) _ _ _ _ tl (by omega) (λa l hl=>h1 a l (by rw[fq,hn];exact hl)) λhn2=>h2 (by rw[fq,hn];exact hn2)
theorem Ni:∀ds E Q,vU ds E Q->yU E { nx:=λ_=>Q .non,rt:=Q } (aH GL ds):=by
 rintro _ E Q ⟨⟨⟨s,n⟩,f,R⟩,rfl,⟨h,ev,g⟩,q⟩;dsimp only at h ev g q;show yU E _ [.d (au s),.d (aF R),.un,.un,.un,.un];unfold yU;refine B.C.pub_by (ρ':=[.d (au s),.d (aF R),.un,.un,.un,.un]) rfl ?_;refine a8 ?_;simp only[aL,aU];show iE _ _ [.d (au s),.d (.lst (R.map ae)),.un,.un,.un,.un] _;simp only[iE,ad,aa,wN,b9,cF];refine GW (Q:=Q) h ev g rfl R 0 .un .un .un .un (by simp) (by simp) (λa l e=>?_) λe s2 s3 s4 s5=>?_
 .rw[e] at q;exact q
 .rw[e] at q;exact q
theorem GX{w:WE}{E:Ex->Prop}{ρ:aN}{b:Bool}{P:Bool->Prop}(hw:∀P:D->Prop,P (.bl b)->w E ρ P)(h:P b):wT w E ρ P:=hw _ h
theorem Nj{w:WE}{i j:Nat}{E:Ex->Prop}{N:Nds}{ρ ρ':aN}{x y:D}(hw:∀P:D->Prop,P (.tup [x,y])->w E ρ P)(e:(ρ.set i (.d x)).set j (.d y)=ρ')(h:N.nx ρ'):bJ w (bW 2 (aV (gN i) (aV (gN j) bR))) E N ρ:=hw _ ⟨rfl,by rw[<-e] at h;exact h⟩
theorem Nk:∀ds E Q,vV ds E Q->yV E { nx:=λ_=>Q .non,rt:=Q } (aH GN ds):=by
 rintro _ E Q ⟨x,rfl,hk,q⟩;show yV E _ [.d x,.un,.un,.un,.un,.un,.un];unfold yV;walk_at "nx";unfold yO at q;cases e:dC x with
 |false=>exact xS.err x rfl hk (kj e) (jx e q)
 |true=>
 obtain⟨s,n,rfl,h⟩:=km e;replace q:=jy h q;cases ev:i7 (au s) with
 |false=>
  rw[ev] at q;exact xS.err (au s) rfl hk (by(try dsimp only);rw[d7 h,ev];rfl) q
 |true=>
 rw[ev,dh,h.sN] at q;simp only[if_true] at q;have ev':s.reverse=s:=by unfold i7 at ev;rw[dh] at ev;simpa using ev
 have n5:=h.n5;refine GG h ev' ?_;walk_at "nx";refine rq h ?_;show ai _ _ _ _ [.d (au s),.d (.int n),.un,.un,.un,.un,.un];refine a8 (B.C.own_by (xs:=[]) (ρ':=[.d (au s),.d (.int n),.ow [],.un,.un,.un,.un]) rfl (λP hP=>⟨by decide,hP⟩) ?_);dsimp only;refine a8 (B.C.own_by (xs:=((List.range n).map (aA n)).map ae) (ρ':=[.d (au s),.d (.int n),.ow [],.ow (((List.range n).map (aA n)).map ae),.un,.un,.un]) rfl (λP hP=>?_) ?_)
 .walk_at "st"
  refine⟨by omega,by omega,?_⟩;rw[oN];refine jJ (g:=λk:Nat=>D.int (k:Int)) (f:=λk=>ae (aA n k)) (List.range n) (λk hk P hP=>?_) .un [] (fD (by simp;omega)) ?_
  .walk_at "st"
   exact Fs n5 hP
  .rw[c9,cr] at *
   exact hP
 dsimp only;refine B.C.pub_by (ρ':=[.d (au s),.d (.int n),.ow [],.d (aF ((List.range n).map (aA n))),.un,.un,.un]) rfl ?_;have g0:=Sg.start h;refine a8 (fY (d:=f6 (fq s n 0 ((List.range n).map (aA n)))) (ρ':=[.d (au s),.d (.int n),.ow [],.d (aF ((List.range n).map (aA n))),.d (f6 (fq s n 0 ((List.range n).map (aA n)))),.un,.un]) rfl (λP hP=>?_) ?_)
 .walk_at "st"
  exact GF h ev' g0 hP
 dsimp only;refine B.C.pub_by (ρ':=[.d (au s),.d (.int n),.ow [],.d (aF ((List.range n).map (aA n))),.d (f6 (fq s n 0 ((List.range n).map (aA n)))),.un,.un]) rfl ?_;refine a8 ?_;simp only[aL];refine⟨λm ρ=>∃f R s5 s6 k,m=R.length/\Sg s n f R/\R.length<=k/\rY s n k f R=bw s n/\ρ=[.d (au s),.d (.int n),.ow (f.map ae),.d (aF R),.d (f6 (fq s n 0 R)),s5,s6],⟨_,[],_,.un,.un,n,rfl,g0,by simp,rfl,rfl⟩,?_⟩;rintro m _ ⟨f,R,s5,s6,k,rfl,g,hkR,hap,rfl⟩;have gl:=g.len;cases el:fq s n 0 R with
 |none=>
  rw[show f6 (none:Option (Nat×List Rat))=.non from rfl];refine GX (b:=false) (λP hP=>⟨rfl,hP⟩) ?_;rw[if_neg (by decide)];have efin:f++R=bw s n:=by
   rw[<-hap];cases k with
   |zero=>rfl
   |succ k=>rw[rY,el]
  dsimp only;refine B.C.pub_by (ρ':=[.d (au s),.d (.int n),.d (.lst (f.map ae)),.d (aF R),.d .non,s5,s6]) rfl ?_;refine B.C.pub_by (ρ':=[.d (au s),.d (.int n),.d (.lst (f.map ae)),.d (.lst (R.map ae)),.d .non,s5,s6]) rfl ?_;walk_at "st";refine⟨fD (by simp;omega),?_⟩;rw[<-kT,efin];exact q
 |some al=>
  obtain⟨a,l⟩:=al;have d:=g.ld el;have ha:=d.at_;have hl:=d.lf h g;rw[show f6 (some (a,l))=.tup [.int (a:Int),ae l] from rfl];refine GX (b:=true) (λP hP=>⟨rfl,hP⟩) ?_;rw[if_pos rfl];refine a8 (Nj (x:=.int (a:Int)) (y:=ae l) (nm_at rfl) (ρ':=[.d (au s),.d (.int n),.ow (f.map ae),.d (aF R),.d (.tup [.int (a:Int),ae l]),.d (.int (a:Int)),.d (ae l)]) rfl ?_);dsimp only;refine a8 (vB (xs:=f.map ae) (d:=ae l) (ρ':=[.d (au s),.d (.int n),.ow ((f++[l]).map ae),.d (aF R),.d (.tup [.int (a:Int),ae l]),.d (.int (a:Int)),.d (ae l)]) rfl (cv (show _<2000 by rw[aW];omega) (by decide)) (by rw[kT];rfl) (nm_at rfl) ?_);dsimp only;refine B.C.pub_by (ρ':=[.d (au s),.d (.int n),.ow ((f++[l]).map ae),.d (.lst (R.map ae)),.d (.tup [.int (a:Int),ae l]),.d (.int (a:Int)),.d (ae l)]) rfl ?_;refine a8 (B.C.own_by (xs:=((R.take a++R.drop (a+1)).map (fZ s n l)).map ae) (ρ':=[.d (au s),.d (.int n),.ow ((f++[l]).map ae),.ow (((R.take a++R.drop (a+1)).map (fZ s n l)).map ae),.d (.tup [.int (a:Int),ae l]),.d (.int (a:Int)),.d (ae l)]) rfl (λP hP=>?_) ?_)
  .walk_at "st"
   rw[pO (b:=a) rfl,show((a:Int)+1)=((a+1:Nat):Int) by omega,rE (by rw[aW];omega),<-l8,<-nA];refine⟨fD (by simp;omega),?_⟩;rw[<-kT];refine jJ (g:=ae) (f:=λr=>ae (fZ s n l r)) (R.take a++R.drop (a+1)) (λr hr P hP=>?_) .un [] (fD (by simp;omega)) ?_
   .walk_at "st"
    exact M3 h ev' (g.rows h r (jA hr)) hl d.nz hP
   .rw[c9,cr] at *
    exact hP
  dsimp only;have g':=g.step h ev' d;refine B.C.pub_by (ρ':=[.d (au s),.d (.int n),.ow ((f++[l]).map ae),.d (aF ((R.take a++R.drop (a+1)).map (fZ s n l))),.d (.tup [.int (a:Int),ae l]),.d (.int (a:Int)),.d (ae l)]) rfl ?_;refine fY (d:=f6 (fq s n 0 ((R.take a++R.drop (a+1)).map (fZ s n l)))) (ρ':=[.d (au s),.d (.int n),.ow ((f++[l]).map ae),.d (aF ((R.take a++R.drop (a+1)).map (fZ s n l))),.d (f6 (fq s n 0 ((R.take a++R.drop (a+1)).map (fZ s n l)))),.d (.int (a:Int)),.d (ae l)]) rfl (λP hP=>?_) ?_
  .walk_at "st"
   exact GF h ev' g' hP
  have len':((R.take a++R.drop (a+1)).map (fZ s n l)).length=R.length-1:=by rw[aW,dj,jf,jM];omega
  refine⟨_,?_,f++[l],_,_,_,k-1,rfl,g',by rw[len'];omega,?_,rfl⟩
  .rw[len'];omega
  .rw[<-hap]
   cases k with
   |zero=>omega
   |succ k=>rw[rY,el];rfl
theorem Zni{q:Rat}:(q.num>0↔0<q)/\(q.num<0↔q<0):=by
 have h1:=Rat.num_nonneg (q:=q);have h2:=Rat.num_eq_zero (q:=q);constructor
 .constructor
  .intro h
   have a:=h1.mp (by omega);have:q≠0:=λz=>by have:=h2.mpr z;omega
   grind
  .intro h
   have a:=h1.mpr (by grind);have:q.num≠0:=λz=>by have:=h2.mp z;grind
   omega
 .constructor
  .intro h
   have:¬0<=q:=λz=>by have:=h1.mpr z;omega
   grind
  .intro h
   have:¬0<=q.num:=λz=>by have:=h1.mp z;grind
   omega
def pZ(s:List Int)(n:Nat):List (List Rat)->List Bool
 |[]=>[]
 |r::R=>(R.map λo=>decide (aY s n r o=0))++pZ s n R
theorem GY{s:List Int}{n:Nat}:∀R:List (List Rat),(pZ s n R).all id=decide (R.Pairwise λu v=>aY s n u v=0)
 |[]=>by simp[pZ]
 |r::R=>by
  rw[pZ,List.all_append,GY R,jN];simp
theorem GZ{a b:SV}{tail:aN}{we:WE}{f:List Rat->D}:∀(L:List (List Rat)) (sv:SV) (acc:List D) (Q:aN->List D->Prop),(∀o∈L,∀P:D->Prop,P (f o)->we No (a::b::.d (ae o)::tail) P)->acc.length+L.length<=aw->(∀sv,Q (a::b::sv::tail) (acc++L.map f))->lcV (gN 2) bF we (L.map ae) (a::b::sv::tail) acc Q
 |[],sv,acc,Q,_,_,hq=>by have:=hq sv;rw[dM,p8] at this;exact this
 |o::L,sv,acc,Q,h,hl,hq=>by
  rw[bL,lcV];simp only[gN,dP,dO,bF];rw[if_pos trivial];simp only[cO] at hl;refine h o (by simp) _ ⟨by omega,GZ L _ _ Q (λo' ho'=>h o' (by simp[ho'])) (by simp;omega) λsv=>?_⟩;have:=hq sv;rw[bL] at this;rw[nu];exact this
theorem G0{s:List Int}{n:Nat}{P:List (List Rat)}{Q:List D->Prop}(p:Pq0 s n P):∀(R:List (List Rat)) (k:Nat) (s0 s1 s2:SV) (acc:List D),P.drop k=R->k+R.length=P.length->acc.length+R.length*R.length<=100->Q (acc++(pZ s n R).map D.bl)->lcW2 (bW 2 (aV (gN 0) (aV (gN 1) bR))) bF (iS (aJ (wN 4) (bV (w2 gAdd (wN 0) (wC (D.int (1))))) cP)) (gN 2) bF (w2 (gEq false) (wF na (ad (wN 3) (ad (wN 1) (ad (wN 2) aa)))) (wC (D.tup [(D.int (0)),(D.int (1))]))) (cx k (R.map ae)) [s0,s1,s2,.d (au s),.d (aF P)] acc Q
 |[],k,s0,s1,s2,acc,_,_,_,hq=>by
  rw[dM,cx,lcW2];rw[pZ,dM,p8] at hq;exact hq
 |r::R,k,s0,s1,s2,acc,hd,hk,ha,hq=>by
  rw[bL,cx,lcW2];refine⟨rfl,?_⟩;simp only[aV,bR,gN,dP,dO,bF];rw[if_pos trivial];have n5:=p.sl.n5;have pl:=p.len;simp only[cO] at hk ha;have hr:r∈P:=kE (i:=k) (by rw[hd];simp);have hR:∀o∈R,o∈P:=λo ho=>kE (i:=k) (by rw[hd];simp[ho]);have tl:P.drop (k+1)=R:=by rw[<-List.drop_drop,hd];rfl
  have up:∀o∈P,∀x∈o,Sz 170 x:=λo ho x hx=>((p.lf o ho).sz x hx).mono (by decide);unfold aF;walk_at "st";rw[show(k:Int)+1=((k+1:Nat):Int) by omega,rE (by rw[aW];omega),<-nA,tl];rw[nw,Nat.mul_succ] at ha;refine GZ (f:=λo=>.bl (decide (aY s n r o=0))) R _ _ _ (λo ho P' hP=>?_) (fD (by omega)) λsv=>?_
  .walk_at "st"
   exact yT p.sl p.ev (p.lf r hr).len (p.lf o (hR o ho)).len (up r hr) (up o (hR o ho)) (GU hP)
  .refine G0 p R (k+1) _ _ _ _ tl (by omega) (by rw[dj,aW];omega) ?_
   rw[pZ,kT,cr] at hq;rw[nu];exact hq
theorem Nl:∀ds E Q,yR ds E Q->yW E { nx:=λ_=>Q .non,rt:=Q } (aH GP ds):=by
 rintro _ E Q ⟨⟨⟨s,n⟩,P⟩,rfl,p,q⟩;dsimp only at p q;show yW E _ [.d (au s),.d (aF P)];unfold yW;have n5:=p.sl.n5;have pl:=p.len;show lcW2 _ _ _ _ _ _ (cx 0 (P.map ae)) [.un,.un,.un,.d (au s),.d (aF P)] [] _;refine G0 p P 0 _ _ _ [] (by simp) (by simp) ?_ ?_
 .rw[pl]
  have:n*n<=5*5:=jF n5 n5;simp;omega
 .refine⟨pZ s n P,rfl,?_⟩
  rw[GY];exact q
theorem Nm:∀ds E Q,sU ds E Q->yX E { nx:=λ_=>Q .non,rt:=Q } (aH GQ ds):=by
 rintro _ E Q ⟨⟨⟨s,n⟩,P⟩,rfl,p,q⟩;dsimp only at p q;have n5:=p.sl.n5;have pl:=p.len;show yX E _ [.d (au s),.d (aF P),.un];unfold yX;walk_at "nx";refine GG p.sl p.ev ?_;walk_at "nx";refine rq p.sl ?_;show ai _ _ _ _ [.d (au s),.d (.lst (P.map ae)),.d (.int n)];refine a8 (fW (b:=false) (B.C.or_by (b:=false) (c:=false) (λP' h=>?_) λP' h=>?_) (λe=>nomatch e) λ_=>?_)
 .walk_at "st"
  refine⟨"list",rfl,by decide,?_⟩;walk_at "st";exact h
 .walk_at "st"
  rw[aW,pl];simpa using h
 dsimp only;refine a8 (fW (b:=false) (λP' h=>?_) (λe=>nomatch e) λ_=>?_)
 .walk_at "st"
  refine jJ (g:=ae) (f:=λ_=>.bl true) P (λr hr P'' hP=>?_) .un [] (fD (by simp;omega)) ?_
  .walk_at "st"
   refine AR p.sl (sF (by rw[(p.lf r hr).len];omega)) ?_;have:=vb r;rw[(p.lf r hr).len] at this;rw[this];exact hP
  .refine⟨P.map λ_=>true,by rw[c9,cr];rfl,?_⟩
   rw[show(P.map λ_=>true).all id=true by simp];exact h
 dsimp only;show aj _ _ _ [.d (au s),.d (aF P),.d (.int n)];walk_at "st";refine M2 p.clin ?_
 by_cases h1:(cj P n).ld.length=P.length
 .rw[decide_eq_true h1]
  walk_at "st";refine M4 p ?_;rw[show decide (P.Pairwise λu v=>aY s n u v=0)=decide ((cj P n).ld.length=P.length/\P.Pairwise λu v=>aY s n u v=0) by rw[jN];simp[h1]];exact q
 .rw[Ox h1]
  rw[Ox (λz=>h1 z.1)] at q;exact q
theorem Nn:∀ds E Q,yS ds E Q->CB E { nx:=λ_=>Q .non,rt:=Q } (aH GS ds):=by
 rintro _ E Q ⟨x,rfl,hk,q⟩;unfold CB;walk_at "st";exact⟨x,rfl,hk,q⟩
theorem Np:∀ds E Q,sV ds E Q->yY E { nx:=λ_=>Q .non,rt:=Q } (aH GR ds):=by
 rintro _ E Q ⟨⟨⟨s,n⟩,P⟩,rfl,⟨p,h1,h2⟩,q⟩;dsimp only at p h1 h2 q;have n5:=p.sl.n5;have pl:=p.len;show yY E _ [.d (au s),.d (aF P),.un,.un,.un];unfold yY;refine a8 (fW (b:=false) (λP' h=>?_) (λe=>nomatch e) λ_=>?_)
 .walk_at "st"
  refine Cv p ?_;rw[decide_eq_true ⟨h1,h2⟩];exact h
 dsimp only;refine a8 (B.C.own_by (xs:=(P.map λr=>(aY s n r r).num).map D.int) (ρ':=[.d (au s),.d (aF P),.ow ((P.map λr=>(aY s n r r).num).map D.int),.un,.un]) rfl (λP' h=>?_) ?_)
 .show lcW _ _ _ (P.map ae) [.un,.d (au s)] [] _
  refine jJ (g:=ae) (f:=λr=>.int (aY s n r r).num) P (λr hr P'' hP=>?_) .un [] (fD (by simp;omega)) ?_
  .walk_at "st"
   refine vX p.sl p.ev (p.lf r hr).len (λx hx=>((p.lf r hr).sz x hx).mono (by decide)) ?_;exact⟨_,rfl,hP⟩
  .rw[c9]
   rw[cr] at h;exact h
 dsimp only;refine B.C.pub_by (ρ':=[.d (au s),.d (aF P),.d (.lst ((P.map λr=>(aY s n r r).num).map D.int)),.un,.un]) rfl ?_;have dH:∀(c:Int->Bool) (d:Rat->Bool) (w:WT),(∀q:Rat,c q.num=d q)->(∀(i:Int) (P':Bool->Prop),P' (c i)->w No [.d (.int i)] P')->∀(ρ:aN) (P':D->Prop),P' (.int (((P.filter λr=>d (aY s n r r)).length:Nat):Int))->wB bA (ad (wL (aLC (iS (wC (.lst ((P.map λr=>(aY s n r r).num).map D.int)))) 1 [] (gN 0) w (wN 0))) aa) E ρ P':=λc d w hc hw ρ P' hP=>by
  show lcW _ _ _ ((P.map λr=>(aY s n r r).num).map D.int) [.un] [] _;rw[cr];refine yn (g:=λr=>D.int (aY s n r r).num) (f:=λr=>D.int (aY s n r r).num) (p:=λr=>d (aY s n r r)) P (λr hr P'' h=>?_) (λr hr P'' h=>h) .un [] (fD (by simp;omega)) ?_
  .exact hw _ _ (by rw[hc];exact h)
  .walk_at "st"
   rw[aW];exact hP
 refine a8 (fY (d:=.int (f8 s n P:Int)) (ρ':=[.d (au s),.d (aF P),.d (.lst ((P.map λr=>(aY s n r r).num).map D.int)),.d (.int (f8 s n P:Int)),.un]) rfl (λP' h=>?_) ?_)
 .refine dH (λi=>decide (i>0)) (λq=>decide (0<q)) (wT (w2 lG (wN 0) (wC (D.int (0))))) (λq=>by rw[jN,Ou,Ou];exact Zni.1) (λi P'' h=>?_) _ P' h
  walk_at "st";exact h
 dsimp only;refine B.C.pub_by (ρ':=[.d (au s),.d (aF P),.d (.lst ((P.map λr=>(aY s n r r).num).map D.int)),.d (.int (f8 s n P:Int)),.un]) rfl ?_;refine a8 (fY (d:=.int (jb s n P:Int)) (ρ':=[.d (au s),.d (aF P),.d (.lst ((P.map λr=>(aY s n r r).num).map D.int)),.d (.int (f8 s n P:Int)),.d (.int (jb s n P:Int))]) rfl (λP' h=>?_) ?_)
 .refine dH (λi=>decide (i<0)) (λq=>decide (q<0)) (wT (w2 mY (wN 0) (wC (D.int (0))))) (λq=>by rw[jN,Ou,Ou];exact Zni.2) (λi P'' h=>?_) _ P' h
  walk_at "st";exact h
 dsimp only;refine B.C.pub_by (ρ':=[.d (au s),.d (aF P),.d (.lst ((P.map λr=>(aY s n r r).num).map D.int)),.d (.int (f8 s n P:Int)),.d (.int (jb s n P:Int))]) rfl ?_;walk_at "st";rw[aW,aW];exact⟨by decide,q⟩
theorem Nq:∀ds E Q,vW ds E Q->CD E { nx:=λ_=>Q .non,rt:=Q } (aH GT ds):=by
 rintro _ E Q ⟨x,rfl,hk,q⟩;unfold CD;walk_at "st";unfold Cu at q;cases e:dC x with
 |false=>exact xS.err x rfl hk (kj e) (jx e q)
 |true=>
 obtain⟨s,n,rfl,h⟩:=km e;replace q:=jy h q;cases ev:i7 (au s) with
 |false=>
  rw[ev] at q;exact xS.err (au s) rfl hk (by(try dsimp only);unfold yO;rw[d7 h,ev];rfl) q
 |true=>
 rw[ev,dh,h.sN] at q;simp only[if_true] at q;have ev':s.reverse=s:=by unfold i7 at ev;rw[dh] at ev;simpa using ev
 have pa:=pX h ev';refine GH h ev' ?_;exact Cw ⟨h,ev',pa.len,λr hr=>(pa.lf r hr).mono (by decide)⟩ (by rw[pa.ind h,pa.len]) pa.ap q
open Dt
theorem r9{T T':Nat->Nat->Rat}{n:Nat}(h:∀i j,i<n->j<n->T i j=T' i j)(u v:Nat->Rat):bf T n u v=bf T' n u v:=
 bz λi hi=>by rw[bz (g:=λj=>T' i j*v j) λj hj=>by rw[h i j hi hj]]
theorem Ap.T{T T':Nat->Nat->Rat}{n:Nat}{U:Nat->Nat->Rat}(a:Ap T n U)(h:∀i j,i<n->j<n->T i j=T' i j):Ap T' n U:=⟨λx y hx hy ne=>by rw[<-r9 h];exact a.ap x y hx hy ne,a.fu⟩
theorem G1{P:List (List Rat)}(hl:P.length=n)(f:List Rat->Bool):(P.filter f).length=dH n λa=>f (P.getD a []):=by
 have e:P=(List.range n).map λa=>P.getD a []:=by
  refine si λi=>?_;rw[cc];rcases gg i n with hi|hi
  .rw[jg hi,bG (by omega)]
   show _=some (P.getD i []);rw[aM,bG (by omega)];rfl
  .rw[dN (by omega),dN (by rw[jc];exact hi)]
   rfl
 unfold dH
 conv=>lhs;rw[e]
 rw[wQ,aW];rfl
theorem sW{n:Nat}{p q:Nat->Bool}(h:∀a,a<n->p a=q a):dH n p=dH n q:=by
 unfold dH;rw[wS λa ha=>h a (Yaj.mp ha)]
theorem yZ(h:IsSl s n){P:List (List Rat)}(hl:P.length=n)(hw:∀r∈P,r.length=n):f8 s n P=dH n (dA (Pj.cA (sA s n)) n 1 (pU P)):=by
 unfold f8;rw[G1 hl];refine sW λa ha=>?_;have w:=hw _ (eC (R:=P) (a:=a) (by omega));unfold dA pU;rw[ky h w w,nB]
theorem y2(h:IsSl s n){P:List (List Rat)}(hl:P.length=n)(hw:∀r∈P,r.length=n):jb s n P=dH n (dA (Pj.cA (sA s n)) n (-1) (pU P)):=by
 unfold jb;rw[G1 hl];refine sW λa ha=>?_;have w:=hw _ (eC (R:=P) (a:=a) (by omega));unfold dA pU;rw[ky h w w,jN,Ou,Ou];constructor<;>intro z<;>grind
theorem Nr(h:IsSl s n)(ev:s.reverse=s):f8 s n (bw s n)+jb s n (bw s n)+(fE s n).length=n:=by
 have pa:=pX h ev;have hw:∀r∈bw s n,r.length=n:=λr hr=>(pa.lf r hr).len;have T:∀i j,i<n->j<n->Pj.cA (sA s n) i j=LP.tq (dU s n) i j:=λi j hi hj=>by
  have e1:=Cq (R:=dU s n) (n:=n) (λr hr=>(pQ h r hr).len) (i:=i) (by rw[oR];exact hi) (gq (aA n j));have e2:=yq h hi (eZ n j);rw[yL (eZ n j),e2] at e1;rw[fk hj λk hk ne=>by rw[gD hk,if_neg ne,dX],gD hj,if_pos rfl,nP,fk hj λk hk ne=>by show _*(aA n j).getD k 0=0;rw[gD hk,if_neg ne,dX]] at e1;show((sA s n i j:Int):Rat)=_;rw[show gq (aA n j) j=(aA n j).getD j 0 from rfl,gD hj,if_pos rfl,nP] at e1;exact e1
 have c3:=MO (T:=LP.tq (dU s n)) (n:=n) (U:=pU (bw s n));have nc:=((pa.ap' h ev).T T).none_cnt oR (λr hr=>(pQ h r hr).len) (Mv h);rw[yZ h pa.len hw,y2 h pa.len hw,Mw,aW];have e1:dH n (dA (Pj.cA (sA s n)) n 1 (pU (bw s n)))=dH n (dA (LP.tq (dU s n)) n 1 (pU (bw s n))):=sW λa _=>by unfold dA;rw[r9 T]
 have e2:dH n (dA (Pj.cA (sA s n)) n (-1) (pU (bw s n)))=dH n (dA (LP.tq (dU s n)) n (-1) (pU (bw s n))):=sW λa _=>by unfold dA;rw[r9 T]
 rw[e1,e2];have e3:(Ci s n).length=dH n λp=>!(vI s n).contains p:=rfl;rw[e3,<-nc];omega
def e7(s:List Int):List Int:=s.map λx=>0-x
theorem y3(h:IsSl s n):IsSl (e7 s) n:=⟨by unfold e7;rw [aW];exact h.len,h.n1,h.n5,λx hx=>by
 obtain⟨y,hy,rfl⟩:=YbT.mp hx;have:=h.b y hy;omega⟩
theorem CG(ev:s.reverse=s):(e7 s).reverse=e7 s:=by unfold e7;rw[<-o1,ev]
theorem vZ(h:IsSl s n){i j:Nat}(hi:i<n)(hj:j<n):sA (e7 s) n i j = -sA s n i j:=by
 show tA (tbl (e7 s) n) i j = -tA (tbl s n) i j;rw[Gs.tA_ent (y3 h) hi hj,Gs.tA_ent h hi hj];have hl:=h.len;unfold ent e7;rw[aM,cc,aM,bG (by omega)];show 0-_ = -_;rw[Int.zero_sub];rfl
theorem CH(h:IsSl s n)(u v:Nat->Rat):bf (Pj.cA (sA (e7 s) n)) n u v = -bf (Pj.cA (sA s n)) n u v:=by
 have:bf (Pj.cA (sA (e7 s) n)) n u v = -1*bf (Pj.cA (sA s n)) n u v:=by
  unfold bf;rw[<-sumN_mul];refine bz λi hi=>?_;rw[bz (g:=λj=>-1*(Pj.cA (sA s n) i j*v j)) λj hj=>by
   show((sA (e7 s) n i j:Int):Rat)*v j=_;rw[vZ h hi hj,Rat.intCast_neg];grind,sumN_mul]
  grind
 rw[this];grind
theorem Nt(h:IsSl s n)(ev:s.reverse=s):f8 (e7 s) n (bw (e7 s) n)=jb s n (bw s n)/\jb (e7 s) n (bw (e7 s) n)=f8 s n (bw s n):=by
 have h':=y3 h;have ev':=CG ev;have pa:=pX h ev;have pa':=pX h' ev';have hw:∀r∈bw s n,r.length=n:=λr hr=>(pa.lf r hr).len;have hw':∀r∈bw (e7 s) n,r.length=n:=λr hr=>(pa'.lf r hr).len;have a:=pa.ap' h ev;have b:Ap (Pj.cA (sA (e7 s) n)) n (pU (bw s n)):=⟨λx y hx hy ne=>by rw[CH h,a.ap x y hx hy ne];grind,a.fu⟩
 have sy:∀i j,i<n->j<n->Pj.cA (sA (e7 s) n) i j=Pj.cA (sA (e7 s) n) j i:=λi j hi hj=>by show((sA (e7 s) n i j:Int):Rat)=_;rw[vQ h' ev' i j hi hj]
 constructor
 .rw[yZ h' pa'.len hw',(pa'.ap' h' ev').eq sy b 1,y2 h pa.len hw]
  exact sW λx _=>by unfold dA;rw[CH h];congr 1;grind
 .rw[y2 h' pa'.len hw',(pa'.ap' h' ev').eq sy b (-1),yZ h pa.len hw]
  exact sW λx _=>by unfold dA;rw[CH h];congr 1;grind
theorem G3{a b:Rat}(ha:0<a):0<a*b↔0<b:=by
 constructor
 .intro h
  have:¬b<=0:=λz=>by
   have:=qk (Rat.le_of_lt ha) (show(0:Rat)<=-b by grind);grind
  grind
 .exact Rat.mul_pos ha
def bU(q:Rat)(r:List Rat):List Rat:=r.map λx=>x*q
theorem v3{q:Rat}{r:List Rat}(h:r.length=n):(bU q r).length=n:=by unfold bU;rw[aW];exact h
theorem CJ{q:Rat}{r:List Rat}(j:Nat):gq (bU q r) j=gq r j*q:=by
 unfold gq bU;rw[aM,cc,aM];cases r[j]? with
 |none=>show(0:Rat)=0*q;rw[eL]
 |some x=>rfl
theorem v4(h:IsSl s n){q:Rat}{u v:List Rat}(hu:u.length=n)(hv:v.length=n):aY s n (bU q u) (bU q v)=q*q*aY s n u v:=by
 rw[ky h (v3 hu) (v3 hv),ky h hu hv];unfold bf;rw[<-sumN_mul];refine bz λi _=>?_;rw[CJ,bz (g:=λj=>q*(Pj.cA (sA s n) i j*gq v j)) (λj _=>by rw[CJ];grind),sumN_mul];grind
theorem Nu{q:Rat}{r:List Rat}{b c:Nat}(hr:Lf b n r)(hq:Sz c q):Lf (b+c) n (bU q r):=by
 obtain⟨d,e,h1,h2,h3,h4,rfl⟩:=hr.ex;refine⟨d.map λx=>x*q.num,e*q.den,by rw[aW];exact h1,md h2 (by exact_mod_cast q.den_nz),?_,λx hx=>?_,?_⟩
 .rw[dE,l7]
  exact oK h3 hq.2
 .obtain⟨y,hy,rfl⟩:=YbT.mp hx
  rw[dE];exact oK (h4 y hy) hq.1
 .unfold bU
  rw[cr,cr];refine gE λx _=>?_;show Rat.divInt x e*q=Rat.divInt (x*q.num) (e*q.den)
  conv=>lhs;rw[<-tx q]
  rw[tB]
theorem Nv{P:List (List Rat)}(hR:∀r∈P,r.length=n)(fu:∀x:List Rat,x.length=n->(∀r∈P,bB r x=0)->∀k,k<n->x.getD k 0=0):(cj P n).ld.length=n:=by
 have ec:=rR hR n (bb _);have:∀q,q<n->q∈(cj P n).pl:=λq hq=>Classical.byContradiction λhn=>by
  obtain⟨l,f0⟩:=ec.free hq hn;have:=fu _ l f0 q hq;rw[rP _ _ _ (by rw[eZ];exact ec.lt) hn,gD hq,if_pos rfl] at this;exact Ot this (by decide)
 have e:(cj P n).pl=List.range n:=pS ec.asc (rS n) λx=>⟨λhx=>Yaj.mpr (ec.lt x hx),λhx=>this x (Yaj.mp hx)⟩;rw[ec.ll,e,jc]
def cy(q:Rat)(P:List (List Rat)):List (List Rat):=(P.map (bU q)).reverse
theorem G4{q:Rat}{P:List (List Rat)}{r:List Rat}(h:r∈cy q P):∃u∈P,r=bU q u:=by
 unfold cy at h;obtain⟨u,hu,e⟩:=YbT.mp (Ycq.mp h);exact⟨u,hu,e.symm⟩
theorem Nw(h:IsSl s n)(ev:s.reverse=s){q:Rat}(q0:0<q)(hq:Sz 5 q):Pq0 s n (cy q (bw s n))/\(cj (cy q (bw s n)) n).ld.length=(cy q (bw s n)).length/\((cy q (bw s n)).Pairwise λu v=>aY s n u v=0)/\f8 s n (cy q (bw s n))=f8 s n (bw s n)/\jb s n (cy q (bw s n))=jb s n (bw s n):=by
 have pa:=pX h ev;have hw:∀r∈bw s n,r.length=n:=λr hr=>(pa.lf r hr).len;have len:(cy q (bw s n)).length=n:=by unfold cy;rw[qc,aW,pa.len]
 have q2:0<q*q:=Rat.mul_pos q0 q0;have lw:∀r∈cy q (bw s n),r.length=n:=λr hr=>by obtain⟨u,hu,rfl⟩:=G4 hr;exact v3 (hw u hu)
 refine⟨⟨h,ev,len,λr hr=>?_⟩,?_,?_,?_,?_⟩
 .obtain⟨u,hu,rfl⟩:=G4 hr
  exact Nu (pa.lf u hu) hq
 .rw[len]
  refine Nv lw λx hx h0=>pa.fu x hx λr hr=>?_;have:=h0 (bU q r) (by unfold cy;exact Ycq.mpr (ma hr));rw[i8 _ x n (v3 (hw r hr)) hx] at this;have e:ag (λj=>(bU q r).getD j 0*x.getD j 0) n=q*bB r x:=by
   rw[i8 r x n (hw r hr) hx,<-sumN_mul];exact bz λj _=>by have:=CJ (q:=q) (r:=r) j;unfold gq at this;rw[this];grind
  rw[e] at this;rcases YcU.mp this with z|z
  .rw[z] at q0;exact Ot q0 (by decide)
  .exact z
 .unfold cy
  rw[List.pairwise_reverse,List.pairwise_map];refine pa.ap.imp_of_mem λ{u v} hu hv hz=>?_;rw[v4 h (hw v hv) (hw u hu),vR h ev (hw v hv) (hw u hu),hz];grind
 .unfold f8 cy
  rw[List.filter_reverse,qc,wQ,aW];refine congrArg List.length (wS λr hr=>?_);show decide (0<aY s n (bU q r) (bU q r))=decide (0<aY s n r r);rw[v4 h (hw r hr) (hw r hr),jN,Ou,Ou];exact G3 q2
 .unfold jb cy
  rw[List.filter_reverse,qc,wQ,aW];refine congrArg List.length (wS λr hr=>?_);show decide (aY s n (bU q r) (bU q r)<0)=decide (aY s n r r<0);rw[v4 h (hw r hr) (hw r hr),jN,Ou,Ou];have:=G3 (b:=-aY s n r r) q2;constructor
  .intro z;have:=this.mp (by grind);grind
  .intro z;have:=this.mpr (by grind);grind
open Dt
theorem Nx(h:IsSl s n){k:Nat}(hk:k<n):aY s n (aA n k) (aA n k)=((sA s n k k:Int):Rat):=by
 rw[ky h (eZ n k) (eZ n k)];unfold bf;rw[fk hk λi hi ne=>by show(aA n k).getD i 0*_=0;rw[gD hi,if_neg ne,eL],fk hk λj hj ne=>by show _*(aA n k).getD j 0=0;rw[gD hj,if_neg ne,dX]];show(aA n k).getD k 0*(_*(aA n k).getD k 0)=_;rw[gD hk,if_pos rfl,nB,nP]
theorem CK(h:IsSl s n){k:Nat}(h1:1<=k)(hk:k<=n):bg (tbl (cor s n k) k)=dt (sA s n) k:=by
 unfold bg;rw[lK];refine B4 λi hi j hj=>?_;show tA (tbl (cor s n k) k) i j=tA (tbl s n) i j;rw[Gs.tA_ent (vh h h1 hk) hi hj,Gs.tA_ent h (by omega) (by omega),Mg h hk hi hj]
theorem Ny(h:IsSl s n)(ev:s.reverse=s)(hw:eU s n=[]):(G.V9.W.cgF s n).countP (· == 1)=f8 s n (bw s n)/\(G.V9.W.cgF s n).countP (· == -1)=jb s n (bw s n)/\(G.V9.W.cgF s n).length=n:=by
 have pa:=pX h ev;have pw:∀r∈bw s n,r.length=n:=λr hr=>(pa.lf r hr).len;have n5:=h.n5;have sy:∀i j,i<n->j<n->Pj.cA (sA s n) i j=Pj.cA (sA s n) j i:=λi j hi hj=>by show((sA s n i j:Int):Rat)=_;rw[vQ h ev i j hi hj]
 have nz:∀k,k<=n->dt (sA s n) k≠0:=λk hk=>by
  cases k with
  |zero=>exact Int.one_ne_zero
  |succ k=>
   intro z;have:k+1∈eU s n:=by
    unfold eU;refine YbT.mpr ⟨k,Yai.mpr ⟨Yaj.mpr (by omega),?_⟩,rfl⟩;rw[CK h (by omega) hk,z];rfl
   rw[hw] at this;cases this
 have ja:=MQ (A:=sA s n) n5 (vQ h ev) λi hi=>nz i (by omega);have cg:G.V9.W.cgF s n=(List.range n).map λk=>G.V9.W.sg2 (dt (sA s n) k) (dt (sA s n) (k+1)):=by
  unfold G.V9.W.cgF i9;refine si λi=>?_;rw[List.getElem?_zipWith,cc,cc];rcases gg i n with hi|hi
  .rw[jg hi]
   have e1:((1:Int)::(List.range n).map λk=>bg (tbl (cor s n (k+1)) (k+1)))[i]? = some (dt (sA s n) i):=by
    cases i with
    |zero=>rfl
    |succ i=>
     rw[cF,cc,jg (by omega)];show some (bg _)=_;rw[CK h (by omega) (by omega)]
   rw[e1];show some (G.V9.W.sg2 _ (bg _))=_;rw[CK h (by omega) (by omega)];rfl
  .rw[show(List.range n)[i]? = none from dN (by rw[jc];exact hi)]
   cases((1:Int)::(List.range n).map λk=>bg (tbl (cor s n (k+1)) (k+1)))[i]?<;>rfl
 have cp:∀(b:Int) (p:Nat->Bool),(∀k,k<n->(G.V9.W.sg2 (dt (sA s n) k) (dt (sA s n) (k+1))==b)=p k)->(G.V9.W.cgF s n).countP (· == b)=dH n p:=λb p hp=>by
  rw[cg,List.countP_map,List.countP_eq_length_filter];exact congrArg List.length (wS λk hk=>hp k (Yaj.mp hk))
 have val:∀k,k<n->bf (Pj.cA (sA s n)) n (lR (sA s n) k) (lR (sA s n) k)=((dt (sA s n) k*dt (sA s n) (k+1):Int):Rat):=λk hk=>by
  have:=Cr (A:=sA s n) n5 hk (bb k);rw[if_pos rfl] at this;exact this
 refine⟨?_,?_,by rw[cg,aW,jc]⟩
 .rw[yZ h pa.len pw,(pa.ap' h ev).eq sy ja 1]
  refine cp 1 _ λk hk=>?_;unfold dA G.V9.W.sg2;rw[val k hk,nB]
  by_cases z:0<dt (sA s n) k*dt (sA s n) (k+1)
  .rw[if_pos z,decide_eq_true (by exact_mod_cast z)];rfl
  .rw[if_neg z,Ox (λy=>z (by exact_mod_cast y))];rfl
 .rw[y2 h pa.len pw,(pa.ap' h ev).eq sy ja (-1)]
  refine cp (-1) _ λk hk=>?_;unfold dA G.V9.W.sg2;rw[val k hk];have ne:dt (sA s n) k*dt (sA s n) (k+1)≠0:=md (nz k (by omega)) (nz (k+1) (by omega));have e:(-1:Rat)*((dt (sA s n) k*dt (sA s n) (k+1):Int):Rat)=((-(dt (sA s n) k*dt (sA s n) (k+1)):Int):Rat):=by rw[Rat.intCast_neg];grind
  rw[e]
  by_cases z:0<dt (sA s n) k*dt (sA s n) (k+1)
  .have ng:¬(0:Rat)<((-(dt (sA s n) k*dt (sA s n) (k+1)):Int):Rat):=λy=>by
    have y':0 < -(dt (sA s n) k*dt (sA s n) (k+1)):=by exact_mod_cast y
    omega
   rw[if_pos z,Ox ng];rfl
  .have po:0 < -(dt (sA s n) k*dt (sA s n) (k+1)):=by omega
   rw[if_neg z,decide_eq_true (by exact_mod_cast po)];rfl
namespace G.V9.W.E1.S2
def sX:aS:=fnS (λx:List Rat×Rat=>[ae x.1,ay x.2]) (λx=>x.1.length<=5/\(∀y∈x.1,Sz 170 y)/\Sz 5 x.2) λx=>ae (bU x.2 x.1)
def v6:aS:=fnS (λns:List Int=>[.scr (ns.map .int)]) (λns=>ns.length<=63) λ_=>.bl true
theorem CL{E:Ex->Prop}{Q:D->Prop}{r:List Rat}{q:Rat}(h1:r.length<=5)(h2:∀y∈r,Sz 170 y)(h3:Sz 5 q)(z:Q (ae (bU q r))):sX [ae r,ay q] E Q:=⟨(r,q),rfl,⟨h1,h2,h3⟩,z⟩
abbrev G5:List Str:=["_law_row", "_law_factor"]
abbrev Nz:List Str:=["_law_row", "_law_factor"]
def CM:WS:=(aj (wB gR (ad (wL (aLC (iS (wN 0)) 1 [1] (gN 0) bF (wF vg (ad (wN 0) (ad (wN 1) aa))))) aa)))
abbrev G6:List Str:=["_law_script", "_law_cell", "_law_pen", "_law_slants", "_law_size", "_law_even", "_law_above", "_law_below", "_law_none", "_law_paper", "_law_factor", "_law_more", "_law_signs", "_law_row", "_law_form", "_law_unit"]
def Zo:WS:=(ai (aL (aU (iS (w2 gAdd (wL (bh (ad (wF xM (ad (wN 0) (ad (wC (D.int (0))) aa))) aa))) (aJ (wN 0) (bV (wC (D.int (1)))) (bV (wC (D.int (4))))))) (gN 1) (ai (ax 2 (wF xN (ad (wN 1) aa))) (ai (ax 3 (wF xO (ad (wN 2) aa))) (ai (ax 4 (w2 fU (w2 gAdd (wB bA (ad (wN 3) aa)) (wC (D.int (1)))) (wC (D.int (2))))) (ai (ax 5 (w2 gAdd (aJ (wN 3) cP (bV (wN 4))) (w1 gRev (aJ (wN 3) cP (bV (w2 fj (wN 4) (wC (D.int (1))))))))) (ai (bJ (wF vW (ad (wN 5) aa)) (bW 3 (aV (gN 6) (aV (gN 7) (aV (gN 8) bR))))) (ai (bE (dB (wT (w2 (gEq true) (w2 gAdd (w2 gAdd (wN 6) (wN 7)) (wN 8)) (wN 4))) (wT (w2 (gEq true) (wN 8) (wF vA (ad (wN 5) aa))))) (aj (wC (D.bl false))) bD) (ai (bE (wT (w2 (gEq true) (wF vW (ad (wB gR (ad (wL (aLC (iS (wN 5)) 1 [] (gN 0) bF (w2 fj (wC (D.int (0))) (wN 0)))) aa)) aa)) (aQ (ad (wN 7) (ad (wN 6) (ad (wN 8) aa)))))) (aj (wC (D.bl false))) bD) (ai (ax 9 (wF yS (ad (wN 5) aa))) (ai (ax 10 (wF rF (ad (w2 gAdd (wC (D.int (1))) (wF kQ (ad (wN 2) (ad (wC (D.int (9))) aa)))) (ad (w2 gAdd (wC (D.int (1))) (wF kQ (ad (wN 2) (ad (wC (D.int (9))) aa)))) aa)))) (ai (ax 11 (w1 gRev (wL (aLC (iS (wN 9)) 1 [10] (gN 0) bF (wF sX (ad (wN 0) (ad (wN 1) aa))))))) (ai (bE (dB (aX (wT (wF sU (ad (wN 5) (ad (wN 9) aa))))) (aX (wT (wF sU (ad (wN 5) (ad (wN 11) aa)))))) (aj (wC (D.bl false))) bD) (ai (bE (dB (wT (w2 (gEq true) (wF sV (ad (wN 5) (ad (wN 9) aa))) (aQ (ad (wN 6) (ad (wN 7) (ad (wN 8) aa)))))) (wT (w2 (gEq true) (wF sV (ad (wN 5) (ad (wN 11) aa))) (aQ (ad (wN 6) (ad (wN 7) (ad (wN 8) aa))))))) (aj (wC (D.bl false))) bD) (ai (bE (wT (w2 (gIsC false) (wF vJ (ad (wN 5) aa)) (wC D.non))) (ai (ax 12 (wF Cm (ad (wN 5) aa))) (bE (dB (wT (w2 (gEq true) (wM yN (wN 12) (ad (wC (D.int (1))) aa)) (wN 6))) (dB (wT (w2 (gEq true) (wM yN (wN 12) (ad (w1 kf (wC (D.int (1)))) aa)) (wN 7))) (wT (w2 (gEq true) (wB bA (ad (wN 12) aa)) (wN 4))))) (aj (wC (D.bl false))) bD)) bD) (ai (ax 13 (wF xP (ad (wN 2) (ad (wN 4) aa)))) (ai (ax 14 (wF pY (ad (wN 5) (ad (wN 13) aa)))) (ai (ax 15 (wB gR (ad (wL (aLC (dS (ad (wN 4) aa)) 1 [4] (gN 0) bF (aQ (ad (wB fT (ad (w2 (gEq false) (wN 0) (w2 fj (wN 1) (wC (D.int (1))))) aa)) (ad (wC (D.int (1))) aa))))) aa))) (ai (bE (wT (w2 (gEq true) (wF pY (ad (wN 5) (ad (wF sX (ad (wN 13) (ad (aQ (ad (wC (D.int (2))) (ad (wC (D.int (1))) aa))) aa))) aa))) (wF vg (ad (wN 14) (ad (aQ (ad (wC (D.int (4))) (ad (wC (D.int (1))) aa))) aa))))) (aj (wC (D.bl false))) bD) (bE (dB (wT (w2 (gEq true) (wF pY (ad (wN 5) (ad (wN 15) aa))) (aQ (ad (w2 gIx (wN 5) (w2 fj (wN 4) (wC (D.int (1))))) (ad (wC (D.int (1))) aa))))) (wT (w2 (gEq true) (wF pY (ad (wN 5) (ad (wF sX (ad (wN 13) (ad (aQ (ad (w1 kf (wC (D.int (1)))) (ad (wC (D.int (1))) aa))) aa))) aa))) (wN 14)))) (aj (wC (D.bl false))) bD)))))))))))))))))))) (aj (wC (D.bl true))))
end G.V9.W.E1.S2
theorem NA{s:List Int}{n:Nat}(h:IsSl s n):IsSl (s.take n++(s.take (n-1)).reverse) n/\(s.take n++(s.take (n-1)).reverse).reverse=s.take n++(s.take (n-1)).reverse:=by
 have hl:=h.len;have h1:=h.n1;refine⟨⟨by simp;omega,h1,h.n5,λx hx=>?_⟩,?_⟩
 .rcases Yar.mp hx with hx|hx
  .exact h.b x (oZ hx)
  .exact h.b x (oZ (Ycq.mp hx))
 .have e:s.take n=s.take (n-1)++[s[n-1]'(by omega)]:=by
   have:=List.take_succ_eq_append_getElem (l:=s) (i:=n-1) (by omega);rw[show n-1+1=n by omega] at this;exact this
  generalize s.take (n-1)=x at e ⊢;rw[e];simp
theorem NB{n k:Nat}{x:Rat}(h:x∈aA n k):Sz 1 x:=by
 unfold aA at h;obtain⟨j,_,rfl⟩:=YbT.mp h;split<;>exact⟨by decide,by decide⟩
namespace G.V9.W.E1.S2
theorem NC{w:WE}{i j k:Nat}{E:Ex->Prop}{N:Nds}{ρ ρ':aN}{x y z:D}(hw:∀P:D->Prop,P (.tup [x,y,z])->w E ρ P)(e:((ρ.set i (.d x)).set j (.d y)).set k (.d z)=ρ')(h:N.nx ρ'):bJ w (bW 3 (aV (gN i) (aV (gN j) (aV (gN k) bR)))) E N ρ:=hw _ ⟨rfl,by rw[<-e] at h;exact h⟩
theorem ND:∀ds E Q,sX ds E Q->CM E { nx:=λ_=>Q .non,rt:=Q } (aH G5 ds):=by
 rintro _ E Q ⟨⟨r,q0⟩,rfl,⟨h1,h2,h3⟩,q⟩;dsimp only at h1 h2 h3 q;unfold CM ae;walk_at "st";refine jJ (g:=ay) (f:=λx=>ay (x*q0)) r (λx hx P hP=>?_) .un [] (fD (by simp;omega)) ?_
 .walk_at "st"
  exact EF (B2.of (h2 x hx) h3 (by decide)) hP
 .walk_at "st"
  unfold bU ae at q;rw[cr] at q;exact q
theorem sd{x:D}{w w':WE}{E:Ex->Prop}{ρ:aN}(hx:cM x 60=true)(h1:∀P:D->Prop,P x->w E ρ P)(h2:∀P:D->Prop,P x->w' E ρ P):∀P:Bool->Prop,P false->wT (w2 (gEq true) w w') E ρ P:=λP hP=>h1 _ (h2 _ (IN hx hP))
theorem nr{i j:Int}{w w':WE}{E:Ex->Prop}{ρ:aN}(e:i=j)(h1:∀P:D->Prop,P (.int i)->w E ρ P)(h2:∀P:D->Prop,P (.int j)->w' E ρ P):∀P:Bool->Prop,P false->wT (w2 (gEq true) w w') E ρ P:=by subst e;exact sd (by rw[cM]) h1 h2
theorem CN(a b c:Int):cM (.tup [.int a,.int b,.int c]) 60=true:=DV _ (by decide) (AJ (n:=1) (by simp[cM]))
theorem se{a b c:D}{w1 w2 w3:WE}{E:Ex->Prop}{ρ:aN}(h1:∀P:D->Prop,P a->w1 E ρ P)(h2:∀P:D->Prop,P b->w2 E ρ P)(h3:∀P:D->Prop,P c->w3 E ρ P):∀P:D->Prop,P (.tup [a,b,c])->aQ (ad w1 (ad w2 (ad w3 aa))) E ρ P:=λP hP=>h1 _ (h2 _ (h3 _ ⟨show 3<=aw by decide,hP⟩))
theorem f1{S:aS}{a d:D}{w:WE}{E:Ex->Prop}{ρ:aN}(h1:∀P:D->Prop,P a->w E ρ P)(h:∀P:D->Prop,P d->S [a] E P):∀P:D->Prop,P d->wF S (ad w aa) E ρ P:=λP hP=>h1 _ (h P hP)
theorem f2{S:aS}{a b d:D}{w w':WE}{E:Ex->Prop}{ρ:aN}(h1:∀P:D->Prop,P a->w E ρ P)(h2:∀P:D->Prop,P b->w' E ρ P)(h:∀P:D->Prop,P d->S [a,b] E P):∀P:D->Prop,P d->wF S (ad w (ad w' aa)) E ρ P:=λP hP=>h1 _ (h2 _ (h P hP))
theorem y4{w:WE}{E:Ex->Prop}{ρ:aN}{b:Bool}(h:∀P:D->Prop,P (.bl b)->w E ρ P):∀P:Bool->Prop,P b->wT w E ρ P:=λP hP=>h _ hP
theorem G7{w:WT}{E:Ex->Prop}{ρ:aN}{b:Bool}(h:∀P:Bool->Prop,P b->w E ρ P):∀P:Bool->Prop,P (!b)->aX w E ρ P:=λP hP=>h _ hP
theorem NE:∀ds E Q,v6 ds E Q->Zo E { nx:=λ_=>Q .non,rt:=Q } (aH G6 ds):=by
 rintro _ E Q ⟨xs,rfl,hx,q⟩;dsimp only at hx q;show Zo E _ [.d (.scr (xs.map .int)),.un,.un,.un,.un,.un,.un,.un,.un,.un,.un,.un,.un,.un,.un,.un];generalize hS:D.scr (xs.map .int)=S;unfold Zo;refine a8 ?_;simp only[aL];have ec:∃cs:List Int,bn (xs.map D.int) (some 1) (some 4)=cs.map D.int/\cs.length<=63:=by
  refine⟨bn xs (some 1) (some 4),?_,?_⟩
  .unfold bn
   rw[aW,l8,nA]
  .unfold bn
   rw[jf,jM];omega
 obtain⟨cs,ec,hcs⟩:=ec;refine LP.for_seq (xs:=(xs.getD 0 0::cs).map D.int) (λP h=>?_) ?_
 .subst hS
  walk_at "st";refine J0 (i:=0) ?_;walk_at "st";rw[ec];exact⟨by decide,by simp[aw];omega,h⟩
 clear ec hcs;refine EZ (λρ=>∃s1 s2 s3 s4 s5 s6 s7 s8 s9 s10 s11 s12 s13 s14 s15,ρ=[.d S,s1,s2,s3,s4,s5,s6,s7,s8,s9,s10,s11,s12,s13,s14,s15]) _ ?_ ?_ _ ⟨_,_,_,_,_,_,_,_,_,_,_,_,_,_,_,rfl⟩
 rotate_left
 .rintro _ ⟨s1,s2,s3,s4,s5,s6,s7,s8,s9,s10,s11,s12,s13,s14,s15,rfl⟩
  exact q
 clear q hS hx;rintro d hd _ ⟨s1,s2,s3,s4,s5,s6,s7,s8,s9,s10,s11,s12,s13,s14,s15,rfl⟩ nx hnx;obtain⟨c,_,rfl⟩:=YbT.mp hd;clear hd;show ai _ _ _ _ [.d S,.d (.int c),s2,s3,s4,s5,s6,s7,s8,s9,s10,s11,s12,s13,s14,s15];refine a8 (LP.set_by (d:=.pen) (ρ':=[.d S,.d (.int c),.d .pen,s3,s4,s5,s6,s7,s8,s9,s10,s11,s12,s13,s14,s15]) (by rfl) (λP h=>?_) ?_)
 .walk_at "st"
  exact J1 h
 dsimp only;refine a8 (LP.set_rl (λd=>∃s n,d=au s/\IsSl s n) (λP h=>?_) ?_)
 .walk_at "st"
  exact J3 λs n hs=>h _ ⟨s,n,rfl,hs⟩
 rintro _ ⟨s,n,rfl,h0⟩;have n1:=h0.n1;have n5:=h0.n5;have hl:=h0.len;dsimp only;refine a8 (LP.set_by (d:=.int n) (ρ':=[.d S,.d (.int c),.d .pen,.d (au s),.d (.int n),s5,s6,s7,s8,s9,s10,s11,s12,s13,s14,s15]) (by rfl) (λP hP=>size_w h0 hP) ?_);dsimp only;obtain⟨h,ev⟩:=NA h0;generalize ht:s.take n++(s.take (n-1)).reverse=t at h ev;refine a8 (LP.set_by (d:=au t) (ρ':=[.d S,.d (.int c),.d .pen,.d (au s),.d (.int n),.d (au t),s6,s7,s8,s9,s10,s11,s12,s13,s14,s15]) (by rfl) (λP hP=>?_) ?_)
 .unfold au
  walk_at "st";rw[pO (b:=n) rfl,pO (b:=n-1) (by omega),<-l8,<-l8,<-o1];refine Kn (fD (by simp;omega)) ?_;rw[<-kT,ht];exact hP
 clear ht h0 hl;dsimp only;have pa:=pX h ev;have pq:Pq0 t n (bw t n):=⟨h,ev,pa.len,λr hr=>(pa.lf r hr).mono (by decide)⟩
 have nf:=Nr h ev;obtain⟨cg1,cg2⟩:=Nt h ev;have sg:nM t n (bw t n)=.tup [.int (f8 t n (bw t n):Int),.int (jb t n (bw t n):Int),.int ((fE t n).length:Int)]:=by
  unfold nM;rw[pa.len,show(n:Int)-(f8 t n (bw t n):Int)-(jb t n (bw t n):Int)=((fE t n).length:Int) by omega]
 have sgc:nM (e7 t) n (bw (e7 t) n)=.tup [.int (jb t n (bw t n):Int),.int (f8 t n (bw t n):Int),.int ((fE t n).length:Int)]:=by
  unfold nM;rw[(pX (y3 h) (CG ev)).len,cg1,cg2,show(n:Int)-(jb t n (bw t n):Int)-(f8 t n (bw t n):Int)=((fE t n).length:Int) by omega]
 have mor:=λq (q0:(0:Rat)<q) (hq:Sz 5 q)=>Nw (s:=t) (n:=n) h ev q0 hq;have cgn:=λhw=>Ny (s:=t) (n:=n) h ev hw;have ind:(cj (bw t n) n).ld.length=(bw t n).length:=by rw[pa.ind h,pa.len]
 clear cg1 cg2;have fr:∀{E:Ex->Prop} {P:D->Prop},P (.int ((fE t n).length:Int))->vA [au t] E P:=λhP=>LG h hP;generalize hA:(f8 t n (bw t n):Nat)=a at *;generalize hB:(jb t n (bw t n):Nat)=b at *;generalize hF:(fE t n).length=f at *;refine a8 (NC (x:=.int (a:Int)) (y:=.int (b:Int)) (z:=.int (f:Int)) (f1 (a:=au t) (LP.nm_at rfl) λP hP=>GI h ev (by rw[sg];exact hP)) (ρ':=[.d S,.d (.int c),.d .pen,.d (au s),.d (.int n),.d (au t),.d (.int (a:Int)),.d (.int (b:Int)),.d (.int (f:Int)),s9,s10,s11,s12,s13,s14,s15]) rfl ?_);dsimp only;refine a8 (fW (b:=false) (B.C.or_by (b:=false) (c:=false) (nr (i:=(a:Int)+(b:Int)+(f:Int)) (j:=(n:Int)) (by omega) (λP hP=>?_) (LP.nm_at rfl)) (nr (i:=(f:Int)) (j:=(f:Int)) rfl (LP.nm_at rfl) (f1 (a:=au t) (LP.nm_at rfl) λP hP=>fr hP))) (λe=>nomatch e) λ_=>?_)
 .walk_at "st"
  exact hP
 dsimp only;refine a8 (fW (b:=false) (sd (CN (b:Int) (a:Int) (f:Int)) (f1 (a:=au (e7 t)) (λP hP=>?_) λP hP=>GI (y3 h) (CG ev) (by rw[sgc];exact hP)) (se (LP.nm_at rfl) (LP.nm_at rfl) (LP.nm_at rfl))) (λe=>nomatch e) λ_=>?_)
 .unfold au
  walk_at "st";refine jJ (g:=D.int) (f:=λi=>.int (0-i)) t (λi hi P hP=>?_) .un [] (fD (by have:=h.len;simp;omega)) ?_
  .walk_at "st"
   exact hP
  .walk_at "st"
   unfold e7 au at hP;rw[cr] at hP;exact hP
 dsimp only;refine a8 (LP.set_by (d:=aF (bw t n)) (ρ':=[.d S,.d (.int c),.d .pen,.d (au s),.d (.int n),.d (au t),.d (.int (a:Int)),.d (.int (b:Int)),.d (.int (f:Int)),.d (aF (bw t n)),s10,s11,s12,s13,s14,s15]) (by rfl) (f1 (a:=au t) (LP.nm_at rfl) λP hP=>GH h ev hP) ?_);dsimp only;refine a8 (LP.set_rl (λd=>∃q:Rat,d=ay q/\0<q/\Sz 5 q) (λP hP=>?_) ?_)
 .walk_at "st"
  refine oM (n:=9) (by decide) (by decide) λk hk=>?_;walk_at "st";refine oM (n:=9) (by decide) (by decide) λk' hk'=>?_;walk_at "st";refine EE (by omega) (jw (n:=4) (by omega) (by decide)) (hP _ ⟨_,rfl,?_,?_⟩)
  .rw[tE,gj]
   have k1:(0:Int)<1+(k:Int):=by omega
   have k2:(0:Int)<1+(k':Int):=by omega
   exact Rat.mul_pos (by exact_mod_cast k1) (Rat.inv_pos.mpr (by exact_mod_cast k2))
  .exact sJ (by omega) (by omega) (by omega)
 rintro _ ⟨q0,rfl,qp,qz⟩;obtain⟨m1,m2,m3,m4,m5⟩:=mor q0 qp qz;have sgm:nM t n (cy q0 (bw t n))=.tup [.int (a:Int),.int (b:Int),.int (f:Int)]:=by
  unfold nM;rw[m1.len,m4,m5,show(n:Int)-(a:Int)-(b:Int)=(f:Int) by omega]
 clear m4 m5 mor;dsimp only;refine a8 (LP.set_by (d:=aF (cy q0 (bw t n))) (ρ':=[.d S,.d (.int c),.d .pen,.d (au s),.d (.int n),.d (au t),.d (.int (a:Int)),.d (.int (b:Int)),.d (.int (f:Int)),.d (aF (bw t n)),.d (ay q0),.d (aF (cy q0 (bw t n))),s12,s13,s14,s15]) (by rfl) (λP hP=>?_) ?_)
 .have pl:=pa.len
  have lf:=pa.lf;have zz:∀r∈bw t n,r.length<=5/\∀y∈r,Sz 170 y:=λr hr=>⟨by rw[(lf r hr).len];exact n5,λy hy=>((lf r hr).sz y hy).mono (by decide)⟩;unfold cy aF at hP;generalize bw t n=R at pl zz hP;show w1 gRev _ _ [.d S,.d (.int c),.d .pen,.d (au s),.d (.int n),.d (au t),.d (.int (a:Int)),.d (.int (b:Int)),.d (.int (f:Int)),.d (.lst (R.map ae)),.d (ay q0),s11,s12,s13,s14,s15] _;walk_at "st";refine jJ (g:=ae) (f:=λr=>ae (bU q0 r)) R (λr hr P hP=>?_) .un [] (fD (by simp;omega)) ?_
  .walk_at "st"
   exact CL (zz r hr).1 (zz r hr).2 qz hP
  .walk_at "st"
   rw[o1,cr] at hP;exact hP
 dsimp only;refine a8 (fW (b:=false) (B.C.or_by (b:=false) (c:=false) (G7 (b:=true) (y4 (f2 (a:=au t) (b:=aF (bw t n)) (LP.nm_at rfl) (LP.nm_at rfl) λP hP=>Cv pq (by rw[decide_eq_true ⟨ind,pa.ap⟩];exact hP)))) (G7 (b:=true) (y4 (f2 (a:=au t) (b:=aF (cy q0 (bw t n))) (LP.nm_at rfl) (LP.nm_at rfl) λP hP=>Cv m1 (by rw[decide_eq_true ⟨m2,m3⟩];exact hP))))) (λe=>nomatch e) λ_=>?_);dsimp only;refine a8 (fW (b:=false) (B.C.or_by (b:=false) (c:=false) (sd (CN (a:Int) (b:Int) (f:Int)) (f2 (a:=au t) (b:=aF (bw t n)) (LP.nm_at rfl) (LP.nm_at rfl) λP hP=>Cw pq ind pa.ap (by rw[sg];exact hP)) (se (LP.nm_at rfl) (LP.nm_at rfl) (LP.nm_at rfl))) (sd (CN (a:Int) (b:Int) (f:Int)) (f2 (a:=au t) (b:=aF (cy q0 (bw t n))) (LP.nm_at rfl) (LP.nm_at rfl) λP hP=>Cw m1 m2 m3 (by rw[sgm];exact hP)) (se (LP.nm_at rfl) (LP.nm_at rfl) (LP.nm_at rfl)))) (λe=>nomatch e) λ_=>?_);dsimp only;clear m1 m2 m3 sgm pq ind sg sgc fr nf;generalize aF (bw t n)=pD;generalize aF (cy q0 (bw t n))=mD;refine LP.seq_by (λρ=>∃s12,ρ=[.d S,.d (.int c),.d .pen,.d (au s),.d (.int n),.d (au t),.d (.int (a:Int)),.d (.int (b:Int)),.d (.int (f:Int)),.d pD,.d (ay q0),.d mD,s12,s13,s14,s15]) (λnx' hnx'=>?_) ?_
 .cases hw:eU t n with
  |cons k l=>
   refine fW (b:=false) (y4 λP hP=>?_) (λe=>nomatch e) λ_=>hnx' _ ⟨_,rfl⟩;walk_at "st";refine yA h ?_;rw[hw];exact⟨rfl,hP⟩
  |nil=>
   obtain⟨k1,k2,k3⟩:=cgn hw;refine fW (b:=true) (y4 λP hP=>?_) (λ_=>?_) λe=>nomatch e
   .walk_at "st"
    refine yA h ?_;rw[hw];exact⟨rfl,hP⟩
   refine a8 (LP.set_by (d:=cw (cgF t n)) (ρ':=[.d S,.d (.int c),.d .pen,.d (au s),.d (.int n),.d (au t),.d (.int (a:Int)),.d (.int (b:Int)),.d (.int (f:Int)),.d pD,.d (ay q0),.d mD,.d (cw (cgF t n)),s13,s14,s15]) (by rfl) (f1 (a:=au t) (LP.nm_at rfl) λP hP=>?_) ?_)
   .refine⟨au t,rfl,h.kd,?_⟩
    show exQ _ _ (rW (au t));rw[Gj h ev];unfold oS;rw[hw];exact hP
   dsimp only;refine fW (b:=false) (B.C.or_by (b:=false) (c:=false) (nr (i:=(a:Int)) (j:=(a:Int)) rfl (λP hP=>?_) (LP.nm_at rfl)) (B.C.or_by (b:=false) (c:=false) (nr (i:=(b:Int)) (j:=(b:Int)) rfl (λP hP=>?_) (LP.nm_at rfl)) (nr (i:=(n:Int)) (j:=(n:Int)) rfl (λP hP=>?_) (LP.nm_at rfl)))) (λe=>nomatch e) λ_=>hnx' _ ⟨_,rfl⟩
   .unfold cw
    walk_at "st";exact⟨⟨_,rfl⟩,cgF t n,1,rfl,rfl,by rw[k1];exact hP⟩
   .unfold cw
    walk_at "st";exact⟨⟨_,rfl⟩,cgF t n,-1,rfl,rfl,by rw[k2];exact hP⟩
   .unfold cw
    walk_at "st";rw[aW,k3];exact hP
 clear cgn;rintro _ ⟨s12,rfl⟩;refine a8 (LP.set_rl (λd=>∃r:List Rat,d=ae r/\r.length=n/\∀x∈r,Sz 72 x) (λP hP=>?_) ?_)
 .walk_at "st"
  exact J4 n5 λr h1 h2=>hP _ ⟨r,rfl,h1,h2⟩
 rintro _ ⟨r,rfl,rl,rz⟩;have rz':∀x∈r,Sz 170 x:=λx hx=>(rz x hx).mono (by decide);have fz:Sz 2400 (aY t n r r):=by
  unfold aY;refine Sz.mono (n:=5*(72+396+1)+1) (by decide) (Bj (k:=5) (n:=72) (m:=396) r (cU t n r) rz (λx hx=>(Zl h rz x hx).mono (by decide)) (by omega))
 dsimp only;refine a8 (LP.set_by (d:=ay (aY t n r r)) (ρ':=[.d S,.d (.int c),.d .pen,.d (au s),.d (.int n),.d (au t),.d (.int (a:Int)),.d (.int (b:Int)),.d (.int (f:Int)),.d pD,.d (ay q0),.d mD,s12,.d (ae r),.d (ay (aY t n r r)),s15]) (by rfl) (f2 (a:=au t) (b:=ae r) (LP.nm_at rfl) (LP.nm_at rfl) λP hP=>vX h ev rl rz' hP) ?_);dsimp only;refine a8 (LP.set_by (d:=ae (aA n (n-1))) (ρ':=[.d S,.d (.int c),.d .pen,.d (au s),.d (.int n),.d (au t),.d (.int (a:Int)),.d (.int (b:Int)),.d (.int (f:Int)),.d pD,.d (ay q0),.d mD,s12,.d (ae r),.d (ay (aY t n r r)),.d (ae (aA n (n-1)))]) (by rfl) (λP hP=>?_) ?_)
 .walk_at "st"
  refine⟨by omega,by omega,?_⟩;rw[oN];refine jJ (g:=λk:Nat=>D.int (k:Int)) (f:=λk=>ay (if k=n-1 then 1 else 0)) (List.range n) (λk hk P hP=>?_) .un [] (fD (by simp;omega)) ?_
  .walk_at "st"
   by_cases e:k=n-1
   .rw[show((k:Int)==(n:Int)-1)=true by simp;omega]
    rw[if_pos e] at hP;exact⟨by decide,hP⟩
   .rw[show((k:Int)==(n:Int)-1)=false by simp;omega]
    rw[if_neg e] at hP;exact⟨by decide,hP⟩
  .walk_at "st"
   unfold ae aA at hP;rw[cr] at hP;exact hP
 dsimp only;have s2:(D.tup [.int 2,.int 1])=ay 2:=rfl;have s4:(D.tup [.int 4,.int 1])=ay 4:=rfl;have sm:(D.tup [.int (-1),.int 1])=ay (-1):=rfl;have mz:∀ {q:Rat},Sz 5 q->(∀ x∈bU q r,Sz 170 x)/\(bU q r).length=n:=fun {q} hq=>⟨λx hx=>by
  unfold bU at hx;obtain⟨y,hy,rfl⟩:=YbT.mp hx;exact((rz y hy).mul hq).mono (by decide),v3 rl⟩
 have z2:Sz 5 (2:Rat):=⟨by decide,by decide⟩
 have z1:Sz 5 (-1:Rat):=⟨by decide,by decide⟩
 refine a8 (fW (b:=false) (sd (x:=ay (aY t n r r*4)) (uY _ 59) (f2 (a:=au t) (b:=ae (bU 2 r)) (LP.nm_at rfl) (f2 (a:=ae r) (b:=ay 2) (LP.nm_at rfl) (λP hP=>?_) λP hP=>CL (by omega) rz' z2 hP) λP hP=>vX h ev (mz z2).2 (mz z2).1 (by rw[v4 h rl rl,show(2:Rat)*2=4 by decide +kernel,o5];exact hP)) (f2 (a:=ay (aY t n r r)) (b:=ay 4) (LP.nm_at rfl) (λP hP=>?_) λP hP=>EF (B2.of fz (show Sz 5 (4:Rat) from⟨by decide,by decide⟩) (by decide)) hP)) (λe=>nomatch e) λ_=>?_)
 .rw[<-s2] at hP;exact⟨by decide,hP⟩
 .rw[<-s4] at hP;exact⟨by decide,hP⟩
 dsimp only;refine fW (b:=false) (B.C.or_by (b:=false) (c:=false) (sd (x:=ay ((sA t n (n-1) (n-1):Int):Rat)) (uY _ 59) (f2 (a:=au t) (b:=ae (aA n (n-1))) (LP.nm_at rfl) (LP.nm_at rfl) λP hP=>vX h ev (eZ _ _) (λx hx=>(NB hx).mono (by decide)) (by rw[Nx h (by omega)];exact hP)) (λP hP=>?_)) (sd (x:=ay (aY t n r r)) (uY _ 59) (f2 (a:=au t) (b:=ae (bU (-1) r)) (LP.nm_at rfl) (f2 (a:=ae r) (b:=ay (-1)) (LP.nm_at rfl) (λP hP=>?_) λP hP=>CL (by omega) rz' z1 hP) λP hP=>vX h ev (mz z1).2 (mz z1).1 (by rw[v4 h rl rl,show(-1:Rat) * -1=1 by decide +kernel,nB];exact hP)) (LP.nm_at rfl))) (λe=>nomatch e) λ_=>hnx _ ⟨_,_,_,_,_,_,_,_,_,_,_,_,_,_,_,rfl⟩
 .have e:sA t n (n-1) (n-1)=t.getD (n-1) 0:=by
   show Dt.tA (tbl t n) (n-1) (n-1)=_;rw[Gs.tA_ent h (by omega) (by omega)];unfold ent;rw[show n-1-(n-1)+(n-1)=n-1 by omega]
  rw[e] at hP;have hl:=h.len;have e2:(t.map D.int)[n-1]? = some (.int (t.getD (n-1) 0)):=by
   rw[cc,aM,bG (by omega)];rfl
  unfold au;walk_at "st";rw[show(n:Int)-1=((n-1:Nat):Int) by omega];refine⟨_,cD e2,by decide,?_⟩;exact hP
 .rw[<-sm] at hP
  walk_at "st";exact⟨by decide,hP⟩
end G.V9.W.E1.S2
end LP
set_option maxHeartbeats 8000000
namespace LP
open PySem PySem.Spec PyProof.Rows L2
namespace G.V9.W.E1.S2
theorem NF{K:Oq}{H:Hp}{a:Addr}{ns:List Int}(hl:ns.length<=63)(hO:oy H)(hS:SqL K H a (ns.map V.int)):fO K v6 [.ref a] H (λv _=>v=.bl true) λ_ _ _=>False:=by
 have rv:∀W:Wd,Reps K W (ns.map V.int) (ns.map D.int):=λW=>by
  clear hl hS
  induction ns with
  |nil=>exact .nil
  |cons n ns ih=>exact .cons (.int n) ih
 have ok:WOk ⟨H,λ_=>False⟩ H:=⟨λ_ _ e=>e,λ_ e=>e.elim⟩
 refine⟨[.scr (ns.map .int)],⟨H,λ_=>False⟩,ok,.cons (.scr ?_ (rv _)) .nil,ns,rfl,hl,λv W' H' _ r=>?_⟩
 .rcases hS with(h|h)|h
  .rcases hO a with z|⟨o,xs,z⟩
   .rw[h] at z;cases z
   .rw[h] at z;cases z
  .exact .inl h
  .exact .inr h
 .cases r;rfl
def top(i:Nat):Stmt:=PySem.Challenge.pw_slanttables_k52_whole_signs.main.body.getD i (.Pass ⟨0,0,0,0⟩)
structure Bs(K:Oq)(mg:Str->Option Value):Prop where
 f_is_whole:aC K mg "is_whole" (top 3)
 f_is_within:aC K mg "is_within" (top 4)
 f_are_within:aC K mg "are_within" (top 5)
 f_common_divisor:aC K mg "common_divisor" (top 6)
 f_is_share:aC K mg "is_share" (top 7)
 f_is_row_within:aC K mg "is_row_within" (top 8)
 f_is_row:aC K mg "is_row" (top 9)
 f_share_by:aC K mg "share_by" (top 10)
 f_plus:aC K mg "plus" (top 11)
 f_minus:aC K mg "minus" (top 12)
 f_times:aC K mg "times" (top 13)
 f_by:aC K mg "by" (top 14)
 f_row_of:aC K mg "row_of" (top 15)
 f_one_at:aC K mg "one_at" (top 16)
 f_row_by:aC K mg "row_by" (top 17)
 f_row_less:aC K mg "row_less" (top 18)
 f_sum_of_products:aC K mg "sum_of_products" (top 19)
 f_first_with:aC K mg "first_with" (top 21)
 f_without_place:aC K mg "without_place" (top 22)
 f_cleared:aC K mg "cleared" (top 23)
 f_are_independent:aC K mg "are_independent" (top 24)
 f_size_of:aC K mg "size_of" (top 36)
 f_slants_good:aC K mg "slants_good" (top 37)
 f_need_slants:aC K mg "need_slants" (top 38)
 f_table_of:aC K mg "table_of" (top 39)
 f_turned_slants:aC K mg "turned_slants" (top 40)
 f_corner:aC K mg "corner" (top 41)
 f_row_good:aC K mg "row_good" (top 42)
 f_share_rows:aC K mg "share_rows" (top 43)
 f_times_row:aC K mg "times_row" (top 44)
 f_table_without:aC K mg "table_without" (top 46)
 f_table_number:aC K mg "table_number" (top 47)
 f_number_of:aC K mg "number_of" (top 48)
 f_corner_numbers:aC K mg "corner_numbers" (top 49)
 f_weak_sizes:aC K mg "weak_sizes" (top 50)
 f_first_weak:aC K mg "first_weak" (top 52)
 f_need_strong:aC K mg "need_strong" (top 53)
 f_is_even:aC K mg "is_even" (top 55)
 f_need_even:aC K mg "need_even" (top 56)
 f_pair_at:aC K mg "pair_at" (top 57)
 f_lead_among:aC K mg "lead_among" (top 58)
 f_apart_from:aC K mg "apart_from" (top 59)
 f_apart_rows:aC K mg "apart_rows" (top 60)
 f_form_at:aC K mg "form_at" (top 62)
 f_are_apart:aC K mg "are_apart" (top 63)
 f_sign_paper_good:aC K mg "sign_paper_good" (top 64)
 f_signs_by:aC K mg "signs_by" (top 65)
 f_sign_paper:aC K mg "sign_paper" (top 66)
 f_signs_of:aC K mg "signs_of" (top 67)
 f_corner_signs:aC K mg "corner_signs" (top 68)
 f_free_row:aC K mg "free_row" (top 70)
 f_free_rows:aC K mg "free_rows" (top 71)
 f_free_many:aC K mg "free_many" (top 72)
 f__law_cell_at:aC K mg "_law_cell_at" (top 74)
 f__law_next:aC K mg "_law_next" (top 75)
 f__law_pen_of:aC K mg "_law_pen_of" (top 76)
 f__law_draw:aC K mg "_law_draw" (top 77)
 f__law_share:aC K mg "_law_share" (top 78)
 f__law_times:aC K mg "_law_times" (top 80)
 f__law_slants_by:aC K mg "_law_slants_by" (top 81)
 f__law_row_by:aC K mg "_law_row_by" (top 82)
 f__law_scaled:aC K mg "_law_scaled" (top 83)
 f_law:aC K mg "law" (top 84)
 b_len:mg "len" = none
 b_int:mg "int" = none
 b_max:mg "max" = none
 b_abs:mg "abs" = none
 b_range:mg "range" = none
 b_tuple:mg "tuple" = none
 b_bool:mg "bool" = none
 b_isinstance:mg "isinstance" = none
 b_all:mg "all" = none
 c_GREATEST_SIZE:CI mg "GREATEST_SIZE" (5)
 c_LEAST:CI mg "LEAST" (-50)
 c_MOST:CI mg "MOST" (50)
 x_NoSlants:XC K mg "NoSlants"
 x_NoNumber:XC K mg "NoNumber"
 b_enumerate:mg "enumerate" = none
 b_list:mg "list" = none
 x_NotEven:XC K mg "NotEven"
 xf_NotStrong:XK1 K mg "NotStrong" "NotStrong.__init__" "size" (Ck (top 31))
 b_zip:mg "zip" = none
 c_NOUGHT:CT K mg "NOUGHT" [(D.int (0)),(D.int (1))]
 x_NoRow:XC K mg "NoRow"
 c_ONE:CT K mg "ONE" [(D.int (1)),(D.int (1))]
section
variable{P:Program}{w:World}{K:Oq}{mg:Str->Option Value}{base:Heap}(Z:Bs K mg)
include Z
theorem NG:Fp P w K mg base 1 "_law_cell_at" J5 xM:=bp (z:=Bm) (N:=EG) Z.f__law_cell_at (λsc _ _ _ _ _ _ _ hr hx hw=>(aD (c5 (cE oG (ac 1) (du fS Z.b_len OD (Za (ac 0) ah))) (aE (aO (ci aP (ac 0) (ac 1)))) cZ) (aE (aO av)))) Kc
theorem G8:Fp P w K mg base 1 "_law_next" J6 vf:=bp (z:=Bo) (N:=EH) Z.f__law_next (λsc _ _ _ _ _ _ _ hr hx hw=>(aD (bH 0 (aG pF (aG dR (ac 0) av) av) sc) (aE (aO (aG pF (aG dR (aG dR (aG dF (ac 0) (ac 0)) (aG dF av (ac 0))) av) av))))) Kd
theorem oX:Fp P w K mg base 2 "_law_draw" J8 kQ:=bp (z:=Bq) (N:=EJ) Z.f__law_draw (λsc _ _ _ _ _ _ _ hr hx hw=>(aD (c5 (cE (cT hr.units) (ci uW (ac 0) av) av) (aD (bH 2 (aG pF (ci uW (ac 0) av) (ac 1)) sc) (aD (DR 0 0 (aG pG (ci uW (ac 0) av) (ac 1))) (aE (aO (ac 2))))) cZ) (aD (DR 0 2 (az (G8 Z) hr hx (Za (aG dR (az (G8 Z) hr hx (Za (ci uW (ac 0) av) ah)) av) ah))) (aE (aO (aG pF (aG pG (ci uW (ac 0) av) av) (ac 1))))))) Kf
theorem NH:Fp P w K mg base 1 "_law_pen_of" J7 xN:=bp (z:=Bp) (N:=EI) Z.f__law_pen_of (λsc _ _ _ _ _ _ _ hr hx hw=>(aD (bH 1 (du (uL rfl) Z.b_max boot_max (Za (ac 0) (Za (aG fv av (ac 0)) ah))) sc) (aE (aO (IK (lW (Za (ac 1) (Za (Zc Ax Z.b_int boot_int (Za (oE At (ac 1) (aG DK av av)) ah)) (Za (aG pF (ac 1) av) ah))))))))) Ke
theorem CO:Fp P w K mg base 1 "_law_share" J9 rF:=bp (z:=Bt) (N:=EK) Z.f__law_share (λsc _ _ _ _ _ _ _ hr hx hw=>(aD (AA 2 3 sc (Za (du Aw Z.b_abs boot_abs (Za (ac 0) ah)) (Za (du Aw Z.b_abs boot_abs (Za (ac 1) ah)) ah))) (aD (jr (AB PassesOwn.never (cE (db hr.units) (ac 3) av) (aE (AA 2 3 sc (Za (ac 3) (Za (aG pF (ac 2) (ac 3)) ah)))))) (aD (c5 (cE oG (ac 1) av) (aE (bH 2 (aG fv av (ac 2)) sc)) cZ) (aE (aO (kO (Za (aG pG (ac 0) (ac 2)) (Za (aG pG (ac 1) (ac 2)) ah))))))))) Kg
theorem NI:Fp P w K mg base 3 "_law_row_by" Zi xP:=bp (z:=Bv) (N:=EO) Z.f__law_row_by (λsc _ _ _ _ _ _ _ hr hx hw=>(aD (bH 2 (ci aP (PXL.px (lW (Za av (Za av (Za av (Za av (Za av (Za av (Za av (Za (aG DK av av) ah)))))))))) (az (oX Z) hr hx (Za (ac 0) (Za av ah)))) sc) (aD (pH 3 (lW ah) sc) (aD (jr (kP PassesOwn.never rfl (pI Z.b_range (Za (ac 1) ah)) (br 4 sc) (aE (AC 3 (az (CO Z) hr bo (Za (aG dF (aG fv (az (oX Z) hr bo (Za (ac 0) (Za av ah))) av) (ac 2)) (Za (aG dR av (az (oX Z) hr bo (Za (ac 0) (Za av ah)))) ah))))))) (ke 3 (aE (aO (Zc nI Z.b_tuple OJ (Za (ac 3) ah))))))))) Ki
theorem G9:Fp P w K mg base 2 "_law_times" Ka vg:=bp (z:=EM) (N:=EL) Z.f__law_times (λsc _ _ _ _ _ _ _ hr hx hw=>(aE (aO (az (CO Z) hr hx (Za (aG dF (ci aP (ac 0) av) (ci aP (ac 1) av)) (Za (aG dF (ci aP (ac 0) av) (ci aP (ac 1) av)) ah)))))) Kh
theorem CP:Fp P w K mg base 3 "_law_scaled" Nz sX:=bp (z:=CM) (N:=G5) Z.f__law_scaled (λsc _ _ _ _ _ _ _ hr hx hw=>(aE (aO (Zc nI Z.b_tuple OJ (Za (PXL.px (fw ["_law_one"] [1] rfl (gB (ac 0)) (λ_ _ _=>(br 0 (by decide +kernel:List.Nodup (["_law_one", "_law_factor"]:List Str)))) (λ_ _ _=>eQ) (λ_ _ _=>(az (G9 Z) hr bo (Za (ac 0) (Za (ac 1) ah)))))) ah))))) ND
theorem NJ:Fp P w K mg base 3 "_law_slants_by" Kb xO:=bp (z:=Bu) (N:=EN) Z.f__law_slants_by (λsc _ _ _ _ _ _ _ hr hx hw=>(aD (bH 1 (aG dR av (az (oX Z) hr hx (Za (ac 0) (Za av ah)))) sc) (aD (bH 2 (az (oX Z) hr hx (Za (ac 0) (Za av ah))) sc) (aD (bH 3 (ci aP (PXL.px (lW (Za av (Za av (Za av (Za av ah)))))) (az (oX Z) hr hx (Za (ac 0) (Za av ah)))) sc) (aD (uM 4 ["_law_place"] [0,3] rfl sc (pI Z.b_range (Za (aG fv (aG dF av (ac 1)) av) ah)) (λ_ _ _=>(br 0 (by decide +kernel:List.Nodup (["_law_place", "_law_pen", "_law_span"]:List Str)))) (λ_ _ _=>eQ) (λ_ _ _=>(aG fv (az (oX Z) hr bo (Za (ac 1) (Za (aG dR (aG dF av (ac 2)) av) ah))) (ac 2)))) (aD (c5 (cE (cT hr.units) (ac 2) av) (aE (pH 4 (xw 4 (AF (fQ (ac 4) jp (eP (ac 1))) (xj (fQ (ac 4) jp (eP (aG fv (ac 1) av)))))) sc)) cZ) (aD (c5 (cE (cT hr.units) (ac 2) av) (aE (pH 4 (xw 4 (AF (fQ (ac 4) (eP av) (eP (ac 1))) (fQ (ac 4) jp (eP (ac 1))))) sc)) cZ) (aD (c5 (cE (cT hr.units) (ac 2) av) (aE (pH 4 (xw 4 (AF (fQ (ac 4) jp (eP (ac 1))) (aG dF (PXL.px (lW (Za av ah))) (aG fv (ac 1) av)))) sc)) cZ) (aD (c5 (cE (cT hr.units) (ac 2) av) (aE (DQ 4 (aG fv (ac 1) av) av)) cZ) (aD (c5 (cE (cT hr.units) (ac 2) av) (aE (pH 4 (xw 4 (IJ (fQ (ac 4) jp (eP av)) (aG fv (aG dF av (ac 1)) av))) sc)) cZ) (ke 4 (aE (aO (Zc nI Z.b_tuple OJ (Za (ac 4) ah))))))))))))))) Kk
theorem CQ:Fp P w K mg base 1 "is_whole" Jg u3:=bp (z:=AV) (N:=Ea) Z.f_is_whole (λsc _ _ _ _ _ _ _ hr hx hw=>(aE (aO (uH (du su Z.b_isinstance OP (Za (ac 0) (Za (sx Z.b_int boot_int) ah))) (uG (HM (du su Z.b_isinstance OP (Za (ac 0) (Za (sx Z.b_bool boot_bool) ah))))))))) Jz
theorem Ha:Fp P w K mg base 2 "is_within" Jh u4:=bp (z:=AW) (N:=Eb) Z.f_is_within (λsc _ _ _ _ _ _ _ hr hx hw=>(aE (aO (uH (az (CQ Z) hr hx (Za (ac 0) ah)) (uG (HN mV mV (ac 1) (ac 0) (ac 2))))))) JA
theorem NK:Fp P w K mg base 3 "are_within" Ji xD:=bp (z:=AX) (N:=Ed) Z.f_are_within (λsc _ _ _ _ _ _ _ hr hx hw=>(aE (aO (uH (du su Z.b_isinstance OP (Za (ac 0) (Za (sx Z.b_tuple OJ) ah))) (uG (du (xn rfl) Z.b_all boot_all (Za (PXL.px (fw ["number"] [1,2] rfl (gB (ac 0)) (λ_ _ _=>(br 0 (by decide +kernel:List.Nodup (["number", "least", "most"]:List Str)))) (λ_ _ _=>eQ) (λ_ _ _=>(az (Ha Z) hr bo (Za (ac 0) (Za (ac 1) (Za (ac 2) ah))))))) ah))))))) JB
theorem p6:Fp P w K mg base 1 "size_of" Jr lX:=bp (z:=A7) (N:=En) Z.f_size_of (λsc _ _ _ _ _ _ _ hr hx hw=>(aE (aO (aG pG (aG dR (du fS Z.b_len OD (Za (ac 0) ah)) av) av)))) JR
theorem NM:Fp P w K mg base 4 "slants_good" Js Zd:=bp (z:=A8) (N:=Eo) Z.f_slants_good (λsc _ _ _ _ _ _ _ hr hx hw=>(aD (c5 (PXW.pxt (mU (jI (j8 (az (NK Z) hr hx (Za (ac 0) (Za (B7 Z.c_LEAST) (Za (B7 Z.c_MOST) ah)))))) (nD (cE (cT hr.units) (aG pF (du fS Z.b_len OD (Za (ac 0) ah)) av) av)))) (aE (aO kN)) cZ) (aE (aO (oE mV (az (p6 Z) hr hx (Za (ac 0) ah)) (B7 Z.c_GREATEST_SIZE)))))) JS
theorem sY:Fp P w K mg base 5 "need_slants" Jt m8:=bp (z:=A9) (N:=Ep) Z.f_need_slants (λsc _ _ _ _ _ _ _ hr hx hw=>(aE (c5 (jI (j8 (az (NM Z) hr hx (Za (ac 0) ah)))) (aE (sH hw Z.x_NoSlants)) cZ))) JT
theorem NN:Fp P w K mg base 6 "corner" Zn u8:=bp (z:=Bc) (N:=Et) Z.f_corner (λsc _ _ _ _ _ _ _ hr hx hw=>(aD (mW (az (sY Z) hr hx (Za (ac 0) ah))) (aD (bH 2 (az (p6 Z) hr hx (Za (ac 0) ah)) sc) (aD (c5 (jI (j8 (az (Ha Z) hr hx (Za (ac 1) (Za av (Za (ac 2) ah)))))) (aE (sH hw Z.x_NoNumber)) cZ) (aE (aO (fQ (ac 0) (eP (aG fv (ac 2) (ac 1))) (eP (aG fv (aG dR (ac 2) (ac 1)) av))))))))) JW
theorem v7:Fp P w K mg base 1 "table_without" Mh yr:=bp (z:=yv) (N:=F2) Z.f_table_without (λsc _ _ _ _ _ _ _ hr hx hw=>(aE (aO (PXL.px (fw ["row"] [1] rfl (gB (fQ (ac 0) (eP av) jp)) (λ_ _ _=>(br 0 (by decide +kernel:List.Nodup (["row", "column"]:List Str)))) (λ_ _ _=>eQ) (λ_ _ _=>(aG dR (fQ (ac 0) jp (eP (ac 1))) (fQ (ac 0) (eP (aG dR (ac 1) av)) jp)))))))) Ml
theorem NO:Fp P w K mg base 2 "table_number" rV (kx 0):=bp (z:=l3 λ_=>Bz) (N:=pV) Z.f_table_number (λsc _ _ _ _ _ _ _ hr hx hw=>(aD (c5 (cE (cT hr.units) (du fS Z.b_len OD (Za (ac 0) ah)) av) (aE (aO av)) cZ) (aD (bH 1 av sc) (aD (bH 2 av sc) (aD (jr (kP PassesOwn.never rfl (oO Z.b_enumerate (Za (ci aP (ac 0) av) ah)) (je rfl (de (br 3 sc) (de (br 4 sc) jd))) (aD (sP 1 (aG dF (aG dF (ac 2) (ac 4)) Kp) sc) (aE (bH 2 (nF nG (ac 2)) sc))))) (aE (aO (ac 1)))))))) Mm
theorem NP:Fp P w K mg base 3 "table_number" rV (kx 1):=bp (z:=l3 (wF (kx 0))) (N:=pV) Z.f_table_number (λsc _ _ _ _ _ _ _ hr hx hw=>(aD (c5 (cE (cT hr.units) (du fS Z.b_len OD (Za (ac 0) ah)) av) (aE (aO av)) cZ) (aD (bH 1 av sc) (aD (bH 2 av sc) (aD (jr (kP PassesOwn.never rfl (oO Z.b_enumerate (Za (ci aP (ac 0) av) ah)) (je rfl (de (br 3 sc) (de (br 4 sc) jd))) (aD (sP 1 (aG dF (aG dF (ac 2) (ac 4)) (az (NO Z) hr bo (Za (az (v7 Z) hr bo (Za (ac 0) (Za (ac 3) ah))) ah))) sc) (aE (bH 2 (nF nG (ac 2)) sc))))) (aE (aO (ac 1)))))))) (vH 0)
theorem NQ:Fp P w K mg base 4 "table_number" rV (kx 2):=bp (z:=l3 (wF (kx 1))) (N:=pV) Z.f_table_number (λsc _ _ _ _ _ _ _ hr hx hw=>(aD (c5 (cE (cT hr.units) (du fS Z.b_len OD (Za (ac 0) ah)) av) (aE (aO av)) cZ) (aD (bH 1 av sc) (aD (bH 2 av sc) (aD (jr (kP PassesOwn.never rfl (oO Z.b_enumerate (Za (ci aP (ac 0) av) ah)) (je rfl (de (br 3 sc) (de (br 4 sc) jd))) (aD (sP 1 (aG dF (aG dF (ac 2) (ac 4)) (az (NP Z) hr bo (Za (az (v7 Z) hr bo (Za (ac 0) (Za (ac 3) ah))) ah))) sc) (aE (bH 2 (nF nG (ac 2)) sc))))) (aE (aO (ac 1)))))))) (vH 1)
theorem NR:Fp P w K mg base 5 "table_number" rV (kx 3):=bp (z:=l3 (wF (kx 2))) (N:=pV) Z.f_table_number (λsc _ _ _ _ _ _ _ hr hx hw=>(aD (c5 (cE (cT hr.units) (du fS Z.b_len OD (Za (ac 0) ah)) av) (aE (aO av)) cZ) (aD (bH 1 av sc) (aD (bH 2 av sc) (aD (jr (kP PassesOwn.never rfl (oO Z.b_enumerate (Za (ci aP (ac 0) av) ah)) (je rfl (de (br 3 sc) (de (br 4 sc) jd))) (aD (sP 1 (aG dF (aG dF (ac 2) (ac 4)) (az (NQ Z) hr bo (Za (az (v7 Z) hr bo (Za (ac 0) (Za (ac 3) ah))) ah))) sc) (aE (bH 2 (nF nG (ac 2)) sc))))) (aE (aO (ac 1)))))))) (vH 2)
theorem NS:Fp P w K mg base 6 "table_number" rV (kx 4):=bp (z:=l3 (wF (kx 3))) (N:=pV) Z.f_table_number (λsc _ _ _ _ _ _ _ hr hx hw=>(aD (c5 (cE (cT hr.units) (du fS Z.b_len OD (Za (ac 0) ah)) av) (aE (aO av)) cZ) (aD (bH 1 av sc) (aD (bH 2 av sc) (aD (jr (kP PassesOwn.never rfl (oO Z.b_enumerate (Za (ci aP (ac 0) av) ah)) (je rfl (de (br 3 sc) (de (br 4 sc) jd))) (aD (sP 1 (aG dF (aG dF (ac 2) (ac 4)) (az (NR Z) hr bo (Za (az (v7 Z) hr bo (Za (ac 0) (Za (ac 3) ah))) ah))) sc) (aE (bH 2 (nF nG (ac 2)) sc))))) (aE (aO (ac 1)))))))) (vH 3)
theorem NT:Fp P w K mg base 7 "table_number" rV (kx 5):=bp (z:=l3 (wF (kx 4))) (N:=pV) Z.f_table_number (λsc _ _ _ _ _ _ _ hr hx hw=>(aD (c5 (cE (cT hr.units) (du fS Z.b_len OD (Za (ac 0) ah)) av) (aE (aO av)) cZ) (aD (bH 1 av sc) (aD (bH 2 av sc) (aD (jr (kP PassesOwn.never rfl (oO Z.b_enumerate (Za (ci aP (ac 0) av) ah)) (je rfl (de (br 3 sc) (de (br 4 sc) jd))) (aD (sP 1 (aG dF (aG dF (ac 2) (ac 4)) (az (NS Z) hr bo (Za (az (v7 Z) hr bo (Za (ac 0) (Za (ac 3) ah))) ah))) sc) (aE (bH 2 (nF nG (ac 2)) sc))))) (aE (aO (ac 1)))))))) (vH 4)
theorem NU:Fp P w K mg base 7 "table_number" rV Ca:=NT Z
theorem Hb:Fp P w K mg base 6 "table_of" Ju u7:=bp (z:=Ba) (N:=Er) Z.f_table_of (λsc _ _ _ _ _ _ _ hr hx hw=>(aD (mW (az (sY Z) hr hx (Za (ac 0) ah))) (aD (bH 1 (az (p6 Z) hr hx (Za (ac 0) ah)) sc) (aE (aO (PXL.px (fw ["i"] [0,1] rfl (pI Z.b_range (Za (ac 1) ah)) (λ_ _ _=>(br 0 (by decide +kernel:List.Nodup (["i", "slants", "size"]:List Str)))) (λ_ _ _=>eQ) (λ_ _ _=>(PXL.px (An Av Z.b_list boot_list (Za (fQ (ac 1) (eP (aG fv (aG fv (ac 2) av) (ac 0))) (eP (aG fv (aG fv (aG dF av (ac 2)) av) (ac 0)))) ah))))))))))) JU
theorem NV:Fp P w K mg base 8 "number_of" Mi vG:=bp (z:=yw) (N:=F3) Z.f_number_of (λsc _ _ _ _ _ _ _ hr hx hw=>(aE (aO (az (NU Z) hr hx (Za (az (Hb Z) hr hx (Za (ac 0) ah)) ah))))) Mn
theorem Hc:Fp P w K mg base 9 "corner_numbers" Mj sQ:=bp (z:=yx) (N:=F5) Z.f_corner_numbers (λsc _ _ _ _ _ _ _ hr hx hw=>(aD (mW (az (sY Z) hr hx (Za (ac 0) ah))) (aE (aO (PXL.px (fw ["size"] [0] rfl (Ig Z.b_range (Za av (Za (aG dR (az (p6 Z) hr hx (Za (ac 0) ah)) av) ah))) (λ_ _ _=>(br 0 (by decide +kernel:List.Nodup (["size", "slants"]:List Str)))) (λ_ _ _=>eQ) (λ_ _ _=>(az (NV Z) hr bo (Za (az (NN Z) hr bo (Za (ac 1) (Za (ac 0) ah))) ah))))))))) Mp
theorem NW:Fp P w K mg base 6 "turned_slants" Jv xI:=bp (z:=Bb) (N:=Es) Z.f_turned_slants (λsc _ _ _ _ _ _ _ hr hx hw=>(aD (mW (az (sY Z) hr hx (Za (ac 0) ah))) (aE (aO (xj (ac 0)))))) JV
theorem NX:Fp P w K mg base 7 "is_even" KR BO:=bp (z:=BP) (N:=Fm) Z.f_is_even (λsc _ _ _ _ _ _ _ hr hx hw=>(aE (aO (oE (cT hr.units) (az (NW Z) hr hx (Za (ac 0) ah)) (ac 0))))) KY
theorem y6:Fp P w K mg base 8 "need_even" KS rL:=bp (z:=Zf) (N:=Fn) Z.f_need_even (λsc _ _ _ _ _ _ _ hr hx hw=>(aE (c5 (jI (j8 (az (NX Z) hr hx (Za (ac 0) ah)))) (aE (sH hw Z.x_NotEven)) cZ))) KZ
theorem NY:Fp P w K mg base 10 "weak_sizes" Mk yt:=bp (z:=yy) (N:=F6) Z.f_weak_sizes (λsc _ _ _ _ _ _ _ hr hx hw=>(aE (aO (PXL.px (fw ["size", "number"] [] rfl (L8 Z.b_enumerate (Za (az (Hc Z) hr hx (Za (ac 0) ah)) ah)) (λ_ _ _=>(je rfl (de (br 0 (by decide +kernel:List.Nodup (["size", "number"]:List Str))) (de (br 1 (by decide +kernel:List.Nodup (["size", "number"]:List Str))) jd)))) (λ_ _ _=>(xp (cE (cT hr.units) (ac 1) av))) (λ_ _ _=>(ac 0))))))) Mr
theorem Hf:Fp P w K mg base 11 "first_weak" Mx vJ:=bp (z:=yB) (N:=Ga) Z.f_first_weak (λsc _ _ _ _ _ _ _ hr hx hw=>(aD (bH 1 (az (NY Z) hr hx (Za (ac 0) ah)) sc) (aE (aO (DI (cE oH (du fS Z.b_len OD (Za (ac 1) ah)) av) (ci aP (ac 1) av) qY))))) My
theorem NZ:Fp P w K mg base 12 "need_strong" MG yD:=bp (z:=yE) (N:=Gh) Z.f_need_strong (λsc _ _ _ _ _ _ _ hr hx hw=>(aD (bH 1 (az (Hf Z) hr hx (Za (ac 0) ah)) sc) (aE (c5 (cE BC (ac 1) qY) (aE (MC Fl.raisd_cx (XK1.xf (k:=0) Z.xf_NotStrong MD) (hr.mono (by decide)) (ac 1))) cZ)))) MH
theorem N0:Fp P w K mg base 13 "corner_signs" MK Cm:=bp (z:=yG) (N:=Gn) Z.f_corner_signs (λsc _ _ _ _ _ _ _ hr hx hw=>(aD (mW (az (y6 Z) hr hx (Za (ac 0) ah))) (aD (mW (az (NZ Z) hr hx (Za (ac 0) ah))) (aD (bH 1 (aG dR (PXL.px (lW (Za av ah))) (az (Hc Z) hr hx (Za (ac 0) ah))) sc) (aE (aO (PXL.px (fw ["left", "right"] [] rfl (xv Z.b_zip (Za (ac 1) (Za (fQ (ac 1) (eP av) jp) ah))) (λ_ _ _=>(je rfl (de (br 0 (by decide +kernel:List.Nodup (["left", "right"]:List Str))) (de (br 1 (by decide +kernel:List.Nodup (["left", "right"]:List Str))) jd)))) (λ_ _ _=>eQ) (λ_ _ _=>(DI (cE oH (aG dF (ac 0) (ac 1)) av) av (nF nG av))))))))))) MM
theorem Hg:Fp P w K mg base 1 "common_divisor" Zg xE:=bp (z:=AY) (N:=Ee) Z.f_common_divisor (λsc _ _ _ _ _ _ _ hr hx hw=>(aD (jr (AB PassesOwn.never (cE (db hr.units) (ac 1) av) (aE (AA 0 1 sc (Za (ac 1) (Za (aG pF (ac 0) (ac 1)) ah)))))) (aE (aO (du Aw Z.b_abs boot_abs (Za (ac 0) ah)))))) JC
theorem N2:Fp P w K mg base 2 "is_share" Jj AL:=bp (z:=AZ) (N:=Ef) Z.f_is_share (λsc _ _ _ _ _ _ _ hr hx hw=>(aD (c5 (PXW.pxt (mU (jI (j8 (du su Z.b_isinstance OP (Za (ac 0) (Za (sx Z.b_tuple OJ) ah))))) (nD (cE (db hr.units) (du fS Z.b_len OD (Za (ac 0) ah)) av)))) (aE (aO kN)) cZ) (aD (xq (ac 0) (je rfl (de (br 1 sc) (de (br 2 sc) jd)))) (aD (c5 (PXW.pxt (mU (jI (j8 (az (CQ Z) hr hx (Za (ac 1) ah)))) (nD (jI (j8 (az (CQ Z) hr hx (Za (ac 2) ah))))))) (aE (aO kN)) cZ) (aE (aO (uH (oE oH (ac 2) av) (uG (oE (cT hr.units) (az (Hg Z) hr hx (Za (ac 1) (Za (ac 2) ah))) av))))))))) JG
theorem N3:Fp P w K mg base 3 "is_row_within" Jk xF:=bp (z:=A0) (N:=Eg) Z.f_is_row_within (λsc _ _ _ _ _ _ _ hr hx hw=>(aD (c5 (PXW.pxt (mU (jI (j8 (du su Z.b_isinstance OP (Za (ac 0) (Za (sx Z.b_tuple OJ) ah))))) (nD (jI (Zm mV mV (ac 1) (du fS Z.b_len OD (Za (ac 0) ah)) (ac 2)))))) (aE (aO kN)) cZ) (aE (aO (du (xn rfl) Z.b_all boot_all (Za (PXL.px (fw ["part"] [] rfl (gB (ac 0)) (λ_ _ _=>(br 0 (by decide +kernel:List.Nodup (["part"]:List Str)))) (λ_ _ _=>eQ) (λ_ _ _=>(az (N2 Z) hr bo (Za (ac 0) ah))))) ah)))))) JH
theorem N4:Fp P w K mg base 4 "is_row" Jl xG:=bp (z:=A1) (N:=Eh) Z.f_is_row (λsc _ _ _ _ _ _ _ hr hx hw=>(aE (aO (az (N3 Z) hr hx (Za (ac 0) (Za (ac 1) (Za (ac 1) ah))))))) JJ
theorem CU:Fp P w K mg base 6 "row_good" Jw rp:=bp (z:=Be) (N:=Eu) Z.f_row_good (λsc _ _ _ _ _ _ _ hr hx hw=>(aD (mW (az (sY Z) hr hx (Za (ac 0) ah))) (aE (aO (az (N4 Z) hr hx (Za (ac 1) (Za (az (p6 Z) hr hx (Za (ac 0) ah)) ah))))))) JX
theorem y8:Fp P w K mg base 2 "share_by" Jm rm:=bp (z:=A2) (N:=Ei) Z.f_share_by (λsc _ _ _ _ _ _ _ hr hx hw=>(aD (Iz (cE (db hr.units) (ac 1) av)) (aD (bH 2 (az (Hg Z) hr hx (Za (ac 0) (Za (ac 1) ah))) sc) (aD (c5 (cE oG (ac 1) av) (aE (bH 2 (nF nG (ac 2)) sc)) cZ) (aE (aO (kO (Za (aG pG (ac 0) (ac 2)) (Za (aG pG (ac 1) (ac 2)) ah))))))))) JK
theorem N5:Fp P w K mg base 3 "plus" Jn xH:=bp (z:=A3) (N:=Ej) Z.f_plus (λsc _ _ _ _ _ _ _ hr hx hw=>(aE (aO (az (y8 Z) hr hx (Za (aG dR (aG dF (ci aP (ac 0) av) (ci aP (ac 1) av)) (aG dF (ci aP (ac 1) av) (ci aP (ac 0) av))) (Za (aG dF (ci aP (ac 0) av) (ci aP (ac 1) av)) ah)))))) JL
theorem Hh:Fp P w K mg base 3 "times" Jo rn:=bp (z:=A4) (N:=Ek) Z.f_times (λsc _ _ _ _ _ _ _ hr hx hw=>(aE (aO (az (y8 Z) hr hx (Za (aG dF (ci aP (ac 0) av) (ci aP (ac 1) av)) (Za (aG dF (ci aP (ac 0) av) (ci aP (ac 1) av)) ah)))))) EB
theorem Hi:Fp P w K mg base 4 "sum_of_products" Jq u6:=bp (z:=A6) (N:=Em) Z.f_sum_of_products (λsc _ _ _ _ _ _ _ hr hx hw=>(aD (bH 2 (rT Z.c_NOUGHT) sc) (aD (jr (kP PassesOwn.never rfl (xv Z.b_zip (Za (ac 0) (Za (ac 1) ah))) (je rfl (de (br 3 sc) (de (br 4 sc) jd))) (aE (bH 2 (az (N5 Z) hr bo (Za (ac 2) (Za (az (Hh Z) hr bo (Za (ac 3) (Za (ac 4) ah))) ah))) sc)))) (aE (aO (ac 2)))))) JO
theorem Hj:Fp P w K mg base 1 "row_of" Jp u5:=bp (z:=A5) (N:=El) Z.f_row_of (λsc _ _ _ _ _ _ _ hr hx hw=>(aE (aO (Zc nI Z.b_tuple OJ (Za (PXL.px (fw ["number"] [] rfl (gB (ac 0)) (λ_ _ _=>(br 0 (by decide +kernel:List.Nodup (["number"]:List Str)))) (λ_ _ _=>eQ) (λ_ _ _=>(kO (Za (ac 0) (Za av ah)))))) ah))))) JN
theorem Hk:Fp P w K mg base 7 "share_rows" Jx u9:=bp (z:=Bf) (N:=Ev) Z.f_share_rows (λsc _ _ _ _ _ _ _ hr hx hw=>(aE (aO (PXL.px (fw ["numbers"] [] rfl (gB (az (Hb Z) hr hx (Za (ac 0) ah))) (λ_ _ _=>(br 0 (by decide +kernel:List.Nodup (["numbers"]:List Str)))) (λ_ _ _=>eQ) (λ_ _ _=>(az (Hj Z) hr bo (Za (ac 0) ah)))))))) JY
theorem N6:Fp P w K mg base 8 "times_row" Jy xK:=bp (z:=Bg) (N:=Ew) Z.f_times_row (λsc _ _ _ _ _ _ _ hr hx hw=>(aD (c5 (jI (j8 (az (CU Z) hr hx (Za (ac 0) (Za (ac 1) ah))))) (aE (sH hw Z.x_NoRow)) cZ) (aE (aO (Zc nI Z.b_tuple OJ (Za (PXL.px (fw ["line"] [1] rfl (gB (az (Hk Z) hr hx (Za (ac 0) ah))) (λ_ _ _=>(br 0 (by decide +kernel:List.Nodup (["line", "row"]:List Str)))) (λ_ _ _=>eQ) (λ_ _ _=>(az (Hi Z) hr bo (Za (ac 0) (Za (ac 1) ah)))))) ah)))))) JZ
theorem v8:Fp P w K mg base 9 "pair_at" KU na:=bp (z:=BQ) (N:=Fo) Z.f_pair_at (λsc _ _ _ _ _ _ _ hr hx hw=>(aD (mW (az (y6 Z) hr hx (Za (ac 0) ah))) (aD (c5 (jI (j8 (az (CU Z) hr hx (Za (ac 0) (Za (ac 1) ah))))) (aE (sH hw Z.x_NoRow)) cZ) (aE (aO (az (Hi Z) hr hx (Za (ac 1) (Za (az (N6 Z) hr hx (Za (ac 0) (Za (ac 2) ah))) ah)))))))) K0
theorem v9:Fp P w K mg base 10 "form_at" M8 pY:=bp (z:=CA) (N:=GO) Z.f_form_at (λsc _ _ _ _ _ _ _ hr hx hw=>(aE (aO (az (v8 Z) hr hx (Za (ac 0) (Za (ac 1) (Za (ac 1) ah))))))) Ng
theorem N7:Fp P w K mg base 1 "first_with" Lj yc:=bp (z:=yh) (N:=Fz) Z.f_first_with (λsc _ _ _ _ _ _ _ hr hx hw=>(aD (jr (kP PassesOwn.never rfl (oO Z.b_enumerate (Za (ac 0) ah)) (je rfl (de (br 2 sc) (de (br 3 sc) jd))) (aE (c5 (cE (db hr.units) (ci aP (ac 3) (ac 1)) (rT Z.c_NOUGHT)) (aE (aO (ac 2))) cZ)))) (aE (aO qY)))) Ls
theorem Hl:Fp P w K mg base 3 "by" vn m7:=bp (z:=rJ) (N:=vm) Z.f_by (λsc _ _ _ _ _ _ _ hr hx hw=>(aE (aO (az (y8 Z) hr hx (Za (aG dF (ci aP (ac 0) av) (ci aP (ac 1) av)) (Za (aG dF (ci aP (ac 0) av) (ci aP (ac 1) av)) ah)))))) vo
theorem N8:Fp P w K mg base 4 "row_by" Lh yb:=bp (z:=yf) (N:=Fx) Z.f_row_by (λsc _ _ _ _ _ _ _ hr hx hw=>(aE (aO (Zc nI Z.b_tuple OJ (Za (PXL.px (fw ["part"] [1] rfl (gB (ac 0)) (λ_ _ _=>(br 0 (by decide +kernel:List.Nodup (["part", "share"]:List Str)))) (λ_ _ _=>eQ) (λ_ _ _=>(az (Hl Z) hr bo (Za (ac 0) (Za (ac 1) ah)))))) ah))))) Lp
theorem CV:Fp P w K mg base 3 "minus" Kz pL:=bp (z:=BH) (N:=Fc) Z.f_minus (λsc _ _ _ _ _ _ _ hr hx hw=>(aE (aO (az (y8 Z) hr hx (Za (aG fv (aG dF (ci aP (ac 0) av) (ci aP (ac 1) av)) (aG dF (ci aP (ac 1) av) (ci aP (ac 0) av))) (Za (aG dF (ci aP (ac 0) av) (ci aP (ac 1) av)) ah)))))) KA
theorem CW:Fp P w K mg base 4 "row_less" Li rO:=bp (z:=yg) (N:=Fy) Z.f_row_less (λsc _ _ _ _ _ _ _ hr hx hw=>(aE (aO (Zc nI Z.b_tuple OJ (Za (PXL.px (fw ["left", "right"] [1] rfl (xv Z.b_zip (Za (ac 0) (Za (ac 2) ah))) (λ_ _ _=>(je rfl (de (br 0 (by decide +kernel:List.Nodup (["left", "right", "share"]:List Str))) (de (br 1 (by decide +kernel:List.Nodup (["left", "right", "share"]:List Str))) jd)))) (λ_ _ _=>eQ) (λ_ _ _=>(az (CV Z) hr bo (Za (ac 0) (Za (az (Hh Z) hr bo (Za (ac 2) (Za (ac 1) ah))) ah)))))) ah))))) Lq
theorem Hm:Fp P w K mg base 5 "without_place" Lk vv:=bp (z:=yi) (N:=FA) Z.f_without_place (λsc _ _ _ _ _ _ _ hr hx hw=>(aE (aO (PXL.px (fw ["row"] [1,2] rfl (gB (ac 0)) (λ_ _ _=>(br 0 (by decide +kernel:List.Nodup (["row", "lead", "place"]:List Str)))) (λ_ _ _=>eQ) (λ_ _ _=>(az (CW Z) hr bo (Za (ac 0) (Za (ci aP (ac 0) (ac 2)) (Za (ac 1) ah)))))))))) Lu
theorem Hn:Fp P w K mg base 6 "cleared" Ll vw:=bp (z:=yj) (N:=FC) Z.f_cleared (λsc _ _ _ _ _ _ _ hr hx hw=>(aD (bH 2 (PXL.px (lW ah)) sc) (aD (pH 3 (lW ah) sc) (aD (bH 4 (PXL.px (An Av Z.b_list boot_list (Za (ac 0) ah))) sc) (aD (jr (kP PassesOwn.never rfl (pI Z.b_range (Za (ac 1) ah)) (br 5 sc) (aD (bH 6 (az (N7 Z) hr bo (Za (ac 4) (Za (ac 5) ah))) sc) (aE (c5 (cE BC (ac 6) qY) (aD (bH 7 (az (N8 Z) hr bo (Za (ci aP (ac 4) (ac 6)) (Za (ci aP (ci aP (ac 4) (ac 6)) (ac 5)) ah))) sc) (aD (bH 2 (aG dR (az (Hm Z) hr bo (Za (ac 2) (Za (ac 7) (Za (ac 5) ah)))) (PXL.px (lW (Za (ac 7) ah)))) sc) (aD (bH 4 (az (Hm Z) hr bo (Za (aG dR (fQ (ac 4) jp (eP (ac 6))) (fQ (ac 4) (eP (aG dR (ac 6) av)) jp)) (Za (ac 7) (Za (ac 5) ah)))) sc) (aE (AC 3 (ac 5)))))) cZ))))) (ke 3 (aE (aO (kO (Za (ac 2) (Za (ac 3) ah))))))))))) Lv
theorem Ho:Fp P w K mg base 2 "one_at" K3 vt:=bp (z:=BU) (N:=Ft) Z.f_one_at (λsc _ _ _ _ _ _ _ hr hx hw=>(aE (aO (az (Hj Z) hr hx (Za (PXL.px (fw ["at"] [0] rfl (pI Z.b_range (Za (ac 1) ah)) (λ_ _ _=>(br 0 (by decide +kernel:List.Nodup (["at", "place"]:List Str)))) (λ_ _ _=>eQ) (λ_ _ _=>(Zc Ax Z.b_int boot_int (Za (oE (cT hr.units) (ac 0) (ac 1)) ah))))) ah))))) K6
theorem N9:Fp P w K mg base 4 "free_row" Lm yd:=bp (z:=ym) (N:=FD) Z.f_free_row (λsc _ _ _ _ _ _ _ hr hx hw=>(aD (pH 4 (An Av Z.b_list boot_list (Za (az (Ho Z) hr hx (Za (ac 0) (Za (ac 1) ah))) ah)) sc) (aD (jr (kP PassesOwn.never rfl (xv Z.b_zip (Za (ac 2) (Za (ac 3) ah))) (je rfl (de (br 5 sc) (de (br 6 sc) jd))) (aE (DQ 4 (ac 6) (az (CV Z) hr bo (Za (rT Z.c_NOUGHT) (Za (ci aP (ac 5) (ac 0)) ah))))))) (ke 4 (aE (aO (Zc nI Z.b_tuple OJ (Za (ac 4) ah)))))))) LA
theorem Oa:Fp P w K mg base 8 "free_rows" Ln vz:=bp (z:=BY) (N:=FE) Z.f_free_rows (λsc _ _ _ _ _ _ _ hr hx hw=>(aD (mW (az (sY Z) hr hx (Za (ac 0) ah))) (aD (bH 1 (az (p6 Z) hr hx (Za (ac 0) ah)) sc) (aD (xq (az (Hn Z) hr hx (Za (az (Hk Z) hr hx (Za (ac 0) ah)) (Za (ac 1) ah))) (je rfl (de (br 2 sc) (de (br 3 sc) jd)))) (aE (aO (PXL.px (fw ["place"] [1,2,3] rfl (pI Z.b_range (Za (ac 1) ah)) (λ_ _ _=>(br 0 (by decide +kernel:List.Nodup (["place", "size", "leading", "places"]:List Str)))) (λ_ _ _=>(xp (cE ve (ac 0) (ac 3)))) (λ_ _ _=>(az (N9 Z) hr bo (Za (ac 0) (Za (ac 1) (Za (ac 2) (Za (ac 3) ah)))))))))))))) LC
theorem Ob:Fp P w K mg base 9 "free_many" Lo vA:=bp (z:=BZ) (N:=FF) Z.f_free_many (λsc _ _ _ _ _ _ _ hr hx hw=>(aE (aO (du fS Z.b_len OD (Za (az (Oa Z) hr hx (Za (ac 0) ah)) ah))))) LF
theorem Oc:Fp P w K mg base 10 "apart_from" Zj yQ:=bp (z:=Cz) (N:=GM) Z.f_apart_from (λsc _ _ _ _ _ _ _ hr hx hw=>(aE (aO (az (CW Z) hr hx (Za (ac 1) (Za (az (Hl Z) hr hx (Za (az (v8 Z) hr hx (Za (ac 0) (Za (ac 1) (Za (ac 2) ah)))) (Za (az (v8 Z) hr hx (Za (ac 0) (Za (ac 2) (Za (ac 2) ah)))) ah))) (Za (ac 2) ah))))))) Nh
theorem Hq:Fp P w K mg base 10 "lead_among" M6 vU:=bp (z:=yU) (N:=GL) Z.f_lead_among (λsc _ _ _ _ _ _ _ hr hx hw=>(ke 4 (aD (jr (kP PassesOwn.never rfl (oO Z.b_enumerate (Za (ac 1) ah)) (je rfl (de (br 2 sc) (de (br 3 sc) jd))) (aD (uM 4 ["other"] [3] rfl sc (gB (fQ (ac 1) (eP (aG dR (ac 2) av)) jp)) (λ_ _ _=>(br 0 (by decide +kernel:List.Nodup (["other", "row"]:List Str)))) (λ_ _ _=>eQ) (λ_ _ _=>(az (CW Z) hr bo (Za (ac 1) (Za (az (CV Z) hr bo (Za (rT Z.c_NOUGHT) (Za (rT Z.c_ONE) ah))) (Za (ac 0) ah)))))) (ke 4 (aE (jr (kP PassesOwn.never rfl (gB (aG dR (PXL.px (lW (Za (ac 3) ah))) (ac 4))) (br 5 sc) (aE (c5 (cE (db hr.units) (az (v8 Z) hr bo (Za (ac 0) (Za (ac 5) (Za (ac 5) ah)))) (rT Z.c_NOUGHT)) (aE (aO (kO (Za (ac 2) (Za (ac 5) ah))))) cZ))))))))) (aE (aO qY))))) Ni
theorem Od:Fp P w K mg base 11 "apart_rows" M7 vV:=bp (z:=yV) (N:=GN) Z.f_apart_rows (λsc _ _ _ _ _ _ _ hr hx hw=>(aD (mW (az (y6 Z) hr hx (Za (ac 0) ah))) (aD (bH 1 (az (p6 Z) hr hx (Za (ac 0) ah)) sc) (aD (pH 2 (lW ah) sc) (aD (uM 3 ["place"] [1] rfl sc (pI Z.b_range (Za (ac 1) ah)) (λ_ _ _=>(br 0 (by decide +kernel:List.Nodup (["place", "size"]:List Str)))) (λ_ _ _=>eQ) (λ_ _ _=>(az (Ho Z) hr bo (Za (ac 0) (Za (ac 1) ah))))) (ke 3 (aD (bH 4 (az (Hq Z) hr hx (Za (ac 0) (Za (ac 3) ah))) sc) (ke 3 (aD (jr (AB PassesOwn.never (cE BC (ac 4) qY) (aD (xq (ac 4) (je rfl (de (br 5 sc) (de (br 6 sc) jd)))) (aD (AC 2 (ac 6)) (ke 3 (aD (uM 3 ["row"] [0,6] rfl sc (gB (aG dR (fQ (ac 3) jp (eP (ac 5))) (fQ (ac 3) (eP (aG dR (ac 5) av)) jp))) (λ_ _ _=>(br 0 (by decide +kernel:List.Nodup (["row", "slants", "lead"]:List Str)))) (λ_ _ _=>eQ) (λ_ _ _=>(az (Oc Z) hr bo (Za (ac 1) (Za (ac 0) (Za (ac 2) ah)))))) (ke 3 (aE (bH 4 (az (Hq Z) hr bo (Za (ac 0) (Za (ac 3) ah))) sc))))))))) (ke 2 (ke 3 (aE (aO (aG dR (ac 2) (ac 3))))))))))))))) Nk
theorem Hr:Fp P w K mg base 12 "sign_paper" Nc yS:=bp (z:=CB) (N:=GS) Z.f_sign_paper (λsc _ _ _ _ _ _ _ hr hx hw=>(aE (aO (az (Od Z) hr hx (Za (ac 0) ah))))) Nn
theorem Oe:Fp P w K mg base 10 "are_apart" M9 yR:=bp (z:=yW) (N:=GP) Z.f_are_apart (λsc _ _ _ _ _ _ _ hr hx hw=>(aE (aO (du (xn rfl) Z.b_all boot_all (Za (PXL.px (M1 ["at", "row", "other"] [0,1] rfl (oO Z.b_enumerate (Za (ac 1) ah)) (λ_ _ _=>(je rfl (de (br 0 (by decide +kernel:List.Nodup (["at", "row", "other", "slants", "rows"]:List Str))) (de (br 1 (by decide +kernel:List.Nodup (["at", "row", "other", "slants", "rows"]:List Str))) jd)))) (λ_ _ _=>eQ) (λ_ _ _=>(gB (fQ (ac 4) (eP (aG dR (ac 0) av)) jp))) (λ_ _ _=>(br 2 (by decide +kernel:List.Nodup (["at", "row", "other", "slants", "rows"]:List Str)))) (λ_ _ _=>eQ) (λ_ _ _=>(oE (cT hr.units) (az (v8 Z) hr bo (Za (ac 3) (Za (ac 1) (Za (ac 2) ah)))) (rT Z.c_NOUGHT))))) ah))))) Nl
theorem Of:Fp P w K mg base 7 "are_independent" M5 yP:=bp (z:=Cy) (N:=Ze) Z.f_are_independent (λsc _ _ _ _ _ _ _ hr hx hw=>(aE (aO (oE (cT hr.units) (du fS Z.b_len OD (Za (ci aP (az (Hn Z) hr hx (Za (ac 0) (Za (ac 1) ah))) av) ah)) (du fS Z.b_len OD (Za (ac 0) ah)))))) Nf
theorem CY:Fp P w K mg base 11 "sign_paper_good" Na sU:=bp (z:=yX) (N:=GQ) Z.f_sign_paper_good (λsc _ _ _ _ _ _ _ hr hx hw=>(aD (mW (az (y6 Z) hr hx (Za (ac 0) ah))) (aD (bH 2 (az (p6 Z) hr hx (Za (ac 0) ah)) sc) (aD (c5 (PXW.pxt (mU (jI (j8 (du su Z.b_isinstance OP (Za (ac 1) (Za (sx Z.b_list boot_list) ah))))) (nD (cE (db hr.units) (du fS Z.b_len OD (Za (ac 1) ah)) (ac 2))))) (aE (aO kN)) cZ) (aD (c5 (jI (j8 (du (xn rfl) Z.b_all boot_all (Za (PXL.px (fw ["row"] [0] rfl (gB (ac 1)) (λ_ _ _=>(br 0 (by decide +kernel:List.Nodup (["row", "slants"]:List Str)))) (λ_ _ _=>eQ) (λ_ _ _=>(az (CU Z) hr bo (Za (ac 1) (Za (ac 0) ah)))))) ah)))) (aE (aO kN)) cZ) (aE (aO (uH (az (Of Z) hr hx (Za (ac 1) (Za (ac 2) ah))) (uG (az (Oe Z) hr hx (Za (ac 0) (Za (ac 1) ah)))))))))))) Nm
theorem CZ:Fp P w K mg base 12 "signs_by" Nb sV:=bp (z:=yY) (N:=GR) Z.f_signs_by (λsc _ _ _ _ _ _ _ hr hx hw=>(aD (c5 (jI (j8 (az (CY Z) hr hx (Za (ac 0) (Za (ac 1) ah))))) (aE (sH hw Z.x_NoRow)) cZ) (aD (uM 2 ["row"] [0] rfl sc (gB (ac 1)) (λ_ _ _=>(br 0 (by decide +kernel:List.Nodup (["row", "slants"]:List Str)))) (λ_ _ _=>eQ) (λ_ _ _=>(ci aP (az (v9 Z) hr bo (Za (ac 1) (Za (ac 0) ah))) av))) (ke 2 (aD (bH 3 (du fS Z.b_len OD (Za (PXL.px (fw ["top"] [] rfl (gB (ac 2)) (λ_ _ _=>(br 0 (by decide +kernel:List.Nodup (["top"]:List Str)))) (λ_ _ _=>(xp (cE oH (ac 0) av))) (λ_ _ _=>(ac 0)))) ah)) sc) (ke 2 (aD (bH 4 (du fS Z.b_len OD (Za (PXL.px (fw ["top"] [] rfl (gB (ac 2)) (λ_ _ _=>(br 0 (by decide +kernel:List.Nodup (["top"]:List Str)))) (λ_ _ _=>(xp (cE oG (ac 0) av))) (λ_ _ _=>(ac 0)))) ah)) sc) (ke 2 (aE (aO (kO (Za (ac 3) (Za (ac 4) (Za (aG fv (aG fv (du fS Z.b_len OD (Za (ac 2) ah)) (ac 3)) (ac 4)) ah)))))))))))))) Np
theorem Hs:Fp P w K mg base 13 "signs_of" Nd vW:=bp (z:=CD) (N:=GT) Z.f_signs_of (λsc _ _ _ _ _ _ _ hr hx hw=>(aE (aO (az (CZ Z) hr hx (Za (ac 0) (Za (az (Hr Z) hr hx (Za (ac 0) ah)) ah)))))) Nq
theorem all_mk{l:PySem.W.OpenLaw}{fa:Addr}(hfa:mg "law" = some (.ref fa)):∃fd:FuncData,(∀(s:Shared) (v:Value),BindsTo s fd ⟨[v],[]⟩ [("_law_script",v)])/\∀base:Heap,K.In base->base.Ns mainGlobals mg->FnOk l.prog w K mg base (dG l.prog w) 14 fa fd ["_law_script"] (fO K v6):=
 LO (z:=Zo) (N:=G6) Z.f_law hfa (λ_ sc _ _ _ _ _ _ _ hr hx hw=>(aD (jr (kP PassesOwn.never rfl (gB (aG dR (PXL.px (lW (Za (az (NG Z) hr bo (Za (ac 0) (Za av ah))) ah))) (fQ (ac 0) (eP av) (eP av)))) (br 1 sc) (aD (bH 2 (az (NH Z) hr bo (Za (ac 1) ah)) sc) (aD (bH 3 (az (NJ Z) hr bo (Za (ac 2) ah)) sc) (aD (bH 4 (aG pG (aG dR (du fS Z.b_len OD (Za (ac 3) ah)) av) av) sc) (aD (bH 5 (aG dR (fQ (ac 3) jp (eP (ac 4))) (xj (fQ (ac 3) jp (eP (aG fv (ac 4) av))))) sc) (aD (xq (az (Hs Z) hr bo (Za (ac 5) ah)) (je rfl (de (br 6 sc) (de (br 7 sc) (de (br 8 sc) jd))))) (aD (c5 (PXW.pxt (mU (cE (db hr.units) (aG dR (aG dR (ac 6) (ac 7)) (ac 8)) (ac 4)) (nD (cE (db hr.units) (ac 8) (az (Ob Z) hr bo (Za (ac 5) ah)))))) (aE (aO kN)) cZ) (aD (c5 (cE (db hr.units) (az (Hs Z) hr bo (Za (Zc nI Z.b_tuple OJ (Za (PXL.px (fw ["_law_one"] [] rfl (gB (ac 5)) (λ_ _ _=>(br 0 (by decide +kernel:List.Nodup (["_law_one"]:List Str)))) (λ_ _ _=>eQ) (λ_ _ _=>(aG fv av (ac 0))))) ah)) ah)) (kO (Za (ac 7) (Za (ac 6) (Za (ac 8) ah))))) (aE (aO kN)) cZ) (aD (bH 9 (az (Hr Z) hr bo (Za (ac 5) ah)) sc) (aD (bH 10 (az (CO Z) hr bo (Za (aG dR av (az (oX Z) hr bo (Za (ac 2) (Za av ah)))) (Za (aG dR av (az (oX Z) hr bo (Za (ac 2) (Za av ah)))) ah))) sc) (aD (bH 11 (xj (PXL.px (fw ["_law_row"] [10] rfl (gB (ac 9)) (λ_ _ _=>(br 0 (by decide +kernel:List.Nodup (["_law_row", "_law_factor"]:List Str)))) (λ_ _ _=>eQ) (λ_ _ _=>(az (CP Z) hr bo (Za (ac 0) (Za (ac 1) ah))))))) sc) (aD (c5 (PXW.pxt (mU (jI (j8 (az (CY Z) hr bo (Za (ac 5) (Za (ac 9) ah))))) (nD (jI (j8 (az (CY Z) hr bo (Za (ac 5) (Za (ac 11) ah)))))))) (aE (aO kN)) cZ) (aD (c5 (PXW.pxt (mU (cE (db hr.units) (az (CZ Z) hr bo (Za (ac 5) (Za (ac 9) ah))) (kO (Za (ac 6) (Za (ac 7) (Za (ac 8) ah))))) (nD (cE (db hr.units) (az (CZ Z) hr bo (Za (ac 5) (Za (ac 11) ah))) (kO (Za (ac 6) (Za (ac 7) (Za (ac 8) ah)))))))) (aE (aO kN)) cZ) (aD (c5 (cE BB (az (Hf Z) hr bo (Za (ac 5) ah)) qY) (aD (bH 12 (az (N0 Z) hr bo (Za (ac 5) ah)) sc) (aE (c5 (PXW.pxt (mU (cE (db hr.units) (D9 PySem.F.slot_list_count PySem.F.type_list_count GE (ac 12) (Za av ah)) (ac 6)) (mU (cE (db hr.units) (D9 PySem.F.slot_list_count PySem.F.type_list_count GE (ac 12) (Za (nF nG av) ah)) (ac 7)) (nD (cE (db hr.units) (du fS Z.b_len OD (Za (ac 12) ah)) (ac 4)))))) (aE (aO kN)) cZ))) cZ) (aD (bH 13 (az (NI Z) hr bo (Za (ac 2) (Za (ac 4) ah))) sc) (aD (bH 14 (az (v9 Z) hr bo (Za (ac 5) (Za (ac 13) ah))) sc) (aD (bH 15 (Zc nI Z.b_tuple OJ (Za (PXL.px (fw ["_law_at"] [4] rfl (pI Z.b_range (Za (ac 4) ah)) (λ_ _ _=>(br 0 (by decide +kernel:List.Nodup (["_law_at", "_law_size"]:List Str)))) (λ_ _ _=>eQ) (λ_ _ _=>(kO (Za (Zc Ax Z.b_int boot_int (Za (oE (cT hr.units) (ac 0) (aG fv (ac 1) av)) ah)) (Za av ah)))))) ah)) sc) (aD (c5 (cE (db hr.units) (az (v9 Z) hr bo (Za (ac 5) (Za (az (CP Z) hr bo (Za (ac 13) (Za (kO (Za av (Za av ah))) ah))) ah))) (az (G9 Z) hr bo (Za (ac 14) (Za (kO (Za av (Za av ah))) ah)))) (aE (aO kN)) cZ) (aE (c5 (PXW.pxt (mU (cE (db hr.units) (az (v9 Z) hr bo (Za (ac 5) (Za (ac 15) ah))) (kO (Za (ci aP (ac 5) (aG fv (ac 4) av)) (Za av ah)))) (nD (cE (db hr.units) (az (v9 Z) hr bo (Za (ac 5) (Za (az (CP Z) hr bo (Za (ac 13) (Za (kO (Za (nF nG av) (Za av ah))) ah))) ah))) (ac 14))))) (aE (aO kN)) cZ))))))))))))))))))))) (aE (aO kN)))) NE
end
theorem walk{l:PySem.W.OpenLaw}{q:Program}{loose:List Str}{XP:(Str->Option Value)->Heap->Prop}{YP:World->Heap->Prop}{d:DefRec}{K:Params->Oq}(hn:l.most=some 63)(hdf:d.params.defaults=[])
  (hY:∀(w:World) (h:Heap),YP w h->(K w.params).In h)
  (F:∀ (w:World) (mg:Str->Option Value) (fa:Addr) (h:Heap),(K w.params).In h->h.Ns mainGlobals mg->mg d.name=some (.ref fa)->
   ∃fd:FuncData,(∀(s:Shared) (u:Value),BindsTo s fd ⟨[u],[]⟩ [("_law_script",u)])/\∀base:Heap,(K w.params).In base->base.Ns mainGlobals mg->FnOk l.prog w (K w.params) mg base (dG l.prog w) 14 fa fd ["_law_script"] (fO (K w.params) v6)) :
  PySem.W.WalkO q loose XP YP l.row.toRowW d [] (λf vs=>PySem.call f vs):=
 L2.walk_of (n:=63) (k:=14) (x:= "_law_script") (CX:=λw=>dG l.prog w) (sp:=λw=>fO (K w.params) v6) hn (by decide) hdf ⟨rfl,rfl,by decide,by decide⟩ hY F (λ_ _ a ns hl hO hS=>NF hl hO hS) λ_ _ _ _ _ ⟨_,_,_,_,_,_,_,_,_,_,_,_,_,z⟩=>z
end G.V9.W.E1.S2
end LP
namespace PySem.W.Fast
theorem tw1032191908563333430:1=1:=rfl
theorem tw13969352010184645898:1=1:=rfl
theorem tw782052583582372635:1=1:=rfl
theorem tw4050156545079741782:1=1:=rfl
theorem tw6973030239276647813:1=1:=rfl
theorem tw14697006299939069353:1=1:=rfl
theorem tw5963674982223685164:1=1:=rfl
theorem tw9331087847643107638:1=1:=rfl
theorem tw5843218837189424503:1=1:=rfl
theorem tw3585818379646274691:1=1:=rfl
theorem tw3958622978851106381:1=1:=rfl
theorem tw7206106609789044273:1=1:=rfl
theorem tw15345455441612506356:1=1:=rfl
theorem tw4569358097964555461:1=1:=rfl
theorem tw3138538237842082174:1=1:=rfl
theorem tw11194798242947973214:1=1:=rfl
theorem tw5855087724772244013:1=1:=rfl
theorem tw10009527391208575977:1=1:=rfl
theorem tw9616519464376338395:1=1:=rfl
theorem tw11467176814840886852:1=1:=rfl
theorem tw8761234339766200734:1=1:=rfl
theorem tw13369430016408140771:1=1:=rfl
theorem tw9307067698003595756:1=1:=rfl
theorem tw16141164894600912067:1=1:=rfl
theorem tw15688805350158904907:1=1:=rfl
theorem tw7816614143028063258:1=1:=rfl
theorem tw3346408195646108143:1=1:=rfl
theorem tw9057048537348993887:1=1:=rfl
theorem tw16268875484327636212:1=1:=rfl
theorem tw16340906623103334520:1=1:=rfl
theorem tw17657521421888193909:1=1:=rfl
theorem tw12578699225153928189:1=1:=rfl
theorem tw16590456376933005624:1=1:=rfl
theorem tw3533603643927136212:1=1:=rfl
theorem tw7107915282711995403:1=1:=rfl
theorem tw4603870001014179017:1=1:=rfl
theorem tw9629445751437338208:1=1:=rfl
theorem tw7396348848338240559:1=1:=rfl
theorem tw12861836724611331456:1=1:=rfl
theorem tw6604363824258002319:1=1:=rfl
theorem tw14575335143376200058:1=1:=rfl
theorem tw7472197272805743051:1=1:=rfl
theorem tw3324860238509896362:1=1:=rfl
theorem tw15298816183781746694:1=1:=rfl
theorem tw9913619637452026004:1=1:=rfl
theorem tw16850931654522262234:1=1:=rfl
theorem tw2944026277203596611:1=1:=rfl
theorem tw5731685791205055783:1=1:=rfl
theorem tw9187017327793211553:1=1:=rfl
theorem tw3768496792204904088:1=1:=rfl
theorem tw15753554805543105040:1=1:=rfl
theorem tw2717638958599013168:1=1:=rfl
theorem tw5120041349585842019:1=1:=rfl
theorem tw10250932948302950070:1=1:=rfl
theorem tw15389827161158515784:1=1:=rfl
theorem tw11863201941220915902:1=1:=rfl
theorem tw7812674505163710738:1=1:=rfl
theorem tw12067657252765495443:1=1:=rfl
theorem tw14220550451056453160:1=1:=rfl
theorem tw8914197458757323530:1=1:=rfl
theorem tw3781690621693557757:1=1:=rfl
theorem tw15681606665609710854:1=1:=rfl
theorem tw4020102174501870504:1=1:=rfl
theorem tw299978875689993508:1=1:=rfl
theorem tw3010391258465451450:1=1:=rfl
theorem tw6649435018773008998:1=1:=rfl
theorem tw4422423497760968843:1=1:=rfl
theorem tw17434155234403695339:1=1:=rfl
theorem tw3403817215761902002:1=1:=rfl
theorem tw17565769053536891003:1=1:=rfl
theorem tw8630035133097412706:1=1:=rfl
theorem tw1539160542681398052:1=1:=rfl
theorem tw4643836354113425142:1=1:=rfl
theorem tw17248066387017307246:1=1:=rfl
theorem tw4919759395358276129:1=1:=rfl
theorem tw14199590001811973534:1=1:=rfl
theorem tw8939218063456606846:1=1:=rfl
theorem tw9769376528643081163:1=1:=rfl
theorem tw1242510686419500565:1=1:=rfl
theorem tw18270715755072839738:1=1:=rfl
theorem tw636120710022868858:1=1:=rfl
theorem tw10942679356042095028:1=1:=rfl
theorem tw13532391424040075282:1=1:=rfl
theorem tw18242719534292886999:1=1:=rfl
theorem tw16615015401397069184:1=1:=rfl
theorem tw14505330729692017178:1=1:=rfl
theorem tw9276403010308918239:1=1:=rfl
theorem tw14807696057718718262:1=1:=rfl
theorem tw9286744124224780878:1=1:=rfl
theorem tw8421843204355497432:1=1:=rfl
theorem tw2171182545219913907:1=1:=rfl
theorem tw4634356998191900250:1=1:=rfl
theorem tw14957940889596133043:1=1:=rfl
theorem tw11428173421942848024:1=1:=rfl
theorem tw10825868693998844499:1=1:=rfl
theorem tw260584371712808598:1=1:=rfl
theorem tw15618250883131080873:1=1:=rfl
theorem tw14567386357260427730:1=1:=rfl
theorem tw9290986478395981192:1=1:=rfl
theorem tw1688195301381441850:1=1:=rfl
theorem tw603761034856340361:1=1:=rfl
theorem tw8862883054820913228:1=1:=rfl
theorem tw11032009564671825851:1=1:=rfl
theorem tw2007242944087306251:1=1:=rfl
theorem tw5729158677009384813:1=1:=rfl
theorem tw7849768913445326089:1=1:=rfl
theorem tw13100475076129455144:1=1:=rfl
theorem tw3192322900575676245:1=1:=rfl
theorem tw11649268835719858815:1=1:=rfl
theorem tw6767640745108557534:1=1:=rfl
theorem tw1772102873183867046:1=1:=rfl
theorem tw14422860924487094158:1=1:=rfl
theorem tw4975477172914948838:1=1:=rfl
theorem tw5660961424735455326:1=1:=rfl
theorem tw6218948580274079907:1=1:=rfl
theorem tw11971651496501822157:1=1:=rfl
theorem tw4007225792753528343:1=1:=rfl
theorem tw5934160918968622850:1=1:=rfl
theorem tw14515198195750480987:1=1:=rfl
theorem tw9592165527460113590:1=1:=rfl
theorem tw1818461562063233245:1=1:=rfl
theorem tw15765611397651513594:1=1:=rfl
theorem tw4878429665280823863:1=1:=rfl
theorem tw5803547770837999742:1=1:=rfl
theorem tw9193013735641393579:1=1:=rfl
theorem tw10357153982173492653:1=1:=rfl
theorem tw9864215478873758834:1=1:=rfl
theorem tw632773338002465890:1=1:=rfl
theorem tw7186883259787953987:1=1:=rfl
theorem tw16274026254590896679:1=1:=rfl
theorem tw12661600291947701642:1=1:=rfl
theorem tw1433201147190319454:1=1:=rfl
theorem tw13405554356178181828:1=1:=rfl
theorem tw9535019108899402807:1=1:=rfl
theorem tw14413582027525703801:1=1:=rfl
theorem tw15068491421650003878:1=1:=rfl
theorem tw15193934745418628558:1=1:=rfl
theorem tw84291314064142715:1=1:=rfl
theorem tw8063939330801405560:1=1:=rfl
theorem tw2617855316928779619:1=1:=rfl
theorem tw13934329690799164610:1=1:=rfl
theorem tw243497200954835315:1=1:=rfl
theorem tw14844483119359315553:1=1:=rfl
theorem tw10112038826898535741:1=1:=rfl
theorem tw550403581003484435:1=1:=rfl
theorem tw16126042269422191365:1=1:=rfl
theorem tw10192249990449778402:1=1:=rfl
theorem tw7157514062151709638:1=1:=rfl
theorem tw2232388030822982258:1=1:=rfl
theorem tw7906817659220238774:1=1:=rfl
theorem tw475190665609295251:1=1:=rfl
theorem tw8644529146449696299:1=1:=rfl
theorem tw8957136983703480282:1=1:=rfl
theorem tw17327537580895800313:1=1:=rfl
theorem tw5484225852916459773:1=1:=rfl
theorem tw10879833376564031644:1=1:=rfl
theorem tw14840938944710002560:1=1:=rfl
theorem tw2513182858889840747:1=1:=rfl
theorem tw1232341557815905341:1=1:=rfl
theorem tw7871117899282498478:1=1:=rfl
theorem tw10916910908996927656:1=1:=rfl
theorem tw9291442108571383805:1=1:=rfl
theorem tw1074738802270644036:1=1:=rfl
theorem tw11413945398858672634:1=1:=rfl
theorem tw3895654894343661702:1=1:=rfl
theorem tw14945446826864197197:1=1:=rfl
theorem tw9757984097009660249:1=1:=rfl
theorem tw15887753088154056776:1=1:=rfl
theorem tw7262742194878273769:1=1:=rfl
theorem tw13325076988411731131:1=1:=rfl
theorem tw17209384915032797018:1=1:=rfl
theorem tw9219515437508336820:1=1:=rfl
theorem tw9089567463536818199:1=1:=rfl
theorem tw8952804454714358468:1=1:=rfl
theorem tw8790126008776137317:1=1:=rfl
theorem tw8555305692092260925:1=1:=rfl
theorem tw8482788551006511948:1=1:=rfl
theorem tw786035927687589659:1=1:=rfl
theorem tw7569946663648653948:1=1:=rfl
theorem tw7268716120505427784:1=1:=rfl
theorem tw6574598792892422783:1=1:=rfl
theorem tw600444209199201655:1=1:=rfl
theorem tw5980587168635825532:1=1:=rfl
theorem tw5938974153100267519:1=1:=rfl
theorem tw5523362503764084657:1=1:=rfl
theorem tw5097864398043781872:1=1:=rfl
theorem tw4691309131666064668:1=1:=rfl
theorem tw4483300049602846908:1=1:=rfl
theorem tw3775069139679176366:1=1:=rfl
theorem tw3170128057667092942:1=1:=rfl
theorem tw2712695357155031526:1=1:=rfl
theorem tw2569664884172970841:1=1:=rfl
theorem tw253229409176054095:1=1:=rfl
theorem tw2338788581315575939:1=1:=rfl
theorem tw222978810152966958:1=1:=rfl
theorem tw18064135672576391887:1=1:=rfl
theorem tw16785563158775107242:1=1:=rfl
theorem tw16376728752619694613:1=1:=rfl
theorem tw1620776594257196267:1=1:=rfl
theorem tw1470402385002539563:1=1:=rfl
theorem tw13335980316657803190:1=1:=rfl
theorem tw12921755306806993849:1=1:=rfl
theorem tw12680668174860488248:1=1:=rfl
theorem tw12207882008108613307:1=1:=rfl
theorem tw11631849605507054547:1=1:=rfl
theorem tw1140793781380227261:1=1:=rfl
theorem tw11336554620856013888:1=1:=rfl
theorem tw1040468189274145109:1=1:=rfl
theorem tw1001680661669969174:1=1:=rfl
theorem tw4842947068217920781:1=1:=rfl
theorem tw17309069783279066451:1=1:=rfl
theorem tw12302538571094309567:1=1:=rfl
theorem tw10218921772450555424:1=1:=rfl
theorem tw740264699890419264:1=1:=rfl
theorem tw7098051804456231460:1=1:=rfl
theorem tw6338324435830469428:1=1:=rfl
theorem tw5839041475658822909:1=1:=rfl
theorem tw4314337564919753288:1=1:=rfl
theorem tw3939459937497760467:1=1:=rfl
theorem tw2514498982060738:1=1:=rfl
theorem tw2326409436062034274:1=1:=rfl
theorem tw18127974416036087704:1=1:=rfl
theorem tw17703620872436112106:1=1:=rfl
theorem tw16893257904633919563:1=1:=rfl
theorem tw16523485761179890400:1=1:=rfl
theorem tw16315109106217554110:1=1:=rfl
theorem tw1605121675040213944:1=1:=rfl
theorem tw15540258620733466929:1=1:=rfl
theorem tw13776090921979012539:1=1:=rfl
theorem tw11159760088830606006:1=1:=rfl
theorem tw10718271696560507708:1=1:=rfl
theorem tw10559799442691109707:1=1:=rfl
theorem tw2458676243783694411:1=1:=rfl
theorem tw13715924242942039876:1=1:=rfl
theorem tw6669669229082477300:1=1:=rfl
theorem tw9134608828497503587:1=1:=rfl
theorem tw2481608120699128848:1=1:=rfl
theorem tw2115009992374833002:1=1:=rfl
theorem tw1113332302682243453:1=1:=rfl
theorem tw8688336482177922901:1=1:=rfl
theorem tw12078799119154039297:1=1:=rfl
theorem tw13089826199293921810:1=1:=rfl
theorem tw9582443993471339595:1=1:=rfl
theorem tw2762898808510873276:1=1:=rfl
theorem tw251716279661809724:1=1:=rfl
theorem tw18200859399780780913:1=1:=rfl
theorem tw14869500148921533061:1=1:=rfl
theorem tw13811090905743250085:1=1:=rfl
theorem tw12849786658110285822:1=1:=rfl
theorem tw11476156141892878840:1=1:=rfl
theorem tw10048312621458339273:1=1:=rfl
theorem tw9282227775349658648:1=1:=rfl
theorem tw17178162853593113961:1=1:=rfl
theorem tw1482696050538347000:1=1:=rfl
theorem tw12601868113031265329:1=1:=rfl
theorem tw10425481554869588320:1=1:=rfl
theorem tw4139831423174766591:1=1:=rfl
theorem tw3335046993848940009:1=1:=rfl
theorem tw2674768869049247982:1=1:=rfl
theorem tw17185435533243182173:1=1:=rfl
theorem tw16598322433726800407:1=1:=rfl
theorem tw1134836261046407569:1=1:=rfl
theorem tw5856157916963046666:1=1:=rfl
theorem tw3021441273882315997:1=1:=rfl
theorem tw15910634389658846775:1=1:=rfl
theorem tw10943691022400726998:1=1:=rfl
theorem tw17482802153467517159:1=1:=rfl
theorem tw3309313984202754757:1=1:=rfl
theorem tw6790079658667787771:1=1:=rfl
theorem tw16755996217933606766:1=1:=rfl
theorem tw10897506115483599329:1=1:=rfl
theorem tw17371037269169591745:1=1:=rfl
theorem tw1338018202147194063:1=1:=rfl
theorem tw12789813113250646633:1=1:=rfl
theorem tw3747345072370238700:1=1:=rfl
theorem tw7464552862955768362:1=1:=rfl
theorem tw6443299958809079058:1=1:=rfl
theorem tw5772153228410545645:1=1:=rfl
theorem tw5249231134841809858:1=1:=rfl
theorem tw3331099047477017902:1=1:=rfl
theorem tw10363604559921729579:1=1:=rfl
theorem tw5880977793255152143:1=1:=rfl
theorem tw11846271379885817293:1=1:=rfl
theorem tw4047130565610623798:1=1:=rfl
theorem tw7180855313733514116:1=1:=rfl
theorem tw5867719492144223295:1=1:=rfl
theorem tw1667554518224454611:1=1:=rfl
theorem tw15719821560311291588:1=1:=rfl
theorem tw12488882712983809474:1=1:=rfl
theorem tw11873382034123400791:1=1:=rfl
theorem tw10286594870805891210:1=1:=rfl
theorem tw2831044683697134894:1=1:=rfl
theorem tw16620241479712902921:1=1:=rfl
theorem tw8601358070930642683:1=1:=rfl
theorem tw15192443649332851799:1=1:=rfl
theorem tw9053572119514345415:1=1:=rfl
theorem tw8829299450279700420:1=1:=rfl
theorem tw8382576775983889562:1=1:=rfl
theorem tw8378834168261484330:1=1:=rfl
theorem tw7905839569872085867:1=1:=rfl
theorem tw6214696183239399412:1=1:=rfl
theorem tw5899818487751987978:1=1:=rfl
theorem tw3017781590963996146:1=1:=rfl
theorem tw2571891342301676192:1=1:=rfl
theorem tw18197800759438755394:1=1:=rfl
theorem tw1798450739164190258:1=1:=rfl
theorem tw16188777777300214794:1=1:=rfl
theorem tw15392765424438642637:1=1:=rfl
theorem tw1299086313714421555:1=1:=rfl
theorem tw12964319560866674124:1=1:=rfl
theorem tw10036762153639167082:1=1:=rfl
theorem tw6895471027054962864:1=1:=rfl
theorem tw8337074300519883271:1=1:=rfl
theorem tw814030651592770500:1=1:=rfl
theorem tw7176496093981510734:1=1:=rfl
theorem tw6254278638550642615:1=1:=rfl
theorem tw4794584221875277931:1=1:=rfl
theorem tw411634419790613196:1=1:=rfl
theorem tw3224016603968725695:1=1:=rfl
theorem tw2256464187748277269:1=1:=rfl
theorem tw15699771767361770551:1=1:=rfl
theorem tw14989437978071588916:1=1:=rfl
theorem tw1404555343176645970:1=1:=rfl
theorem tw12489718140345096995:1=1:=rfl
theorem tw10208838482294546885:1=1:=rfl
theorem tw816917795001814340:1=1:=rfl
theorem tw8106533878884741009:1=1:=rfl
theorem tw7892458708763219291:1=1:=rfl
theorem tw7063712124482306406:1=1:=rfl
theorem tw6805413502415907787:1=1:=rfl
theorem tw3906582665566079149:1=1:=rfl
theorem tw18083806523309142828:1=1:=rfl
theorem tw18069033656867296422:1=1:=rfl
theorem tw15555346094696034647:1=1:=rfl
theorem tw15300447154359617025:1=1:=rfl
theorem tw11409090713471806210:1=1:=rfl
theorem tw8482605170170815865:1=1:=rfl
theorem tw3105055722518546635:1=1:=rfl
theorem tw16628372946041631897:1=1:=rfl
theorem tw15650410404605277545:1=1:=rfl
theorem tw14669729750547632339:1=1:=rfl
theorem tw12503817331507114682:1=1:=rfl
theorem tw3624911268582158241:1=1:=rfl
theorem tw911807545219720056:1=1:=rfl
theorem tw7149556971459017165:1=1:=rfl
theorem tw2333082676675909488:1=1:=rfl
theorem tw17153362804528505593:1=1:=rfl
theorem tw163267706730424700:1=1:=rfl
theorem tw11895345683468564380:1=1:=rfl
theorem tw9587829312908797677:1=1:=rfl
theorem tw9318343978204822285:1=1:=rfl
theorem tw9225045528704120773:1=1:=rfl
theorem tw9174047372301287101:1=1:=rfl
theorem tw9161193103194685814:1=1:=rfl
theorem tw890366013093912858:1=1:=rfl
theorem tw8691221814247106710:1=1:=rfl
theorem tw8539713787241344518:1=1:=rfl
theorem tw8426307082343217013:1=1:=rfl
theorem tw8340608861131610704:1=1:=rfl
theorem tw8338896845425679287:1=1:=rfl
theorem tw8316182496910011117:1=1:=rfl
theorem tw8217294051569546779:1=1:=rfl
theorem tw7515588717691191349:1=1:=rfl
theorem tw7503596028867372898:1=1:=rfl
theorem tw7406813388589220989:1=1:=rfl
theorem tw7212123059991853291:1=1:=rfl
theorem tw708886354031612832:1=1:=rfl
theorem tw6928461804548633282:1=1:=rfl
theorem tw6816613020680086059:1=1:=rfl
theorem tw6674638098432619216:1=1:=rfl
theorem tw6671492456024555503:1=1:=rfl
theorem tw6489298437039971459:1=1:=rfl
theorem tw6420063163105977601:1=1:=rfl
theorem tw6378783779892408190:1=1:=rfl
theorem tw6352820804008139613:1=1:=rfl
theorem tw6132198689238367435:1=1:=rfl
theorem tw6037874555786681070:1=1:=rfl
theorem tw5667461406874959752:1=1:=rfl
theorem tw534641170031262653:1=1:=rfl
theorem tw5200935824929267460:1=1:=rfl
theorem tw467541500931170033:1=1:=rfl
theorem tw4598943254282455219:1=1:=rfl
theorem tw431681550030741801:1=1:=rfl
theorem tw4234044250686056914:1=1:=rfl
theorem tw422280264176238135:1=1:=rfl
theorem tw4017396359906478004:1=1:=rfl
theorem tw3898681342892059192:1=1:=rfl
theorem tw3678370585264536101:1=1:=rfl
theorem tw3675427820549812023:1=1:=rfl
theorem tw358463766007928949:1=1:=rfl
theorem tw3578739247442112927:1=1:=rfl
theorem tw3400414980046549548:1=1:=rfl
theorem tw3304742489018723292:1=1:=rfl
theorem tw3270554345320460677:1=1:=rfl
theorem tw3153713485666227358:1=1:=rfl
theorem tw3090206391439744436:1=1:=rfl
theorem tw297628643127160192:1=1:=rfl
theorem tw2842604941453243209:1=1:=rfl
theorem tw2636098127731739324:1=1:=rfl
theorem tw229221389517509110:1=1:=rfl
theorem tw2249251926606939021:1=1:=rfl
theorem tw2152018401323565314:1=1:=rfl
theorem tw1954502386385835489:1=1:=rfl
theorem tw1941820922167839452:1=1:=rfl
theorem tw18274054504654906306:1=1:=rfl
theorem tw18245827340076560262:1=1:=rfl
theorem tw1803059877304198427:1=1:=rfl
theorem tw17949106154389435261:1=1:=rfl
theorem tw17864028192838253139:1=1:=rfl
theorem tw17794385846791737266:1=1:=rfl
theorem tw17676770655645221077:1=1:=rfl
theorem tw17665393541861180675:1=1:=rfl
theorem tw17428937307682202630:1=1:=rfl
theorem tw17427988480150258539:1=1:=rfl
theorem tw17363663839124328521:1=1:=rfl
theorem tw1730523010643806199:1=1:=rfl
theorem tw17139101650436426711:1=1:=rfl
theorem tw17115350811263433689:1=1:=rfl
theorem tw16851137963739160722:1=1:=rfl
theorem tw16815596002320065232:1=1:=rfl
theorem tw16591792466446271928:1=1:=rfl
theorem tw16437528027454465487:1=1:=rfl
theorem tw16339134173024183742:1=1:=rfl
theorem tw16330181805376420197:1=1:=rfl
theorem tw16271323090808570249:1=1:=rfl
theorem tw16261560700249739453:1=1:=rfl
theorem tw16147364656439747:1=1:=rfl
theorem tw16142324645502439938:1=1:=rfl
theorem tw15921958387778322152:1=1:=rfl
theorem tw15374834499151665760:1=1:=rfl
theorem tw15243266745059174666:1=1:=rfl
theorem tw15083638251724315938:1=1:=rfl
theorem tw14810961621362035664:1=1:=rfl
theorem tw14582769568880282669:1=1:=rfl
theorem tw14385883529478160887:1=1:=rfl
theorem tw14349818349224392123:1=1:=rfl
theorem tw14276831350651743272:1=1:=rfl
theorem tw1420925456954427365:1=1:=rfl
theorem tw13921640357823370890:1=1:=rfl
theorem tw13642026004611351715:1=1:=rfl
theorem tw13437480350853458268:1=1:=rfl
theorem tw12995069182061134486:1=1:=rfl
theorem tw12904044831544954872:1=1:=rfl
theorem tw12872968727416913018:1=1:=rfl
theorem tw12763641649703155673:1=1:=rfl
theorem tw12717530738493207558:1=1:=rfl
theorem tw1244706120058875644:1=1:=rfl
theorem tw12428591987842469899:1=1:=rfl
theorem tw12212331578505837237:1=1:=rfl
theorem tw12066071051319137911:1=1:=rfl
theorem tw12043364467174814166:1=1:=rfl
theorem tw12026865186834317013:1=1:=rfl
theorem tw12008048286487381826:1=1:=rfl
theorem tw11992257838699839235:1=1:=rfl
theorem tw11818671666462533507:1=1:=rfl
theorem tw11728488901849059350:1=1:=rfl
theorem tw11359106466185812050:1=1:=rfl
theorem tw11016940134704351689:1=1:=rfl
theorem tw10855825976267041394:1=1:=rfl
theorem tw10585739049487467253:1=1:=rfl
theorem tw10516576085768933276:1=1:=rfl
theorem tw10382233327123274074:1=1:=rfl
theorem tw10303106455329098655:1=1:=rfl
theorem tw10241158323989761649:1=1:=rfl
theorem tw10136296882222984099:1=1:=rfl
theorem tw10114198466421276561:1=1:=rfl
theorem tw10104940658258380583:1=1:=rfl
theorem tw10071292372429374667:1=1:=rfl
theorem tw8918984943767214891:1=1:=rfl
theorem tw8565255387111654010:1=1:=rfl
theorem tw8554614409464725431:1=1:=rfl
theorem tw8457508019734257554:1=1:=rfl
theorem tw8438254840897788852:1=1:=rfl
theorem tw829296852244235803:1=1:=rfl
theorem tw8220381041354227028:1=1:=rfl
theorem tw8073316252999519015:1=1:=rfl
theorem tw7937857576846544322:1=1:=rfl
theorem tw7774021350339432088:1=1:=rfl
theorem tw7657551337265527267:1=1:=rfl
theorem tw7439972609540840054:1=1:=rfl
theorem tw7184856583579051066:1=1:=rfl
theorem tw6908318668601511092:1=1:=rfl
theorem tw6541117472446585028:1=1:=rfl
theorem tw5253850672590055154:1=1:=rfl
theorem tw5182818739519845592:1=1:=rfl
theorem tw4832618774173394368:1=1:=rfl
theorem tw4304958541227047290:1=1:=rfl
theorem tw4265523422860911949:1=1:=rfl
theorem tw3563065165648849614:1=1:=rfl
theorem tw3438467579329777681:1=1:=rfl
theorem tw3399049629521728278:1=1:=rfl
theorem tw3267304527668645090:1=1:=rfl
theorem tw2843678918443682983:1=1:=rfl
theorem tw2753029687069146773:1=1:=rfl
theorem tw2252579219823368835:1=1:=rfl
theorem tw2218940087886739904:1=1:=rfl
theorem tw18388813099870012109:1=1:=rfl
theorem tw18204079088081950870:1=1:=rfl
theorem tw18078992845060977064:1=1:=rfl
theorem tw17603664058249156932:1=1:=rfl
theorem tw17042509959234102998:1=1:=rfl
theorem tw16703901424668562727:1=1:=rfl
theorem tw16651711861185616889:1=1:=rfl
theorem tw16585255640362613028:1=1:=rfl
theorem tw16402329227970211247:1=1:=rfl
theorem tw16387074521835644261:1=1:=rfl
theorem tw16353841158653197315:1=1:=rfl
theorem tw15744414062889426736:1=1:=rfl
theorem tw15676217944016550602:1=1:=rfl
theorem tw15552602259908404568:1=1:=rfl
theorem tw15526243838852342960:1=1:=rfl
theorem tw15317470635647889587:1=1:=rfl
theorem tw1525611259353522484:1=1:=rfl
theorem tw15247953722456996828:1=1:=rfl
theorem tw15126869163651990269:1=1:=rfl
theorem tw1493534344750202248:1=1:=rfl
theorem tw14932900099869236561:1=1:=rfl
theorem tw14728810308628245288:1=1:=rfl
theorem tw14721164001487863795:1=1:=rfl
theorem tw14718154323592569646:1=1:=rfl
theorem tw14478772896606103545:1=1:=rfl
theorem tw14064470540565480856:1=1:=rfl
theorem tw13974546131067310422:1=1:=rfl
theorem tw13655862203623055219:1=1:=rfl
theorem tw13287579356644904339:1=1:=rfl
theorem tw13053840299578198260:1=1:=rfl
theorem tw13026179882457290342:1=1:=rfl
theorem tw12969050601222044884:1=1:=rfl
theorem tw12907532699391395359:1=1:=rfl
theorem tw12519555061205044874:1=1:=rfl
theorem tw12508833189972479369:1=1:=rfl
theorem tw12506257716094217693:1=1:=rfl
theorem tw1187841892155201341:1=1:=rfl
theorem tw11679472319028457243:1=1:=rfl
theorem tw11021200619401578086:1=1:=rfl
theorem tw1063366478020893740:1=1:=rfl
theorem tw10328389822423347782:1=1:=rfl
theorem tw10257100243513769104:1=1:=rfl
theorem tw10169941977756853953:1=1:=rfl
end PySem.W.Fast
open PySem PySem.W PyProof.Rows
set_option maxRecDepth 100000 in
set_option maxHeartbeats 0 in
theorem PySem.Challenge.cw_slanttables_k52_whole_signs_holds : PySem.Challenge.rw_slanttables_k52_whole_signs.Holds := by
 w_on;o_law;k_head;(case hw=>w_witness2)
 k_fill
 refine LP.G.V9.W.E1.S2.walk (l:=PySem.Challenge.rw_slanttables_k52_whole_signs) rfl rfl (λw h Y=>PySem.W.kIn_of Y) ?F
 case F=>
  intro w mg fa h KX G hmg;refine LP.G.V9.W.E1.S2.all_mk ?_ hmg;constructor
  all_goals first
   |(refine' LP.mkF KX G ?a ?l ?c ?k;(case a=>k_is);(case l=>k_is);(case c=>k_is);(case k=>k_is))
   |(refine' mg_none_of KX G ?a;case a=>k_is)
   |(refine' LP.mkI KX G ?a;case a=>k_is)
   |(refine' LP.mkT KX G ?a ?l;(case a=>k_is);(case l=>k_is))
   |(refine' LP.mkXF KX G ?a ?lc ?ni ?cf ?l ?c ?k;(case a=>k_is);(case lc=>k_is);(case ni=>k_is);(case l=>k_is);(case c=>k_is);(case k=>k_is);(case cf=>kernel_rfl))
   |(refine' LP.mkX KX G ?a ?e;(case a=>k_is);(case e=>k_exc))
