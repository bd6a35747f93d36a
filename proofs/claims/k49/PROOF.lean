import PyProof.Rows.All
import Wide.All
import OpenK.AllK
import Wide.FinOn
import Lean
import PyProof.EqAt
import PyProof.EqKinds
import PyProof.TupleCall
import PyProof.ZipIter
import PyProof.ExcInit
import PyProof.InstStoreFacts
import PyProof.ExcArgsOwn
import PyProof.ExcAttrAll.ValueError
import PyProof.Draws
import PyProof.EnumMake
import PyProof.Rows.SumAny
import PyProof.Rows.EnumRows
import PyProof.SeqI3
import PyProof.ListRange
import KE.KUnpack
import KE.KIntText
import KE.KxWritten
import PyProof.Rows.StrWeight2
import KE.KxText
import PyProof.CallType
import PyProof.Rows.CallKwBuiltin
import PySem.Challenge.RW_slanttables_k49_forms_and_signs
set_option compiler.extract_closed false
set_option Elab.async false
set_option linter.all false
set_option maxRecDepth 100000
set_option exponentiation.threshold 400
set_option exponentiation.threshold 2000
set_option maxHeartbeats 8000000
def db:=@PySem.Heap.lt_size
def cU:=@Nat.lt_of_lt_of_le
def gZ:=@Nat.lt_irrefl
def As:=@Array.append_assoc
def fJ:=@Nat.ne_of_lt
def tO:=@Nat.lt_trans
def Yag:=@List.mem_filter
def Yah:=@List.mem_range
def gv:=@Nat.le_trans
def jC:=@Nat.le_of_lt
def xF:=@List.filterMap_cons
def j5:=@List.mem_cons_self
def gI:=@List.mem_cons_of_mem
def Yan:=@List.mem_cons
def Yao:=@List.mem_append
def At:=@List.mem_append_left
def Yaq:=@List.getElem?_eq_some_iff
def dc:=@List.getElem?_set_self
def cG:=@List.getElem?_set_ne
def xG:=@Array.length_toList
def de:=@PySem.Heap.get?_push_of_some
def i4:=@Bool.false_ne_true
def xH:=@Nat.ne_of_gt
def tP:=@Bool.false_and
def f9:=@PySem.Heap.get?_push_size
def bP:=@Nat.le_refl
def YaA:=@List.mem_filterMap
def g6:=@List.mem_append_right
def g9:=@Bool.eq_iff_iff
def dW:=@List.size_toArray
def lM:=@PySem.Heap.size_push
def Au:=@Nat.lt_succ_self
def gJ:=@Nat.zero_le
def pI:=@List.append_nil
def YaI:=@List.nodup_cons
def xI:=@List.of_mem_zip
def jr:=@List.length_take
def jt:=@List.getElem?_append_right
def mo:=@List.getElem?_replicate
def j6:=@List.getElem?_append_left
def cI:=@List.getElem?_map
def Av:=@List.getElem?_take_of_lt
def ge:=@List.mem_of_getElem?
def dM:=@List.length_append
def bL:=@List.length_map
def pJ:=@List.length_replicate
theorem hJ(n:Nat):(n:Int).toNat=n:=rfl
def kI:=@List.length_drop
def dj:=@Bool.and_eq_true
def xJ:=@PySem.Heap.get?_update_self
def rC:=@PySem.Heap.get?_update_other
def cL:=@List.length_set
def tQ:=@List.all_cons
def xK:=@List.any_cons
def tR:=@List.reverse_cons
theorem gw{α}{a:α}{n}:List.replicate (n+1) a=a::List.replicate n a:=rfl
def qC:=@List.flatten_cons
def lN:=@List.append_assoc
def j7:=@List.length_singleton
def nF:=@Nat.succ_mul
theorem et{α}(l:List α):[]++l=l:=rfl
def xL:=@Nat.mul_comm
def gx:=@List.map_nil
def cV:=@List.map_cons
def nG:=@List.lookup_cons
def tS:=@Bool.not_eq_true'
def Aw:=@List.forIn_cons
def dX:=@Bool.false_eq_true
def uC:=@Option.map_some
def Ybh:=@List.all_eq_true
def xM:=@Bool.or_eq_true
def Ax:=@Nat.le_of_succ_le
def gg:=@Nat.lt_or_ge
def bD:=@List.getD_eq_getElem?_getD
def tT:=@List.ext_getElem?
def jD:=@List.getElem?_range
def eK:=@List.getElem?_eq_none
def xN:=@List.length_reverse
def Ybq:=@Array.getElem?_eq_some_iff
def dN:=@List.not_mem_nil
def Ybs:=@Bool.eq_false_iff
def xO:=@Int.toNat_of_nonneg
def jE:=@List.length_range
def bG:=@List.getElem?_eq_getElem
def jF:=@List.getElem_mem
def Ybx:=@List.mem_iff_getElem
def pK:=@List.drop_zero
def pL:=@List.drop_eq_getElem_cons
def tU:=@List.drop_of_length_le
def nI:=@List.length_zipWith
theorem dY{α}{a:α}{l:List α}:(a::l).length=l.length+1:=rfl
def j8:=@Nat.pow_le_pow_right
def Ay:=@Int.mul_ediv_cancel_left
def eu:=@Int.natAbs_mul
theorem kJ(n:Nat):(n:Int).natAbs=n:=rfl
def kK:=@Nat.pow_add
def xP:=@Nat.pow_pos
def mq:=@Nat.mul_le_mul_right
def Az:=@Nat.mul_ne_zero
def rD:=@Nat.pow_succ
def qD:=@Int.natAbs_add_le
def Dx:=@Int.sign_eq_neg_one_of_neg
def hU:=@Rat.div_def
def xQ:=@Rat.num_intCast
def xR:=@Rat.den_intCast
def xT:=@Nat.one_lt_two_pow
def YbS:=@List.mem_map
def AA:=@Int.gcd_pos_of_ne_zero_right
def xW:=@Int.neg_mul_neg
def xX:=@Int.mul_fdiv_cancel_left
def uD:=@Bool.and_true
def dk:=@List.map_map
def ja:=@List.map_congr_left
def tV:=@Rat.num_divInt_den
def xY:=@List.getElem_map
theorem j9{α}:([]:List α).length=0:=rfl
theorem iz{α}{a:α}{l k:List α}:(a::l)++k=a::(l++k):=rfl
theorem cZ{α}{a:α}{l:List α}:(a::l)[0]? = some a:=rfl
theorem df{α}{a:α}{n:Nat}{l:List α}:(a::l)[n+1]? = l[n]? :=rfl
theorem eT{α}{a b:α}{l:List α}:(a::l).set 0 b=b::l:=rfl
theorem eU{α}{a b:α}{n}{l:List α}:(a::l).set (n+1) b=a::l.set n b:=rfl
def lO:=@List.replicate_zero
def Dy:=@Int.fmod_eq_emod_of_nonneg
def fb:=@Bool.not_true
def tW:=@Bool.true_and
def lP:=@Nat.lt_of_le_of_lt
def AB:=@Rat.divInt_ofNat
def nJ:=@Rat.add_zero
theorem AC{α}{β}{γ}{f:α->β->γ}{a b l k}:List.zipWith f (a::l) (b::k)=f a b::List.zipWith f l k:=rfl
def xZ:=@Nat.min_eq_left
def AD:=@Int.fdiv_eq_ediv_of_nonneg
def qE:=@List.map_drop
def nK:=@List.map_take
def mr:=@List.mem_of_mem_drop
def qF:=@List.mem_of_mem_take
def rE:=@List.map_reverse
def AE:=@Int.fmod_nonneg_of_pos
def ke:=@Nat.mul_le_mul
def Yco:=@List.mem_singleton
def jb:=@List.map_append
def Ycq:=@List.mem_reverse
def Ycr:=@List.mem_replicate
def tX:=@List.map_set
def pM:=@List.mem_or_eq_of_mem_set
def rF:=@List.mem_map_of_mem
def jG:=@Rat.mul_zero
def lQ:=@Bool.not_false
def Ycx:=@Rat.num_eq_zero
def pN:=@Int.mul_ne_zero
def ya:=@Rat.divInt_mul_divInt
def qG:=@Nat.mul_lt_mul''
def yb:=@Int.natAbs_sub_le
def AF:=@List.getElem?_set
def AG:=@Rat.zero_divInt
def yc:=@Int.mul_comm
def tY:=@Rat.divInt_mul_right
def jc:=@Rat.zero_mul
def tZ:=@List.getElem_zipWith
def yd:=@List.map_zipWith
def ye:=@Nat.lt_succ_of_lt
def yf:=@List.filter_cons
def uE:=@Rat.mul_one
def qH:=@Rat.mul_inv_cancel
def qI:=@Nat.sub_self
def YcO:=@List.pairwise_append
def YcP:=@List.pairwise_cons
def uF:=@List.getD_cons_zero
def AH:=@List.getD_cons_succ
def yg:=@List.ext_getElem
def yh:=@Rat.intCast_add
def rG:=@Rat.one_mul
def uG:=@Rat.mul_comm
def YcW:=@Rat.mul_eq_zero
def t0:=@Rat.mul_nonneg
def gF:=@Rat.intCast_mul
def qJ:=@Rat.intCast_sub
def yi:=@Rat.divInt_eq_div
def AI:=@List.length_pos_of_mem
def Yc2:=@List.pairwise_iff_getElem
def Dz:=@List.eraseIdx_eq_take_drop_succ
def Yc4:=@List.mem_eraseIdx_iff_getElem?
def AJ:=@Nat.lt_trichotomy
def AK:=@List.length_eraseIdx_of_lt
def yj:=@List.length_filter_le
section
open PySem PySem.Spec PyProof.Rows PySem.W
def NE:=@wpAny_bind
abbrev NF:=PySem.W.Frag
def NG:=@wpAny_pure
def NH:=@absurd
def NI:=@decide_eq_true_eq
def NJ:=@Option.some.inj
def NK:=@decide_eq_true
def NM:=@boot_isinstance
def NN:=@wpAny_mono
def NO:=@Ne.symm
def NP:=@PySem.mem_of_lookup
def NQ:=@wpAny_field
def NR:=@wpAny_newObj_type
def NS:=@decide_eq_false
def NT:=@False.elim
def NU:=@boot_len
def NV:=@beq_self_eq_true
def NW:=@wpAny_truthy_bool
def NX:=@wpAny_standAt
def NY:=@boot_tuple
def NZ:=@wpAny_call_entry
def N0:=@wpAny_seqItems
def N1:=@wpAny_setField_rec
def N2:=@wpAny_passesOwn
def N3:=@wpAny_holding
def N4:=@wpAny_rule
def N5:=@beq_iff_eq
def N6:=@wpAny_execs_nil
def N7:=@wpAny_Call_Name_kw
def N8:=@wpAny_comprehension_free
def N9:=@wpAny_setField
def Oa:=@wpAny_pyIter_list
def Ob:=@wpAny_updateSeq_pair
def Oc:=@boot_list
def Od:=@wpAny_onRaise
end
namespace L2
open PySem PySem.Spec PyProof.Rows
variable{κ:Type}{a b it dx:Addr}{o:Obj}{P:Program}{w:World}{h h':Heap}{x name qual:Str}{e c tg:Expr}{pins:List (Addr×Obj)}{s s':Shared}{g':Array GenState}{t' i j k n:Nat}{d':Drawn}{ch fp:List Addr}{N ps:List Str}{A:Around}{Q:Value->Shared->Prop}{f:Value->Value->Sem Value}{pos pos' tpos p:Pos}{K:NF}{es:List Expr}{g:Int->Int->Int}{op:CmpOp}{body:List Stmt}{us:List Value}{mA mg:Str->Option Value}{kw:List (Str×Value)}{fd:FuncData}{outer:List Env}{scope:Scope}{osl:Array (Option Value)}
abbrev ju:=Sum Int Str
def qK:ju->Value->Bool
 |.inl k,v=>Value.isInt k v
 |.inr x,v=>Value.isStrOf x v
def AL(w:World):ju->Int
 |.inl k=>hashInt k
 |.inr x=>hashStr w x
theorem bE:∀{k:ju} {v:Value},qK k v=true->(∃i t,k=Sum.inl i/\v=Value.int i t)\/(∃x t,k=Sum.inr x/\v=Value.str x t)
 |.inl i,v,h=>by
  obtain⟨t,e⟩:=Value.isInt_shape (k:=i) (v:=v) h;exact .inl ⟨i,t,rfl,e⟩
 |.inr x,v,h=>by
  obtain⟨t,e⟩:=Value.isStrOf_shape (x:=x) (v:=v) h;exact .inr ⟨x,t,rfl,e⟩
theorem rH(a b:Int):decide ((Sum.inl a:ju)=Sum.inl b)=(a==b):=by
 by_cases e:a=b
 .subst e;simp
 .have h:¬(Sum.inl a:ju)=Sum.inl b:=λq=>e (Sum.inl.inj q)
  rw[NS h];exact(beq_eq_false_iff_ne.mpr e).symm
theorem rJ(a b:Str):decide ((Sum.inr a:ju)=Sum.inr b)=decide (a=b):=by
 by_cases e:a=b
 .subst e;simp
 .have h:¬(Sum.inr a:ju)=Sum.inr b:=λq=>e (Sum.inr.inj q)
  rw[NS h,NS e]
def rK(a:Int)(b:Str):decide ((Sum.inl a:ju)=Sum.inr b)=false:=NS (λq=>nomatch q)
def rL(a:Str)(b:Int):decide ((Sum.inr a:ju)=Sum.inl b)=false:=NS (λq=>nomatch q)
def iA(prog:Program)(w:World):PySem.KeyKind prog w ju where
 is:=qK
 hash:=AL w
 inj:=λv a b ha hb=>by
  rcases bE ha with⟨i,t,rfl,rfl⟩|⟨x,t,rfl,rfl⟩
  .rcases bE hb with⟨j,u,rfl,e⟩|⟨y,u,rfl,e⟩
   .injection e with e1 _;rw[e1]
   .exact nomatch e
  .rcases bE hb with⟨j,u,rfl,e⟩|⟨y,u,rfl,e⟩
   .exact nomatch e
   .injection e with e1 _;rw[e1]
 byValue:=λk v h=>by
  rcases bE h with⟨i,t,rfl,rfl⟩|⟨x,t,rfl,rfl⟩<;>rfl
 pyHash:=λhv h=>by
  rcases bE hv with⟨i,t,rfl,rfl⟩|⟨x,t,rfl,rfl⟩
  .exact wpAny_pyHash_int h
  .exact wpAny_pyHash_str h
 eqBool:=λhu hv h=>by
  rcases bE hu with⟨i,t,rfl,rfl⟩|⟨x,t,rfl,rfl⟩
  .rcases bE hv with⟨j,u,rfl,rfl⟩|⟨y,u,rfl,rfl⟩
   .rw[rH] at h;exact wpAny_eqBool_int h
   .rw[rK] at h;exact SeqAt.EqAt.int_str i t y u _ _ _ _ h
  .rcases bE hv with⟨j,u,rfl,rfl⟩|⟨y,u,rfl,rfl⟩
   .rw[rL] at h;exact SeqAt.EqAt.str_int x t j u _ _ _ _ h
   .rw[rJ] at h;exact wpAny_eqBool_str h
 «strs»:=λk x t v h=>by
  rcases bE h with⟨i,u,rfl,e⟩|⟨y,u,rfl,e⟩
  .exact nomatch e
  .injection e with e1 _
   subst e1;cases v<;>rfl
inductive V where
 |non|bl (b:Bool)|int (i:Int)|str (x:Str)|byt (b:Array UInt8)|flt (b:UInt64)|ref (a:Addr)|ty (n:String)
 deriving DecidableEq
variable{xs vs:List V}{gV:List V->List V->List V}
def RelV:V->Value->Prop
 |.non,u=>u=Value.none
 |.bl b,u=>u=Value.bool b
 |.int i,u=>∃t,u=Value.int i t
 |.str x,u=>∃t,u=Value.str x t
 |.byt b,u=>∃t,u=Value.bytes b t
 |.flt b,u=>∃t,u=Value.float b t
 |.ref a,u=>u=Value.ref a
 |.ty n,u=>u=Value.type n
abbrev Vals:List V->List Value->Prop:=Paired RelV
def Vals.length{xs:List V}{us:List Value}(r:Vals xs us):xs.length=us.length:=Paired.length r
theorem Vals.get:∀{xs:List V} {us:List Value} {i:Nat} {x:V},Vals xs us->xs[i]? = some x->∃u,us[i]? = some u/\RelV x u
 |_,_,_,_,.nil,e=>by simp at e
 |_,_,0,_,.cons r _,e=>by simp at e;subst e;exact⟨_,rfl,r⟩
 |_,_,i+1,x,.cons _ t,e=>by
  obtain⟨u,h1,h2⟩:=Vals.get (i:=i) (x:=x) t (by simpa using e);exact⟨u,by simpa using h1,h2⟩
theorem Vals.set{x:V}{u:Value}(r:RelV x u):∀{xs:List V} {us:List Value} (i:Nat),Vals xs us->Vals (xs.set i x) (us.set i u)
 |_,_,_,.nil=>.nil
 |_,_,0,.cons _ t=>.cons r t
 |_,_,i+1,.cons q t=>.cons q (Vals.set r i t)
theorem Vals.append:∀{xs ys:List V} {us ws:List Value},Vals xs us->Vals ys ws->Vals (xs++ys) (us++ws)
 |_,_,_,_,.nil,s=>s
 |_,_,_,_,.cons r t,s=>.cons r (Vals.append t s)
theorem Vals.take:∀{xs:List V} {us:List Value} (n:Nat),Vals xs us->Vals (xs.take n) (us.take n)
 |_,_,0,_=>.nil
 |_,_,_+1,.nil=>.nil
 |_,_,n+1,.cons r t=>.cons r (Vals.take n t)
theorem Vals.drop:∀{xs:List V} {us:List Value} (n:Nat),Vals xs us->Vals (xs.drop n) (us.drop n)
 |_,_,0,r=>r
 |_,_,_+1,.nil=>.nil
 |_,_,n+1,.cons _ t=>Vals.drop n t
def uH:Option V->Option Value->Prop
 |some v,some u=>RelV v u
 |none,none=>True
 |_,_=>False
def KV:List (κ×V)->List (κ×Value)->Prop:=Paired λ(p:κ×V) (q:κ×Value)=>p.1=q.1/\RelV p.2 q.2
def kV:ju->V
 |.inl i=>.int i
 |.inr x=>.str x
inductive HO where
 |lst (xs:List V)
 |tup (xs:List V)
 |dK (kvs:List (ju×V))|dT (kvs:List (List ju×V))
 |set (S:Int->Bool) (n:Nat)
 |ins (C dx:Addr) (fs:List (Str×V))
 |own (x:Addr)
 |xd (fs:List (Str×V))
 |met (f x:Addr)
 |rng (lo hi:Int)
 |frz (o:Obj) (u:HO)
 |tbl (ps:Array Value)
 |ext (φ:Heap->Prop)
abbrev Hp:=Addr->Option HO
variable{H H':Hp}
def upd(H:Hp)(a:Addr)(o:HO):Hp:=λb=>if b=a then some o else H b
def aN{o:HO}:upd H a o a=some o:=by unfold upd;rw[if_pos rfl]
def aG{o:HO}(h:b≠a):upd H a o b=H b:=by unfold upd;rw[if_neg h]
def c6{o:HO}(h:H a=some o)(h':H b=none):a≠b:=by
 intro e;subst e;rw[h] at h';cases h'
section
variable(P:Program)(w:World)
def ObjOk(H:Hp)(h:Heap)(a:Addr):HO->Prop
 |.lst xs=>xs.length<=sizeLine/\∃(its:List Value) (n:Nat),Vals xs its/\h.get? a=some { cls:=.type "list",data:=.seq its.toArray n }
 |.tup xs=>xs.length<=sizeLine/\∃its:List Value,Vals xs its/\IsTup h a its.toArray
 |.dK kvs=>kvs.length<=sizeLine/\(a==sysModules)=false/\∃vs,KV kvs vs/\h.DictOf (iA P w) a vs
 |.dT kvs=>kvs.length<=sizeLine/\(a==sysModules)=false/\∃xs:List (List ju×Addr×Value),
   Paired (λ(p:List ju×V) (q:List ju×Addr×Value)=>p.1=q.1/\H q.2.1=some (.tup (p.1.map kV))/\RelV p.2 q.2.2) kvs xs/\
   ∃o es ep,h.get? a=some o/\o.ExactDict/\o.data=.dict es ep/\es.toList=xs.map (entryOfKey (tupleKind (iA P w)))/\(xs.map (·.1)).Nodup
 |.set S n=>h.SetOf (intKind P w) a S n
 |.ins C dx fs=>H dx=some (.own a)/\fs.length<=1000/\dx≠a/\h.get? a=some (PySem.W.instObj C dx)/\
   ∃mA,h.Ns1 dx mA/\(∀f,uH (fs.lookup f) (mA f))/\PySem.Within mA (fs.map (·.1))
 |.own _=>∃o,h.get? a=some o
 |.xd fs=>∃mA,h.Ns1 a mA/\∀f,uH (fs.lookup f) (mA f)
 |.rng lo hi=>∃t u v,h.get? a=some { cls:=.type "range",data:=.fields #[.int lo t,.int hi u,.int 1 v] }
 |.frz o u=>h.get? a=some o/\ObjOk H h a u
 |.tbl ps=>h.get? a=some { cls:=.none,data:=.fields ps }
 |.met f x=>h.get? a=some (PySem.W.methodObj (.ref f) (.ref x))
 |.ext φ=>φ h/\(∃o,h.get? a=some o)/\∀h1 h2:Heap,φ h1->(∀o,h1.get? a=some o->h2.get? a=some o)->φ h2
def HOk(H:Hp)(h:Heap):Prop:=∀a o,H a=some o->ObjOk P w H h a o
end
section
variable{o:HO}
theorem ObjOk.lt(x:ObjOk P w H h a o):a<h.objs.size:=by
 cases o with
 |lst xs=>obtain⟨_,_,_,_,e⟩:=x;exact db e
 |tup xs=>obtain⟨_,_,_,p⟩:=x;exact p.lt
 |dK kvs=>obtain⟨_,_,_,_,o,_,_,e,_⟩:=x;exact db e
 |dT kvs=>obtain⟨_,_,_,_,o,_,_,e,_⟩:=x;exact db e
 |set S n=>obtain⟨o,_,_,_,e,_⟩:=x;exact db e
 |ins C dx fs=>obtain⟨_,_,_,e,_⟩:=x;exact db e
 |own y=>obtain⟨_,e⟩:=x;exact db e
 |xd fs=>obtain⟨_,⟨_,_,_,e,_⟩,_⟩:=x;exact db e
 |rng lo hi=>obtain⟨_,_,_,e⟩:=x;exact db e
 |frz ob u=>obtain⟨e,_⟩:=x;exact db e
 |tbl ps=>exact db (show h.get? a=some _ from x)
 |met f y=>exact db (show h.get? a=some _ from x)
 |ext φ=>obtain⟨_,⟨_,e⟩,_⟩:=x;exact db e
theorem Paired.mapP{α β:Type}{F G:α->β->Prop}:∀{l₁:List α} {l₂:List β},Paired F l₁ l₂->(∀a b,F a b->G a b)->Paired G l₁ l₂
 |_,_,.nil,_=>.nil
 |_,_,.cons r t,f=>.cons (f _ _ r) (Paired.mapP t f)
theorem ObjOk.stay(x:ObjOk P w H h a o)(k:∀b u,(b=a\/H b=some (.own a))->h.get? b=some u->h'.get? b=some u)
  (ho:∀b,H b=some (.own a)->H' b=some (.own a)) (ht:∀b xs,H b=some (.tup xs)->H' b=some (.tup xs)):ObjOk P w H' h' a o:=by
 induction o with
 |lst xs=>obtain⟨z,its,n,r,e⟩:=x;exact⟨z,its,n,r,k _ _ (.inl rfl) e⟩
 |tup xs=>obtain⟨z,its,r,ob,e,c⟩:=x;exact⟨z,its,r,ob,k _ _ (.inl rfl) e,c⟩
 |dK kvs=>obtain⟨z,y,vs,r,ob,es,ep,e,c⟩:=x;exact⟨z,y,vs,r,ob,es,ep,k _ _ (.inl rfl) e,c⟩
 |dT kvs=>
  obtain⟨z,y,xs,r,ob,es,ep,e,c⟩:=x;exact⟨z,y,xs,Paired.mapP r λp q z=>⟨z.1,ht _ _ z.2.1,z.2.2⟩,ob,es,ep,k _ _ (.inl rfl) e,c⟩
 |set S n=>obtain⟨ob,es,ep,t,e,c⟩:=x;exact⟨ob,es,ep,t,k _ _ (.inl rfl) e,c⟩
 |ins C dx fs=>
  obtain⟨d,z,ne,e,mA,⟨od,es,ep,e2,c⟩,r⟩:=x;exact⟨ho _ d,z,ne,k _ _ (.inl rfl) e,mA,⟨od,es,ep,k _ _ (.inr d) e2,c⟩,r⟩
 |own y=>obtain⟨ob,e⟩:=x;exact⟨ob,k _ _ (.inl rfl) e⟩
 |xd fs=>obtain⟨mA,⟨od,es,ep,e,c⟩,r⟩:=x;exact⟨mA,⟨od,es,ep,k _ _ (.inl rfl) e,c⟩,r⟩
 |rng lo hi=>obtain⟨t,u,v,e⟩:=x;exact⟨t,u,v,k _ _ (.inl rfl) e⟩
 |frz ob u ih=>obtain⟨e,q⟩:=x;exact⟨k _ _ (.inl rfl) e,ih q⟩
 |tbl ps=>
  have e:h.get? a=some { cls:=.none,data:=.fields ps }:=x;show h'.get? a=some { cls:=.none,data:=.fields ps };exact k a _ (.inl rfl) e
 |met f y=>
  have e:h.get? a=some (PySem.W.methodObj (.ref f) (.ref y)):=x;show h'.get? a=some (PySem.W.methodObj (.ref f) (.ref y));exact k a _ (.inl rfl) e
 |ext φ=>obtain⟨p,⟨o,e⟩,st⟩:=x;exact⟨st _ _ p λo q=>k _ _ (.inl rfl) q,⟨o,k _ _ (.inl rfl) e⟩,st⟩
def HOk.lt(x:HOk P w H h)(e:H a=some o):a<h.objs.size:=(x a o e).lt
def HOk.fresh(x:HOk P w H h)(e:h.objs.size<=a):H a=none:=by
 cases q:H a with
 |none=>rfl
 |some u=>exact NH (cU (x.lt q) e) (gZ _)
theorem HOk.kept(x:HOk P w H h)(k:∀b u,h.get? b=some u->h'.get? b=some u):HOk P w H h':=λa o e=>
 (x a o e).stay (λb u _ q=>k b u q) (λ_ q=>q) λ_ _ q=>q
theorem HOk.laid(x:HOk P w H h)(k:∀b u,h.get? b=some u->h'.get? b=some u)(hp:h.objs.size<=a)(new:ObjOk P w (upd H a o) h' a o):HOk P w (upd H a o) h':=λb u e=>by
 have hn:=x.fresh hp
 by_cases hb:b=a
 .subst hb;rw[aN] at e;cases e;exact new
 .rw[aG hb] at e
  exact(x b u e).stay (λc v _ q=>k c v q) (λc q=>by rw[aG (c6 q hn)];exact q) λc xs q=>by rw[aG (c6 q hn)];exact q
end
def Rd(H:Hp)(a:Addr)(u:HO):Prop:=H a=some u\/∃o,H a=some (.frz o u)
def Rd.of{u:HO}(h:H a=some u):Rd H a u:=.inl h
def Rd.ok{u:HO}(r:Rd H a u)(x:HOk P w H h):ObjOk P w H h a u:=by
 rcases r with r|⟨o,r⟩
 .exact x a u r
 .obtain⟨_,q⟩:=x a _ r
  exact q
def ym:Option HO->Prop
 |some (.lst _)=>True
 |some (.dK _)=>True
 |some (.dT _)=>True
 |some (.set _ _)=>True
 |some (.ins _ _ _)=>True
 |some (.ext _)=>True
 |_=>False
section
variable{x e:Addr}{o':HO}
theorem HOk.write(ok:HOk P w H h)(mu:ym (H x))(he:e=x\/H e=some (.own x))(k:∀b u,b≠e->h.get? b=some u->h'.get? b=some u)(heo:∃u,h'.get? e=some u)
  (new:ObjOk P w (upd H x o') h' x o'):HOk P w (upd H x o') h':=λb u q=>by
 have nown:∀c y,H c=some (.own y)->c≠x:=λc y r z=>by subst z;rw[r] at mu;exact mu
 have ntup:∀c xs,H c=some (.tup xs)->c≠x:=λc xs r z=>by subst z;rw[r] at mu;exact mu
 by_cases hb:b=x
 .subst hb;rw[aN] at q;cases q;exact new
 .rw[aG hb] at q
  by_cases hbe:b=e
  .have q':H b=some (.own x):=by
    rcases he with z|z
    .exact NH (hbe.trans z) hb
    .rw[hbe];exact z
   rw[q] at q';cases q';obtain⟨v,hv⟩:=heo;exact⟨v,by rw[hbe];exact hv⟩
  .refine(ok b u q).stay (λc v hc r=>k c v ?_ r) (λc r=>by rw[aG (nown c b r)];exact r) λc xs r=>by rw[aG (ntup c xs r)];exact r
   rcases hc with rfl|hc
   .exact hbe
   .rintro rfl
    rcases he with z|z
    .exact nown c b hc z
    .rw[hc] at z;cases z;exact hb rfl
end
structure Un(fs ex:List Addr)(H H':Hp)(h h':Heap):Prop where
 keep:∀b o,h.get? b=some o->H b=none->b∉fs->b∉ex->h'.get? b=some o
 slot:∀b o,h.get? b=some o->H b=none->b∈fs->b∉ex->∃sl,h'.get? b=some { o with slots:=sl }
 free:∀b o,h.get? b=some o->H b=none->b∉ex->H' b=none
 there:∀b o,h.get? b=some o->b∉ex->∃o',h'.get? b=some o'
 tups:∀b xs,H b=some (.tup xs)->H' b=some (.tup xs)
 frzs:∀b o u,H b=some (.frz o u)->H' b=some (.frz o u)
 tbls:∀b ps,H b=some (.tbl ps)->∃more,H' b=some (.tbl (ps++more))
 sys:mainGlobals∉ex->(∃o,h.get? mainGlobals=some o)->(∀xs,H sysModules≠some (.lst xs))->∀xs,H' sysModules≠some (.lst xs)
section
variable{fs fs' ex ex':List Addr}{H1 H2:Hp}{h1 h2:Heap}{x e:Addr}{o:HO}
theorem Un.any(u:Un fs ex H H1 h h1){ob:Obj}(q:h.get? b=some ob)(n:H b=none)(hx:b∉ex):∃sl,h1.get? b=some { ob with slots:=sl }:=by
 by_cases hb:b∈fs
 .exact u.slot b ob q n hb hx
 .exact⟨ob.slots,u.keep b ob q n hb hx⟩
theorem Un.trans(a:Un fs ex H H1 h h1)(b:Un fs ex H1 H2 h1 h2):Un fs ex H H2 h h2 where
 keep:=λc ob q n hc hx=>b.keep c ob (a.keep c ob q n hc hx) (a.free c ob q n hx) hc hx
 slot:=λc ob q n hc hx=>by
  obtain⟨sl,e1⟩:=a.slot c ob q n hc hx;obtain⟨sl',e2⟩:=b.slot c _ e1 (a.free c ob q n hx) hc hx;exact⟨sl',e2⟩
 free:=λc ob q n hx=>by
  obtain⟨o',e1⟩:=a.there c ob q hx;exact b.free c o' e1 (a.free c ob q n hx) hx
 there:=λc ob q hx=>by
  obtain⟨o',e1⟩:=a.there c ob q hx;exact b.there c o' e1 hx
 tups:=λc xs q=>b.tups c xs (a.tups c xs q)
 frzs:=λc ob xs q=>b.frzs c ob xs (a.frzs c ob xs q)
 tbls:=λc ps q=>by
  obtain⟨m1,e1⟩:=a.tbls c ps q;obtain⟨m2,e2⟩:=b.tbls c _ e1;exact⟨m1++m2,by rw[e2,As]⟩
 sys:=λhx ⟨o,e⟩ n=>b.sys hx (a.there _ o e hx) (a.sys hx ⟨o,e⟩ n)
theorem Un.kept(k:∀b u,h.get? b=some u->h'.get? b=some u):Un fs ex H H h h':=
 ⟨λb ob q _ _ _=>k b ob q,λb ob q _ _ _=>⟨ob.slots,k b ob q⟩,λ_ _ _ n _=>n,λb ob q _=>⟨ob,k b ob q⟩,λ_ _ q=>q,λ_ _ _ q=>q,λ_ ps q=>⟨#[],by rw[q];simp⟩,λ_ _ n=>n⟩
def Un.refl:Un fs ex H H h h:=Un.kept λ_ _ q=>q
theorem Un.laid(k:∀b u,h.get? b=some u->h'.get? b=some u)(hp:h.objs.size<=a)(hn:H a=none):Un fs ex H (upd H a o) h h' where
 keep:=λb u q _ _ _=>k b u q
 slot:=λb u q _ _ _=>⟨u.slots,k b u q⟩
 free:=λb u q n _=>by rw[aG (fJ (cU (db q) hp))];exact n
 there:=λb u q _=>⟨u,k b u q⟩
 tups:=λb xs q=>by rw[aG (c6 q hn)];exact q
 frzs:=λb u xs q=>by rw[aG (c6 q hn)];exact q
 tbls:=λb ps q=>⟨#[],by rw[aG (c6 q hn),q];simp⟩
 sys:=λ_ ⟨_,q⟩ n=>by rw[aG (fJ (cU (tO (by decide) (db q)) hp))];exact n
theorem Un.write(mu:ym (H x))(he:e=x\/H e=some (.own x))(k:∀b u,b≠e->h.get? b=some u->h'.get? b=some u)(heo:∃u,h'.get? e=some u)(hk:(∃us,H x=some (.lst us))\/∀us,o≠.lst us):Un fs ex H (upd H x o) h h':=by
 have hx:∀b,H b=none->b≠x:=λb n z=>by subst z;rw[n] at mu;exact mu
 have hb:∀b,H b=none->b≠e:=λb n z=>by
  subst z;rcases he with r|r
  .exact hx b n r
  .rw[n] at r;cases r
 have hm:∀b u,H b=some u->¬ym (some u)->b≠x:=λb u q nm z=>by subst z;rw[q] at mu;exact nm mu
 refine ⟨λb u q n _ _=>k b u (hb b n) q,λb u q n _ _=>⟨u.slots,k b u (hb b n) q⟩,λb u q n _=>by rw [aG (hx b n)];exact n,λb u q _=>?_,
  λb xs q=>by rw[aG (hm b _ q λz=>z)];exact q,λb u xs q=>by rw[aG (hm b _ q λz=>z)];exact q,λb ps q=>⟨#[],by rw[aG (hm b _ q λz=>z),q];simp⟩,λ_ _ n ys=>by
   by_cases z:sysModules=x
   .rw[z,aN]
    rcases hk with⟨us,hk⟩|hk
    .exact NH (z▸hk) (n us)
    .exact λy=>hk ys (NJ y)
   .rw[aG z];exact n ys⟩
 by_cases hbe:b=e
 .subst hbe;exact heo
 .exact⟨u,k b u hbe q⟩
theorem Un.mono(u:Un fs ex H H1 h h1)(hs:∀b∈fs,b∈fs')(hx:∀b∈ex,b∈ex'):Un fs' ex' H H1 h h1:=
 ⟨λb ob q n hb he=>u.keep b ob q n (λz=>hb (hs b z)) λz=>he (hx b z),λ_ _ q n _ he=>u.any q n λz=>he (hx _ z),λb ob q n he=>u.free b ob q n λz=>he (hx b z),λb ob q he=>u.there b ob q λz=>he (hx b z),u.tups,u.frzs,u.tbls,λhe=>u.sys λz=>he (hx _ z)⟩
end
def yn(h:Heap)(H:Hp):List Addr:=(List.range h.objs.size).filter λa=>(H a).isSome
def iB(h:Heap)(H:Hp):Heap:=PySem.W.hideAll h (yn h H)
def kM(h:Heap)(H:Hp):(iB h H).objs.size=h.objs.size:=PySem.W.hideAll_size _ _
theorem ms(e:h.get? b=some o)(n:H b=none):(iB h H).get? b=some o:=
 PySem.W.hideAll_get _ e λhm=>by
  have q:(H b).isSome=true:=(Yag.mp hm).2;rw[n] at q;simp at q
theorem pO(e:(iB h H).get? b=some o):h.get? b=some o/\H b=none:=by
 have e':h.get? b=some o:=PySem.W.of_hideAll (yn h H) e;refine⟨e',?_⟩;cases q:H b with
 |none=>rfl
 |some x=>
  have hm:b∈yn h H:=Yag.mpr ⟨Yah.mpr (db e'),by simp[q]⟩;have z:(iB h H).get? b=none:=PySem.W.hideAll_none (yn h H) hm;rw[z] at e;cases e
def pP(g h:Heap)(L:Addr):List (Addr×Obj):=(List.range h.objs.size).filterMap λa=>if a=L\/(g.get? a).isSome=true then none else(h.get? a).map λo=>(a,o)
def rest(g h:Heap)(L d:Addr):List (Addr×Obj):=(pP g h L).filter λp=>decide (p.1≠d)
structure Mod(K:NF)(mg:Str->Option Value)(base:Heap):Prop where
 kin:K.In base
 glob:base.Ns mainGlobals mg
 blt:∃mb,base.Ns builtinsNs mb/\∀x:Str,x≠ "__name__" ->mb x=bootBuiltins x
 nolimit:base.NoLimit
structure Cx where
 prog:Program
 w:World
 K:NF
 mg:Str->Option Value
 base:Heap
 A:Around
 N:List Str
 s₀:Shared
 H₀:Hp
 env:Env
 outer:List Env
 stack:List Env
 ex:List Addr
 fn:Str->Bool
 calm:Bool
 pn:List (Addr×Obj)
 xe:Value->Shared->Prop
variable{X:Cx}
def cY(l:List Env):List Addr:=l.filterMap (·.frame)
abbrev Cx.fs(X:Cx):List Addr:=cY X.outer
def kf(sc:Scope)(x:Str):Prop:=sc.names.lookup x=some .local\/sc.names.lookup x=some .cell\/sc.names.lookup x=some .free
def kj(sc:Scope)(x:Str):Prop:=sc.names.lookup x=some .local\/sc.names.lookup x=some .cell
def AM(env:Env)(h:Heap)(m:Str->Option Value)(x:Str)(u:Value):Prop:=
 (env.kindOf x=some .local/\m x=some u)\/((env.kindOf x=some .cell\/env.kindOf x=some .free)/\∃c,env.cells.lookup x=some c/\h.IsCell c (some u))
structure Cx.Ok(X:Cx):Prop where
 mod:Mod X.K X.mg X.base
 kind:X.env.scope.kind=.function
 glob:X.env.globals=mainGlobals
 blt:X.env.builtins=builtinsNs
 above:X.s₀.heap.objs.size<=X.env.locals
 inj:∀x y c,X.env.cells.lookup x=some c->X.env.cells.lookup y=some c->x=y
 has:∀x,(X.env.kindOf x=some .cell\/X.env.kindOf x=some .free)->∃c,X.env.cells.lookup x=some c
 cab:∀x c,X.fn x=true->X.env.cells.lookup x=some c->X.s₀.heap.objs.size<=c
 hd:X.calm=true->X.A.handled=none
 frames:X.A.frames=some X.stack
 stk:X.stack=X.outer\/(X.stack=X.env::X.outer/\X.env.frame=some X.env.locals)
 exf:∀b∈X.ex,b≠X.env.locals/\∀x c,X.env.cells.lookup x=some c->c≠b
 bs:∀b o,X.base.get? b=some o->X.s₀.heap.get? b=some o/\X.H₀ b=none
 bsz:X.base.objs.size<=X.s₀.heap.objs.size
 noex:∀b o,X.base.get? b=some o->b∉X.ex
 exfs:∀b∈X.ex,b∉X.fs
 funs:X.s₀.heap.FunFrames X.base X.outer
 frf:∀b∈X.fs,X.H₀ b=none
 sys0:∀xs,X.H₀ sysModules≠some (.lst xs)
structure Inv(X:Cx)(pins:List (Addr×Obj))(σ:List (Option V))(H:Hp)(s:Shared):Prop where
 ok:X.Ok
 os:s.os=X.s₀.os
 bare:AllBare s.gens
 base:Un X.fs X.ex X.H₀ H X.s₀.heap s.heap
 loc:∃m,s.heap.Ns X.env.locals m/\∀(i:Nat) (x:Str) (v:V),X.N[i]? = some x->σ[i]? = some (some v)->kf X.env.scope x->∃u,RelV v u/\AM X.env s.heap m x u
 cell:∀x c,X.env.cells.lookup x=some c->∃v,s.heap.IsCell c v
 free:H X.env.locals=none
 freeC:∀x c,X.env.cells.lookup x=some c->H c=none
 pin:∀p∈X.pn++pins,s.heap.get? p.1=some p.2/\H p.1=none/\p.1≠X.env.locals/\p.1∉X.fs/\∀v,p.2.data≠.cell v
 hok:HOk X.prog X.w H s.heap
 len:σ.length=X.N.length
section
variable{σ:List (Option V)}
def Cx.Ok.nofr(ok:X.Ok)(e:X.base.get? b=some o):b∉X.fs:=λhb=>by
 have:=(ok.funs.mem hb).1;rw[e] at this;cases this
theorem Inv.bs(I:Inv X pins σ H s):∀b o,X.base.get? b=some o->s.heap.get? b=some o/\H b=none:=λb o e=>
 ⟨I.base.keep b o (I.ok.bs b o e).1 (I.ok.bs b o e).2 (I.ok.nofr e) (I.ok.noex b o e),I.base.free b o (I.ok.bs b o e).1 (I.ok.bs b o e).2 (I.ok.noex b o e)⟩
def Inv.bk(I:Inv X pins σ H s):∀b o,X.base.get? b=some o->s.heap.get? b=some o:=λb o e=>(I.bs b o e).1
def Inv.mod(I:Inv X pins σ H s):Mod X.K X.mg X.base:=I.ok.mod
def Inv.hasG(I:Inv X pins σ H s):∃o,s.heap.get? mainGlobals=some o:=by
 obtain⟨o,_,_,e,_⟩:=I.ok.mod.glob;exact⟨o,I.bk _ _ e⟩
theorem Inv.sysn(I:Inv X pins σ H s):∀xs,H sysModules≠some (.lst xs):=by
 obtain⟨o,_,_,e,_⟩:=I.ok.mod.glob;exact I.base.sys (I.ok.noex _ _ e) ⟨o,(I.ok.bs _ _ e).1⟩ I.ok.sys0
def Inv.kIn(I:Inv X pins σ H s):X.K.In s.heap:=I.ok.mod.kin.keeps I.bk
def Inv.fr(I:Inv X pins σ H s):∃m,Fr X.base X.env.locals s.heap m:=
 let⟨m,hn,_⟩:=I.loc
 ⟨m,hn,I.bk,gv I.ok.bsz I.ok.above⟩
def Inv.lt(I:Inv X pins σ H s):X.env.locals<s.heap.objs.size:=let⟨_,hn,_⟩:=I.loc;hn.lt
def Inv.sz(I:Inv X pins σ H s):X.s₀.heap.objs.size<=s.heap.objs.size:=gv I.ok.above (jC I.lt)
theorem Inv.nofs(I:Inv X pins σ H s)(h:s.heap.objs.size<=a):a∉X.fs:=λhb=>by
 obtain⟨_,o,ho,_⟩:=I.ok.funs.mem hb;exact NH (cU (db ho) (gv I.sz h)) (gZ _)
theorem Inv.cne(I:Inv X pins σ H s):∀x c,X.env.cells.lookup x=some c->c≠X.env.locals:=λx c e z=>by
 obtain⟨v,o,ho,hd⟩:=I.cell x c e;obtain⟨m,⟨o',es,ep,ho',hd',_⟩,_⟩:=I.loc;rw[z,ho'] at ho;cases ho;rw[hd'] at hd;cases hd
theorem Inv.funs(I:Inv X pins σ H s):s.heap.FunFrames X.base X.outer:=by
 have all:∀(l:List Env),(∀b∈cY l,b∈X.fs)->X.s₀.heap.FunFrames X.base l->s.heap.FunFrames X.base l:=by
  intro l
  induction l with
  |nil=>intro _ _;trivial
  |cons env r ih=>
   intro hs hl;obtain⟨hk,⟨L,o,hf,hn,ho,hd⟩,hr⟩:=hl;have hL:L∈X.fs:=hs L (by unfold cY;rw[xF,hf];exact j5);obtain⟨sl,e⟩:=I.base.slot L o ho (I.ok.frf L hL) hL λz=>I.ok.exfs L z hL;exact⟨hk,⟨L,_,hf,hn,e,hd⟩,ih (λb hb=>hs b (by unfold cY;rw[xF,hf];exact gI _ hb)) hr⟩
 exact all X.outer (λ_ hb=>hb) I.ok.funs
theorem Inv.stack(I:Inv X pins σ H s):s.heap.FunFrames X.base X.stack:=by
 rcases I.ok.stk with e|⟨e,hf⟩
 .rw[e];exact I.funs
 .rw[e]
  obtain⟨m,hn,_⟩:=I.loc;refine .cons (by rw[I.ok.kind];decide) hf hn ?_ I.funs;exact Heap.get?_none_of_le (gv I.ok.bsz I.ok.above)
theorem Inv.stkSub(I:Inv X pins σ H s):∀b∈cY X.stack,b∈X.env.locals::X.fs:=λb hb=>by
 rcases I.ok.stk with e|⟨e,hf⟩
 .rw[e] at hb;exact gI _ hb
 .rw[e] at hb
  unfold cY at hb;rw[xF,hf] at hb;exact hb
theorem Inv.stkFree(I:Inv X pins σ H s):∀b∈cY X.stack,H b=none:=λb hb=>by
 rcases Yan.mp (I.stkSub b hb) with e|hb
 .rw[e];exact I.free
 .obtain⟨_,o,ho,_⟩:=I.ok.funs.mem hb
  exact I.base.free b o ho (I.ok.frf b hb) λz=>I.ok.exfs b z hb
theorem Inv.step(I:Inv X pins σ H s)
  (hch:∀b∈ch,(b∈X.ex\/X.s₀.heap.objs.size<=b)/\b≠X.env.locals/\(∀x c,X.env.cells.lookup x=some c->c≠b)/\∀p∈X.pn++pins,p.1≠b)
  (keep:∀b o,b≠X.env.locals->b∉X.fs->b∉ch->s.heap.get? b=some o->H b=none->h'.get? b=some o)
  (slot:∀b o,b≠X.env.locals->b∈X.fs->b∉ch->s.heap.get? b=some o->H b=none->∃sl,h'.get? b=some { o with slots:=sl }) (free:∀b o,b∉ch->s.heap.get? b=some o->H b=none->H' b=none)
  (there:∀b o,b∉ch->s.heap.get? b=some o->∃o',h'.get? b=some o')
  (tups:∀b xs,H b=some (.tup xs)->H' b=some (.tup xs)) (frzs:∀b o u,H b=some (.frz o u)->H' b=some (.frz o u)) (tbls:∀b ps,H b=some (.tbl ps)->∃more,H' b=some (.tbl (ps++more)))
  (ns:∀m,s.heap.Ns X.env.locals m->h'.Ns X.env.locals m) (hok:HOk X.prog X.w H' h') (hg:AllBare g') (sy:(∀xs,H sysModules≠some (.lst xs))->∀xs,H' sysModules≠some (.lst xs)) :
  Inv X pins σ H' { s with heap:=h',gens:=g',drawn:=d',toks:=t' }:=by
 have neL:∀b o,X.s₀.heap.get? b=some o->b≠X.env.locals:=λb o e=>fJ (cU (db e) I.ok.above);have neC:∀b o,X.s₀.heap.get? b=some o->b∉X.ex->b∉ch:=λb o e hx hb=>by
  rcases(hch b hb).1 with z|z
  .exact hx z
  .exact NH (cU (db e) z) (gZ _)
 have cellK:∀x c,X.env.cells.lookup x=some c->∀v,s.heap.IsCell c v->h'.IsCell c v:=λx c e v ⟨o,ho,hd⟩=>by
  have nch:c∉ch:=λz=>(hch c z).2.2.1 x c e rfl
  by_cases hc:c∈X.fs
  .obtain⟨sl,q⟩:=slot c o (I.cne x c e) hc nch ho (I.freeC x c e)
   exact⟨_,q,hd⟩
  .exact⟨o,keep c o (I.cne x c e) hc nch ho (I.freeC x c e),hd⟩
 refine⟨I.ok,I.os,hg,⟨λb o e n hb hx=>?_,λb o e n hb hx=>?_,λb o e n hx=>?_,λb o e hx=>?_,λb xs e=>tups b xs (I.base.tups b xs e),λb o xs e=>frzs b o xs (I.base.frzs b o xs e),λb ps e=>?_,λx0 e0 n=>sy (I.base.sys x0 e0 n)⟩,?_,λx c e=>?_,?_,λx c e=>?_,λp hp=>?_,hok,I.len⟩
 .exact keep b o (neL b o e) hb (neC b o e hx) (I.base.keep b o e n hb hx) (I.base.free b o e n hx)
 .obtain⟨sl,e1⟩:=I.base.slot b o e n hb hx
  obtain⟨sl',e2⟩:=slot b _ (neL b o e) hb (neC b o e hx) e1 (I.base.free b o e n hx);exact⟨sl',e2⟩
 .obtain⟨o',e1⟩:=I.base.there b o e hx
  exact free b o' (neC b o e hx) e1 (I.base.free b o e n hx)
 .obtain⟨o',e1⟩:=I.base.there b o e hx
  exact there b o' (neC b o e hx) e1
 .obtain⟨m1,e1⟩:=I.base.tbls b ps e
  obtain⟨m2,e2⟩:=tbls b _ e1;exact⟨m1++m2,by rw[e2,As]⟩
 .obtain⟨m,hn,hl⟩:=I.loc
  refine⟨m,ns m hn,λi x v e1 e2 e3=>?_⟩;obtain⟨u,r,l⟩:=hl i x v e1 e2 e3;refine⟨u,r,?_⟩;rcases l with l|⟨k,c,e,z⟩
  .exact .inl l
  .exact .inr ⟨k,c,e,cellK x c e _ z⟩
 .obtain⟨v,z⟩:=I.cell x c e
  exact⟨v,cellK x c e v z⟩
 .obtain⟨m,⟨o,_,_,ho,_⟩,_⟩:=I.loc
  exact free _ o (λz=>(hch _ z).2.1 rfl) ho I.free
 .obtain⟨v,o,ho,hd⟩:=I.cell x c e
  exact free c o (λz=>(hch c z).2.2.1 x c e rfl) ho (I.freeC x c e)
 .obtain⟨e,n,ne,nf,d⟩:=I.pin p hp
  have nch:p.1∉ch:=λz=>(hch p.1 z).2.2.2 p hp rfl;exact⟨keep p.1 p.2 ne nf nch e n,free p.1 p.2 nch e n,ne,nf,d⟩
theorem Inv.un(I:Inv X pins σ H s)(u:Un X.fs [] H H' s.heap h')(hok:HOk X.prog X.w H' h'):Inv X pins σ H' { s with heap:=h',toks:=t' }:=by
 obtain⟨m,⟨o,es,ep,ho,r⟩,_⟩:=id I.loc;obtain⟨sl,hL⟩:=u.any ho I.free (by simp);exact I.step (g':=s.gens) (d':=s.drawn) (ch:=[]) (λ_ z=>nomatch z) (λb o _ hb _ e n=>u.keep b o e n hb (by simp)) (λb o _ hb _ e n=>u.slot b o e n hb (by simp)) (λb o _ e n=>u.free b o e n (by simp)) (λb o _ e=>u.there b o e (by simp)) u.tups u.frzs u.tbls (λm' hm=>by
  obtain⟨o',es',ep',ho',r'⟩:=hm;rw[ho] at ho';cases ho';exact⟨_,es',ep',hL,r'⟩) hok I.bare (u.sys (by simp) I.hasG)
theorem Inv.call(I:Inv X pins σ H s)(u:Un (cY X.stack) ch H H' s.heap h')(hok:HOk X.prog X.w H' h')(hg:AllBare g')
  (hch:∀b∈ch,(b∈X.ex\/X.s₀.heap.objs.size<=b)/\b≠X.env.locals/\(∀x c,X.env.cells.lookup x=some c->c≠b)/\∀p∈X.pn++pins,p.1≠b) :
  Inv X pins σ H' { s with heap:=h',gens:=g',drawn:=d',toks:=t' }:=by
 obtain⟨m,⟨o,es,ep,ho,r⟩,_⟩:=id I.loc;obtain⟨sl,hL⟩:=u.any ho I.free λz=>(hch _ z).2.1 rfl;exact I.step (ch:=ch) hch (λb o hL hb hc e n=>u.keep b o e n (λz=>(Yan.mp (I.stkSub b z)).elim hL hb) hc) (λb o _ _ hc e n=>u.any e n hc) (λb o hc e n=>u.free b o e n hc) (λb o hc e=>u.there b o e hc) u.tups u.frzs u.tbls (λm' hm=>by
  obtain⟨o',es',ep',ho',r'⟩:=hm;rw[ho] at ho';cases ho';exact ⟨_,es',ep',hL,r'⟩) hok hg (u.sys (λz=>by
   obtain⟨o0,_,_,e0,_⟩:=I.ok.mod.glob;rcases(hch _ z).1 with y|y
   .exact I.ok.noex _ _ e0 y
   .exact NH (cU (db (I.ok.bs _ _ e0).1) y) (gZ _)) I.hasG)
theorem Inv.turned(I:Inv X pins σ H s)(k:∀b o,b≠it->s.heap.get? b=some o->h'.get? b=some o)(hn:H it=none)(hL:it≠X.env.locals)
  (h1:it∈X.ex\/X.s₀.heap.objs.size<=it) (h2:∀x c,X.env.cells.lookup x=some c->c≠it) (h3:∀p∈X.pn++pins,p.1≠it):Inv X pins σ H { s with heap:=h',toks:=t' }:=by
 have nit:∀b u,H b=some u->b≠it:=λb u e z=>by rw[z,hn] at e;cases e
 refine I.step (g':=s.gens) (d':=s.drawn) (ch:=[it]) (λb hb=>?_) (λb o _ _ hc e _=>k b o (λz=>hc (by simp[z])) e) (λb o _ _ hc e _=>⟨o.slots,k b o (λz=>hc (by simp[z])) e⟩) (λ_ _ _ _ n=>n)
  (λb o hc e=>⟨o,k b o (λz=>hc (by simp[z])) e⟩) (λ_ _ e=>e) (λ_ _ _ e=>e) (λb ps e=>⟨#[],by rw[e];simp⟩) (λm hm=>?_) (λb u e=>?_) I.bare (λn=>n)
 .have e:b=it:=by simpa using hb
  subst e;exact⟨h1,hL,h2,h3⟩
 .obtain⟨o,es,ep,ho,r⟩:=hm
  exact⟨o,es,ep,k _ o (NO hL) ho,r⟩
 .refine(I.hok b u e).stay (λc v hc q=>k c v ?_ q) (λ_ q=>q) λ_ _ q=>q
  rcases hc with z|z
  .rw[z];exact nit b u e
  .exact nit c _ z
def Inv.tok(I:Inv X pins σ H s)(t:Nat):Inv X pins σ H { s with toks:=t }:=I.un (h':=s.heap) (t':=t) Un.refl I.hok
theorem Inv.kept{t':Nat}(I:Inv X pins σ H s)(k:∀b u,s.heap.get? b=some u->h'.get? b=some u):Inv X pins σ H { s with heap:=h',toks:=t' }:=I.un (Un.kept k) (I.hok.kept k)
theorem Inv.laid{a:Addr}{o:HO}{t':Nat}(I:Inv X pins σ H s)(k:∀b u,s.heap.get? b=some u->h'.get? b=some u)(hp:s.heap.objs.size<=a)(new:ObjOk X.prog X.w (upd H a o) h' a o) :
  Inv X pins σ (upd H a o) { s with heap:=h',toks:=t' }:=I.un (Un.laid k hp (I.hok.fresh hp)) (I.hok.laid k hp new)
theorem Inv.write{x e:Addr}{o:HO}{t':Nat}(I:Inv X pins σ H s)(mu:ym (H x))(he:e=x\/H e=some (.own x))(k:∀b u,b≠e->s.heap.get? b=some u->h'.get? b=some u)(heo:∃u,h'.get? e=some u)
  (new:ObjOk X.prog X.w (upd H x o) h' x o) (hk:(∃us,H x=some (.lst us))\/∀us,o≠.lst us):Inv X pins σ (upd H x o) { s with heap:=h',toks:=t' }:=I.un (Un.write mu he k heo hk) (I.hok.write mu he k heo new)
theorem Inv.pins_of{pins':List (Addr×Obj)}(I:Inv X pins σ H s)(h:∀p∈pins',s.heap.get? p.1=some p.2/\H p.1=none/\p.1≠X.env.locals/\p.1∉X.fs/\∀v,p.2.data≠.cell v):Inv X pins' σ H s:=
 ⟨I.ok,I.os,I.bare,I.base,I.loc,I.cell,I.free,I.freeC,λp hp=>(Yao.mp hp).elim (λz=>I.pin p (At _ z)) (h p),I.hok,I.len⟩
theorem jd(hN:N.Nodup)(a:N[i]? = some x)(b:N[j]? = some x):i=j:=by
 obtain⟨h1,e1⟩:=Yaq.mp a;obtain⟨h2,e2⟩:=Yaq.mp b;exact(List.getElem_inj hN).mp (e1.trans e2.symm)
theorem fc{M:Model}{E:Value->Shared->Prop}{v:V}{u:Value}{Q:Unit->Shared->Prop}(I:Inv X pins σ H s)(hN:X.N.Nodup)(hi:X.N[i]? = some x)(hx:kj X.env.scope x)(r:RelV v u)
  (h:∀s',Inv X pins (σ.set i (some v)) H s'->(∃a,Heap.SameBut a s.heap s'.heap/\(a=X.env.locals\/X.env.cells.lookup x=some a))->Q () s') (hf:X.fn x=true\/X.env.scope.names.lookup x=some .local:=by first|exact .inl rfl|exact .inr rfl|assumption):wpAny M A (storeName X.env x u) Q E s:=by
 obtain⟨m,hn,hl⟩:=id I.loc;have hcls:(X.env.scope.kind==.class||(X.env.scope.kind==.module&&X.env.locals != X.env.globals))=false:=by rw[I.ok.kind];rfl
 have hiσ:i<σ.length:=by rw[I.len];exact(Yaq.mp hi).1
 have cne:=I.cne;have tracked:∀{a:Addr} {h':Heap},(∃o,s.heap.get? a=some o/\H a=none)->Heap.SameBut a s.heap h'->HOk X.prog X.w H h':=λ{a h'} ha hs b ob e=>by
  obtain⟨_,_,hfree⟩:=ha;refine(I.hok b ob e).stay (λc w' hc q=>(hs.2 c ?_).trans q) (λ_ q=>q) λ_ _ q=>q;rintro rfl;rcases hc with rfl|hc
  .rw[hfree] at e;cases e
  .rw[hfree] at hc;cases hc
 rcases hx with hk|hk
 .refine wpAny_storeName_local hk hn (λh' hn' hs=>?_) hcls
  obtain⟨oL,_,_,hoL,_⟩:=id hn;refine h _ ⟨I.ok,I.os,I.bare,⟨λb o e n hb hx=>?_,λb o e n hb hx=>?_,I.base.free,λb o e hx=>?_,I.base.tups,I.base.frzs,I.base.tbls,I.base.sys⟩,⟨_,hn',λj y v' e1 e2 e3=>?_⟩,λy c e=>?_,I.free,I.freeC,λp hp=>?_,tracked ⟨oL,hoL,I.free⟩ hs,by simpa using I.len⟩ ⟨_,hs,.inl rfl⟩
  .exact(hs.2 b (fJ (cU (db e) I.ok.above))).trans (I.base.keep b o e n hb hx)
  .obtain⟨sl,e1⟩:=I.base.slot b o e n hb hx
   exact⟨sl,(hs.2 b (fJ (cU (db e) I.ok.above))).trans e1⟩
  .obtain⟨o',e1⟩:=I.base.there b o e hx
   exact⟨o',(hs.2 b (fJ (cU (db e) I.ok.above))).trans e1⟩
  .by_cases hj:j=i
   .subst hj
    rw[hi] at e1;cases e1;rw[dc hiσ] at e2;cases e2;exact⟨u,r,.inl ⟨hk,by simp⟩⟩
   .rw[cG (NO hj)] at e2
    obtain⟨u',r',q⟩:=hl j y v' e1 e2 e3;refine⟨u',r',?_⟩;rcases q with⟨k,e⟩|⟨k,c,e,z⟩
    .refine .inl ⟨k,?_⟩
     have:y≠x:=λe=>hj (jd hN e1 (e▸hi));simp[this,e]
    .exact .inr ⟨k,c,e,z.sameBut hs (cne y c e)⟩
  .obtain⟨w',z⟩:=I.cell y c e
   exact⟨w',z.sameBut hs (cne y c e)⟩
  .obtain⟨e,n,ne,nf,d⟩:=I.pin p hp
   exact⟨(hs.2 p.1 ne).trans e,n,ne,nf,d⟩
 .have hfn:X.fn x=true:=by
   rcases hf with z|z
   .exact z
   .rw[z] at hk;cases hk
  obtain⟨c,hc⟩:=I.ok.has x (.inl hk);obtain⟨w',z⟩:=I.cell x c hc;refine wpAny_storeName_cell I.ok.kind hk hc z (λh' hc' hs=>?_);obtain⟨oc,hoc,hocd⟩:=id z;refine h { s with heap:=h' } ⟨I.ok,I.os,I.bare,⟨λb o e n hb hx=>?_,λb o e n hb hx=>?_,I.base.free,λb o e hx=>?_,I.base.tups,I.base.frzs,I.base.tbls,I.base.sys⟩,⟨m,hn.sameBut hs (NO (cne x c hc)),λj y v' e1 e2 e3=>?_⟩,λy c' e=>?_,I.free,I.freeC,λp hp=>?_,tracked ⟨oc,hoc,I.freeC x c hc⟩ hs,by simpa using I.len⟩ ⟨c,hs,.inr hc⟩
  .exact(hs.2 b (fJ (cU (db e) (I.ok.cab x c hfn hc)))).trans (I.base.keep b o e n hb hx)
  .obtain⟨sl,e1⟩:=I.base.slot b o e n hb hx
   exact⟨sl,(hs.2 b (fJ (cU (db e) (I.ok.cab x c hfn hc)))).trans e1⟩
  .obtain⟨o',e1⟩:=I.base.there b o e hx
   exact⟨o',(hs.2 b (fJ (cU (db e) (I.ok.cab x c hfn hc)))).trans e1⟩
  .by_cases hj:j=i
   .subst hj
    rw[hi] at e1;cases e1;rw[dc hiσ] at e2;cases e2;exact⟨u,r,.inr ⟨.inl hk,c,hc,hc'⟩⟩
   .rw[cG (NO hj)] at e2
    obtain⟨u',r',q⟩:=hl j y v' e1 e2 e3;refine⟨u',r',?_⟩;rcases q with q|⟨k,c',e,z'⟩
    .exact .inl q
    .refine .inr ⟨k,c',e,z'.sameBut hs ?_⟩
     rintro rfl;exact hj (jd hN e1 (I.ok.inj _ _ _ e hc▸hi))
  .by_cases hcc:c'=c
   .subst hcc;exact⟨_,hc'⟩
   .obtain⟨w2,z2⟩:=I.cell y c' e
    exact⟨w2,z2.sameBut hs hcc⟩
  .obtain⟨e,n,ne,nf,d⟩:=I.pin p hp
   refine⟨(hs.2 p.1 ?_).trans e,n,ne,nf,d⟩;intro q;rw[q,hoc] at e;have q':oc=p.2:=NJ e;exact d w' (by rw[<-q'];exact hocd)
theorem eV{M:Model}{E:Value->Shared->Prop}{v:V}{u:Value}{Q:Unit->Shared->Prop}(I:Inv X pins σ H s)(hN:X.N.Nodup)(hi:X.N[i]? = some x)(hx:kj X.env.scope x)(r:RelV v u)
  (h:∀s',Inv X pins (σ.set i (some v)) H s'->Q () s') (hf:X.fn x=true\/X.env.scope.names.lookup x=some .local:=by first|exact .inl rfl|exact .inr rfl|assumption):wpAny M A (storeName X.env x u) Q E s:=
 fc I hN hi hx r (λs' I' _=>h s' I') hf
theorem Inv.call'(I:Inv X pins σ H s)(ho:s'.os=s.os)(u:Un (cY X.stack) ch H H' s.heap s'.heap)(hok:HOk X.prog X.w H' s'.heap)(hg:AllBare s'.gens)
  (hch:∀b∈ch,(b∈X.ex\/X.s₀.heap.objs.size<=b)/\b≠X.env.locals/\(∀x c,X.env.cells.lookup x=some c->c≠b)/\∀p∈X.pn++pins,p.1≠b):Inv X pins σ H' s':=by
 obtain⟨h',g',d',t',o'⟩:=s';have e:o'=s.os:=ho;subst e;exact I.call (g':=g') (t':=t') (d':=d') u hok hg hch
end
abbrev XK:=Value->Option Addr->Hp->Prop
abbrev St:=List (Option V)
variable{σ:St}
abbrev VK:=V->Hp->Prop
variable{tget:V->V->Hp->VK->Prop}
abbrev TE:=St->Hp->VK->Prop
variable{ta te:TE}
abbrev TT:=St->Hp->(Bool->Hp->Prop)->Prop
variable{tc:TT}
abbrev TA:=St->Hp->(List V->Hp->Prop)->Prop
variable{t:TA}
structure je where
 nx:St->Hp->Prop
 rt:VK
 bk:St->Hp->Prop:=λ_ _=>False
 ct:St->Hp->Prop:=λ_ _=>False
abbrev TS:=je->St->Hp->Prop
def EP(X:Cx)(pins:List (Addr×Obj))(σ:St)(Q:VK)(u:Value)(s':Shared):Prop:=∃v H',Inv X pins σ H' s'/\RelV v u/\Q v H'
def TP(X:Cx)(pins:List (Addr×Obj))(σ:St)(Q:Bool->Hp->Prop)(b:Bool)(s':Shared):Prop:=∃H',Inv X pins σ H' s'/\Q b H'
def AP(X:Cx)(pins:List (Addr×Obj))(σ:St)(Q:List V->Hp->Prop)(us:List Value)(s':Shared):Prop:=∃vs H',Inv X pins σ H' s'/\Vals vs us/\Q vs H'
def SP(X:Cx)(pins:List (Addr×Obj))(D:je)(f:Flow)(s':Shared):Prop:=
 match f with
 |.next=>∃σ' H',Inv X pins σ' H' s'/\D.nx σ' H'
 |.brk=>∃σ' H',Inv X pins σ' H' s'/\D.bk σ' H'
 |.cont=>∃σ' H',Inv X pins σ' H' s'/\D.ct σ' H'
 |.ret u=>∃v σ' H',Inv X pins σ' H' s'/\RelV v u/\D.rt v H'
def PE(X:Cx)(e:Expr)(t:TE):Prop:=
 ∀(pins:List (Addr×Obj)) (s:Shared) (σ:St) (H:Hp) (Q:VK),Inv X pins σ H s->t σ H Q->wpAny (model X.prog X.w) X.A (eval e X.env) (EP X pins σ Q) X.xe s
def PT(X:Cx)(e:Expr)(t:TT):Prop:=
 ∀(pins:List (Addr×Obj)) (s:Shared) (σ:St) (H:Hp) (Q:Bool->Hp->Prop),Inv X pins σ H s->t σ H Q->wpAny (model X.prog X.w) X.A (isTrue e X.env (eval e X.env)) (TP X pins σ Q) X.xe s
def PW(X:Cx)(e:Expr)(t:TT):Prop:=
 ∀(whole:Sem Value) (pins:List (Addr×Obj)) (s:Shared) (σ:St) (H:Hp) (Q:Bool->Hp->Prop),Inv X pins σ H s->t σ H Q->wpAny (model X.prog X.w) X.A (isTrue e X.env whole) (TP X pins σ Q) X.xe s
def PW.pt{t:TT}(h:PW X e t):PT X e t:=h _
def PA(X:Cx)(es:List Expr)(t:TA):Prop:=
 ∀(pos:Pos) (pins:List (Addr×Obj)) (s:Shared) (σ:St) (H:Hp) (Q:List V->Hp->Prop),Inv X pins σ H s->t σ H Q->wpAny (model X.prog X.w) X.A (spliced (backTo pos (starEach es X.env))) (AP X pins σ Q) X.xe s
def PS(X:Cx)(st:Stmt)(t:TS):Prop:=
 ∀(pins:List (Addr×Obj)) (s:Shared) (σ:St) (H:Hp) (D:je),Inv X pins σ H s->t D σ H->wpAny (model X.prog X.w) X.A (exec st X.env) (SP X pins D) X.xe s
def PSs(X:Cx)(st:List Stmt)(t:TS):Prop:=
 ∀(pins:List (Addr×Obj)) (s:Shared) (σ:St) (H:Hp) (D:je),Inv X pins σ H s->t D σ H->wpAny (model X.prog X.w) X.A (execs st X.env) (SP X pins D) X.xe s
theorem bA{α:Type}{t:Sem α}{Q Q':α->Shared->Prop}{M:Model}{E:Value->Shared->Prop}(h:wpAny M A t Q E s)(hQ:∀a s,Q a s->Q' a s):wpAny M A t Q' E s:=NN h hQ λ_ _ x=>x
section
theorem NB{a b:Expr}{tb:TE}(ha:PE X a ta)(hb:PE X b tb){R:V->V->Hp->Prop}(I:Inv X pins σ H s)(h:ta σ H λx H1=>tb σ H1 λy H2=>R x y H2)
  {α:Type} {Q:α->Shared->Prop} {f:Value->Value->Sem α}
  (hf:∀v u s2 x y H2,Inv X pins σ H2 s2->RelV x v->RelV y u->R x y H2->wpAny (model X.prog X.w) X.A (f v u) Q X.xe s2) :
  wpAny (model X.prog X.w) X.A (eval a X.env) (λv s₁=>wpAny (model X.prog X.w) X.A (eval b X.env) (λu s₂=>wpAny (model X.prog X.w) X.A (f v u) Q X.xe s₂) X.xe s₁) X.xe s:=by
 refine bA (ha pins s σ H _ I h) λv s1 ⟨x,H1,I1,r1,q1⟩=>?_;refine bA (hb pins s1 σ H1 _ I1 q1) λu s2 ⟨y,H2,I2,r2,q2⟩=>?_;exact hf v u s2 x y H2 I2 r1 r2 q2
def AN(i:Nat):TE:=λσ H Q=>∃v,σ[i]? = some (some v)/\Q v H
def tC(v:V):TE:=λ_ H Q=>Q v H
theorem c7(hN:X.N[i]? = some x)(hv:kf X.env.scope x)(hd:(x==("__debug__" : Str))=false:=by decide)(hcd:(x==("__classdict__" : Str))=false:=by decide):PE X (.Name x pos) (AN i):=by
 intro pins s σ H Q I h;obtain⟨v,e,h⟩:=h;obtain⟨m,hn,hl⟩:=I.loc;obtain⟨u,r,l⟩:=hl i x v hN e hv;have fin:EP X pins σ Q u s:=⟨v,H,I,r,h⟩
 rcases l with⟨hk,hm⟩|⟨hk,c,hc,hcell⟩
 .exact wpAny_Name (wpAny_loadName_local I.ok.kind hk hn hm fin) hd
 .rcases hk with hk|hk
  .exact wpAny_Name (wpAny_loadName_cell I.ok.kind hk hc hcell fin) hd
  .exact wpAny_Name (wpAny_loadName_free I.ok.kind hk hc hcell fin hcd) hd
def jH{i j pos}:PE X (.Constant (.int i) j pos) (tC (.int i)):=λ_ _ _ H _ I h=>wpAny_Constant_int ⟨.int i,H,I.tok _,⟨_,rfl⟩,h⟩
def uI{b j pos}:PE X (.Constant (.bool b) j pos) (tC (.bl b)):=λ_ _ _ H _ I h=>Constant_bool ⟨.bl b,H,I,rfl,h⟩
def rM{j pos}:PE X (.Constant .none j pos) (tC .non):=λ_ _ _ H _ I h=>Constant_none ⟨.non,H,I,rfl,h⟩
def rN{x j pos}:PE X (.Constant (.str x) j pos) (tC (.str x)):=λ_ _ _ H _ I h=>Calls.Constant_str ⟨.str x,H,I.tok _,⟨_,rfl⟩,h⟩
def Gl(X:Cx)(x:Str):Prop:=X.env.kindOf x=some .globalImplicit
theorem eW{E:Value->Shared->Prop}{u:Value}(I:Inv X pins σ H s)(hg:Gl X x)(hm:X.mg x=some u)(h:Q u s)
  (hd:(x==("__debug__" : Str))=false:=by decide):wpAny (model X.prog X.w) X.A (eval (.Name x pos) X.env) Q E s:=
 Calls.Name_function_global I.ok.kind hg (Calls.loadGlobal_global (by rw[I.ok.glob];exact I.mod.glob.keeps I.bk) hm h) hd
theorem fe{E:Value->Shared->Prop}{u:Value}(I:Inv X pins σ H s)(hg:Gl X x)(hm:X.mg x=none)(hv:bootBuiltins x=some u)(h:Q u s)
  (hn:x≠ "__name__" :=by decide) (hd:(x==("__debug__" : Str))=false:=by decide):wpAny (model X.prog X.w) X.A (eval (.Name x pos) X.env) Q E s:=by
 obtain⟨mb,h1,h2⟩:=I.mod.blt;exact Calls.Name_function_global I.ok.kind hg (Calls.loadGlobal_builtin (by rw[I.ok.glob];exact I.mod.glob.keeps I.bk) hm (by rw[I.ok.blt];exact h1.keeps I.bk) ((h2 x hn).trans hv) h) hd
theorem pQ{v:V}{u:Value}(hg:Gl X x)(hm:X.mg x=some u)(r:RelV v u)(hd:(x==("__debug__" : Str))=false:=by decide):PE X (.Name x pos) (tC v):=
 λ_ _ _ H _ I h=>eW I hg hm ⟨v,H,I,r,h⟩ hd
theorem pR{v:V}{u:Value}(hg:Gl X x)(hm:X.mg x=none)(hv:bootBuiltins x=some u)(r:RelV v u)(hn:x≠ "__name__" :=by decide)(hd:(x==("__debug__" : Str))=false:=by decide):PE X (.Name x pos) (tC v):=
 λ_ _ _ H _ I h=>fe I hg hm hv ⟨v,H,I,r,h⟩ hn hd
variable{a b:Expr}{tb:TE}
variable{tA tB':TT}{rest:List Expr}
def AO(t u:TT):TT:=λσ H Q=>t σ H λc H1=>if c=true then u σ H1 Q else Q false H1
def HI(t u:TT):TT:=λσ H Q=>t σ H λc H1=>if c=true then Q true H1 else u σ H1 Q
def AQ(t:TT):TT:=λσ H Q=>t σ H λc H1=>Q (!c) H1
theorem pS(ha:PT X a tA):PW X (.BoolOp .And [a] pos) tA:=by
 intro wh pins s σ H Q I h;refine isTrue_and (bA (ha pins s σ H Q I h) λc s1 e=>?_);cases c with
 |true=>exact isTrue_and_nil e
 |false=>exact e
theorem rO(ha:PT X a tA):PW X (.BoolOp .Or [a] pos) tA:=by
 intro wh pins s σ H Q I h;refine isTrue_or (bA (ha pins s σ H Q I h) λc s1 e=>?_);cases c with
 |false=>exact isTrue_or_nil e
 |true=>exact e
theorem rP(ha:PT X a tA)(hb:PW X (.BoolOp .And (b::rest) pos) tB'):PW X (.BoolOp .And (a::b::rest) pos) (AO tA tB'):=by
 intro wh pins s σ H Q I h;refine isTrue_and (bA (ha pins s σ H _ I h) λc s1 ⟨H1,I1,q1⟩=>?_);cases c with
 |true=>exact hb wh pins s1 σ H1 Q I1 q1
 |false=>exact⟨H1,I1,q1⟩
theorem uJ(ha:PT X a tA)(hb:PW X (.BoolOp .Or (b::rest) pos) tB'):PW X (.BoolOp .Or (a::b::rest) pos) (HI tA tB'):=by
 intro wh pins s σ H Q I h;refine isTrue_or (bA (ha pins s σ H _ I h) λc s1 ⟨H1,I1,q1⟩=>?_);cases c with
 |true=>exact⟨H1,I1,q1⟩
 |false=>exact hb wh pins s1 σ H1 Q I1 q1
def rR(ha:PT X a tA):PT X (.UnaryOp .Not a pos) (AQ tA):=by
 intro pins s σ H Q I h;exact isTrue_not (ha pins s σ H (λc H1=>Q (!c) H1) I h)
def uK(ta tb:TE):TE:=λσ H Q=>ta σ H λx H1=>∃c,x=.bl c/\if c=true then tb σ H1 Q else Q (.bl false) H1
def uL(ta:TE):TE:=λσ H Q=>ta σ H λx H1=>∃c,x=.bl c/\Q (.bl (!c)) H1
def rS{op}{t:TE}(h:PE X a t):PE X (.BoolOp op [a] pos) t:=λpins s σ H Q I hw=>BoolOp_one (h pins s σ H Q I hw)
theorem rT(ha:PE X a ta)(hb:PE X (.BoolOp .And (b::rest) pos) tb):PE X (.BoolOp .And (a::b::rest) pos) (uK ta tb):=by
 intro pins s σ H Q I h;refine BoolOp_and (bA (ha pins s σ H _ I h) λv s1 ⟨x,H1,I1,r1,q1⟩=>?_);obtain⟨c,rfl,q1⟩:=q1;cases r1;refine NW ?_;cases c with
 |true=>exact hb pins s1 σ H1 Q I1 q1
 |false=>exact⟨.bl false,H1,I1,rfl,q1⟩
theorem rV(ha:PE X a ta):PE X (.UnaryOp .Not a pos) (uL ta):=by
 intro pins s σ H Q I h;refine UnaryOp_ (bA (ha pins s σ H _ I h) λv s1 ⟨x,H1,I1,r1,q1⟩=>?_);obtain⟨c,rfl,q1⟩:=q1;cases r1;exact not_of (NW ⟨.bl (!c),H1,I1,rfl,q1⟩)
def HJ(t:TT)(ta tb:TE):TE:=λσ H Q=>t σ H λc H1=>if c=true then ta σ H1 Q else tb σ H1 Q
theorem mx(hc:PT X c tA)(ha:PE X a ta)(hb:PE X b tb):PE X (.IfExp c a b pos) (HJ tA ta tb):=by
 intro pins s σ H Q I h;refine wpAny_IfExp (bA (hc pins s σ H _ I h) λd s1 ⟨H1,I1,q1⟩=>?_);cases d with
 |true=>exact ha pins s1 σ H1 Q I1 q1
 |false=>exact hb pins s1 σ H1 Q I1 q1
end
def SqL(K:NF)(H:Hp)(a:Addr)(xs:List V):Prop:=
 Rd H a (.lst xs)\/
  ∃(o:Obj) (its:Array Value) (n:Nat),K.lookup a=some o/\o.cls=.type "list" /\o.dict=none/\o.data=.seq its n/\its.size<=sizeLine/\Vals xs its.toList
def SqT(K:NF)(H:Hp)(a:Addr)(xs:List V):Prop:=
 Rd H a (.tup xs)\/
  ∃(o:Obj) (its:Array Value) (n:Nat),K.lookup a=some o/\o.cls=.type "tuple" /\o.data=.seq its n/\its.size<=sizeLine/\Vals xs its.toList
def AR:Value->Option V
 |.none=>some .non
 |.bool b=>some (.bl b)
 |.int i _=>some (.int i)
 |.str x _=>some (.str x)
 |.bytes b _=>some (.byt b)
 |.float b _=>some (.flt b)
 |.ref a=>some (.ref a)
 |.type n=>some (.ty n)
 |_=>none
theorem RelV.abs{x:V}{u:Value}(r:RelV x u):AR u=some x:=by
 cases x with
 |non=>cases r;rfl
 |bl _=>cases r;rfl
 |int _=>obtain⟨t,rfl⟩:=r;rfl
 |str _=>obtain⟨t,rfl⟩:=r;rfl
 |byt _=>obtain⟨t,rfl⟩:=r;rfl
 |flt _=>obtain⟨t,rfl⟩:=r;rfl
 |ref _=>cases r;rfl
 |ty _=>cases r;rfl
def RelV.inj{x y:V}{u:Value}(r:RelV x u)(q:RelV y u):x=y:=NJ (r.abs.symm.trans q.abs)
theorem Vals.inj:∀{xs ys:List V} {us:List Value},Vals xs us->Vals ys us->xs=ys
 |_,_,_,.nil,.nil=>rfl
 |_,_,_,.cons r t,.cons r' t'=>by rw[r.inj r',Vals.inj t t']
section
variable{ys:List V}
def SqL.of(h:H a=some (.lst xs)):SqL K H a xs:=.inl (.inl h)
def SqT.of(h:H a=some (.tup xs)):SqT K H a xs:=.inl (.inl h)
theorem Inv.list(I:Inv X pins σ H s)(h:SqL X.K H a xs):∃its:List Value,Vals xs its/\PlainL s.heap a its.toArray/\xs.length<=sizeLine:=by
 rcases h with h|⟨o,its,n,hk,hc,hd,hs,hz,r⟩
 .obtain⟨z,its,n,r,e⟩:=h.ok I.hok
  exact⟨its,r,⟨_,n,e,rfl,rfl,rfl⟩,z⟩
 .refine⟨its.toList,r,⟨o,n,I.kIn a o hk,hc,hd,by simpa using hs⟩,?_⟩
  have e:=r.length;simp only[xG] at e;omega
theorem Inv.tuple(I:Inv X pins σ H s)(h:SqT X.K H a xs):∃its:List Value,Vals xs its/\IsTup s.heap a its.toArray/\xs.length<=sizeLine:=by
 rcases h with h|⟨o,its,n,hk,hc,hs,hz,r⟩
 .obtain⟨z,its,r,p⟩:=h.ok I.hok
  exact⟨its,r,p,z⟩
 .refine⟨its.toList,r,⟨o,I.kIn a o hk,hc,n,by simpa using hs⟩,?_⟩
  have e:=r.length;simp only[xG] at e;omega
theorem Inv.list_inj(I:Inv X pins σ H s)(h:SqL X.K H a xs)(h':SqL X.K H a ys):xs=ys:=by
 obtain⟨its,r,⟨o,n,e,_,_,d⟩,_⟩:=I.list h;obtain⟨its',r',⟨o',n',e',_,_,d'⟩,_⟩:=I.list h';rw[e] at e';cases e';rw[d] at d';injection d' with d1 _
 have:its=its':=by simpa using congrArg Array.toList d1
 subst this;exact r.inj r'
theorem Inv.tuple_inj(I:Inv X pins σ H s)(h:SqT X.K H a xs)(h':SqT X.K H a ys):xs=ys:=by
 obtain⟨its,r,⟨o,e,_,n,d⟩,_⟩:=I.tuple h;obtain⟨its',r',⟨o',e',_,n',d'⟩,_⟩:=I.tuple h';rw[e] at e';cases e';rw[d] at d';injection d' with d1 _
 have:its=its':=by simpa using congrArg Array.toList d1
 subst this;exact r.inj r'
end
abbrev Cx.wish(X:Cx)(E:Value->Shared->Prop):Cx:={ X with xe:=E }
abbrev Cx.nox(X:Cx):Cx:=X.wish λ_ _=>False
theorem Cx.Ok.wish{X:Cx}(ok:X.Ok)(E:Value->Shared->Prop):(X.wish E).Ok:=
 ⟨ok.mod,ok.kind,ok.glob,ok.blt,ok.above,ok.inj,ok.has,ok.cab,ok.hd,ok.frames,ok.stk,ok.exf,ok.bs,ok.bsz,ok.noex,ok.exfs,ok.funs,ok.frf,ok.sys0⟩
theorem Cx.Ok.unwish{E:Value->Shared->Prop}(ok:(X.wish E).Ok):X.Ok:=
 ⟨ok.mod,ok.kind,ok.glob,ok.blt,ok.above,ok.inj,ok.has,ok.cab,ok.hd,ok.frames,ok.stk,ok.exf,ok.bs,ok.bsz,ok.noex,ok.exfs,ok.funs,ok.frf,ok.sys0⟩
section
variable{E:Value->Shared->Prop}
theorem Inv.wish(I:Inv X pins σ H s)(E:Value->Shared->Prop):Inv (X.wish E) pins σ H s:=⟨I.ok.wish E,I.os,I.bare,I.base,I.loc,I.cell,I.free,I.freeC,I.pin,I.hok,I.len⟩
theorem Inv.unwish(I:Inv (X.wish E) pins σ H s):Inv X pins σ H s:=⟨I.ok.unwish,I.os,I.bare,I.base,I.loc,I.cell,I.free,I.freeC,I.pin,I.hok,I.len⟩
theorem SP.unwish{D:je}{f:Flow}{s':Shared}(h:SP (X.wish E) pins D f s'):SP X pins D f s':=by
 cases f with
 |next=>obtain⟨σ',H',I,q⟩:=h;exact⟨σ',H',I.unwish,q⟩
 |brk=>obtain⟨σ',H',I,q⟩:=h;exact⟨σ',H',I.unwish,q⟩
 |cont=>obtain⟨σ',H',I,q⟩:=h;exact⟨σ',H',I.unwish,q⟩
 |ret u=>obtain⟨v,σ',H',I,r,q⟩:=h;exact⟨v,σ',H',I.unwish,r,q⟩
theorem PE.nox{t:TE}(h:PE X.nox e t):PE X e t:=λpins s σ H Q I hw=>
 NN (h pins s σ H Q (I.wish _) hw) (λ_ _ ⟨v,H',I',r,q⟩=>⟨v,H',I'.unwish,r,q⟩) λ_ _ z=>NT z
theorem PT.nox{t:TT}(h:PT X.nox e t):PT X e t:=λpins s σ H Q I hw=>
 NN (h pins s σ H Q (I.wish _) hw) (λ_ _ ⟨H',I',q⟩=>⟨H',I'.unwish,q⟩) λ_ _ z=>NT z
theorem PSs.nox{st:List Stmt}{t:TS}(h:PSs X.nox st t):PSs X st t:=λpins s σ H D I hw=>
 NN (h pins s σ H D (I.wish _) hw) (λ_ _ q=>q.unwish) λ_ _ z=>NT z
end
section
variable{st:Stmt}{rest:List Stmt}{t u:TS}
def uM:TS:=λD σ H=>D.nx σ H
def AS(t u:TS):TS:=λD σ H=>t { D with nx:=u D } σ H
def pT:PSs X [] uM:=λ_ _ σ H _ I h=>N6 ⟨σ,H,I,h⟩
theorem jf(h1:PS X st t)(h2:PSs X rest u):PSs X (st::rest) (AS t u):=by
 intro pins s σ H D I h;refine wpAny_execs_cons (bA (h1 pins s σ H { D with nx:=u D } I h) λf s1 q=>?_);cases f with
 |next=>
  obtain⟨σ',H',I',q⟩:=q;exact h2 pins s1 σ' H' D I' q
 |ret v=>exact q
 |brk=>exact q
 |cont=>exact q
theorem iC(h1:PS X st t):PSs X [st] t:=by
 intro pins s σ H D I h;refine wpAny_execs_cons (bA (h1 pins s σ H D I h) λf s1 q=>?_);cases f with
 |next=>exact N6 q
 |ret v=>exact q
 |brk=>exact q
 |cont=>exact q
def rW:TS:=λD σ H=>D.bk σ H
def my:PS X (.Break pos) rW:=λ_ _ σ H _ I h=>wpAny_Break ⟨σ,H,I,h⟩
def Inv.quiet(I:Inv X pins σ H s):interactive X.env=false:=by simp[interactive,I.ok.kind]
def uN(te:TE):TS:=λD σ H=>te σ H λ_ H1=>D.nx σ H1
theorem iD(he:PE X e te)(hs:swapsWith e none pos.line X.env=pure false:=by rfl):PS X (.Expr e pos) (uN te):=by
 intro pins s σ H D I h;exact wpAny_Expr_any (bA (he pins s σ H _ I h) λv s1 ⟨x,H1,I1,r1,q1⟩=>⟨σ,H1,I1,q1⟩) I.quiet hs
def AT(te:TE):TS:=λD σ H=>te σ H D.rt
theorem rX(he:PE X e te):PS X (.Return (some e) pos) (AT te):=by
 intro pins s σ H D I h;exact wpAny_Return_some (bA (he pins s σ H _ I h) λv s1 ⟨x,H1,I1,r1,q1⟩=>⟨x,σ,H1,I1,r1,q1⟩)
def AU(c:TT)(t u:TS):TS:=λD σ H=>c σ H λb H1=>if b=true then t D σ H1 else u D σ H1
theorem uO{a b:List Stmt}(hc:PT X c tc)(ha:PSs X a t)(hb:PSs X b u):PS X (.If c a b pos) (AU tc t u):=by
 intro pins s σ H D I h;refine wpAny_If (bA (hc pins s σ H _ I h) λd s1 ⟨H1,I1,q1⟩=>?_);cases d with
 |true=>exact ha pins s1 σ H1 D I1 q1
 |false=>exact hb pins s1 σ H1 D I1 q1
end
abbrev TG:=V->St->Hp->(St->Hp->Prop)->Prop
abbrev rY:=List V->St->Hp->(St->Hp->Prop)->Prop
def PG(X:Cx)(target:Expr)(t:TG):Prop:=
 ∀(pins:List (Addr×Obj)) (s:Shared) (σ:St) (H:Hp) (v:V) (u:Value) (Q:St->Hp->Prop),Inv X pins σ H s->RelV v u->t v σ H Q->
  wpAny (model X.prog X.w) X.A (assign target X.env u) (λ_ s'=>∃σ' H',Inv X pins σ' H' s'/\Q σ' H') X.xe s
def uP(X:Cx)(ts:List Expr)(t:rY):Prop:=
 ∀(pins:List (Addr×Obj)) (s:Shared) (σ:St) (H:Hp) (vs:List V) (us:List Value) (Q:St->Hp->Prop),Inv X pins σ H s->Vals vs us->t vs σ H Q->
  wpAny (model X.prog X.w) X.A (assignInOrder ((assignEach ts X.env).map (·.2)) us) (λ_ s'=>∃σ' H',Inv X pins σ' H' s'/\Q σ' H') X.xe s
abbrev mz:=V->V->V->Hp->(Hp->Prop)->Prop
def rZ(X:Cx)(t:mz):Prop:=
 ∀(pins:List (Addr×Obj)) (s:Shared) (σ:St) (H:Hp) (o i v:V) (ov iv u:Value) (Q:Hp->Prop),Inv X pins σ H s->RelV o ov->RelV i iv->RelV v u->t o i v H Q->
  wpAny (model X.prog X.w) X.A (setItem ov iv u) (λ_ s'=>∃H',Inv X pins σ H' s'/\Q H') X.xe s
abbrev yo:=V->V->Hp->VK->Prop
def DA(X:Cx)(op:Operator)(t:yo):Prop:=
 ∀(pins:List (Addr×Obj)) (s:Shared) (σ:St) (H:Hp) (x y:V) (v u:Value) (Q:VK),Inv X pins σ H s->RelV x v->RelV y u->t x y H Q->
  wpAny (model X.prog X.w) X.A (inplaceOp op v u) (EP X pins σ Q) X.xe s
section
def km(i:Nat):TG:=λv σ H Q=>Q (σ.set i (some v)) H
theorem iF(hN:X.N.Nodup)(hi:X.N[i]? = some x)(hx:kj X.env.scope x)(hf:X.fn x=true\/X.env.scope.names.lookup x=some .local:=by first|exact .inl rfl|exact .inr rfl|assumption):PG X (.Name x pos) (km i):=by
 intro pins s σ H v u Q I r h;exact wpAny_assign_Name (eV I hN hi hx r (λs' I'=>⟨_,H,I',h⟩) hf)
def AV:rY:=λvs σ H Q=>vs=[]/\Q σ H
def uQ(t:TG)(u:rY):rY:=λvs σ H Q=>∃v r,vs=v::r/\t v σ H λσ' H'=>u r σ' H' Q
def pV:uP X [] AV:=by
 intro pins s σ H vs us Q I r h;obtain⟨e,h⟩:=h;subst e;cases r;exact assignInOrder_nil ⟨σ,H,I,h⟩
theorem mB{t:TG}{u:rY}(h1:PG X e t)(h2:uP X es u)
  (hs:(assignEach (e::es) X.env).map (·.2)=assign e X.env::(assignEach es X.env).map (·.2):=by rfl):uP X (e::es) (uQ t u):=by
 intro pins s σ H vs us Q I r h;obtain⟨v,vr,e1,h⟩:=h;subst e1;cases r with
 |cons r rr=>
  rw[hs];refine assignInOrder_cons (bA (h1 pins s σ H _ _ _ I r h) λ_ s1 ⟨σ1,H1,I1,q1⟩=>?_);exact h2 pins s1 σ1 H1 _ _ Q I1 rr q1
def AW(K:NF)(n:Nat)(t:rY):TG:=λv σ H Q=>∃a xs,v=.ref a/\SqT K H a xs/\xs.length=n/\t xs σ H Q
theorem sd{t:rY}(hc:X.calm=true)(h:uP X es t)
  (hn:(assignEach es X.env).length=n:=by rfl) (hst:(assignEach es X.env).findIdx? (·.1)=none:=by rfl):PG X (.Tuple es k pos) (AW X.K n t):=by
 intro pins s σ H v u Q I r hw;obtain⟨a,xs,e1,hq,hl,hw⟩:=hw;subst e1;cases r;obtain⟨its,rv,ht,hz⟩:=I.tuple hq;refine assign_Tuple_tuple (I.ok.hd hc) ht (by simp[hn,<-hl,rv.length]) hst λh' hx=>?_;have I1:Inv X pins σ H { s with heap:=h' }:=I.kept (t':=s.toks) λb o e=>hx b o (fJ (db e)) e;exact h pins _ σ H xs _ Q I1 (by simpa using rv) hw
def AX(to ti:TE)(t:mz):TG:=λv σ H Q=>to σ H λo H1=>ti σ H1 λi H2=>t o i v H2 λH3=>Q σ H3
theorem gy{o i:Expr}{to ti:TE}{t:mz}(ho:PE X o to)(hi:PE X i ti)(hs:rZ X t)
  (ha:∀ v,assign (.Subscript o i pos) X.env v=(do
   let ov <-holding [v] (eval o X.env)
   let iv <-holding [v,ov] (eval i X.env)
   standAt pos
   holding [v,ov,iv] (setItem ov iv v)
   release [v,ov,iv] []):=by intro _;rfl):PG X (.Subscript o i pos) (AX to ti t):=by
 intro pins s σ H v u Q I r h;rw[ha];refine NE (N3 (bA (ho pins s σ H _ I h) λov s1 ⟨x,H1,I1,r1,q1⟩=>?_));refine NE (N3 (bA (hi pins s1 σ H1 _ I1 q1) λiv s2 ⟨y,H2,I2,r2,q2⟩=>?_));refine NE (NX (NE (N3 (bA (hs pins s2 σ H2 x y v ov iv u _ I2 r1 r2 r q2) λ_ s3 ⟨H3,I3,q3⟩=>?_))));exact wpAny_release ⟨σ,H3,I3,q3⟩
def se(te:TE)(g:TG):TS:=λD σ H=>te σ H λx H1=>g x σ H1 D.nx
theorem fg{g:TG}(he:PE X e te)(hg:PG X tg g)(hs:swapsWithSole [tg] e pos.line X.env=pure false:=by rfl)(hw:swappedStores [tg] e X.env=pure none:=by rfl)
  (h1:(assignEach [tg] X.env).map (·.2)=[assign tg X.env]:=by rfl):PS X (.Assign [tg] e pos) (se te g):=by
 intro pins s σ H D I h;refine wpAny_Assign_stores (bA (he pins s σ H _ I h) λv s1 ⟨x,H1,I1,r1,q1⟩=>?_) hs hw;rw[h1];exact bA (hg pins s1 σ H1 x v _ I1 r1 q1) λ_ s2 q=>q
theorem iG(hN:X.N.Nodup)(hi:X.N[i]? = some x)(hx:kj X.env.scope x)(he:PE X e te)(hs:swapsWith e (some (.Name x pos')) pos.line X.env=pure false:=by rfl)(hf:X.fn x=true\/X.env.scope.names.lookup x=some .local:=by first|exact .inl rfl|exact .inr rfl|assumption) :
  PS X (.Assign [.Name x pos'] e pos) (se te (km i)):=by
 intro pins s σ H D I h;refine wpAny_Assign_Name (bA (he pins s σ H _ I h) λv s1 ⟨y,H1,I1,r1,q1⟩=>?_) hs;exact eV I1 hN hi hx r1 (λs2 I2=>⟨_,H1,I2,q1⟩) hf
def AY(i j:Nat)(ta:TA):TS:=λD σ H=>ta σ H λvs H1=>∃v w,vs=[v,w]/\D.nx ((σ.set i (some v)).set j (some w)) H1
theorem sf{y:Str}{a b:Expr}{ta:TA}{px py pt:Pos}{kt k2 pt2}(hc:X.calm=true)(hN:X.N.Nodup)(hi:X.N[i]? = some x)(hj:X.N[j]? = some y)(hij:i≠j)
  (hx:X.env.scope.names.lookup x=some .local) (hy:X.env.scope.names.lookup y=some .local) (ha:PA X [a,b] ta)
  (hw:swappedStores [.Tuple [.Name x px,.Name y py] kt pt] (.Tuple [a,b] k2 pt2) X.env=pure (some [x,y]))
  (hs:swapsWithSole [.Tuple [.Name x px,.Name y py] kt pt] (.Tuple [a,b] k2 pt2) pos.line X.env=pure false:=by rfl) :
  PS X (.Assign [.Tuple [.Name x px,.Name y py] kt pt] (.Tuple [a,b] k2 pt2) pos) (AY i j ta):=by
 intro pins s σ H D I h;rw[exec_Assign_arm];refine NE (NX ?_);rw[hs];refine NE (NG ?_);rw[if_neg (by decide)];refine NE (Tuple_ (bA (ha _ pins s σ H _ I h) λus s1 ⟨vs,H1,I1,r1,q1⟩=>?_));obtain⟨v,w,e1,q1⟩:=q1;subst e1;obtain⟨u1,u2,rfl,rv,rw'⟩:∃u1 u2,us=[u1,u2]/\RelV v u1/\RelV w u2:=by
  cases r1 with
  |cons p q=>
   cases q with
   |cons p' q'=>
    cases q';exact⟨_,_,rfl,p,p'⟩
 refine NR ?_ (by show 2<=sizeLine;decide);have I2:Inv X pins σ H1 { s1 with heap:=s1.heap.push { cls:=.type "tuple",data:=.seq [u1,u2].toArray } }:=I1.kept (t':=s1.toks) λb o e=>de _ e;rw[hw];refine NE (NG ?_);show wpAny (model X.prog X.w) X.A (do rule "assign.swapped-stores";let items <-unpackItems (.ref s1.heap.objs.size) 2 none;assignInOrder [λv=>bindName X.env y v,λv=>bindName X.env x v] items.reverse;pure Flow.next) _ _ _;refine NE (N4 (NE (unpackItems_tuple (items:=#[u1,u2]) (I.ok.hd hc) (IsTup.new s1.heap _) λh' hx'=>?_)));have I3:=I2.kept (h':=h') (t':=s1.toks) λb o e=>hx' b o (fJ (db e)) e;show wpAny _ _ (assignInOrder [λv=>bindName X.env y v,λv=>bindName X.env x v] [u2,u1] >>= λ_=>pure Flow.next) _ _ _;refine NE (assignInOrder_cons (wpAny_bindName (eV I3 hN hj (.inl hy) rw' (λs2 I4=>?_) (.inr hy))));refine assignInOrder_cons (wpAny_bindName (eV I4 hN hi (.inl hx) rv (λs3 I5=>assignInOrder_nil (NG ?_)) (.inr hx)));rw[List.set_comm _ _ (NO hij)] at I5;exact⟨_,H1,I5,q1⟩
def uR(to ti te:TE)(tget:V->V->Hp->VK->Prop)(tip:yo)(tset:mz):TS:=λD σ H=>to σ H λo H1=>ti σ H1 λi H2=>tget o i H2 λx H3=>te σ H3 λy H4=>tip x y H4 λz H5=>tset o i z H5 λH6=>D.nx σ H6
def uS(X:Cx)(t:V->V->Hp->VK->Prop):Prop:=
 ∀(pins:List (Addr×Obj)) (s:Shared) (σ:St) (H:Hp) (o i:V) (ov iv:Value) (Q:VK),Inv X pins σ H s->RelV o ov->RelV i iv->t o i H Q->
  wpAny (model X.prog X.w) X.A (getItem ov iv) (EP X pins σ Q) X.xe s
theorem pW{o i:Expr}{to ti:TE}{tip:yo}{tset:mz}{op:Operator}(ho:PE X o to)(hi:PE X i ti)(hg:uS X tget)(he:PE X e te)(hp:DA X op tip)(hs:rZ X tset)
  (ha:∀ov iv new,augStore i ov iv new=(do holding [new,ov,iv] (setItem ov iv new);release [new,ov,iv] [];pure .next):=by intros;rfl):PS X (.AugAssign (.Subscript o i tpos) op e pos) (uR to ti te tget tip tset):=by
 intro pins s σ H D I h;refine wpAny_AugAssign_SubscriptAny (bA (ho pins s σ H _ I h) λov s1 ⟨x1,H1,I1,r1,q1⟩=>?_) ha;refine bA (hi pins s1 σ H1 _ I1 q1) λiv s2 ⟨x2,H2,I2,r2,q2⟩=>?_;refine bA (hg pins s2 σ H2 x1 x2 ov iv _ I2 r1 r2 q2) λold s3 ⟨x3,H3,I3,r3,q3⟩=>?_;refine bA (he pins s3 σ H3 _ I3 q3) λv s4 ⟨x4,H4,I4,r4,q4⟩=>?_;refine bA (hp pins s4 σ H4 x3 x4 old v _ I4 r3 r4 q4) λnew s5 ⟨x5,H5,I5,r5,q5⟩=>?_;exact bA (hs pins s5 σ H5 x1 x2 x5 ov iv new _ I5 r1 r2 r5 q5) λ_ s6 ⟨H6,I6,q6⟩=>⟨σ,H6,I6,q6⟩
def HK(f:Int->Int->Int):yo:=λx y H Q=>∃i j,x=.int i/\y=.int j/\Q (.int (f i j)) H
theorem sh:DA X .Add (HK λi j=>i+j):=by
 intro pins s σ H x y v u Q I r1 r2 h;obtain⟨i,j,e1,e2,q⟩:=h;subst e1;subst e2;obtain⟨t,rfl⟩:=r1;obtain⟨t',rfl⟩:=r2;exact iadd_int ⟨.int _,H,I.tok _,⟨_,rfl⟩,q⟩
end
section
def si(c:TT)(tb:TS):TS:=λD σ H=>∃W:Nat->St->Hp->Prop,(∃m,W m σ H)/\∀m σ H,W m σ H->
 c σ H λb H1=>if b=true then∃N:St->Hp->Prop,(∀σ' H',N σ' H'->∃m',m'<m/\W m' σ' H')/\tb { D with nx:=N,ct:=N,bk:=D.nx } σ H1 else D.nx σ H1
theorem mC{tb:TS}(hp:PassesOwn (model X.prog X.w) X.A X.env X.xe)(hc:PT X c tc)(hb:PSs X body tb):PS X (.While c body [] pos) (si tc tb):=by
 intro pins s σ H D I h;obtain⟨W,⟨m0,w0⟩,turn⟩:=h;refine wpAny_While (codeAny_whileLoop (λn s'=>∃σ' H',Inv X pins σ' H' s'/\W n σ' H') ?_ m0 ⟨σ,H,I,w0⟩);rintro n s1 ⟨σ1,H1,I1,w1⟩;refine N2 hp (bA (hc pins s1 σ1 H1 _ I1 (turn n σ1 H1 w1)) λb s2 ⟨H2,I2,q2⟩=>?_);cases b with
 |true=>
  obtain⟨N,hN,q2⟩:=q2;rw[if_pos rfl];refine N2 hp (bA (hb pins s2 σ1 H2 _ I2 q2) λf s3 q3=>?_);cases f with
  |next=>
   obtain⟨σ3,H3,I3,n3⟩:=q3;obtain⟨m',hm,w3⟩:=hN σ3 H3 n3;exact⟨m',hm,σ3,H3,I3,w3⟩
  |cont=>
   obtain⟨σ3,H3,I3,n3⟩:=q3;obtain⟨m',hm,w3⟩:=hN σ3 H3 n3;exact⟨m',hm,σ3,H3,I3,w3⟩
  |brk=>exact q3
  |ret v=>exact q3
 |false=>
  rw[if_neg i4];exact N6 ⟨σ1,H2,I2,q2⟩
end
structure It where
 go:Nat->Hp->Prop
 yld:Nat->Hp->V->Hp->Prop
 stop:Nat->Hp->Prop
def dq(X:Cx)(pins:List (Addr×Obj))(H:Hp)(b:Addr):Prop:=
 H b=none/\b≠X.env.locals/\b∉X.fs/\(b∈X.ex\/X.s₀.heap.objs.size<=b)/\(∀x c,X.env.cells.lookup x=some c->c≠b)/\∀p∈X.pn++pins,p.1≠b
theorem Inv.fpOk(I:Inv X pins σ H s)(hb:s.heap.objs.size<=b)(hn:H' b=none):dq X pins H' b:=by
 refine⟨hn,xH (cU I.lt hb),I.nofs hb,.inr (gv I.sz hb),λx c e z=>?_,λp hp z=>?_⟩
 .obtain⟨v,q⟩:=I.cell x c e
  exact NH (cU q.lt (by rw[z];exact hb)) (gZ _)
 .exact NH (cU (db (I.pin p hp).1) (by rw[z];exact hb)) (gZ _)
structure iH(P:Program)(w:World)(K:NF)(tg:Expr)(J:It)(fp:List Addr)(it:Addr)(tn:Nat->Heap->Prop):Prop where
 mem:it∈fp
 obj:∀i h,tn i h->∀b∈fp,∃o,h.get? b=some o/\∀v,o.data≠.cell v
 keep:∀i h h',tn i h->(∀b∈fp,∀o,h.get? b=some o->h'.get? b=some o)->tn i h'
 item:∀(X:Cx),X.prog=P->X.w=w->X.K=K->X.calm=true->∀(i:Nat) (pins:List (Addr×Obj)) (s:Shared) (σ:St) (H:Hp) (E:Value->Shared->Prop),Inv X pins σ H s->(∀b∈fp,dq X pins H b)->tn i s.heap->J.go i H->
  wpAny (model P w) X.A (pyNext (.ref it)) (λr s1=>∃ u,r=some u/\
   wpAny (model P w) X.A (letOwnedTupleGo tg (.ref it) u) (λ_ s2=>∃x H',Inv X pins σ H' s2/\RelV x u/\J.yld i H x H'/\tn (i+1) s2.heap/\∀b∈fp,H' b=none) E s1) E s
 done:∀(X:Cx),X.prog=P->X.w=w->X.K=K->X.calm=true->∀(i:Nat) (pins:List (Addr×Obj)) (s:Shared) (σ:St) (H:Hp) (E:Value->Shared->Prop),Inv X pins σ H s->(∀b∈fp,dq X pins H b)->tn i s.heap->J.stop i H->
  wpAny (model P w) X.A (pyNext (.ref it)) (λr s1=>r=none/\Inv X pins σ H s1) E s
 self:∀(A:Around) (i:Nat) (s:Shared) (Q:Value->Shared->Prop) (E:Value->Shared->Prop),tn i s.heap->Q (.ref it) s->wpAny (model P w) A (pyIter (.ref it)) Q E s
abbrev TI:=St->Hp->(It->Hp->Prop)->Prop
def DB(X:Cx)(pins:List (Addr×Obj))(σ:St)(tg:Expr)(R:It->Hp->Prop)(itv:Value)(s2:Shared):Prop:=
 ∃(it:Addr) (fp:List Addr) (tn:Nat->Heap->Prop) (J:It) (H':Hp),itv=.ref it/\Inv X pins σ H' s2/\iH X.prog X.w X.K tg J fp it tn/\tn 0 s2.heap/\(∀b∈fp,dq X pins H' b)/\R J H'
def PI(X:Cx)(tg iter:Expr)(wi:TI):Prop:=
 ∀(pins:List (Addr×Obj)) (s:Shared) (σ:St) (H:Hp) (R:It->Hp->Prop),Inv X pins σ H s->wi σ H R->
  wpAny (model X.prog X.w) X.A (eval iter X.env) (λv s1=>wpAny (model X.prog X.w) X.A (pyIter v) (DB X pins σ tg R) X.xe s1) X.xe s
theorem mD{M:Model}{E:Value->Shared->Prop}{u:Value}{n:String}{vs:Array Value}{Q:Unit->Shared->Prop}(ho:s.heap.get? it=some o)(hc:o.cls = .type n)(hd:o.data = .fields vs)
    (hn:["enumerate", "zip", "dict_itemiterator", "dict_reverseitemiterator", "odict_iterator", "itertools.zip_longest", "itertools.pairwise"].contains n=false) (hQ:Q () s):wpAny M A (letOwnedTupleGo tg (.ref it) u) Q E s:=by
  unfold letOwnedTupleGo;cases tg<;>first
    |exact NG hQ
    | (cases u<;>first
        |exact NG hQ
        | (refine NE (wpAny_load ho ?_)
           rw[hc,hd];show wpAny M A (if(["enumerate", "zip", "dict_itemiterator", "dict_reverseitemiterator", "odict_iterator", "itertools.zip_longest", "itertools.pairwise"].contains n&&vs[0]? == some (rawInt _))=true then _ else _) Q E s;rw[if_neg (by intro h;rw[hn,tP] at h;cases h)];exact NG hQ))
def AZ(K:NF)(a:Addr):It:=
 ⟨λi H=>∃xs x,SqL K H a xs/\xs[i]? = some x,λi H x H'=>H'=H/\∀xs,SqL K H a xs->xs[i]? = some x,λi H=>∃xs,SqL K H a xs/\xs.length<=i⟩
def A0(K:NF)(a:Addr):It:=
 ⟨λi H=>∃xs x,SqT K H a xs/\xs[i]? = some x,λi H x H'=>H'=H/\∀xs,SqT K H a xs->xs[i]? = some x,λi H=>∃xs,SqT K H a xs/\xs.length<=i⟩
def yp(lo:Int)(n:Nat):It:=⟨λi _=>i<n,λi H x H'=>H'=H/\x=.int (lo+i),λi _=>n<=i⟩
theorem hV(a it:Addr):iH P w K tg (AZ K a) [it] it (λi h=>h.IsListIter it a i) where
 mem:=by simp
 obj:=λi h st b hb=>by
  have e:b=it:=by simpa using hb
  subst e;obtain⟨o,e,c,d⟩:=st;exact⟨o,e,λv z=>by rw[d] at z;cases z⟩
 keep:=λi h h' st k=>st.at λo e=>k it (by simp) o e
 item:=by
  intro X hP hw hK hc i pins s σ H E I hf st hg;subst hP hw hK;obtain⟨xs,x,hq,hx⟩:=hg;obtain⟨its,rv,p,hz⟩:=I.list hq;obtain⟨u,hu,ru⟩:=rv.get hx;obtain⟨f0,f1,f2,f3,f4,f5⟩:=hf it (by simp);refine wpAny_pyNext_list_item st p.isList (x:=u) (by simpa using hu) λh' st' sb=>?_;have I1:Inv X pins σ H { s with heap:=h' }:=I.turned (t':=s.toks) (λb o hb e=>(sb.2 b hb).trans e) f0 f1 f3 f4 f5;obtain⟨o,e,c,d⟩:=id st';exact⟨u,rfl,mD (s:={ s with heap:=h' }) e c d (by decide) ⟨x,H,I1,ru,⟨rfl,λys hy=>by rw[I.list_inj hy hq];exact hx⟩,st',λb hb=>(hf b hb).1⟩⟩
 done:=by
  intro X hP hw hK hc i pins s σ H E I hf st hg;subst hP hw hK;obtain⟨xs,hq,hx⟩:=hg;obtain⟨its,rv,p,hz⟩:=I.list hq;obtain⟨f0,f1,f2,f3,f4,f5⟩:=hf it (by simp);have hl:=rv.length;exact wpAny_pyNext_list_end (I.ok.hd hc) st p.isList (by simp;omega) λh' eb=>⟨rfl,I.turned (t':=s.toks) (λb o hb e=>eb b o hb e) f0 f1 f3 f4 f5⟩
 self:=λ_ _ _ _ _ st h=>wpAny_pyIter_listiter st h
theorem jI(a it:Addr):iH P w K tg (A0 K a) [it] it (λi h=>h.IsTupleIter it a i) where
 mem:=by simp
 obj:=λi h st b hb=>by
  have e:b=it:=by simpa using hb
  subst e;obtain⟨o,e,c,d⟩:=st;exact⟨o,e,λv z=>by rw[d] at z;cases z⟩
 keep:=λi h h' st k=>st.at λo e=>k it (by simp) o e
 item:=by
  intro X hP hw hK hc i pins s σ H E I hf st hg;subst hP hw hK;obtain⟨xs,x,hq,hx⟩:=hg;obtain⟨its,rv,p,hz⟩:=I.tuple hq;obtain⟨u,hu,ru⟩:=rv.get hx;obtain⟨f0,f1,f2,f3,f4,f5⟩:=hf it (by simp);refine wpAny_pyNext_tuple_item st (show s.heap.IsTuple a its.toArray from p) (x:=u) (by simpa using hu) λh' st' sb=>?_;have I1:Inv X pins σ H { s with heap:=h' }:=I.turned (t':=s.toks) (λb o hb e=>(sb.2 b hb).trans e) f0 f1 f3 f4 f5;obtain⟨o,e,c,d⟩:=id st';exact⟨u,rfl,mD (s:={ s with heap:=h' }) e c d (by decide) ⟨x,H,I1,ru,⟨rfl,λys hy=>by rw[I.tuple_inj hy hq];exact hx⟩,st',λb hb=>(hf b hb).1⟩⟩
 done:=by
  intro X hP hw hK hc i pins s σ H E I hf st hg;subst hP hw hK;obtain⟨xs,hq,hx⟩:=hg;obtain⟨its,rv,p,hz⟩:=I.tuple hq;obtain⟨f0,f1,f2,f3,f4,f5⟩:=hf it (by simp);have hl:=rv.length;exact wpAny_pyNext_tuple_end (I.ok.hd hc) st (show s.heap.IsTuple a its.toArray from p) (by simp;omega) λh' eb=>⟨rfl,I.turned (t':=s.toks) (λb o hb e=>eb b o hb e) f0 f1 f3 f4 f5⟩
 self:=λ_ _ _ _ _ st h=>wpAny_pyIter_tupleiter st h
theorem jJ(it:Addr)(lo:Int)(n:Nat):iH P w K tg (yp lo n) [it] it (λi h=>IsRangeIter h it (lo+(i:Nat)*1) ((n:Int)-(i:Nat)) 1) where
 mem:=by simp
 obj:=λi h st b hb=>by
  have e:b=it:=by simpa using hb
  subst e;exact ⟨_,st,λv z=>by
   have z':Data.fields _=Data.cell v:=z;cases z'⟩
 keep:=λi h h' st k=>k it (by simp) _ st
 item:=by
  intro X hP hw hK hc i pins s σ H E I hf st hg;subst hP hw hK;obtain⟨f0,f1,f2,f3,f4,f5⟩:=hf it (by simp);have W:=Walks.range (prog:=X.prog) (w:=X.w) (I.ok.hd hc) it lo 1 n;refine W.item i s _ _ hg st λv h' tk hv st' kk=>?_;obtain⟨t,rfl⟩:=hv;have I1:Inv X pins σ H { s with heap:=h',toks:=tk }:=I.turned (λb o hb e=>kk b o (by simpa using hb) e) f0 f1 f3 f4 f5;refine⟨_,rfl,mD (s:={ s with heap:=h',toks:=tk }) (n:= "range_iterator") st' rfl rfl (by decide) ⟨.int (lo+i),H,I1,⟨t,?_⟩,⟨rfl,rfl⟩,st',λb hb=>(hf b hb).1⟩⟩;rw[Int.mul_one]
 done:=by
  intro X hP hw hK hc i pins s σ H E I hf st hg;subst hP hw hK;obtain⟨f0,f1,f2,f3,f4,f5⟩:=hf it (by simp);exact wpAny_pyNext_range_end (I.ok.hd hc) st (by have:n<=i:=hg;omega) λh' eb=>⟨rfl,I.turned (t':=s.toks) (λb o hb e=>eb b o hb e) f0 f1 f3 f4 f5⟩
 self:=λ_ _ _ _ _ st h=>wpAny_pyIter_rangeiter st h
section
def uT(K:NF)(tl:TE):TI:=λσ H R=>tl σ H λx H1=>∃a,x=.ref a/\(∃xs,SqL K H1 a xs)/\R (AZ K a) H1
theorem kq{l:Expr}{tl:TE}(hl:PE X l tl):PI X tg l (uT X.K tl):=by
 intro pins s σ H R I h;refine bA (hl pins s σ H _ I h) λv s1 ⟨x,H1,I1,r1,q1⟩=>?_;obtain⟨a,e,⟨xs,hq⟩,q⟩:=q1;subst e;cases r1;obtain⟨its,rv,p,hz⟩:=I1.list hq;refine Oa p.isList ?_;refine⟨s1.heap.objs.size,[s1.heap.objs.size],_,_,H1,rfl,I1.kept (t':=s1.toks) λb o e=>de _ e,hV a _,⟨_,f9 _ rfl,rfl,rfl⟩,λb hb=>?_,q⟩;have e:b=s1.heap.objs.size:=by simpa using hb
 subst e;exact I1.fpOk (bP _) (I1.hok.fresh (bP _))
theorem mE{R:It->Hp->Prop}{E:Value->Shared->Prop}{lo hi:Int}{t u v:Tok}{tk:Nat}(I:Inv X pins σ H s)(h1:-(2^62)<=lo)(h2:lo<2^62)(h3:-(2^62)<=hi)(h4:hi<2^62)
  (q:R (yp lo (hi-lo).toNat) H):wpAny (model X.prog X.w) X.A (pyIter (.ref s.heap.objs.size)) (DB X pins σ tg R) E { s with heap:=s.heap.push { cls:=.type "range",data:=.fields #[.int lo t,.int hi u,.int 1 v] },toks:=tk }:=by
 refine wpAny_pyIter_range (IsRange.new ..) (small_one h1 h2 h3 h4) ?_;have I1:Inv X pins σ H { s with heap:=s.heap.push { cls:=.type "range",data:=.fields #[.int lo t,.int hi u,.int 1 v] },toks:=tk }:=I.kept λb o e=>de _ e;refine ⟨(s.heap.push { cls:=.type "range",data:=.fields #[.int lo t,.int hi u,.int 1 v] }).objs.size,[(s.heap.push { cls:=.type "range",data:=.fields #[.int lo t,.int hi u,.int 1 v] }).objs.size],_,_,H,rfl,
  I1.kept (t':=tk) λb o e=>de _ e,jJ _ lo (hi-lo).toNat,?_,λb hb=>?_,q⟩
 .have e1:lo+((0:Nat):Int)*1=lo:=by simp
  have e2:(((hi-lo).toNat:Nat):Int)-((0:Nat):Int)=Builtin.Range.rangeSize lo hi 1:=by rw[rangeSize_one];split<;>omega
  show IsRangeIter _ _ (lo+((0:Nat):Int)*1) ((((hi-lo).toNat:Nat):Int)-((0:Nat):Int)) 1;rw[e1,e2];exact f9 _ rfl
 .have e:b=(s.heap.push { cls:=.type "range",data:=.fields #[.int lo t,.int hi u,.int 1 v] }).objs.size:=by simpa using hb
  subst e;exact I1.fpOk (bP _) (I1.hok.fresh (bP _))
def uU(ta:TA):TI:=λσ H R=>ta σ H λvs H1=>∃j:Int,vs=[.int j]/\-(2^62)<=j/\j<2^62/\R (yp 0 j.toNat) H1
theorem kN{a:Expr}{ta:TA}(hg:Gl X "range")(hm:X.mg "range" = none)(ha:PA X [a] ta)(hs:starEach [a] X.env=[(false,eval a X.env)]:=by rfl):PI X tg (.Call (.Name "range" p) [a] [] pos) (uU ta):=by
 intro pins s σ H R I h;refine Call_ (fe I hg hm boot_range (PyProof.Rows.callWith_type1 (bA (ha pos pins s σ H _ I h) λus s1 ⟨vs,H1,I1,r1,q1⟩=>?_) hs rfl));obtain⟨j,e,q1,q2,q⟩:=q1;subst e;cases r1 with
 |cons r rr=>
  cases rr;obtain⟨t,rfl⟩:=r;exact call_range_1 (mE I1 (by omega) (by omega) q1 q2 (by simpa using q))
def A1(wi:TI)(g:TG)(tb:TS):TS:=λD σ H=>wi σ H λJ H1=>∃W:Nat->Nat->St->Hp->Prop,(∃m,W 0 m σ H1)/\∀i m σ H,W i m σ H->
 (J.stop i H/\D.nx σ H)\/(J.go i H/\∃N:St->Hp->Prop,(∀σ' H',N σ' H'->∃m',m'<m/\W (i+1) m' σ' H')/\∀x H',J.yld i H x H'->g x σ H' λσ2 H2=>tb { D with nx:=N,ct:=N,bk:=D.nx } σ2 H2)
def dZ(fp:List Addr)(h:Heap):List (Addr×Obj):=fp.filterMap λb=>(h.get? b).map λo=>(b,o)
def bQ(hb:b∈fp)(e:h.get? b=some o):(b,o)∈dZ fp h:=YaA.mpr ⟨b,hb,by rw[e];rfl⟩
theorem kO{p:Addr×Obj}(hp:p∈dZ fp h):p.1∈fp/\h.get? p.1=some p.2:=by
 obtain⟨b,hb,e⟩:=YaA.mp hp;cases q:h.get? b with
 |none=>rw[q] at e;cases e
 |some o=>
  rw[q] at e;have e':(b,o)=p:=NJ e;subst e';exact⟨hb,q⟩
theorem Inv.pinned(I:Inv X pins σ H s)(hf:∀b∈fp,dq X pins H b)(ho:∀b∈fp,∃o,s.heap.get? b=some o/\∀v,o.data≠.cell v):Inv X (pins++dZ fp s.heap) σ H s:=
 I.pins_of λp hp=>(Yao.mp hp).elim (λz=>I.pin p (g6 _ z)) λz=>by
  obtain⟨hb,e⟩:=kO z;obtain⟨f0,f1,f2,_⟩:=hf p.1 hb;obtain⟨o,e',d⟩:=ho p.1 hb;rw[e] at e';cases e';exact⟨e,f0,f1,f2,d⟩
def Inv.unpinned{pl:List (Addr×Obj)}(I:Inv X (pins++pl) σ H s):Inv X pins σ H s:=I.pins_of λp hp=>I.pin p (g6 _ (At _ hp))
theorem jK{iter:Expr}{wi:TI}{g:TG}{tb:TS}(hp:PassesOwn (model X.prog X.w) X.A X.env X.xe)(hc:X.calm=true)(hi:PI X tg iter wi)(hg:PG X tg g)(hb:PSs X body tb)
  (hs:∀x,foldedSetIterable iter X.env x=pure x:=by intro _;rfl):PS X (.For tg iter body [] pos) (A1 wi g tb):=by
 intro pins s σ H D I h;refine wpAny_For (bA (hi pins s σ H _ I h) λv s1 h1=>bA h1 λitv s2 h2=>?_) hs;obtain⟨it,fp,tn,J,H2,e,I2,T,st2,f2,W,⟨m0,w0⟩,turn⟩:=h2;subst e
 -- what stays true of the iterator's objects through the loop
 have stat:∀{H':Hp},(∀b∈fp,H' b=none)->∀b∈fp,dq X pins H' b:=λhn b hb=>⟨hn b hb,(f2 b hb).2⟩;refine codeAny_forLoop_any (λn s'=>∃i σ' H',Inv X pins σ' H' s'/\tn i s'.heap/\(∀b∈fp,H' b=none)/\W i n σ' H') ?_ m0 ⟨0,σ,H2,I2,st2,λb hb=>(f2 b hb).1,w0⟩;rintro n s3 ⟨i,σ3,H3,I3,st3,fr3,w3⟩;rcases turn i n σ3 H3 w3 with⟨stop,qn⟩|⟨go,N,hN,step⟩
 .refine N2 hp (bA (T.done X rfl rfl rfl hc i pins s3 σ3 H3 X.xe I3 (stat fr3) st3 stop) λr s4 ⟨hr,I4⟩=>?_)
  subst hr;exact N6 ⟨σ3,H3,I4,qn⟩
 .refine N2 hp (bA (T.item X rfl rfl rfl hc i pins s3 σ3 H3 X.xe I3 (stat fr3) st3 go) λr s4 ⟨u,hr,h4⟩=>?_)
  subst hr;refine N2 hp (bA h4 λ_ s5 ⟨x,H5,I5,r5,y5,st5,fr5⟩=>?_);have I5':=I5.pinned (stat fr5) (T.obj _ _ st5);refine N2 hp (bA (hg _ s5 σ3 H5 x u _ I5' r5 (step x H5 y5)) λ_ s6 ⟨σ6,H6,I6,q6⟩=>?_);refine N2 hp (bA (hb _ s6 σ6 H6 _ I6 q6) λf s7 q7=>?_);have again:∀{σ7:St} {H7:Hp},Inv X (pins++dZ fp s5.heap) σ7 H7 s7->N σ7 H7->∃m,m<n/\∃i σ' H',Inv X pins σ' H' s7/\tn i s7.heap/\(∀b∈fp,H' b=none)/\W i m σ' H':=λ{σ7 H7} I7 n7=>by
   obtain⟨m',hm,w7⟩:=hN σ7 H7 n7;refine⟨m',hm,i+1,σ7,H7,I7.unpinned,T.keep _ _ _ st5 λb hb o e=>(I7.pin (b,o) (g6 _ (g6 _ (bQ hb e)))).1,λb hb=>?_,w7⟩;obtain⟨o,e,d⟩:=T.obj _ _ st5 b hb;exact(I7.pin (b,o) (g6 _ (g6 _ (bQ hb e)))).2.1
  cases f with
  |next=>obtain⟨σ7,H7,I7,n7⟩:=q7;exact again I7 n7
  |cont=>obtain⟨σ7,H7,I7,n7⟩:=q7;exact again I7 n7
  |brk=>obtain⟨σ7,H7,I7,q7⟩:=q7;exact⟨σ7,H7,I7.unpinned,q7⟩
  |ret v=>obtain⟨x7,σ7,H7,I7,r7,q7⟩:=q7;exact⟨x7,σ7,H7,I7.unpinned,r7,q7⟩
end
abbrev R2:=V->V->Hp->VK->Prop
variable{r r':R2}
def OpR(X:Cx)(f:Value->Value->Sem Value)(r:R2):Prop:=
 ∀(pins:List (Addr×Obj)) (s:Shared) (σ:St) (H:Hp) (x y:V) (v u:Value) (Q:VK),Inv X pins σ H s->RelV x v->RelV y u->r x y H Q->
  wpAny (model X.prog X.w) X.A (f v u) (EP X pins σ Q) X.xe s
def yq(X:Cx)(f:Value->Sem Value)(r:V->Hp->VK->Prop):Prop:=
 ∀(pins:List (Addr×Obj)) (s:Shared) (σ:St) (H:Hp) (x:V) (v:Value) (Q:VK),Inv X pins σ H s->RelV x v->r x H Q->
  wpAny (model X.prog X.w) X.A (f v) (EP X pins σ Q) X.xe s
def CallR(X:Cx)(f:Value)(r:List V->Hp->VK->Prop):Prop:=
 ∀(pins:List (Addr×Obj)) (s:Shared) (σ:St) (H:Hp) (xs:List V) (us:List Value) (Q:VK),Inv X pins σ H s->Vals xs us->r xs H Q->
  wpAny (model X.prog X.w) X.A (call f us) (EP X pins σ Q) X.xe s
def A2(X:Cx)(r:V->Hp->(Bool->Hp->Prop)->Prop):Prop:=
 ∀(pins:List (Addr×Obj)) (s:Shared) (σ:St) (H:Hp) (x:V) (v:Value) (Q:Bool->Hp->Prop),Inv X pins σ H s->RelV x v->r x H Q->
  wpAny (model X.prog X.w) X.A (truthy v) (TP X pins σ Q) X.xe s
def yr(r:R2)(ta tb:TE):TE:=λσ H Q=>ta σ H λx H1=>tb σ H1 λy H2=>r x y H2 Q
def HL(r:V->Hp->VK->Prop)(ta:TE):TE:=λσ H Q=>ta σ H λx H1=>r x H1 Q
def rI(C:Int->Int->Prop)(g:Int->Int->V):R2:=λx y H Q=>∃i j,x=.int i/\y=.int j/\C i j/\Q (g i j) H
def pX(g:Int->Int->V):R2:=λx y H Q=>∃i j,x=.int i/\y=.int j/\Q (g i j) H
def rU(g:Int->V):V->Hp->VK->Prop:=λx H Q=>∃i,x=.int i/\Q (g i) H
section
variable{a b:Expr}{tb tc:TE}
theorem sj(ha:PE X a ta)(hb:PE X b tb){R:V->V->Hp->Prop}(I:Inv X pins σ H s)
  (h:ta σ H λx H1=>tb σ H1 λy H2=>R x y H2)
  (hf:∀v u s2 x y H2,Inv X pins σ H2 s2->RelV x v->RelV y u->R x y H2->wpAny (model X.prog X.w) X.A (f v u) Q X.xe s2) :
  wpAny (model X.prog X.w) X.A (eval a X.env) (λv s₁=>wpAny (model X.prog X.w) X.A (eval b X.env) (λu s₂=>wpAny (model X.prog X.w) X.A (f v u) Q X.xe s₂) X.xe s₁) X.xe s:=by
 refine bA (ha pins s σ H _ I h) λv s1 ⟨x,H1,I1,r1,q1⟩=>?_;refine bA (hb pins s1 σ H1 _ I1 q1) λu s2 ⟨y,H2,I2,r2,q2⟩=>?_;exact hf v u s2 x y H2 I2 r1 r2 q2
theorem mF{op:Operator}(ho:OpR X (binaryOp op) r)(ha:PE X a ta)(hb:PE X b tb):PE X (.BinOp a op b pos) (yr r ta tb):=by
 intro pins s σ H Q I h;exact wpAny_BinOp (sj ha hb I h λv u s2 x y H2 I2 rx ry q=>ho pins s2 σ H2 x y v u Q I2 rx ry q)
theorem qL{op:UnaryOp}{r:V->Hp->VK->Prop}(ho:yq X (unaryOp op) r)(ha:PE X a ta):PE X (.UnaryOp op a pos) (HL r ta):=by
 intro pins s σ H Q I h;exact UnaryOp_ (bA (ha pins s σ H _ I h) λv s1 ⟨x,H1,I1,r1,q1⟩=>ho pins s1 σ H1 x v Q I1 r1 q1)
theorem yt{C:Int->Int->Prop}
  (rule:∀(i j:Int) (t u:Tok) (s:Shared) (Q:Value->Shared->Prop) (E:Value->Shared->Prop),C i j->Q (.int (g i j) s.toks) { s with toks:=s.toks+1 }->wpAny (model X.prog X.w) X.A (f (.int i t) (.int j u)) Q E s) :
  OpR X f (rI C λi j=>.int (g i j)):=by
 intro pins s σ H x y v u Q I rx ry h;obtain⟨i,j,rfl,rfl,hc,q⟩:=h;obtain⟨t,rfl⟩:=rx;obtain⟨t',rfl⟩:=ry;exact rule i j t t' s _ _ hc ⟨.int (g i j),H,I.tok _,⟨_,rfl⟩,q⟩
theorem uV
  (rule:∀(i j:Int) (t u:Tok) (s:Shared) (Q:Value->Shared->Prop) (E:Value->Shared->Prop),Q (.int (g i j) s.toks) { s with toks:=s.toks+1 }->wpAny (model X.prog X.w) X.A (f (.int i t) (.int j u)) Q E s) :
  OpR X f (pX λi j=>.int (g i j)):=by
 intro pins s σ H x y v u Q I rx ry h;obtain⟨i,j,rfl,rfl,q⟩:=h;obtain⟨t,rfl⟩:=rx;obtain⟨t',rfl⟩:=ry;exact rule i j t t' s _ _ ⟨.int (g i j),H,I.tok _,⟨_,rfl⟩,q⟩
theorem pY{g:Int->Int->Bool}
  (rule:∀(i j:Int) (t u:Tok) (s:Shared) (Q:Value->Shared->Prop) (E:Value->Shared->Prop),Q (.bool (g i j)) s->wpAny (model X.prog X.w) X.A (f (.int i t) (.int j u)) Q E s) :
  OpR X f (pX λi j=>.bl (g i j)):=by
 intro pins s σ H x y v u Q I rx ry h;obtain⟨i,j,rfl,rfl,q⟩:=h;obtain⟨t,rfl⟩:=rx;obtain⟨t',rfl⟩:=ry;exact rule i j t t' s _ _ ⟨.bl (g i j),H,I,rfl,q⟩
def sk(i j:Int):Prop:=0<=j/\j<=1000000/\i.natAbs<2^64
def CMul(i j:Int):Prop:=(-(2^64)<i/\i<2^64)\/(-(2^64)<j/\j<2^64)
theorem CMul.ok{i j:Int}(h:CMul i j):IntMulOk i j:=by
 rcases h with⟨h1,h2⟩|⟨h1,h2⟩
 .exact .of_left (intBits_le_64 h1 h2)
 .exact .of_right (intBits_le_64 h1 h2)
def sr:OpR X (binaryOp .Add) (pX λi j=>.int (i+j)):=uV λ_ _ _ _ _ _ _ q=>add_int q
def ss:OpR X (binaryOp .Sub) (pX λi j=>.int (i-j)):=uV λ_ _ _ _ _ _ _ q=>sub_int q
def pZ:OpR X (binaryOp .Mod) (rI (λ_ j=>j≠0) λi j=>.int (i.fmod j)):=yt λ_ _ _ _ _ _ _ hc q=>mod_int' hc q
def su:OpR X (binaryOp .Pow) (rI sk λi j=>.int (i^j.toNat)):=yt λ_ _ _ _ _ _ _ hc q=>pow_int_small hc.1 hc.2.1 hc.2.2 q
theorem HM{f:Value->Sem Value}{g:Int->Int}
  (rule:∀(i:Int) (t:Tok) (s:Shared) (Q:Value->Shared->Prop) (E:Value->Shared->Prop),Q (.int (g i) s.toks) { s with toks:=s.toks+1 }->wpAny (model X.prog X.w) X.A (f (.int i t)) Q E s) :
  yq X f (rU λi=>.int (g i)):=by
 intro pins s σ H x v Q I rx h;obtain⟨i,rfl,q⟩:=h;obtain⟨t,rfl⟩:=rx;exact rule i t s _ _ ⟨.int (g i),H,I.tok _,⟨_,rfl⟩,q⟩
def mG:yq X (unaryOp .USub) (rU λi=>.int (-i)):=HM λ_ _ _ _ _ q=>neg_int q
end
def A3:V->V->Bool
 |.non,.non=>true|.non,.int _=>true|.int _,.non=>true|.non,.bl _=>true|.bl _,.non=>true|.non,.str _=>true|.str _,.non=>true
 |.int _,.int _=>true|.bl _,.bl _=>true|.str _,.str _=>true|.byt _,.byt _=>true
 |.int _,.str _=>true|.str _,.int _=>true|.bl _,.str _=>true|.str _,.bl _=>true
 |_,_=>false
def HN:R2:=λx y H Q=>A3 x y=true/\Q (.bl (!decide (x=y))) H
def p6{i j:Int}:decide (V.int i=V.int j)=(i==j):=by
 rw[g9];simp
def sx{i j:Bool}:decide (V.bl i=V.bl j)=(i==j):=by
 rw[g9];simp
def p8{i j:Str}:decide (V.str i=V.str j)=(i==j):=by
 rw[g9];simp
def p9{i j:Array UInt8}:decide (V.byt i=V.byt j)=(i.toList==j.toList):=by
 rw[g9];cases i;cases j;simp
section
variable{a b:Expr}{tb tc:TE}
def bX{Q:VK}{k k':Bool}(I:Inv X pins σ H s)(q:Q (.bl k) H)(e:k=k'):EP X pins σ Q (.bool k') s:=by
 subst e;exact⟨.bl k,H,I,rfl,q⟩
theorem uW:OpR X (compareOp .NotEq) HN:=by
 intro pins s σ H x y v u Q I rx ry h;obtain⟨hs,q⟩:=h;cases x with
 |non=>
  cases rx;cases y with
  |non=>cases ry;exact PySem.EqNone.ne_none_none (bX I q (by simp))
  |bl j=>cases ry;exact PySem.EqNone.ne_none_bool (bX I q (by simp))
  |int j=>obtain⟨t',rfl⟩:=ry;exact PySem.EqNone.ne_none_int (bX I q (by simp))
  |str j=>obtain⟨t',rfl⟩:=ry;exact PySem.EqNone.ne_none_str (bX I q (by simp))
  |_=>exact NH (show false=true from hs) i4
 |bl i=>
  cases rx;cases y with
  |non=>cases ry;exact PySem.EqNone.ne_bool_none (bX I q (by simp))
  |bl j=>cases ry;exact ne_bool (bX I q (congrArg not sx))
  |str j=>obtain⟨t',rfl⟩:=ry;exact PySem.EqMixed.ne_bool_str (bX I q (by simp))
  |_=>exact NH (show false=true from hs) i4
 |int i=>
  obtain⟨t,rfl⟩:=rx;cases y with
  |non=>cases ry;exact PySem.EqNone.ne_int_none (bX I q (by simp))
  |int j=>obtain⟨t',rfl⟩:=ry;exact ne_int (bX I q (congrArg not p6))
  |str j=>obtain⟨t',rfl⟩:=ry;exact PySem.EqMixed.ne_int_str (bX I q (by simp))
  |_=>exact NH (show false=true from hs) i4
 |str i=>
  obtain⟨t,rfl⟩:=rx;cases y with
  |non=>cases ry;exact PySem.EqNone.ne_str_none (bX I q (by simp))
  |bl j=>cases ry;exact PySem.EqMixed.ne_str_bool (bX I q (by simp))
  |int j=>obtain⟨t',rfl⟩:=ry;exact PySem.EqMixed.ne_str_int (bX I q (by simp))
  |str j=>obtain⟨t',rfl⟩:=ry;exact ne_str (bX I q (congrArg not p8))
  |_=>exact NH (show false=true from hs) i4
 |byt i=>
  obtain⟨t,rfl⟩:=rx;cases y with
  |byt j=>obtain⟨t',rfl⟩:=ry;exact PySem.W.ne_bytes (bX I q (congrArg not p9))
  |_=>exact NH (show false=true from hs) i4
 |_=>cases y<;>exact NH (show false=true from hs) i4
theorem OpR.or(h:OpR X f r)(h':OpR X f r'):OpR X f (λx y H Q=>r x y H Q\/r' x y H Q):=by
 intro pins s σ H x y v u Q I rx ry q;rcases q with q|q
 .exact h pins s σ H x y v u Q I rx ry q
 .exact h' pins s σ H x y v u Q I rx ry q
theorem mH(b:Expr)(h:op≠.In:=by decide)(h2:op≠.NotIn:=by decide):behindInMarks op b=false:=by
 have e1:(op==CmpOp.In)=false:=by cases op<;>first|rfl|exact NH rfl h
 have e2:(op==CmpOp.NotIn)=false:=by cases op<;>first|rfl|exact NH rfl h2
 cases b<;>simp[behindInMarks,e1,e2]
theorem qa(ho:OpR X (compareOp op) r)(ha:PE X a ta)(hb:PE X b tb)(hm:behindInMarks op b=false):PE X (.Compare a [op] [b] pos) (yr r ta tb):=by
 intro pins s σ H Q I h;exact wpAny_Compare1 (sj ha hb I h λv u s2 x y H2 I2 rx ry q=>ho pins s2 σ H2 x y v u Q I2 rx ry q) hm
def qM(t:TE):TT:=λσ H Q=>t σ H λx H'=>∃k,x=.bl k/\Q k H'
theorem qb(ho:OpR X (compareOp op) r)(ha:PE X a ta)(hb:PE X b tb)(hm:behindInMarks op b=false):PT X (.Compare a [op] [b] pos) (qM (yr r ta tb)):=by
 intro pins s σ H Q I h;refine wpAny_isTrue_Compare1 (bA (ha pins s σ H _ I h) λv s1 ⟨x,H1,I1,r1,q1⟩=>bA (hb pins s1 σ H1 _ I1 q1) λu s2 ⟨y,H2,I2,r2,q2⟩=>
  bA (ho pins s2 σ H2 x y v u _ I2 r1 r2 q2) λc s3 ⟨z,H3,I3,r3,k,e,q3⟩=>?_) hm
 subst e;cases r3;exact NW ⟨H3,I3,q3⟩
def mI(r r':R2)(ta tb tc:TE):TE:=λσ H Q=>ta σ H λx H1=>tb σ H1 λy H2=>r x y H2 λz H3=>∃k,z=.bl k/\
 (if k=true then tc σ H3 λw' H4=>r' y w' H4 Q else Q (.bl false) H3)
theorem mJ{op':CmpOp}(ho:OpR X (compareOp op) r)(ho':OpR X (compareOp op') r')(ha:PE X a ta)(hb:PE X b tb)(hc:PE X c tc)
  (hm:lastMarks [op,op'] [b,c]=false:=by with_unfolding_all rfl):PE X (.Compare a [op,op'] [b,c] pos) (mI r r' ta tb tc):=by
 intro pins s σ H Q I h;refine Compare_chain (bA (ha pins s σ H _ I h) λv s1 ⟨x,H1,I1,r1,q1⟩=>chain_link (bA (hb pins s1 σ H1 _ I1 q1) λu s2 ⟨y,H2,I2,r2,q2⟩=>
  bA (ho pins s2 σ H2 x y v u _ I2 r1 r2 q2) λd s3 ⟨z,H3,I3,r3,k,e,q3⟩=>?_)) hm
 subst e;cases r3;refine NW ?_;cases k with
 |false=>exact ite_ff ⟨.bl false,H3,I3,rfl,q3⟩
 |true=>exact ite_tt (chain_last (bA (hc pins s3 σ H3 _ I3 q3) λw' s4 ⟨z',H4,I4,r4,q4⟩=>ho' pins s4 σ H4 y z' u w' Q I4 r2 r4 q4))
theorem mK{op':CmpOp}(ho:OpR X (compareOp op) r)(ho':OpR X (compareOp op') r')(ha:PE X a ta)(hb:PE X b tb)(hc:PE X c tc)
  (hm:lastMarks [op,op'] [b,c]=false:=by with_unfolding_all rfl):PT X (.Compare a [op,op'] [b,c] pos) (qM (mI r r' ta tb tc)):=by
 intro pins s σ H Q I h;refine isTrue_chain (bA (ha pins s σ H _ I h) λv s1 ⟨x,H1,I1,r1,q1⟩=>test_link (bA (hb pins s1 σ H1 _ I1 q1) λu s2 ⟨y,H2,I2,r2,q2⟩=>
  bA (ho pins s2 σ H2 x y v u _ I2 r1 r2 q2) λd s3 ⟨z,H3,I3,r3,k,e,q3⟩=>?_)) hm
 subst e;cases r3;refine NW ?_;cases k with
 |false=>
  obtain⟨k',e',q'⟩:=q3;cases e';exact ite_ff ⟨H3,I3,q'⟩
 |true=>
  refine ite_tt (test_last (bA (hc pins s3 σ H3 _ I3 q3) λw' s4 ⟨z',H4,I4,r4,q4⟩=>bA (ho' pins s4 σ H4 y z' u w' _ I4 r2 r4 q4) λd' s5 ⟨z2,H5,I5,r5,k2,e2,q5⟩=>?_));subst e2;cases r5;exact NW ⟨H5,I5,q5⟩
def uX(K:NF)(x:V)(H:Hp)(k:Bool):Prop:=
 match x with
 |.non=>k=false
 |.bl b=>k=b
 |.int i=>k=(i != 0)
 |.str y=>y.length<=sizeLine/\k=((y.length:Int) != 0)
 |.byt y=>y.size<=sizeLine/\k=((y.size:Int) != 0)
 |.ref p=>(∃xs,SqL K H p xs/\k = !xs.isEmpty)\/(∃xs,SqT K H p xs/\k = !xs.isEmpty)\/∃kvs,H p=some (.dK kvs)/\k = !kvs.isEmpty
 |_=>False
def jL{kvs:List (κ×V)}{vs:List (κ×Value)}(r:KV kvs vs):(!vs.isEmpty) = !kvs.isEmpty:=by
 cases r<;>rfl
def gz{its:List Value}(r:Vals xs its):(!its.toArray.isEmpty) = !xs.isEmpty:=by
 cases r<;>simp
def eN:(sizeLine:Nat)<2^63:=by rw[sizeLine_eq];decide
theorem sC:A2 X (λx H Q=>∃k,uX X.K x H k/\Q k H):=by
 intro pins s σ H x v Q I rx h;obtain⟨k,e,q⟩:=h;have hl:=eN;have hs:sizeLine=16777216:=sizeLine_eq;cases x with
 |non=>
  cases rx;have e':k=false:=e;subst e';exact truthy_none ⟨H,I,q⟩
 |bl b=>
  cases rx;have e':k=b:=e;subst e';exact NW ⟨H,I,q⟩
 |int i=>
  obtain⟨t,rfl⟩:=rx;have e':k=(i != 0):=e;subst e';exact PySem.P.truthy_int ⟨H,I,q⟩
 |str y=>
  obtain⟨t,rfl⟩:=rx;obtain⟨hy,e'⟩:y.length<=sizeLine/\k=((y.length:Int) != 0):=e;subst e';exact PySem.P.truthy_str (by omega) ⟨H,I.tok _,q⟩
 |byt y=>
  obtain⟨t,rfl⟩:=rx;obtain⟨hy,e'⟩:y.size<=sizeLine/\k=((y.size:Int) != 0):=e;subst e';exact PySem.W.truthy_bytes (by omega) ⟨H,I.tok _,q⟩
 |ref p=>
  cases rx;have e':(∃xs,SqL X.K H p xs/\k = !xs.isEmpty)\/(∃xs,SqT X.K H p xs/\k = !xs.isEmpty)\/∃kvs,H p=some (.dK kvs)/\k = !kvs.isEmpty:=e;rcases e' with⟨xs,hx,e'⟩|⟨xs,hx,e'⟩|⟨kvs,hx,e'⟩
  .subst e'
   obtain⟨its,r,pl,hz⟩:=I.list hx;have hlen:=r.length;exact wpAny_truthy_list pl.isList (by simp only[dW];omega) ⟨H,I.tok _,by rw[gz r];exact q⟩
  .subst e'
   obtain⟨its,r,pl,hz⟩:=I.tuple hx;have hlen:=r.length;exact truthy_tuple pl (by simp only[dW];omega) ⟨H,I.tok _,by rw[gz r];exact q⟩
  .subst e'
   obtain⟨hz,hS,vs,r,m⟩:kvs.length<=sizeLine/\(p==sysModules)=false/\∃vs,KV kvs vs/\s.heap.DictOf (iA X.prog X.w) p vs:=I.hok p _ hx;have hlen:kvs.length=vs.length:=Paired.length r;exact wpAny_truthy_dict hS m (by omega) ⟨H,I.tok _,by rw[jL r];exact q⟩
 |_=>exact(show False from e).elim
theorem mL(ha:PE X a ta)(he:∀whole,isTrue a X.env whole=(do let v <-whole;standAt a.pos;holding [v] (truthy v))) :
  PT X a (λσ H Q=>ta σ H λx H'=>∃k,uX X.K x H' k/\Q k H'):=by
 intro pins s σ H Q I h;exact isTrue_plain (bA (ha pins s σ H _ I h) λv s1 ⟨x,H1,I1,r1,q1⟩=>sC pins s1 σ H1 x v Q I1 r1 q1) (he _)
def dO{x:V}(r:Vals [x] us):∃u,us=[u]/\RelV x u:=by
 cases r with
 |cons r1 r2=>cases r2;exact⟨_,rfl,r1⟩
theorem ku{x y:V}(r:Vals [x,y] us):∃u w',us=[u,w']/\RelV x u/\RelV y w':=by
 cases r with
 |cons r1 r2=>
  cases r2 with
  |cons r3 r4=>cases r4;exact⟨_,_,rfl,r1,r3⟩
theorem mM:CallR X (.builtin "abs") (λxs H Q=>∃i,xs=[.int i]/\Q (.int (if i<0 then -i else i)) H):=by
 intro pins s σ H xs us Q I r h;obtain⟨i,rfl,q⟩:=h;obtain⟨u,rfl,t,rfl⟩:=dO r;exact call_abs_int λu tk=>⟨.int (if i<0 then -i else i),H,I.tok _,⟨_,rfl⟩,q⟩
theorem kP(hc:X.calm=true):CallR X (.builtin "max") (λxs H Q=>∃i j,xs=[.int i,.int j]/\Q (.int (if j>i then j else i)) H):=by
 intro pins s σ H xs us Q I r h;obtain⟨i,j,rfl,q⟩:=h;obtain⟨u,w',rfl,⟨t,rfl⟩,⟨t',rfl⟩⟩:=ku r;refine max_two_ints (I.ok.hd hc) λh' tk k=>⟨_,H,I.kept k,?_,q⟩
 by_cases hj:j>i
 .rw[if_pos hj,if_pos hj];exact⟨_,rfl⟩
 .rw[if_neg hj,if_neg hj];exact⟨_,rfl⟩
theorem kQ:CallR X (.type "int") (λxs H Q=>(∃i,xs=[.int i]/\Q (.int i) H)\/∃k,xs=[.bl k]/\Q (.int (if k then 1 else 0)) H):=by
 intro pins s σ H xs us Q I r h;rcases h with⟨i,rfl,q⟩|⟨k,rfl,q⟩
 .obtain⟨u,rfl,t,rfl⟩:=dO r
  exact call_int_int ⟨.int i,H,I,⟨_,rfl⟩,q⟩
 .obtain⟨u,rfl,r1⟩:=dO r
  cases r1;exact call_int_bool ⟨.int (if k then 1 else 0),H,I.tok _,⟨_,rfl⟩,q⟩
end
structure ObjM(h:Heap)(x dx C:Addr)(mA:Str->Option Value):Prop where
 obj:h.get? x=some (PySem.W.instObj C dx)
 ns:h.Ns1 dx mA
 ne:dx≠x
theorem kR(n:h.Ns1 dx mA):∃od,h.get? dx=some od/\∀name,PySem.W.lookIn name od=some (mA name):=by
 obtain⟨o,es,ep,ho,hd,hk,_,hm⟩:=n;refine⟨o,ho,λname=>?_⟩;have e:=hm name;unfold nsFind findBy at e;rw[<-Array.find?_toList] at e;unfold PySem.W.lookIn;rw[hd];dsimp only;split
 .rename_i y q
  rw[q] at e;exact congrArg some e
 .rename_i q
  rw[q] at e;have a:es.toList.any (·.refKey)=false:=by
   rw[List.any_eq_false];intro y hy;obtain⟨z,t,hkey⟩:=hk y (Array.mem_toList_iff.mp hy);simp[DictEntry.refKey,hkey]
  have a':¬es.toList.any (·.refKey)=true:=by rw[a];exact i4
  rw[if_neg a'];exact congrArg some e
theorem ObjM.look{x C:Addr}(I:ObjM h x dx C mA):∃od,PySem.W.InstAt h x (PySem.W.instObj C dx) C (some od)/\∀name,PySem.W.lookIn name od=some (mA name):=
 let⟨od,ho,hl⟩:=kR I.ns
 ⟨od,⟨I.obj,rfl,rfl,ho⟩,hl⟩
section
variable{prog:Program}{E:Value->Shared->Prop}{x C f:Addr}{v:Value}
end
section
variable{C:Addr}{fs fs':List (Str×V)}
end
structure Cls(K:NF)(C:Addr):Prop where
 pg:PySem.W.plainGet K C Str.empty=true
 hd:PySem.W.hasDictIn K C=true
 po:PySem.W.plainOver K C=true
 sa:PySem.W.findIn K (.ref C) "__setattr__" = some (some (.builtin "object.__setattr__"))
def Cls.get{C:Addr}(c:Cls K C)(f:Str):PySem.W.plainGet K C f=true:=c.pg
section
variable{C:Addr}{fs:List (Str×V)}{f:Str}{v:V}{E:Value->Shared->Prop}
theorem Inv.made(I:Inv X pins σ H s):Inv X pins σ (upd (upd H s.heap.objs.size (.own (s.heap.objs.size+1))) (s.heap.objs.size+1) (.ins C s.heap.objs.size []))
  { s with heap:=(s.heap.push PySem.W.emptyDict).push (PySem.W.instObj C s.heap.objs.size) }:=by
 have e1:(s.heap.push PySem.W.emptyDict).get? s.heap.objs.size=some PySem.W.emptyDict:=f9 s.heap rfl;have e2:((s.heap.push PySem.W.emptyDict).push (PySem.W.instObj C s.heap.objs.size)).get? (s.heap.objs.size+1)=some (PySem.W.instObj C s.heap.objs.size):=by
  have:=f9 (s.heap.push PySem.W.emptyDict) (o:=PySem.W.instObj C s.heap.objs.size) rfl
  rwa [lM] at this
 have e3:(s.heap.push PySem.W.emptyDict).Ns s.heap.objs.size (λ_=>none):=⟨PySem.W.emptyDict,#[],_,e1,rfl,(λe he=>NH he (by simp)),λ_=>rfl⟩
 have I1:=I.laid (a:=s.heap.objs.size) (o:=.own (s.heap.objs.size+1)) (h':=s.heap.push PySem.W.emptyDict) (t':=s.toks) (λb u q=>de _ q) (bP _) ⟨_,e1⟩;refine I1.laid (a:=s.heap.objs.size+1) (o:=.ins C s.heap.objs.size []) (t':=s.toks) (λb u q=>de _ q) (Nat.le_of_eq (lM _ _)) ?_;have ne:s.heap.objs.size≠s.heap.objs.size+1:=fJ (Au _);refine⟨by rw[aG ne,aN],gJ _,ne,e2,λ_=>none,(Heap.Ns1.of_empty e3).at λo q=>de _ q,λ_=>True.intro,λy hy=>NH rfl hy⟩
end
section
variable{o value:Expr}{f:Str}{tv:TE}
end
section
variable{E:Value->Shared->Prop}{c:Value}{b:Bool}
end
structure Room(k:Nat)(A:Around):Prop where
 hd:A.handled=none
 gd:A.guards=some []
 dp:A.depth+3*k+5<recursionLimit
 un:A.units+16*k+200<cLine
def Room.mono(r:Room k A)(h:j<=k):Room j A:=⟨r.hd,r.gd,by have:=r.dp;omega,by have:=r.un;omega⟩
theorem Room.deeper{k:Nat}{A:Around}(r:Room (k+1) A)(env:Env):Room k (A.deeper env):=
 ⟨r.hd,r.gd,by have:=r.dp;show A.depth+1+3*k+5<_;omega,by have:=r.un;show A.units+3+16*k+200<_;omega⟩
theorem jM{C:Addr}:(A.under (.builtin "type.__call__" ⟨.ref C::us,kw⟩)).depth=A.depth+1:=by
 first|rfl|simp[Around.under,Code.weight,Code.isCreation,Code.isGuard,Code.isCaller,Code.frames,Code.isFrame,guardIds]
theorem jN{C:Addr}:(A.under (.builtin "type.__call__" ⟨.ref C::us,kw⟩)).units=A.units+1:=by
 first|rfl|simp[Around.under,Code.cUnits,Code.frames,Code.isFrame]
theorem Room.make(r:Room (k+1) A)(C:Addr)(us:List Value)(kw:List (Str×Value)):Room k (A.under (.builtin "type.__call__" ⟨.ref C::us,kw⟩)):=
 ⟨r.hd,by first|exact r.gd|simp[Around.under,Code.weight,Code.isCreation,Code.isGuard,Code.isCaller,Code.frames,Code.isFrame,guardIds,r.gd],by have:=r.dp;rw[jM];omega,by have:=r.un;rw[jN];omega⟩
def Room.depth{k:Nat}{A:Around}(r:Room k A):A.depth<recursionLimit:=by have:=r.dp;omega
def Room.units{k:Nat}{A:Around}(r:Room k A):A.units+64<cLine:=by have:=r.un;omega
def A4:TA:=λ_ H Q=>Q [] H
def uY(ta:TE)(tr:TA):TA:=λσ H Q=>ta σ H λx H1=>tr σ H1 λxs H2=>Q (x::xs) H2
section
def iI:PA X [] A4:=λ_ _ _ _ H Q I h=>Calls.spliced_nil ⟨[],H,I,.nil,h⟩
theorem gh(ha:PE X e te)(hr:PA X es t)(hs:starEach (e::es) X.env=(false,eval e X.env)::starEach es X.env:=by rfl):PA X (e::es) (uY te t):=by
 intro pos pins s σ H Q I h;rw[hs];show wpAny _ _ (spliced ((false,eval e X.env)::backTo pos (starEach es X.env))) _ _ s;refine Calls.spliced_cons (bA (ha pins s σ H _ I h) λu s1 ⟨x,H1,I1,r1,q1⟩=>?_);exact bA (hr pos pins s1 σ H1 _ I1 q1) λus s2 ⟨xs,H2,I2,r2,q2⟩=>⟨x::xs,H2,I2,.cons r1 r2,q2⟩
def A5(t:TA):TE:=λσ H Q=>t σ H λxs H1=>xs.length<=sizeLine/\∀p,H1 p=none->Q (.ref p) (upd H1 p (.tup xs))
def A6(t:TA):TE:=λσ H Q=>t σ H λxs H1=>xs.length<=sizeLine/\∀p,H1 p=none->Q (.ref p) (upd H1 p (.lst xs))
theorem sD{x1}(h:PA X es t):PE X (.Tuple es x1 pos) (A5 t):=by
 intro pins s σ H Q I hq;refine wpAny_Tuple_spliced (bA (h pos pins s σ H _ I hq) λus s1 ⟨xs,H1,I1,r,z,q⟩=>⟨by rw[<-r.length];exact z,?_⟩);have hf:H1 s1.heap.objs.size=none:=I1.hok.fresh (bP _);refine⟨.ref s1.heap.objs.size,upd H1 s1.heap.objs.size (.tup xs),I1.laid (t':=s1.toks) (λb u e=>de _ e) (bP _) ?_,rfl,q _ hf⟩;exact⟨z,us,r,⟨_,f9 _ rfl,rfl,_,rfl⟩⟩
theorem sE(h:PA X es t):PE X (.List es pos) (A6 t):=by
 intro pins s σ H Q I hq;refine wpAny_List_spliced (bA (h pos pins s σ H _ I hq) λus s1 ⟨xs,H1,I1,r,z,q⟩=>⟨by rw[<-r.length];exact z,?_⟩);have hf:H1 s1.heap.objs.size=none:=I1.hok.fresh (bP _);refine⟨.ref s1.heap.objs.size,upd H1 s1.heap.objs.size (.lst xs),I1.laid (t':=s1.toks) (λb u e=>de _ e) (bP _) ?_,rfl,q _ hf⟩;exact⟨z,us,0,r,f9 _ rfl⟩
end
abbrev Sp:=List V->Hp->VK->XK->Prop
abbrev lR:=List Env->Hp->Shared->XK->Value->Shared->Prop
variable{CX:lR}
structure Env0(P:Program)(w:World)(K:NF)(mg:Str->Option Value)(base:Heap)(A:Around)(outer:List Env)(s:Shared)(H:Hp):Prop where
 frames:A.frames=some outer
 mod:Mod K mg base
 bs:∀b o,base.get? b=some o->s.heap.get? b=some o/\H b=none
 bsz:base.objs.size<=s.heap.objs.size
 funs:s.heap.FunFrames base outer
 frf:∀b∈cY outer,H b=none
 hok:HOk P w H s.heap
 bare:AllBare s.gens
 sysn:∀xs,H sysModules≠some (.lst xs)
def CE(outer:List Env)(P:Program)(w:World)(H:Hp)(s:Shared)(Q:VK)(u:Value)(s':Shared):Prop:=
 ∃v H',s'.os=s.os/\AllBare s'.gens/\Un (cY outer) [] H H' s.heap s'.heap/\HOk P w H' s'.heap/\RelV v u/\Q v H'
def CR(CX:lR)(outer:List Env)(P:Program)(w:World)(H:Hp)(s:Shared)(Q:VK)(E:XK)(r:Result)(s':Shared):Prop:=
 match r with
 |.ok (.ret u)=>CE outer P w H s Q u s'
 |.ok _=>False
 |.error e=>CX outer H s E e s'
structure FnOk(P:Program)(w:World)(K:NF)(mg:Str->Option Value)(base:Heap)(CX:lR)(k:Nat)(f:Addr)(fd:FuncData)(ps:List Str)(sp:Sp):Prop where
 len:∀vs H Q E,sp vs H Q E->vs.length=ps.length
 run:∀(A:Around) (outer:List Env) (s:Shared) (H:Hp) (args:Args) (us:List Value) (vs:List V) (Q:VK) (E:XK),Room k A->Env0 P w K mg base A outer s H->BindsTo s fd args (ps.zip us)->Vals vs us->sp vs H Q E->
  codeAny (model P w) A (.call (.ref f) args) (CR CX outer P w H s Q E) s
theorem FnOk.mono{P:Program}{w:World}{K:NF}{mg:Str->Option Value}{base:Heap}{CX:lR}{j k:Nat}{f:Addr}{fd:FuncData}{ps:List Str}{sp:Sp}(F:FnOk P w K mg base CX j f fd ps sp)(h:j<=k) :
  FnOk P w K mg base CX k f fd ps sp:=⟨F.len,λA outer s H args us vs Q E hr=>F.run A outer s H args us vs Q E (hr.mono h)⟩
theorem FnOk.imp{base:Heap}{f:Addr}{sp sp':Sp}(F:FnOk P w K mg base CX k f fd ps sp)
  (h:∀vs H Q E,sp' vs H Q E->sp vs H Q E):FnOk P w K mg base CX k f fd ps sp':=
 ⟨λvs H Q E q=>F.len vs H Q E (h _ _ _ _ q),λA outer s H args us vs Q E hr he hb hv hs=>F.run A outer s H args us vs Q E hr he hb hv (h _ _ _ _ hs)⟩
theorem Env0.make{base:Heap}(e:Env0 P w K mg base A outer s H)(C:Addr)(us:List Value)(kw:List (Str×Value)) :
  Env0 P w K mg base (A.under (.builtin "type.__call__" ⟨.ref C::us,kw⟩)) outer s H:=⟨by first|exact e.frames|(simpa[Around.under,Code.envs,Code.isFrame,pushEnvs] using e.frames),e.mod,e.bs,e.bsz,e.funs,e.frf,e.hok,e.bare,e.sysn⟩
section
theorem Inv.env0(I:Inv X pins σ H s):Env0 X.prog X.w X.K X.mg X.base X.A X.stack s H:=
 ⟨I.ok.frames,I.ok.mod,I.bs,gv I.ok.bsz I.sz,I.stack,I.stkFree,I.hok,I.bare,I.sysn⟩
theorem Inv.after{Q:VK}{u:Value}(I:Inv X pins σ H s)(h:CE X.stack X.prog X.w H s Q u s'):EP X pins σ Q u s':=by
 obtain⟨v,H',os,bare,un,hok,r,q⟩:=h;obtain⟨hh,g,d,t,os'⟩:=s';obtain rfl:os'=s.os:=os;exact⟨v,H',I.call (h':=hh) (g':=g) (d':=d) (t':=t) (ch:=[]) un hok bare (λb z=>NH z (by simp)),r,q⟩
end
def qN(sp:Sp)(dvs:List V)(E:XK)(t:TA):TE:=λσ H Q=>t σ H λvs H1=>sp (vs++dvs) H1 Q E
def Binds(K:NF)(fd:FuncData)(ps:List Str)(ds:List Value):Prop:=
 ∀(s:Shared) (us:List Value),K.In s.heap->(us++ds).length=ps.length->BindsTo s fd ⟨us,[]⟩ (ps.zip (us++ds))
theorem Binds.all(h:∀us:List Value,us.length=ps.length->bindArgs fd ⟨us,[]⟩=pure (ps.zip us)):Binds K fd ps []:=λs us _ hl=>by
 rw[pI] at hl ⊢;exact .of_eq (h us hl)
def c8(CX:lR)(X:Cx)(E:XK):Prop:=∀(pins:List (Addr×Obj)) (σ:St) (H:Hp) (s:Shared) (e:Value) (s':Shared),Inv X pins σ H s->CX X.stack H s E e s'->X.xe e s'
section
variable{f C:Addr}{sp:Sp}{dvs:List V}{ds:List Value}{E:XK}{m:Str}{apos:Pos}{o:Expr}
theorem sF{Q:VK}(F:FnOk X.prog X.w X.K X.mg X.base CX k f fd ps sp)(hr:Room k X.A)(hb:Binds X.K fd ps ds)(hd:Vals dvs ds)(hx:c8 CX X E)
  (I:Inv X pins σ H s) (r:Vals vs us) (h:sp (vs++dvs) H Q E):wpAny (model X.prog X.w) X.A (call (.ref f) us) (EP X pins σ Q) X.xe s:=by
 have r2:Vals (vs++dvs) (us++ds):=r.append hd;have hl:(us++ds).length=ps.length:=by rw[<-r2.length];exact F.len _ _ _ _ h
 refine wpAny_call (codeAny_mono (F.run X.A X.stack s H ⟨us,[]⟩ (us++ds) (vs++dvs) Q E hr I.env0 (hb s us I.kIn hl) r2 h) λr s' hq=>?_);cases r with
 |error e=>exact hx pins σ H s e s' I hq
 |ok fl=>
  cases fl with
  |ret u=>exact I.after hq
  |next=>exact NT hq
  |brk=>exact NT hq
  |cont=>exact NT hq
theorem qc(F:FnOk X.prog X.w X.K X.mg X.base CX k f fd ps sp)(hr:Room k X.A)(hg:Gl X x)(hm:X.mg x=some (.ref f))(hk:PySem.W.keepIn X.K (.ref f)=true)(hb:Binds X.K fd ps ds)(hd:Vals dvs ds)(hx:c8 CX X E)
  (ha:PA X (e::es) t) (hdb:(x==("__debug__" : Str))=false:=by decide) (he:starEach (e::es) X.env=(false,eval e X.env)::starEach es X.env:=by rfl) (hpl:(backTo pos (starEach es X.env)).any (·.1)=false:=by rfl) :
  PE X (.Call (.Name x p) (e::es) [] pos) (qN sp dvs E t):=by
 intro pins s σ H Q I h;refine N7 (eW I hg hm ?_ hdb);refine PySem.W.callWith_K (h₀:=X.base) I.ok.mod.kin hk (bA (ha pos pins s σ H _ I h) λus s1 ⟨vs,H1,I1,r,q⟩=>⟨I1.kIn,?_⟩) he hpl;exact sF F hr hb hd hx I1 r q
end
section
variable{f C:Addr}{ks:List Str}{sp:Sp}{E:XK}{m:Str}{apos kpos:Pos}{o:Expr}{kws:List Keyword}{tk:TA}{nm:Option Str}
variable{g:List Value->List Value->List Value}
end
structure cO(N P:List Str)(sc:Scope):Prop where
 kind:sc.kind=.function
 co:sc.isCoroutine=false
 gen:sc.isGenerator=false
 nd:N.Nodup
 pre:N.take P.length=P
 par:∀x∈P,sc.names.lookup x=some .local\/sc.names.lookup x=some .cell
 nofree:∀y∈sc.names,y.2≠.free
theorem hW{kindOf:Str->Option NameKind}{x:Str}:∀{binds:List (Str×Value)} {m:Str->Option Value},(∀v,(x,v)∉binds)->bindL kindOf binds m x=m x
 |[],_,_=>rfl
 |(n,v)::r,m,h=>by
  unfold bindL;rw[hW λw hw=>h w (gI _ hw)];split
  .have:x≠n:=by rintro rfl;exact h v j5
   simp[this]
  .rfl
theorem hX{kindOf:Str->Option NameKind}{x:Str}:∀{binds:List (Str×Value)} {m:Str->Option Value},(∀v,(x,v)∉binds)->bindC kindOf binds m x=m x
 |[],_,_=>rfl
 |(n,v)::r,m,h=>by
  unfold bindC;rw[hX λw hw=>h w (gI _ hw)];split
  .rfl
  .have:x≠n:=by rintro rfl;exact h v j5
   simp[this]
theorem fh{kindOf:Str->Option NameKind}{x:Str}{v:Value}:∀{P:List Str} {vs:List Value} {i:Nat} {m:Str->Option Value},P.Nodup->P[i]? = some x->vs[i]? = some v->kindOf x=some .local->
  bindL kindOf (P.zip vs) m x=some v
 |[],_,_,_,_,h,_,_=>by simp at h
 |_::_,[],_,_,_,_,h,_=>by simp at h
 |p::P,w::vs,0,m,nd,h1,h2,hk=>by
  simp at h1 h2;subst h1;subst h2;show bindL kindOf ((p,w)::P.zip vs) m p=_;unfold bindL;rw[hW λv hv=>(YaI.mp nd).1 (xI hv).1,if_pos hk];simp
 |p::P,w::vs,i+1,m,nd,h1,h2,hk=>by
  show bindL kindOf ((p,w)::P.zip vs) m x=_;unfold bindL;exact fh (i:=i) (YaI.mp nd).2 (by simpa using h1) (by simpa using h2) hk
theorem fk{kindOf:Str->Option NameKind}{x:Str}{v:Value}:∀{P:List Str} {vs:List Value} {i:Nat} {m:Str->Option Value},P.Nodup->P[i]? = some x->vs[i]? = some v->kindOf x≠some .local->
  bindC kindOf (P.zip vs) m x=some v
 |[],_,_,_,_,h,_,_=>by simp at h
 |_::_,[],_,_,_,_,h,_=>by simp at h
 |p::P,w::vs,0,m,nd,h1,h2,hk=>by
  simp at h1 h2;subst h1;subst h2;show bindC kindOf ((p,w)::P.zip vs) m p=_;unfold bindC;rw[hX λv hv=>(YaI.mp nd).1 (xI hv).1,if_neg hk];simp
 |p::P,w::vs,i+1,m,nd,h1,h2,hk=>by
  show bindC kindOf ((p,w)::P.zip vs) m x=_;unfold bindC;exact fk (i:=i) (YaI.mp nd).2 (by simpa using h1) (by simpa using h2) hk
def start(N:List Str)(vs:List V):St:=vs.map some++List.replicate (N.length-vs.length) none
def dQ(CX:lR)(P:Program)(w:World)(K:NF)(mg:Str->Option Value)(base:Heap)(N:List Str)(qual:Str)(scope:Scope)(f:Addr)(cd:Value)(A:Around)(outer:List Env)(s:Shared)(H:Hp)(E:XK):Cx where
 prog:=P
 w:=w
 K:=K
 mg:=mg
 base:=base
 A:=A.deeper (envOfC qual scope s.heap.objs.size f cd)
 N:=N
 s₀:=s
 H₀:=H
 env:=envOfC qual scope s.heap.objs.size f cd
 outer:=outer
 stack:=envOfC qual scope s.heap.objs.size f cd::outer
 ex:=[]
 calm:=true
 fn:=λ_=>true
 pn:=[]
 xe:=λe s'=>wpAny (model P w) (A.deeper (envOfC qual scope s.heap.objs.size f cd)) (leaving (envOfC qual scope s.heap.objs.size f cd) e) (λ_ s''=>CX outer H s E e s'') (λe' s''=>CX outer H s E e' s'') s'
theorem d6{sc:Scope}(h:sc.names.lookup x=some .cell):∃c,(cellsFrom n sc.names []).lookup x=some c:=by
 have q:=PySem.W.cellsFrom_some sc.names n [] (.inl h);exact Option.isSome_iff_exists.mp q
theorem kS{base:Heap}{f:Addr}{cd:Value}{s1:Shared}{E:XK}
  (S:cO N ps scope) (hd:A.handled=none) (e0:Env0 P w K mg base A outer s H) (hl:vs.length=ps.length) (r:Vals vs us)
  (x:InCallC s s.heap.objs.size (bindL (envOfC qual scope s.heap.objs.size f cd).kindOf (ps.zip us) λ_=>none) (cellsFrom (s.heap.objs.size+1) scope.names []) (bindC (envOfC qual scope s.heap.objs.size f cd).kindOf (ps.zip us) λ_=>none) s1) :
  Inv (dQ CX P w K mg base N qual scope f cd A outer s H E) [] (start N vs) H s1:=by
 have hpl:ps.length<=N.length:=by have:=congrArg List.length S.pre;rw[jr] at this;omega
 obtain⟨h1,tk,rfl,hk⟩:=x.done;have noA:∀b:Addr,b∉(dQ CX P w K mg base N qual scope f cd A outer s H E).ex:=λb z=>NH (show b∈([]:List Addr) from z) (by simp);refine ⟨⟨e0.mod,S.kind,rfl,rfl,bP _,λy z c h1 h2=>?_,λy hy=>?_,λy c _ h=>?_,λ_=>hd,Around.frames_deeper e0.frames,.inr ⟨rfl,rfl⟩,λb z=>NH z (noA b),e0.bs,e0.bsz,λb _ _=>noA b,λb z=>NH z (noA b),e0.funs,e0.frf,e0.sysn⟩,
  rfl,e0.bare,Un.kept hk,⟨_,x.toInCall.ns,λi y v h1 h2 h3=>?_⟩,λy c h=>⟨_,x.cell y c h⟩,e0.hok.fresh (bP _),λy c h=>?_,λp hp=>NH (show p∈([]:List (Addr×Obj)) from hp) (by simp),e0.hok.kept hk,?_⟩
 .exact name_of_addr x.apart (NP h1) (NP h2)
 .have hy:scope.names.lookup y=some .cell\/scope.names.lookup y=some .free:=hy
  rcases hy with hy|hy
  .exact d6 hy
  .exact NH rfl (S.nofree _ (NP hy))
 .exact jC (x.above y c (NP h))
 .have hi:i<vs.length:=by
   unfold start at h2
   by_cases hi:i<vs.length
   .exact hi
   .rw[jt (by simpa using hi)] at h2
    rw[mo] at h2;split at h2<;>cases h2
  have ha:vs[i]? = some v:=by
   unfold start at h2;rw[j6 (by simpa using hi),cI] at h2;cases e:vs[i]? with
   |none=>rw[e] at h2;cases h2
   |some a=>rw[e] at h2;cases h2;rfl
  obtain⟨u,hu,rv⟩:=r.get ha;have hp:ps[i]? = some y:=by
   rw[<-S.pre,Av (by omega)];exact h1
  have ndP:ps.Nodup:=by rw[<-S.pre];exact S.nd.sublist (List.take_sublist _ _)
  refine⟨u,rv,?_⟩;rcases S.par y (ge hp) with k|k
  .exact .inl ⟨k,fh ndP hp hu k⟩
  .obtain⟨c,e⟩:=d6 (n:=s.heap.objs.size+1) k
   refine .inr ⟨.inl k,c,e,?_⟩;have q:=x.cell y c e;rw[fk ndP hp hu (by show scope.names.lookup y≠_;rw[k];decide)] at q;exact q
 .exact e0.hok.fresh (jC (x.above y c (NP h)))
 .unfold start
  show _=N.length;rw[dM,bL,pJ];omega
theorem qO{base:Heap}{f:Addr}{params:Arguments}{dV kV doc pm cdv ct oc:Value}{an od:Option Addr}
 {sp:Sp} (lk:K.lookup f=some ⟨oc,od,.func (PySem.W.fnOf name qual params body scope dV kV doc pm an cdv ct),osl⟩) (hcd:PySem.W.codeIn K cdv qual=true) (S:cO N ps scope)
  (len:∀vs H Q E,sp vs H Q E->vs.length=ps.length)
  (hbody:∀ (A:Around) (outer:List Env) (s:Shared) (H:Hp) (vs:List V) (Q:VK) (E:XK),Room k (A.deeper (envOfC qual scope s.heap.objs.size f cdv))->sp vs H Q E->
   ∃t,PSs (dQ CX P w K mg base N qual scope f cdv A outer s H E) body t/\t { nx:=λ_ H'=>Q .non H',rt:=Q } (start N vs) H) :
  FnOk P w K mg base CX (k+1) f (PySem.W.fnOf name qual params body scope dV kV doc pm an cdv ct) ps sp:=by
 refine⟨len,λA outer s H args us vs Q E hr e0 hb r hsp=>?_⟩;have hl:=len _ _ _ _ hsp;have KX:K.In s.heap:=e0.mod.kin.keeps λb o e=>(e0.bs b o e).1;have lim:s.heap.NoLimit:=e0.mod.nolimit.keeps λb o e=>(e0.bs b o e).1;have hkind:∀y∈ps.zip us,scope.names.lookup y.1=some .local\/(scope.names.lookup y.1=some .cell/\((cellsFrom (s.heap.objs.size+1) scope.names []).lookup y.1).isSome=true):=λ⟨n,v⟩ hy=>by
  rcases S.par n (xI hy).1 with q|q
  .exact .inl q
  .exact .inr ⟨q,PySem.W.cellsFrom_some _ _ _ (.inl q)⟩
 refine codeAny_call_function hr.depth (KX _ _ lk) rfl S.co S.gen rfl (PySem.W.codeRec_of KX hcd) (hb _ _ _ _ ?_);refine wpAny_newFunctionEnv_cells S.kind hkind λenv he s1 x=>?_;subst he;refine⟨lim.keeps x.toInCall.keep,codeAny_func ?_⟩;obtain⟨t,ht,hq⟩:=hbody A outer s H vs Q E (hr.deeper _) hsp;have I:Inv (dQ CX P w K mg base N qual scope f cdv A outer s H E) [] (start N vs) H s1:=kS S hr.hd e0 hl r x;refine NN (ht [] s1 (start N vs) H _ I hq) (λfl s' hs=>?_) λe s' hs=>hs;have fin:∀{σ':St} {H':Hp} {v:V} {u:Value},Inv (dQ CX P w K mg base N qual scope f cdv A outer s H E) [] σ' H' s'->RelV v u->Q v H'->CE outer P w H s Q u s':=
  λ{σ' H' v u} J rv q=>⟨v,H',J.os,J.bare,J.base,J.hok,rv,q⟩
 cases fl with
 |ret u=>
  obtain⟨v,σ',H',J,rv,q⟩:=hs;exact fin J rv q
 |next=>
  obtain⟨σ',H',J,q⟩:=hs;exact fin (v:=V.non) (u:=Value.none) J rfl q
 |brk=>
  obtain⟨_,_,_,q⟩:=hs;exact NT q
 |cont=>
  obtain⟨_,_,_,q⟩:=hs;exact NT q
section
variable{id T:String}{r:List V->Hp->VK->Prop}
def DC(r:List V->Hp->VK->Prop)(t:TA):TE:=λσ H Q=>t σ H λvs H1=>r vs H1 Q
theorem mO(hc:CallR X (.builtin id) r)(hg:Gl X x)(hm:X.mg x=none)(hv:bootBuiltins x=some (.builtin id))(ha:PA X (e::es) t)(hn:x≠ "__name__" :=by decide)(hdb:(x==("__debug__" : Str))=false:=by decide)
  (he:starEach (e::es) X.env=(false,eval e X.env)::starEach es X.env:=by rfl) (hpl:(backTo pos (starEach es X.env)).any (·.1)=false:=by rfl):PE X (.Call (.Name x p) (e::es) [] pos) (DC r t):=by
 intro pins s σ H Q I h;refine N7 (fe I hg hm hv ?_ hn hdb);exact PyProof.Rows.callWith_builtin1 (bA (ha pos pins s σ H _ I h) λus s1 ⟨vs,H1,I1,r1,q1⟩=>hc pins s1 σ H1 vs us Q I1 r1 q1) he hpl
theorem eA(hc:CallR X (.type T) r)(hg:Gl X x)(hm:X.mg x=none)(hv:bootBuiltins x=some (.type T))(ha:PA X (e::es) t)(hn:x≠ "__name__" :=by decide)(hdb:(x==("__debug__" : Str))=false:=by decide)
  (he:starEach (e::es) X.env=(false,eval e X.env)::starEach es X.env:=by rfl) (hpl:(backTo pos (starEach es X.env)).any (·.1)=false:=by rfl):PE X (.Call (.Name x p) (e::es) [] pos) (DC r t):=by
 intro pins s σ H Q I h;refine N7 (fe I hg hm hv ?_ hn hdb);exact PyProof.Rows.callWith_type1 (bA (ha pos pins s σ H _ I h) λus s1 ⟨vs,H1,I1,r1,q1⟩=>hc pins s1 σ H1 vs us Q I1 r1 q1) he hpl
end
end L2
namespace HT
open PySem PyProof.Rows
section
open PySem.SeqAt
open PySem.AutoSeq1 (wpAny_loadPart')
open PySem.MeetsSeq PySem.MeetsSeq2 PySem.MeetsSeq3
end
section
variable{prog:Program}{w:World}{A:Around}{E:Value->Shared->Prop}{s:Shared}
theorem cat_tup{t b:Addr}{vs ws:List Value}{Q:Value->Shared->Prop}(ht:IsTup s.heap t vs.toArray)(hb:IsTup s.heap b ws.toArray)(hv:vs≠[])
  (h1:ws=[]->Q (.ref t) s) (h2:ws≠[]->Q (.ref s.heap.objs.size) { s with heap:=s.heap.push { cls:=.type "tuple",data:=.seq (vs++ws).toArray } })
  (hsz:vs.length+ws.length<=sizeLine):wpAny (model prog w) A (binaryOp .Add (.ref t) (.ref b)) Q E s:=by
 obtain⟨⟨cls,dd,data,sl⟩,ho,hc,n,hd⟩:=id ht;obtain⟨⟨cls2,dd2,data2,sl2⟩,ho2,hc2,n2,hd2⟩:=id hb;simp only at hc hd hc2 hd2;subst hc hd hc2 hd2;have e:vs.toArray++ws.toArray=(vs++ws).toArray:=by simp
 by_cases hw:ws=[]
 .exact concat_meets ⟨_,ho,rfl⟩ ⟨_,ho2,rfl⟩ noFill_tuple_add seq_tuple_add PySem.F.slot_tuple_add PySem.F.entry_tuple_add (PySem.F.args_tuple_add_2 _ _)
   (tuple_addW1 t b vs.toArray ws.toArray n n2 dd dd2 sl sl2 (by simpa using hv) (by simp[hw])) ⟨ho,ho2,h1 hw⟩
 .refine concat_meets ⟨_,ho,rfl⟩ ⟨_,ho2,rfl⟩ noFill_tuple_add seq_tuple_add PySem.F.slot_tuple_add PySem.F.entry_tuple_add (PySem.F.args_tuple_add_2 _ _)
   (tuple_addW2 t b vs.toArray ws.toArray n n2 dd dd2 sl sl2 (by simpa using hv) (by simpa using hw) (by rw[dW,dW];exact hsz)) ⟨ho,ho2,?_⟩
  rw[e];exact h2 hw
def sIx(n d:Nat):Option Int->Nat
 |none=>d
 |some v=>if v<0 then(v+(n:Int)).toNat else min v.toNat n
def sIx_none(n d:Nat):sIx n d none=d:=rfl
theorem sIx_nat(n d k:Nat):sIx n d (some (k:Int))=min k n:=by
 show(if(k:Int)<0 then((k:Int)+(n:Int)).toNat else min (k:Int).toNat n)=min k n;rw[if_neg (by omega),hJ]
theorem sG(n d:Nat)(hd:d<=n)(o:Option Int):sIx n d o<=n:=by
 cases o with
 |none=>exact hd
 |some v=>
  show(if v<0 then(v+(n:Int)).toNat else min v.toNat n)<=n
  by_cases hv:v<0
  .rw[if_pos hv];omega
  .rw[if_neg hv];exact Nat.min_le_right _ _
theorem kv(v:Int)(n d:Nat):(if v<0 then max (v+(n:Int)) 0 else min v (n:Int))=((sIx n d (some v):Nat):Int):=by
 show(if v<0 then max (v+(n:Int)) 0 else min v (n:Int))=(((if v<0 then(v+(n:Int)).toNat else min v.toNat n):Nat):Int)
 by_cases hv:v<0
 .simp only[if_pos hv];omega
 .simp only[if_neg hv];omega
theorem jO(lo hi:Option Int)(n:Nat):Builtin.Slice.sliceAdjust lo hi 1 (n:Int)=(((sIx n 0 lo:Nat):Int),((sIx n n hi:Nat):Int)):=by
 have h1:¬((1:Int)<0):=by omega
 unfold Builtin.Slice.sliceAdjust;simp only[h1,if_false];refine Prod.ext ?_ ?_
 .cases lo with
  |none=>rfl
  |some v=>exact kv v n 0
 .cases hi with
  |none=>rfl
  |some v=>exact kv v n n
theorem jP(i j:Nat):Builtin.Slice.slicePlaces (i:Int) (j:Int) 1=j-i:=by
 unfold Builtin.Slice.slicePlaces;have h1:(1:Int)>0:=by omega
 simp only[h1,if_true,Int.ediv_one];split<;>omega
theorem gA{v:Value}{o:Option Int}{Q:Option Int->Shared->Prop}(p:IsPart v o)(h:Q o s):wpAny (model prog w) A (Builtin.Slice.slicePartIndex v) Q E s:=by
 cases p with
 |none=>exact slicePart_none h
 |int i t=>exact slicePart_int h
theorem du{sl:Addr}{vl vu:Value}{lo hi:Option Int}{n:Nat}{Q:Int×Int×Nat->Shared->Prop}(hs:s.heap.IsSliceOf sl vl vu .none)(pl:IsPart vl lo)(pu:IsPart vu hi)
  (h:Q (((sIx n 0 lo:Nat):Int),1,sIx n n hi-sIx n 0 lo) s):wpAny (model prog w) A (Builtin.Slice.sliceApplied (.ref sl) (pure (n:Int))) Q E s:=by
 obtain⟨os,hos,hcs,hds⟩:=id hs;unfold Builtin.Slice.sliceApplied Builtin.Slice.sliceFields;refine NE (NE (NQ hos hds (x:=vl) rfl (NE (NQ hos hds (x:=vu) rfl (NE (NQ hos hds (x:=.none) rfl (NG ?_)))))));refine NE (slicePart_none ?_);show wpAny _ _ (if((1:Int)==0)=true then _ else _) _ _ s;rw[if_neg (by decide)];refine NE (gA pl (NE (gA pu (NE (NG ?_)))));show wpAny _ _ (match Builtin.Slice.sliceAdjust lo hi 1 (n:Int) with|(lo,hi)=>pure (lo,(1:Int),Builtin.Slice.slicePlaces lo hi 1)) _ _ s;rw[jO lo hi n];show wpAny _ _ (pure (((sIx n 0 lo:Nat):Int),(1:Int),Builtin.Slice.slicePlaces ((sIx n 0 lo:Nat):Int) ((sIx n n hi:Nat):Int) 1)) _ _ s;rw[jP];exact NG h
theorem mP(xs:Array Value)(i k:Nat):((List.range k).filterMap λ(m:Nat)=>xs[((i:Int)+(m:Int)*1).toNat]?).toArray=((xs.toList.drop i).take k).toArray:=by
 have e:(λ(m:Nat)=>xs[((i:Int)+(m:Int)*1).toNat]?)=λm=>xs[i+m]?:=by
  funext m;have:((i:Int)+(m:Int)*1).toNat=i+m:=by omega
  rw[this]
 rw[e];have:=pick_run xs i k;rw[List.filterMap_map] at this;have e2:((λx=>xs[x]?)∘λx=>i+x)=λm=>xs[i+m]?:=rfl;rw[e2] at this;rw[this]
theorem getItem_tuple_cut{t sl:Addr}{items:Array Value}{vl vu:Value}{lo hi:Option Int}{Q:Value->Shared->Prop}(ht:IsTup s.heap t items)(hs:s.heap.IsSliceOf sl vl vu .none)(pl:IsPart vl lo)(pu:IsPart vu hi)
  (hw:¬(sIx items.size 0 lo=0/\sIx items.size items.size hi=items.size))
  (h:Q (.ref s.heap.objs.size) { s with heap:=s.heap.push { cls:=.type "tuple",data:=.seq ((items.toList.drop (sIx items.size 0 lo)).take (sIx items.size items.size hi-sIx items.size 0 lo)).toArray } })
  (hsz:items.size<=sizeLine):wpAny (model prog w) A (getItem (.ref t) (.ref sl)) Q E s:=by
 have htake:sizeOk (.seq ((items.toList.drop (sIx items.size 0 lo)).take (sIx items.size items.size hi-sIx items.size 0 lo)).toArray):=by
  show((items.toList.drop (sIx items.size 0 lo)).take (sIx items.size items.size hi-sIx items.size 0 lo)).toArray.size<=sizeLine;rw[dW,jr,kI,xG];omega
 have hj:sIx items.size items.size hi<=items.size:=sG _ _ (bP _) hi;obtain⟨os,hos,hcs,hds⟩:=id hs;have hTs:s.TypeIs (.ref sl) "slice" :=⟨os,hos,hcs⟩
 unfold getItem
 try with_reducible refine N3 ?_
 first|refine NE (NG ?_)|skip
 refine NE (wpAny_sequenceKey ht.typeIs (by decide) ?_);refine NE (wpAny_callSpecial?_slot (name:=Str.ofString "__getitem__") ht.typeIs PyProof.Rows.slot_tuple_getitem
  (NZ PyProof.Rows.slot_tuple_getitem ht.typeIs entry_tuple_getitem ?_ (args_tuple_getitem _ _)))
 show wpAny _ _ (Builtin.Tuple.tupleItemsOf (.ref t) >>= _) _ _ s;refine NE (tupleItemsOf_ ht ?_);refine NE (wpAny_typeOf hTs ?_);rw[if_pos (by decide)];refine NE (du hs pl pu ?_);have hno:¬((((sIx items.size 0 lo:Nat):Int)==0&&(1:Int)==1&&(sIx items.size items.size hi-sIx items.size 0 lo)==items.size)=true):=by
  intro q;rw[dj,dj] at q;have q1:((sIx items.size 0 lo:Nat):Int)=0:=eq_of_beq q.1.1;have q2:sIx items.size items.size hi-sIx items.size 0 lo=items.size:=eq_of_beq q.2;exact hw ⟨by omega,by omega⟩
 show wpAny _ _ (if(((sIx items.size 0 lo:Nat):Int)==0&&(1:Int)==1&&(sIx items.size items.size hi-sIx items.size 0 lo)==items.size)=true then _ else _) _ _ s;rw[if_neg hno,mP]
 first
  |exact NE (m:=Builtin.Tuple.tupleExact _) (NR (NG ⟨_,rfl,NG h⟩) htake)
  |exact NE (m:=Builtin.Tuple.tupleExact _) (NR (NE (NG (NG ⟨_,rfl,NG h⟩))) htake)
  |exact NE (NE (m:=Builtin.Tuple.tupleExact _) (NR (NG (NG ⟨_,rfl,NG h⟩)) htake))
  |exact NE (NE (m:=Builtin.Tuple.tupleExact _) (NR (NG ⟨_,rfl,NG h⟩) htake))
end
end HT
namespace L2
open PySem PySem.Spec PyProof.Rows
variable{X:Cx}{e:Expr}{pos:Pos}{r:V->Option Int->Option Int->Hp->VK->Prop}{xs:List V}{n j t':Nat}{i:Int}{pins:List (Addr×Obj)}{σ:St}{H:Hp}{s:Shared}{its':List Value}{f:Array Value->Array Value}{A:Around}{x:V}
abbrev TO:=St->Hp->(Option Int->Hp->Prop)->Prop
def PO(X:Cx)(e:Option Expr)(t:TO):Prop:=
 ∀(pins:List (Addr×Obj)) (s:Shared) (σ:St) (H:Hp) (Q:Option Int->Hp->Prop),Inv X pins σ H s->t σ H Q->
  wpAny (model X.prog X.w) X.A (evalPart e X.env) (λu s'=>∃o H',Inv X pins σ H' s'/\IsPart u o/\Q o H') X.xe s
def qd:TO:=λ_ H Q=>Q none H
def uZ(t:TE):TO:=λσ H Q=>t σ H λx H1=>∃i,x=.int i/\Q (some i) H1
section
variable{te:TE}{lo hi:Option Expr}{tl th:TO}{p2:Pos}
def qe:PO X none qd:=by
 intro pins s σ H Q I h;rw[evalPart_none];exact NG ⟨none,H,I,.none,h⟩
theorem qf(h:PE X e te):PO X (some e) (uZ te):=by
 intro pins s σ H Q I hw;rw[evalPart_some];refine bA (h pins s σ H _ I hw) λu s1 ⟨x,H1,I1,r1,q1⟩=>?_;obtain⟨i,rfl,q⟩:=q1;obtain⟨t,rfl⟩:=r1;exact⟨some i,H1,I1,.int i t,q⟩
def SlR(X:Cx)(r:V->Option Int->Option Int->Hp->VK->Prop):Prop:=
 ∀(pins:List (Addr×Obj)) (s:Shared) (σ:St) (H:Hp) (x:V) (v vl vu:Value) (lo hi:Option Int) (sl:Addr) (Q:VK),Inv X pins σ H s->RelV x v->s.heap.IsSliceOf sl vl vu .none->IsPart vl lo->IsPart vu hi->r x lo hi H Q->
  ∃T id,typeLookup (.type T) "__getitem__" = pure (some (.builtin id))/\s.TypeIs v T/\wpAny (model X.prog X.w) X.A (getItem v (.ref sl)) (EP X pins σ Q) X.xe s
theorem SlR.or{r':V->Option Int->Option Int->Hp->VK->Prop}(h:SlR X r)(h':SlR X r'):SlR X (λx lo hi H Q=>r x lo hi H Q\/r' x lo hi H Q):=by
 intro pins s σ H x v vl vu lo hi sl Q I rx hs pl pu q;rcases q with q|q
 .exact h pins s σ H x v vl vu lo hi sl Q I rx hs pl pu q
 .exact h' pins s σ H x v vl vu lo hi sl Q I rx hs pl pu q
def HP(r:V->Option Int->Option Int->Hp->VK->Prop)(te:TE)(tl th:TO):TE:=λσ H Q=>te σ H λx H1=>tl σ H1 λl H2=>th σ H2 λu H3=>r x l u H3 Q
theorem mQ(hr:SlR X r)(he:PE X e te)(hl:PO X lo tl)(hu:PO X hi th):PE X (.Subscript e (.Slice lo hi none p2) pos) (HP r te tl th):=by
 intro pins s σ H Q I h;refine Subscript_ (bA (he pins s σ H _ I h) λv s1 ⟨x,H1,I1,r1,q1⟩=>?_);refine wpAny_Slice (bA (hl pins s1 σ H1 _ I1 q1) λvl s2 ⟨l,H2,I2,pl,q2⟩=>bA (hu pins s2 σ H2 _ I2 q2) λvu s3 ⟨u,H3,I3,pu,q3⟩=>?_);rw[evalPart_none];refine NG ?_;have I4:Inv X pins σ H3 { s3 with heap:=s3.heap.push { cls:=.type "slice",data:=.fields #[vl,vu,.none] } }:=I3.kept (t':=s3.toks) λb ob q=>de _ q;obtain⟨T,id,hT,ht,hg⟩:=hr pins { s3 with heap:=s3.heap.push { cls:=.type "slice",data:=.fields #[vl,vu,.none] } } σ H3 x v vl vu l u s3.heap.objs.size Q I4 r1 (Heap.IsSliceOf.new ..) pl pu q3;show wpAny (model X.prog X.w) X.A (subscriptTail e (.Slice lo hi none p2) v (.ref s3.heap.objs.size)) (EP X pins σ Q) X.xe { s3 with heap:=s3.heap.push { cls:=.type "slice",data:=.fields #[vl,vu,.none] } };exact tail_any (ops:=[.ref s3.heap.objs.size,v]) ht hT hg (by with_unfolding_all rfl)
def jg(xs:List V)(lo hi:Option Int):List V:=(xs.drop (HT.sIx xs.length 0 lo)).take (HT.sIx xs.length xs.length hi-HT.sIx xs.length 0 lo)
def fA(xs:List V)(lo hi:Option Int):(jg xs lo hi).length<=xs.length:=by
 unfold jg;rw[jr,kI];omega
def A7(K:NF):V->Option Int->Option Int->Hp->VK->Prop:=λx lo hi H Q=>∃a xs,x=.ref a/\SqT K H a xs/\
 ¬(HT.sIx xs.length 0 lo=0/\HT.sIx xs.length xs.length hi=xs.length)/\∀p,H p=none->Q (.ref p) (upd H p (.tup (jg xs lo hi)))
theorem sl_tup:SlR X (A7 X.K):=by
 intro pins s σ H x v vl vu lo hi sl Q I rx hs pl pu h;obtain⟨a,xs,rfl,hx,hw,q⟩:=h;cases rx;obtain⟨its,r,ht,hz⟩:=I.tuple hx;have hlen:its.toArray.size=xs.length:=by rw[dW];exact r.length.symm
 refine⟨"tuple",_,PyProof.Rows.slot_tuple_getitem.lookup,ht.typeIs,?_⟩;refine HT.getItem_tuple_cut ht hs pl pu (by rw[hlen];exact hw) ?_ (by rw[hlen];exact hz);rw[hlen];refine⟨.ref s.heap.objs.size,_,I.laid (t':=s.toks) (o:=.tup (jg xs lo hi)) (λb ob q=>de _ q) (bP _) ?_,rfl,q _ (I.hok.fresh (bP _))⟩;exact⟨gv (fA xs lo hi) hz,_,(r.drop (HT.sIx xs.length 0 lo)).take (HT.sIx xs.length xs.length hi-HT.sIx xs.length 0 lo),IsTup.new _ _⟩
def u0(K:NF):R2:=λx y H Q=>∃a b xs ys,x=.ref a/\y=.ref b/\SqT K H a xs/\SqT K H b ys/\xs≠[]/\xs.length+ys.length<=sizeLine/\
 (ys=[]->Q (.ref a) H)/\(ys≠[]->∀p,H p=none->Q (.ref p) (upd H p (.tup (xs++ys))))
def Vals.nil_iff{us:List Value}(r:Vals xs us):us=[]↔xs=[]:=by
 cases r with
 |nil=>simp
 |cons _ _=>simp
theorem qg:OpR X (binaryOp .Add) (u0 X.K):=by
 intro pins s σ H x y v u Q I rx ry h;obtain⟨a,b,xs,ys,rfl,rfl,ha,hb,hx,hz,q1,q2⟩:=h;cases rx;cases ry;obtain⟨its,r1,p1,_⟩:=I.tuple ha;obtain⟨its2,r2,p2,_⟩:=I.tuple hb;refine HT.cat_tup p1 p2 (λz=>hx (r1.nil_iff.mp z)) (λz=>⟨.ref a,H,I,rfl,q1 (r2.nil_iff.mp z)⟩) (λz=>?_) (by rw[<-r1.length,<-r2.length];exact hz);refine⟨.ref s.heap.objs.size,_,I.laid (t':=s.toks) (o:=.tup (xs++ys)) (λb ob q=>de _ q) (bP _) ?_,rfl,q2 (λw=>z (r2.nil_iff.mpr w)) _ (I.hok.fresh (bP _))⟩;exact⟨by rw[dM];exact hz,_,r1.append r2,IsTup.new _ _⟩
end
def jh(n:Nat)(i:Int):Option Nat:=if 0<=i then(if i<n then some i.toNat else none) else if -(n:Int)<=i then some (i+n).toNat else none
def eD{α:Type}(xs:List α)(i:Int):Option α:=(jh xs.length i).bind λj=>xs[j]?
theorem gi(h:jh n i=some j):seqIndex? i n=some j/\j<n/\-(n:Int)<=i/\i<n:=by
 unfold jh at h
 by_cases h0:0<=i
 .rw[if_pos h0] at h
  by_cases h1:i<n
  .rw[if_pos h1] at h
   have e:i.toNat=j:=NJ h;exact⟨by rw[seqIndex_of h0 h1,e],by omega,by omega,h1⟩
  .rw[if_neg h1] at h;cases h
 .rw[if_neg h0] at h
  by_cases h1:-(n:Int)<=i
  .rw[if_pos h1] at h
   have e:(i+n).toNat=j:=NJ h;exact⟨by rw[seqIndex_neg (by omega) h1,e],by omega,h1,by omega⟩
  .rw[if_neg h1] at h;cases h
theorem gj{α:Type}{xs:List α}{v:α}(h:eD xs i=some v):∃j,seqIndex? i xs.length=some j/\xs[j]? = some v/\j<xs.length/\-(xs.length:Int)<=i/\i<xs.length:=by
 unfold eD at h;cases e:jh xs.length i with
 |none=>rw[e] at h;cases h
 |some j=>
  rw[e] at h;obtain⟨h1,h2,h3,h4⟩:=gi e;exact⟨j,h1,h,h2,h3,h4⟩
theorem cC{α:Type}{xs:List α}{v:α}(h:xs[j]? = some v):eD xs (j:Int)=some v:=by
 have hj:j<xs.length:=(Yaq.mp h).1;have e:jh xs.length (j:Int)=some j:=by
  unfold jh;rw[if_pos (by omega),if_pos (by omega)];simp
 unfold eD;rw[e];exact h
def kx(b:Expr):Prop:=∀o i,subscripted b false o i=operate [o,i] (getItem o i)
def IxR(X:Cx)(r:R2):Prop:=
 ∀(value slice:Expr) (pins:List (Addr×Obj)) (s:Shared) (σ:St) (H:Hp) (x y:V) (v u:Value) (Q:VK),Inv X pins σ H s->RelV x v->RelV y u->r x y H Q->
  subscripted slice false v u=operate [v,u] (getItem v u)->wpAny (model X.prog X.w) X.A (subscriptTail value slice v u) (EP X pins σ Q) X.xe s
def MtR(X:Cx)(id:String)(r:V->List V->Hp->VK->Prop):Prop:=
 ∀(pins:List (Addr×Obj)) (s:Shared) (σ:St) (H:Hp) (x:V) (xs:List V) (v:Value) (us:List Value) (Q:VK),Inv X pins σ H s->RelV x v->Vals xs us->r x xs H Q->
  wpAny (model X.prog X.w) X.A (call (.builtin id) (v::us)) (EP X pins σ Q) X.xe s
section
variable{a b:Expr}{ta tb:TE}
theorem IxR.or{r r':R2}(h:IxR X r)(h':IxR X r'):IxR X (λx y H Q=>r x y H Q\/r' x y H Q):=by
 intro value slice pins s σ H x y v u Q I rx ry q hs;rcases q with q|q
 .exact h value slice pins s σ H x y v u Q I rx ry q hs
 .exact h' value slice pins s σ H x y v u Q I rx ry q hs
theorem MtR.or{id:String}{r r':V->List V->Hp->VK->Prop}(h:MtR X id r)(h':MtR X id r'):MtR X id (λx xs H Q=>r x xs H Q\/r' x xs H Q):=by
 intro pins s σ H x xs v us Q I rx rs q;rcases q with q|q
 .exact h pins s σ H x xs v us Q I rx rs q
 .exact h' pins s σ H x xs v us Q I rx rs q
theorem u3{r:R2}(hr:IxR X r)(ha:PE X a ta)(hb:PE X b tb)(hs:kx b):PE X (.Subscript a b pos) (yr r ta tb):=by
 intro pins s σ H Q I h;exact Subscript_ (sj ha hb I h λv u s2 x y H2 I2 rx ry q=>hr a b pins s2 σ H2 x y v u Q I2 rx ry q (hs _ _))
def u4(K:NF):R2:=λx y H Q=>∃p xs i v,x=.ref p/\y=.int i/\SqL K H p xs/\eD xs i=some v/\Q v H
def u5(K:NF):R2:=λx y H Q=>∃p xs i v,x=.ref p/\y=.int i/\SqT K H p xs/\eD xs i=some v/\Q v H
def u6:R2:=λx y H Q=>∃z i c,x=.str z/\y=.int i/\z.length<=sizeLine/\eD z.cps.toList i=some c/\Q (.str ⟨#[c]⟩) H
theorem ix_list:IxR X (u4 X.K):=by
 intro value slice pins s σ H x y v u Q I rx ry h hs;obtain⟨p,xs,i,z,rfl,rfl,hq,he,q⟩:=h;cases rx;obtain⟨t,rfl⟩:=ry;obtain⟨its,r,pl,hz⟩:=I.list hq;obtain⟨j,h1,h2,h3,h4,h5⟩:=gj he;obtain⟨w,ew,rw'⟩:=r.get h2;have hl:=r.length;have hn:=eN;have fin:EP X pins σ Q w s:=⟨z,H,I,rw',q⟩
 by_cases h0:0<=i
 .have hj:i.toNat=j:=by
   rw[seqIndex_of h0 h5] at h1;exact NJ h1
  exact item_listR pl.isList h0 (by omega) (by rw[hj];simpa using ew) fin hs
 .have hj:(i+(its.toArray.size:Int)).toNat=j:=by
   rw[seqIndex_neg (by omega) h4] at h1;rw[dW,<-hl];exact NJ h1
  exact subscriptTail_builtinR (x:=w) pl.isList.typeIs slot_list_getitem.lookup
   (wpAny_getItem_list_neg (Q:=λr s'=>r=w/\EP X pins σ Q r s') pl.isList (by omega) (by rw[dW]<;>omega) (by omega) (by rw[hj];simpa using ew) ⟨rfl,fin⟩) hs
theorem ix_tup:IxR X (u5 X.K):=by
 intro value slice pins s σ H x y v u Q I rx ry h hs;obtain⟨p,xs,i,z,rfl,rfl,hq,he,q⟩:=h;cases rx;obtain⟨t,rfl⟩:=ry;obtain⟨its,r,pl,hz⟩:=I.tuple hq;obtain⟨j,h1,h2,h3,h4,h5⟩:=gj he;obtain⟨w,ew,rw'⟩:=r.get h2;have hl:=r.length;have hn:=eN;have fin:EP X pins σ Q w s:=⟨z,H,I,rw',q⟩
 exact subscriptTail_builtinR (x:=w) pl.typeIs slot_tuple_getitem.lookup
  (getItem_tuple (j:=j) (Q:=λr s'=>r=w/\EP X pins σ Q r s') pl (by omega) (by omega) (by rw[dW,<-hl];exact h1) (by simpa using ew) ⟨rfl,fin⟩) hs
theorem sH:IxR X u6:=by
 intro value slice pins s σ H x y v u Q I rx ry h hs;obtain⟨z,i,c,rfl,rfl,hz,he,q⟩:=h;obtain⟨t,rfl⟩:=rx;obtain⟨t',rfl⟩:=ry;obtain⟨j,h1,h2,h3,h4,h5⟩:=gj he;have hl:z.cps.toList.length=z.length:=by simp[Str.length]
 rw[hl] at h1 h4 h5;have hn:=eN;exact tail_any (typeIs_str s z t) slot_str_getitem.lookup (getItem_str (c:=c) (by
  have e1:decide (i < -(2^63:Int))=false:=NS (by omega);have e2:decide (i ≥ 2^63)=false:=NS (by omega);rw[e1,e2,Bool.or_false]) (by rw[h1];simpa using h2) ⟨.str ⟨#[c]⟩,H,I.tok _,⟨_,rfl⟩,q⟩) hs
def DD(K:NF):R2:=λx y H Q=>u4 K x y H Q\/u5 K x y H Q\/u6 x y H Q
def mR:IxR X (DD X.K):=ix_list.or (ix_tup.or sH)
theorem jQ(its:List Value)(n j:Nat)(u:Value):Obj.mapSeq (·.setIfInBounds j u) { cls:=.type "list",data:=.seq its.toArray n }={ cls:=.type "list",data:=.seq (its.set j u).toArray n }:=by
 simp[Obj.mapSeq]
theorem Inv.lst{pins:List (Addr×Obj)}{σ:St}{H:Hp}{s:Shared}{p:Addr}{xs:List V}(I:Inv X pins σ H s)(h:H p=some (.lst xs)) :
  ∃(its:List Value) (n:Nat),Vals xs its/\s.heap.get? p=some { cls:=.type "list",data:=.seq its.toArray n }/\xs.length<=sizeLine:=by
 obtain⟨z,its,n,r,e⟩:=I.hok p _ h;exact⟨its,n,r,e,z⟩
theorem Inv.lstUpd{p:Addr}{ys:List V}{its:List Value}{n':Nat}{f:Obj->Obj}(I:Inv X pins σ H s)(h:H p=some (.lst xs))
  (ho:s.heap.get? p=some { cls:=.type "list",data:=.seq its.toArray n }) (hf:f { cls:=.type "list",data:=.seq its.toArray n }={ cls:=.type "list",data:=.seq its'.toArray n' }) (r:Vals ys its') (hz:ys.length<=sizeLine) (t:Nat) :
  Inv X pins σ (upd H p (.lst ys)) { s with heap:=s.heap.update p f,toks:=t }:=by
 have e:(s.heap.update p f).get? p=some { cls:=.type "list",data:=.seq its'.toArray n' }:=by
  rw[xJ f ho (by rw[hf]<;>rfl),hf]
 refine I.write (x:=p) (e:=p) (by rw[h];trivial) (.inl rfl) (λb u hb q=>(rC _ _ (NO hb)).trans q) ⟨_,e⟩ ?_ (.inl ⟨_,h⟩);exact⟨hz,its',n',r,e⟩
def u7:V->V->V->Hp->(Hp->Prop)->Prop:=λo i v H Q=>∃p xs k j,o=.ref p/\i=.int k/\H p=some (.lst xs)/\jh xs.length k=some j/\Q (upd H p (.lst (xs.set j v)))
theorem dv:rZ X u7:=by
 intro pins s σ H o i v ov iv u Q I ro ri rv h;obtain⟨p,xs,k,j,rfl,rfl,hp,hj,q⟩:=h;cases ro;obtain⟨t,rfl⟩:=ri;obtain⟨its,n,r,ho,hz⟩:=I.lst hp;obtain⟨h1,h2,h3,h4⟩:=gi hj;have hl:=r.length;have hn:=eN;have I':Inv X pins σ (upd H p (.lst (xs.set j v))) { s with heap:=s.heap.update p (Obj.mapSeq (·.setIfInBounds j u)) }:=
  I.lstUpd hp ho (jQ its n j u) (r.set rv j) (by rw[cL];exact hz) s.toks
 by_cases h0:0<=k
 .have hk:k.toNat=j:=by
   rw[seqIndex_of h0 h4] at h1;exact NJ h1
  exact PySem.W.ki_setAt ho h0 (by omega) (by rw[dW,<-hl];exact h4) (by rw[hk];exact⟨_,I',q⟩)
 .have hk:(k+(its.toArray.size:Int)).toNat=j:=by
   rw[seqIndex_neg (by omega) h3] at h1;rw[dW,<-hl];exact NJ h1
  exact PySem.W.ki_setBack ho (by omega) (by rw[dW,<-hl];exact h3) (by omega) (by rw[hk];exact⟨_,I',q⟩)
theorem iJ(lo hi:Option Int)(n:Nat):(sliceBounds lo hi none n).1=((HT.sIx n 0 lo:Nat):Int)/\(sliceBounds lo hi none n).2.1=((HT.sIx n n hi:Nat):Int)/\(sliceBounds lo hi none n).2.2=1:=by
 refine⟨?_,?_,rfl⟩
 .cases lo with
  |none=>simp[sliceBounds,HT.sIx]
  |some i=>
   simp only[sliceBounds,HT.sIx,Option.getD_none,show(1:Int)>0 by decide,if_true]
   by_cases h:i<0
   .simp only[h,if_true]<;>omega
   .simp only[h,if_false]<;>omega
 .cases hi with
  |none=>simp[sliceBounds,HT.sIx]
  |some i=>
   simp only[sliceBounds,HT.sIx,Option.getD_none,show(1:Int)>0 by decide,if_true]
   by_cases h:i<0
   .simp only[h,if_true]<;>omega
   .simp only[h,if_false]<;>omega
theorem gK(its:List Value)(lo hi:Option Int):slicePick its.toArray lo hi none=((its.drop (HT.sIx its.length 0 lo)).take (HT.sIx its.length its.length hi-HT.sIx its.length 0 lo)).toArray:=by
 obtain⟨h1,h2,h3⟩:=iJ lo hi its.toArray.size;unfold slicePick;rw[h1,h2,h3];simp only[sliceRange_one,pick_run,dW]<;>rfl
def A8(K:NF):V->Option Int->Option Int->Hp->VK->Prop:=λx lo hi H Q=>∃a xs,x=.ref a/\SqL K H a xs/\∀p,H p=none->Q (.ref p) (upd H p (.lst (jg xs lo hi)))
theorem sl_list:SlR X (A8 X.K):=by
 intro pins s σ H x v vl vu lo hi sl Q I rx hs pl pu h;obtain⟨a,xs,rfl,hx,q⟩:=h;cases rx;obtain⟨its,r,ht,hz⟩:=I.list hx;have hlen:=r.length;refine⟨"list",_,slot_list_getitem.lookup,ht.isList.typeIs,?_⟩;refine wpAny_getItem_list_slice ht.isList hs pl pu .none (by simp) ?_ (by rw[dW]<;>omega);rw[gK,<-hlen];refine⟨.ref s.heap.objs.size,_,I.laid (t':=s.toks) (o:=.lst (jg xs lo hi)) (λb ob q=>de _ q) (bP _) ?_,rfl,q _ (I.hok.fresh (bP _))⟩;exact⟨gv (fA xs lo hi) hz,_,0,(r.drop (HT.sIx xs.length 0 lo)).take (HT.sIx xs.length xs.length hi-HT.sIx xs.length 0 lo),f9 _ rfl⟩
def eX:V->Bool
 |.non=>true
 |.bl _=>true
 |.int _=>true
 |.str _=>true
 |_=>false
def qP:V->V->Bool
 |.non,.non=>true
 |.bl a,.bl b=>a==b
 |.bl a,.int b=>(if a then 1 else 0)==b
 |.int a,.bl b=>a==(if b then 1 else 0)
 |.int a,.int b=>a==b
 |.str a,.str b=>a==b
 |_,_=>false
theorem sJ{y:V}{u v:Value}(ry:RelV y u)(rx:RelV x v)(fy:eX y=true)(fx:eX x=true):SeqAt.EqAt A s u v (qP y x):=by
 cases y with
 |non=>
  cases ry;cases x with
  |non=>cases rx;exact SeqAt.EqAt.same _
  |bl b=>cases rx;exact SeqAt.EqAt.none_bool b
  |int b=>obtain⟨t,rfl⟩:=rx;exact SeqAt.EqAt.none_int b t
  |str b=>obtain⟨t,rfl⟩:=rx;exact SeqAt.EqAt.none_str b t
  |_=>exact NH (show false=true from fx) i4
 |bl a=>
  cases ry;cases x with
  |non=>cases rx;exact SeqAt.EqAt.bool_none a
  |bl b=>cases rx;exact SeqAt.EqAt.bool_bool a b
  |int b=>obtain⟨t,rfl⟩:=rx;exact SeqAt.EqAt.bool_int a b t
  |str b=>obtain⟨t,rfl⟩:=rx;exact SeqAt.EqAt.bool_str a b t
  |_=>exact NH (show false=true from fx) i4
 |int a=>
  obtain⟨t',rfl⟩:=ry;cases x with
  |non=>cases rx;exact SeqAt.EqAt.int_none a t'
  |bl b=>cases rx;exact SeqAt.EqAt.int_bool a t' b
  |int b=>obtain⟨t,rfl⟩:=rx;exact SeqAt.EqAt.int_int a t' b t
  |str b=>obtain⟨t,rfl⟩:=rx;exact SeqAt.EqAt.int_str a t' b t
  |_=>exact NH (show false=true from fx) i4
 |str a=>
  obtain⟨t',rfl⟩:=ry;cases x with
  |non=>cases rx;exact SeqAt.EqAt.str_none a t'
  |bl b=>cases rx;exact SeqAt.EqAt.str_bool a t' b
  |int b=>obtain⟨t,rfl⟩:=rx;exact SeqAt.EqAt.str_int a t' b t
  |str b=>obtain⟨t,rfl⟩:=rx;exact SeqAt.EqAt.str_str a t' b t
  |_=>exact NH (show false=true from fx) i4
 |_=>exact NH (show false=true from fy) i4
def qh(x:V)(u:Value):Bool:=match u with
 |.none=>qP .non x
 |.bool b=>qP (.bl b) x
 |.int i _=>qP (.int i) x
 |.str z _=>qP (.str z) x
 |_=>false
theorem mS{y:V}{u:Value}(r:RelV y u)(f:eX y=true):qh x u=qP y x:=by
 cases y with
 |non=>cases r;rfl
 |bl b=>cases r;rfl
 |int i=>obtain⟨t,rfl⟩:=r;rfl
 |str z=>obtain⟨t,rfl⟩:=r;rfl
 |_=>exact NH (show false=true from f) i4
theorem iK{x:V}:∀{xs:List V} {us:List Value},Vals xs us->xs.all eX=true->us.any (qh x)=xs.any λy=>qP y x
 |_,_,.nil,_=>rfl
 |y::xs,u::us,.cons r t,f=>by
  rw[tQ,dj] at f;rw[xK,xK,mS r f.1,iK t f.2]
theorem gB{A:Around}{s:Shared}{x:V}{v:Value}(rx:RelV x v)(fx:eX x=true):∀{xs:List V} {us:List Value},Vals xs us->xs.all eX=true->∀u∈us,SeqAt.EqAt A s u v (qh x u)
 |_,_,.nil,_=>λu hu=>by cases hu
 |y::xs,u::us,.cons r t,f=>λu' hu=>by
  rw[tQ,dj] at f;rcases Yan.mp hu with rfl|hu
  .rw[mS r f.1];exact sJ r rx f.1 fx
  .exact gB rx fx t f.2 u' hu
def yu(x:V)(xs:List V):Bool:=xs.any λy=>qP y x
def DE(K:NF)(neg:Bool):R2:=λx y H Q=>∃p xs,y=.ref p/\(SqL K H p xs\/SqT K H p xs)/\eX x=true/\xs.all eX=true/\Q (.bl (if neg then !yu x xs else yu x xs)) H
theorem iM:OpR X (compareOp .NotIn) (DE X.K true):=by
 intro pins s σ H x y v u Q I rx ry h;obtain⟨p,xs,rfl,hq,fx,fs,q⟩:=h;cases ry;rcases hq with hq|hq
 .obtain⟨its,r,pl,hz⟩:=I.list hq
  refine SeqAt.notIn_listAt (qh x) pl.isList (λw hw=>gB rx fx r fs w (by simpa using hw)) ⟨.bl _,H,I,rfl,?_⟩;rw[show its.toArray.any (qh x)=its.any (qh x) by simp,iK r fs];exact q
 .obtain⟨its,r,pl,hz⟩:=I.tuple hq
  refine SeqAt.notIn_tupleAt (qh x) pl (λw hw=>gB rx fx r fs w (by simpa using hw)) ⟨.bl _,H,I,rfl,?_⟩;rw[show its.toArray.any (qh x)=its.any (qh x) by simp,iK r fs];exact q
theorem iN:CallR X (.builtin "len") (λxs H Q=>∃p ys,xs=[.ref p]/\(SqL X.K H p ys\/SqT X.K H p ys)/\Q (.int ys.length) H):=by
 intro pins s σ H xs us Q I r h;obtain⟨p,ys,rfl,hq,q⟩:=h;obtain⟨u,rfl,rx⟩:=dO r;cases rx;have hn:=eN;rcases hq with hq|hq
 .obtain⟨its,r',pl,hz⟩:=I.list hq
  have hlen:=r'.length;exact Calls.call_len_list pl.isList (by simp only[dW]<;>omega) ⟨.int ys.length,H,I.tok _,⟨s.toks+1,by rw[dW,hlen]⟩,q⟩
 .obtain⟨its,r',pl,hz⟩:=I.tuple hq
  have hlen:=r'.length;exact len_tuple pl (by simp only[dW]<;>omega) ⟨.int ys.length,H,I.tok _,⟨s.toks+1,by rw[dW,hlen]⟩,q⟩
theorem CallR.or{f:Value}{r r':List V->Hp->VK->Prop}(h:CallR X f r)(h':CallR X f r'):CallR X f (λxs H Q=>r xs H Q\/r' xs H Q):=by
 intro pins s σ H xs us Q I rs q;rcases q with q|q
 .exact h pins s σ H xs us Q I rs q
 .exact h' pins s σ H xs us Q I rs q
theorem iO:CallR X (.type "list") (λxs H Q=>∃p ys,xs=[.ref p]/\(SqL X.K H p ys\/SqT X.K H p ys)/\∀l,H l=none->Q (.ref l) (upd H l (.lst ys))):=by
 intro pins s σ H xs us Q I r h;obtain⟨p,ys,rfl,hq,q⟩:=h;obtain⟨u,rfl,rx⟩:=dO r;cases rx;have fin:∀(its:List Value),Vals ys its->ys.length<=sizeLine->∀(h':Heap) (c':Nat),(∀b o',s.heap.get? b=some o'->h'.get? b=some o')->
   h'.get? s.heap.objs.size=some { cls:=.type "list",dict:=none,data:=.seq its.toArray c',slots:=#[] }->EP X pins σ Q (.ref s.heap.objs.size) { s with heap:=h' }:=λits r' hz h' c' kp e=>
  ⟨.ref s.heap.objs.size,_,I.laid (t':=s.toks) kp (bP _) (show ObjOk X.prog X.w _ h' _ (.lst ys) from⟨hz,its,c',r',e⟩),rfl,q _ (I.hok.fresh (bP _))⟩
 rcases hq with hq|hq
 .obtain⟨its,r',pl,hz⟩:=I.list hq
  have hlen:=r'.length;obtain⟨o,ho,hc,n,hd⟩:=pl.isList;exact call_list_seq p (.inl rfl) ho hc hd (λh' c' kp e=>fin its r' hz h' c' kp e) (by simp only[dW]<;>omega)
 .obtain⟨its,r',pl,hz⟩:=I.tuple hq
  have hlen:=r'.length;obtain⟨o,ho,hc,n,hd⟩:=pl;exact call_list_seq p (.inr rfl) ho hc hd (λh' c' kp e=>fin its r' hz h' c' kp e) (by simp only[dW]<;>omega)
theorem gL:CallR X (.type "tuple") (λxs H Q=>∃p ys,xs=[.ref p]/\((SqL X.K H p ys/\∀l,H l=none->Q (.ref l) (upd H l (.tup ys)))\/(SqT X.K H p ys/\Q (.ref p) H))):=by
 intro pins s σ H xs us Q I r h;obtain⟨p,ys,rfl,h⟩:=h;obtain⟨u,rfl,rx⟩:=dO r;cases rx;rcases h with⟨hq,q⟩|⟨hq,q⟩
 .obtain⟨its,r',pl,hz⟩:=I.list hq
  have hlen:=r'.length;refine call_tuple_list pl.isList (λh' kp=>?_) (by simp only[dW]<;>omega);have I1:Inv X pins σ H { s with heap:=h' }:=I.kept (t':=s.toks) kp;have I2:Inv X pins σ (upd H h'.objs.size (.tup ys)) { s with heap:=h'.push { cls:=.type "tuple",data:=.seq its.toArray } }:=
   I1.laid (t':=s.toks) (λb o e=>de _ e) (bP _) (show ObjOk X.prog X.w _ _ _ (.tup ys) from⟨hz,its,r',IsTup.new _ _⟩)
  exact⟨.ref h'.objs.size,_,I2,rfl,q _ (I1.hok.fresh (bP _))⟩
 .obtain⟨its,r',pl,hz⟩:=I.tuple hq
  exact call_tuple_same pl ⟨.ref p,H,I,rfl,q⟩
def DF(K:NF)(T:String)(x:V)(H:Hp):Prop:=match x with
 |.str _=>T = "str"
 |.int _=>T = "int"
 |.ref p=>(T = "list" /\∃xs,SqL K H p xs)\/(T = "tuple" /\∃o,K.lookup p=some o/\o.cls=.type "tuple" /\o.dict=none)\/
   (T = "dict" /\((∃kvs,H p=some (.dK kvs))\/∃kvs,H p=some (.dT kvs)))\/(T = "set" /\∃S n,H p=some (.set S n))
 |_=>False
theorem sK{T:String}{v:Value}(I:Inv X pins σ H s)(r:RelV x v)(ty:DF X.K T x H) :
  s.TypeIs v T/\∀a,v=.ref a->∃ob,s.heap.get? a=some ob/\ob.dict=none:=by
 cases x with
 |str z=>
  obtain⟨t,rfl⟩:=r;cases(show T = "str" from ty);exact⟨typeIs_str s z t,λ_ e=>nomatch e⟩
 |int i=>
  obtain⟨t,rfl⟩:=r;cases(show T = "int" from ty);exact⟨typeIs_int s i t,λ_ e=>nomatch e⟩
 |ref p=>
  cases r;rcases ty with⟨rfl,xs,hq⟩|⟨rfl,o,hk,hc,hd⟩|⟨rfl,hk⟩|⟨rfl,S,n,hk⟩
  .obtain⟨its,_,pl,_⟩:=I.list hq
   refine⟨pl.isList.typeIs,λa e=>?_⟩;cases e;obtain⟨o,n,e,c,hd,_⟩:=pl;exact⟨o,e,hd⟩
  .refine⟨⟨o,I.kIn p o hk,hc⟩,λa e=>?_⟩
   cases e;exact⟨o,I.kIn _ o hk,hd⟩
  .have z:∃o,s.heap.get? p=some o/\o.ExactDict:=by
    rcases hk with⟨kvs,hk⟩|⟨kvs,hk⟩
    .obtain⟨_,_,_,_,o,_,_,e,ex,_⟩:=I.hok p _ hk
     exact⟨o,e,ex⟩
    .obtain⟨_,_,_,_,o,_,_,e,ex,_⟩:=I.hok p _ hk
     exact⟨o,e,ex⟩
   obtain⟨o,e,ex⟩:=z;refine⟨⟨o,e,ex.1⟩,λa e2=>?_⟩;cases e2;exact⟨o,e,ex.2.1⟩
  .obtain⟨o,_,_,_,e,ex,_⟩:=I.hok p _ hk
   refine⟨⟨o,e,ex.1⟩,λa e2=>?_⟩;cases e2;exact⟨o,e,ex.2.1⟩
 |_=>exact NT ty
def HQ(K:NF)(T:String)(r:V->List V->Hp->VK->Prop)(to:TE)(t:TA):TE:=λσ H Q=>to σ H λx H1=>DF K T x H1/\t σ H1 λxs H2=>r x xs H2 Q
variable{o:Expr}{es:List Expr}{to:TE}{t:TA}{name:Str}{apos cpos:Pos}{T id:String}{r:V->List V->Hp->VK->Prop}
theorem mT(pa:PlainAttrs T)(slot:Slot T name id)(hty:typeOf (.builtin id)=pure (.type "method_descriptor"))(hm:MtR X id r)(ho:PE X o to)(ha:PA X (e::es) t)
  (hbase:attributeBase o name X.env (eval o X.env)=eval o X.env:=by rfl)
  (hfew:((backTo cpos (starEach (e::es) X.env)).all (λx=>!x.1) && (backToKw cpos (keywordEach [] X.env)).all (λx=>x.1.isSome)
   && decide ((e::es).length+([]:List Keyword).length+(if([]:List Keyword).isEmpty then 0 else 1)<30))=true:=by rfl)
  (hline:(apos.endLine==cpos.line)=true:=by rfl) (hs:starEach (e::es) X.env=(false,eval e X.env)::starEach es X.env:=by rfl) (hplain:(backTo cpos (starEach es X.env)).any (·.1)=false:=by rfl) :
  PE X (.Call (.Attribute o name apos) (e::es) [] cpos) (HQ X.K T r to t):=by
 intro pins s σ H Q I h;refine wpAny_Call_method_late hbase hfew hline rfl (bA (ho pins s σ H _ I h) λv s1 ⟨x,H1,I1,r1,ty,q1⟩=>?_);obtain⟨h1,h2⟩:=sK I1 r1 ty;refine⟨T,id,pa,slot,hty,h1,h2,?_⟩;have hA:=ha cpos pins s1 σ H1 _ I1 q1;rw[hs] at hA ⊢;refine Calls.callWith_builtin (by show(false||(backTo cpos (starEach es X.env)).any (·.1))=false;rw[hplain]<;>rfl) (Calls.evalArgs_plain ?_);exact bA hA λus s2 ⟨vs,H2,I2,r2,q2⟩=>hm pins s2 σ H2 x vs v us Q I2 r1 r2 q2
/- xs.append(e),list.index on a module's tuple .. are MtR facts of 06m -/
end
def DG(X:Cx)(id:String)(r:V->List V->Hp->VK->Prop):Prop:=
 ∀(pins:List (Addr×Obj)) (s:Shared) (σ:St) (H:Hp) (x:V) (xs:List V) (v:Value) (us:List Value) (Q:VK),Inv X pins σ H s->RelV x v->Vals xs us->r x xs H Q->
  wpAny (model X.prog X.w) X.A (call (.builtin id) (v::us)) (EP X pins σ Q) X.xe s
def Vals.one:∀{x:V} {us:List Value},Vals [x] us->∃u,us=[u]/\RelV x u
 |_,_,.cons r .nil=>⟨_,rfl,r⟩
def Vals.two:∀{x y:V} {us:List Value},Vals [x,y] us->∃u v,us=[u,v]/\RelV x u/\RelV y v
 |_,_,_,.cons r (.cons q .nil)=>⟨_,_,rfl,r,q⟩
def Vals.zero:∀{us:List Value},Vals [] us->us=[]
 |_,.nil=>rfl
theorem Vals.eraseIdx:∀{xs:List V} {us:List Value} (i:Nat),Vals xs us->Vals (xs.eraseIdx i) (us.eraseIdx i)
 |_,_,_,.nil=>.nil
 |_,_,0,.cons _ t=>t
 |_,_,i+1,.cons r t=>.cons r (Vals.eraseIdx i t)
theorem Vals.reverse{xs:List V}{us:List Value}(h:Vals xs us):Vals xs.reverse us.reverse:=by
 induction h with
 |nil=>exact .nil
 |cons r t ih=>rw[tR,tR];exact Vals.append ih (.cons r .nil)
theorem Vals.rep{xs:List V}{us:List Value}(h:Vals xs us):∀k:Nat,Vals (List.replicate k xs).flatten (List.replicate k us).flatten
 |0=>.nil
 |k+1=>by
  rw[gw,gw,qC,qC];exact Vals.append h (Vals.rep h k)
theorem hZ{α:Type}:∀(l:List α) (i:Nat),(l.eraseIdx i).length<=l.length
 |[],_=>bP _
 |_::_,0=>Nat.le_succ _
 |_::r,i+1=>Nat.succ_le_succ (hZ r i)
theorem eC(its:List Value):∀(k:Nat) (acc:List Value),
  List.foldl (λx1 x2=>x1++x2) acc.toArray (List.replicate k its.toArray)=(acc++(List.replicate k its).flatten).toArray
 |0,acc=>by simp
 |k+1,acc=>by
  have e:acc.toArray++its.toArray=(acc++its).toArray:=by simp
  have e2:(acc++its)++(List.replicate k its).flatten=acc++(List.replicate (k+1) its).flatten:=by
   rw[gw,qC,lN]
  rw[<-e2,<-eC its k (acc++its),<-e,gw,List.foldl_cons]
section
variable{l b:Addr}{ys zs:List V}
theorem Inv.lset{its:List Value}(I:Inv X pins σ H s)(hH:H l=some (.lst xs))
  (e:s.heap.get? l=some { cls:=.type "list",data:=.seq its.toArray n }) (hf:f its.toArray=its'.toArray) (hv:Vals ys its') (hz:ys.length<=sizeLine) :
  Inv X pins σ (upd H l (.lst ys)) { s with heap:=s.heap.update l (Obj.mapSeq f),toks:=t' }:=by
 have q:=PySem.IsL.update e f;rw[hf] at q;refine I.write (x:=l) (e:=l) (by rw[hH];exact trivial) (.inl rfl) (λb' u hb hu=>(rC s.heap (Obj.mapSeq f) (NO hb)).trans hu) ⟨_,q⟩ ?_ (.inl ⟨_,hH⟩);exact⟨hz,its',_,hv,q⟩
theorem Inv.lnew{its:List Value}(I:Inv X pins σ H s)(hv:Vals ys its)(hz:ys.length<=sizeLine) :
  Inv X pins σ (upd H s.heap.objs.size (.lst ys)) { s with heap:=s.heap.push { cls:=.type "list",data:=.seq its.toArray },toks:=t' }:=
 I.laid (λ_ _ q=>de _ q) (bP _) ⟨hz,its,0,hv,f9 _ rfl⟩
def Inv.fresh(I:Inv X pins σ H s):H s.heap.objs.size=none:=I.hok.fresh (bP _)
theorem Inv.lstM(I:Inv X pins σ H s)(hH:H l=some (.lst xs)):xs.length<=sizeLine/\∃(its:List Value) (n:Nat),Vals xs its/\xs.length=its.length/\s.heap.get? l=some { cls:=.type "list",data:=.seq its.toArray n }:=by
 obtain⟨z,its,n,r,e⟩:=I.hok l _ hH;exact⟨z,its,n,r,r.length,e⟩
def mU(h:n<=sizeLine):Builtin.List.listTooLong n=false:=by
 unfold Builtin.List.listTooLong;exact NS (by omega)
end
section
def qi:V->List V->Hp->VK->Prop:=λx vs H Q=>∃l xs y,x=.ref l/\vs=[y]/\H l=some (.lst xs)/\xs.length<sizeLine/\Q .non (upd H l (.lst (xs++[y])))
theorem kT:DG X "list.append" qi:=by
 intro pins s σ H x vs v us Q I rx rv h;obtain⟨l,xs,y,rfl,rfl,hH,hz,q⟩:=h;cases rx;obtain⟨u,rfl,ru⟩:=rv.one;obtain⟨z,its,n,r,hl,e⟩:=I.lstM hH;refine call_meets F.slot_list_append ⟨_,e,rfl⟩ F.entry_list_append (F.args_list_append_2 _ _) (PySem.list_append l its.toArray n u (by rw[dW];omega)) ⟨e,?_⟩;refine⟨.non,_,I.lset (its':=its++[u]) hH e (by simp) (r.append (.cons ru .nil)) ?_,rfl,q⟩;rw[dM,j7];omega
def A9:R2:=λx y H Q=>∃l k xs,x=.ref l/\y=.int k/\H l=some (.lst xs)/\-(2^63)<=k/\k<2^63/\xs.length*k.toNat<=sizeLine/\
 ∀p,H p=none->Q (.ref p) (upd H p (.lst (List.replicate k.toNat xs).flatten))
theorem iP{α:Type}(xs:List α)(k:Nat):(List.replicate k xs).flatten.length=k*xs.length:=by
 induction k with
 |zero=>simp
 |succ k ih=>rw[gw,qC,dM,ih,nF,Nat.add_comm]
theorem mV:OpR X (binaryOp .Mult) A9:=by
 intro pins s σ H x y v u Q I rx ry h;obtain⟨l,k,xs,rfl,rfl,hH,h1,h2,hz,q⟩:=h;cases rx;obtain⟨t,rfl⟩:=ry;obtain⟨z,its,n,r,hl,e⟩:=I.lstM hH;have hlen:its.toArray.size*k.toNat<=sizeLine:=by rw[dW,<-hl];exact hz
 have hcap:¬its.toArray.size*k.toNat>(2^63-1)/8:=by
  have:(sizeLine:Nat)<=(2^63-1)/8:=by decide
  omega
 have hfit:¬(!Builtin.List.listFitsIndex k)=true:=by
  rw[fitsIndex_both h1 h2];exact i4
 have hlong:¬Builtin.List.listTooLong (its.toArray.size*k.toNat)=true:=by
  rw[mU hlen];exact i4
 have hnew:List.foldl (λx1 x2=>x1++x2) #[] (List.replicate (if its.toArray.isEmpty=true then 0 else k.toNat) its.toArray)=(List.replicate k.toNat its).flatten.toArray:=by
  have f0:∀m:Nat,List.foldl (λx1 x2=>x1++x2) #[] (List.replicate m its.toArray)=(List.replicate m its).flatten.toArray:=λm=>by
   have:=eC its m [];rw[et] at this;exact this
  rw[f0];cases its with
  |nil=>simp
  |cons a r'=>rw[if_neg (by simp)]
 refine wpAny_binaryOp_repeat_ref (T:= "list") (U:= "int") (by decide) ⟨_,e,rfl⟩ (λs'=>typeIs_int s' k t) noFill_list_mul F.fills_int_mul F.slot_int_rmul repeat_list F.slot_int_index.lookup
  (call_meets F.slot_int_rmul (typeIs_int s k t) F.entry_int_rmul (F.args_int_rmul_2 _ _) (int___rmul___int_list k t l its.toArray n)
   ⟨e,rfl,⟨_,e,rfl⟩,call_meets F.slot_list_mul ⟨_,e,rfl⟩ F.entry_list_mul (F.args_list_mul_2 _ _) (AutoListH.list___mul___list_int_3 l its.toArray n k t hfit hcap hlong) ⟨e,?_⟩⟩)
 rw[hnew];exact⟨.ref _,_,I.lnew (t':=s.toks) (r.rep k.toNat) (by rw[iP,xL];exact hz),rfl,q _ I.fresh⟩
end
section
variable{prog:Program}{w:World}{E:Value->Shared->Prop}
end
end L2
namespace Att
open PySem PySem.W PySem.Calls PyProof.Rows
theorem fK{P:Params}{h:Heap}:∀(ns:List Int) (vs:List Value),WellAll P h vs (ns.map WData.int)->IntsAre vs ns:=by
 intro ns
 induction ns with
 |nil=>
  intro vs w;rw[gx] at w;cases w;exact .nil
 |cons n ns ih=>
  intro vs w;rw[cV] at w;cases w with
  |cons a b=>
   cases a;exact .cons _ _ (ih _ b)
theorem kU{l:OpenLaw}{n:Nat}(hn:l.most=some n){P:Params}{h:Heap}{args:List WData}{vals:List Value}
  (hpre:l.row.toRowW.claim.pre args=true) (hwl:WellAll P h vals args) :
  ∃a vs ns,vals=[Value.ref a]/\args=[WData.list (ns.map WData.int)]/\h.get? a=some { cls:=.type "list",data:=.seq vs.toArray }/\IntsAre vs ns/\ns.length<=n:=by
 have hsh:WShape.hasAll [] args [.list .int]=true:=(pre_splitW hpre).1;have hc:l.pre.holds [] { args:=args }=true:=(pre_splitW hpre).2;obtain⟨d,r,rfl,h1,h2⟩:=hasAllW_cons hsh;obtain rfl:=hasAllW_nil h2;obtain⟨xs,rfl,h3⟩:=hasW_list h1;obtain⟨ns,rfl⟩:=items_int h3;have hlen:ns.length<=n:=by
  unfold OpenLaw.pre at hc;have h4:(WTm.not (.lt (.lit (.int (n:Int))) (.len (.arg 0)))).holds [] { args:=[.list (ns.map .int)] }=true:=by
   have h4:=(holds_andW hc).1;rw[hn] at h4;exact h4
  have h5:=condW_of h4 (w_not (w_lt w_lit (w_len_list (w_arg rfl))));rw[bL] at h5;refine Nat.le_of_not_lt λq=>?_;have q':(n:Int)<((ns.length:Nat):Int):=by omega
  first
   |(rw[NK q'] at h5;exact NH h5 (by decide))
   |(simp at h5;omega)
 cases hwl with
 |cons w1 w2=>
  cases w2;cases w1 with
  |list ho hall=>exact⟨_,_,ns,rfl,rfl,ho,fK ns _ hall,hlen⟩
theorem kW(l:OpenLaw)(args:List WData):l.row.toRowW.claim.post args (.bool true) args=true:=
 postW_of (r:=l.row.toRowW) (X:=(true==true))
  (show WShape.has [] (.bool true) .bool=true by first|rfl|decide|simp[WShape.has,WShape.arms,WShape.armsAll])
  (show(WTm.eq .res (.lit (.bool true))).value [] { args:=args,res:=some (.bool true),after:=args }=some (.bool (true==true)) from w_eq_bool (w_res rfl) w_lit) rfl
theorem attach_call{l:OpenLaw}{n:Nat}{q:Program}{loose:List Str}{XP:(Str->Option Value)->Heap->Prop}{YP:World->Heap->Prop}{d:DefRec}
  (hn:l.most=some n) (hdf:d.params.defaults=[])
  (call:∀ (w:World) (s₀ s₁:Shared) (mg mb:Str->Option Value) (fa:Addr) (o:Obj) (pm cd doc:Value) (a:Addr) (vs:List Value) (ns:List Int),
   Ground q loose [] XP w s₀ mg mb s₁.heap->YP w s₁.heap->
   s₁.heap.get? fa=some o->o.data=.func (docDef d.name d.params d.body d.scope pm cd doc)->s₁.heap.CodeRec cd d.name->mg d.name=some (.ref fa)->
   s₁.heap.get? a=some { cls:=.type "list",data:=.seq vs.toArray }->IntsAre vs ns->ns.length<=n->(a==sysModules)=false->s₁.gens = #[]->
   codeAny (model l.prog w) callerA (.call (.ref fa) ⟨[.ref a],[]⟩) (λr s'=>r=.ok (.ret (.bool true))/\OldK s₁.heap s'.heap/\s'.os=s₁.os/\AllBare s'.gens) s₁) :
  WalkO q loose XP YP l.row.toRowW d [] (λf vs=>PySem.call f vs):=by
 intro w s₀ s₁ mg mb G Y fa o pm cd doc dV kV ho hd hcd hD hmg hg args vals as hpre hlay hrd hwl hlo;obtain rfl:dV=.none:=Dflts.none hD hdf;obtain rfl:kV=.none:=Dflts.noKw hD;obtain⟨a,vs,ns,rfl,rfl,hobj,hints,hlen⟩:=kU hn hpre hwl;have hsy:(a == sysModules)=false:=hlo a (by
  cases hrd with
  |cons h1 h2=>cases h1;simp)
 refine enter_call (codeAny_mono (call w s₀ s₁ mg mb fa o pm cd doc a vs ns G Y ho (fd_plain hd) hcd hmg hobj hints hlen hsy hg) λr s' hq=>?_);obtain⟨rfl,h2,h3,h4⟩:=hq;exact⟨.inl ⟨.bool true,.bool true,[],rfl,λ_=>rfl,.bool true,kW l _,λ_=>⟨List.Pairwise.nil,λ_ hm=>(nomatch hm)⟩⟩,h2,h3,h4⟩
section
variable{prog:Program}{w:World}{A:Around}{E:Value->Shared->Prop}{s:Shared}{K:Frag}
end
end Att
namespace L2
open PySem PySem.Spec PyProof.Rows
variable{P:Program}{w:World}{K:NF}{mg:Str->Option Value}{k:Nat}{a f:Addr}{fd:FuncData}{x qual:Str}{l:PySem.W.OpenLaw}{XP:(Str->Option Value)->Heap->Prop}{YP:World->Heap->Prop}{st:Stmt}{ps vars:List Str}{osl:Array (Option Value)}{X:Cx}{H H1:Hp}{scope sc:Scope}{env:Env}{A:Around}{s:Shared}{Q:Env->Shared->Prop}{pins:List (Addr×Obj)}{σ:St}{sel:List Nat}{fp:List Addr}{tn:Nat->Heap->Prop}{wi:TI}
def h8:∀{vs:List Value} {ns:List Int},IntsAre vs ns->Vals (ns.map V.int) vs
 |_,_,.nil=>.nil
 |_,_,.cons n t h=>.cons ⟨t,rfl⟩ (h8 h)
def qj(H:Hp):Prop:=∀b,H b=none\/∃o xs,H b=some (.frz o (.lst xs))
theorem mW{mb:Str->Option Value}{CX:lR}{fa:Addr}{sp:Sp}{s₁:Shared}{vs:List Value}{ns:List Int}
  (KX:K.In s₁.heap) (hns:s₁.heap.Ns mainGlobals mg) (hb:s₁.heap.Ns builtinsNs mb) (hbb:∀x:Str,x≠ "__name__" ->mb x=bootBuiltins x) (hlim:s₁.heap.NoLimit) (hg:s₁.gens = #[])
  (ha:s₁.heap.get? a=some { cls:=.type "list",data:=.seq vs.toArray }) (hi:IntsAre vs ns) (hl:ns.length<=sizeLine) (hsy:(a==sysModules)=false) (hr:Room k callerA)
  (F:∀base:Heap,K.In base->base.Ns mainGlobals mg->FnOk P w K mg base CX k fa fd [x] sp) (hbind:∀(s:Shared) (u:Value),BindsTo s fd ⟨[u],[]⟩ [(x,u)])
  (hsp:∀H:Hp,qj H->SqL K H a (ns.map V.int)->sp [.ref a] H (λv _=>v=.bl true) λ_ _ _=>False)
  (hCX:∀H e s',CX [] H s₁ (λ_ _ _=>False) e s'->False) :
  codeAny (model P w) callerA (.call (.ref fa) ⟨[.ref a],[]⟩) (λr s'=>r=.ok (.ret (.bool true))/\OldK s₁.heap s'.heap/\s'.os=s₁.os/\AllBare s'.gens) s₁:=by
 have rv:=h8 hi;have lenV:=hi.length
 -- from an abstract heap in which nothing but the script may be tracked
 have core:∀H:Hp,qj H->SqL K H a (ns.map V.int)->HOk P w H s₁.heap->(∀b,H b≠none->b=a)->(H a≠none->K.lookup a=none)->
   codeAny (model P w) callerA (.call (.ref fa) ⟨[.ref a],[]⟩) (λr s'=>r=.ok (.ret (.bool true))/\OldK s₁.heap s'.heap/\s'.os=s₁.os/\AllBare s'.gens) s₁:=by
  intro H hO hS hok hA hK;have base_of:∀{b:Addr} {o:Obj},s₁.heap.get? b=some o->H b=none->(iB s₁.heap H).get? b=some o:=λe n=>ms e n;have noA:∀{b:Addr} {o:Obj} {es:Array DictEntry} {ep:Nat},s₁.heap.get? b=some o->o.data=.dict es ep->H b=none:=λ{b o es ep} e d=>by
   cases q:H b with
   |none=>rfl
   |some u=>
    have e':b=a:=hA b (by rw[q];simp);subst e';rw[ha] at e;cases e;have d':Data.seq vs.toArray _=Data.dict es ep:=d;cases d'
  have nsK:∀{b:Addr} {m:Str->Option Value},s₁.heap.Ns b m->(iB s₁.heap H).Ns b m:=λ{b m} ⟨o,es,ep,e,d,r⟩=>⟨o,es,ep,base_of e (noA e d),d,r⟩;have hKb:K.In (iB s₁.heap H):=λb o e=>base_of (KX b o e) (by
   cases q:H b with
   |none=>rfl
   |some u=>
    have e':b=a:=hA b (by rw[q];simp);subst e';rw[hK (by rw[q];simp)] at e;cases e)
  have hM:Mod K mg (iB s₁.heap H):=⟨hKb,nsK hns,⟨mb,nsK hb,hbb⟩,let⟨mc,h1,h2⟩:=hlim;⟨mc,nsK h1,h2⟩⟩
  have e0:Env0 P w K mg (iB s₁.heap H) callerA [] s₁ H:=⟨rfl,hM,λb o e=>pO e,Nat.le_of_eq (kM _ _),trivial,λb hb=>NH (show b∈([]:List Addr) from hb) (by simp),hok,.of_eq hg,λxs q=>NH (hA sysModules (by rw[q];simp)).symm (beq_eq_false_iff_ne.mp hsy)⟩
  refine codeAny_mono ((F _ hKb (nsK hns)).run callerA [] s₁ H ⟨[.ref a],[]⟩ [.ref a] [.ref a] _ _ hr e0 (hbind s₁ (.ref a)) (.cons rfl .nil) (hsp H hO hS)) λr s' h=>?_;cases r with
  |error e=>exact(hCX H e s' h).elim
  |ok fl=>
   cases fl with
   |next=>exact NT h
   |brk=>exact NT h
   |cont=>exact NT h
   |ret u=>
    obtain⟨v,H',os,bare,un,hok',r',q⟩:=h;have q':v=.bl true:=q;subst q';obtain rfl:u=Value.bool true:=r';refine⟨rfl,OldK.of_keep λb o e=>?_,os,bare⟩;cases q:H b with
    |none=>exact un.keep b o e q (by intro z;exact NH (show b∈([]:List Addr) from z) (by simp)) (by simp)
    |some u=>
     rcases hO b with z|⟨ob,xs,z⟩
     .rw[q] at z;cases z
     .have z2:=un.frzs b ob _ z
      obtain⟨e1,_⟩:=hok b _ z;obtain⟨e2,_⟩:=hok' b _ z2;rw[e] at e1;cases e1;exact e2
 cases hk:K.lookup a with
 |some o=>
  -- the script is one of the module's own objects
  have e:=KX a o hk;rw[ha] at e;cases e;refine core (λ_=>none) (λ_=>.inl rfl) (.inr ⟨_,vs.toArray,_,hk,rfl,rfl,rfl,by rw[dW,lenV];exact hl,by simpa using rv⟩) (λb u z=>by have z':(none:Option HO)=some u:=z;cases z') (λb z=>NH rfl z) λz=>NH rfl z
 |none=>
  refine core (λb=>if b=a then some (.frz { cls:=.type "list",data:=.seq vs.toArray } (.lst (ns.map V.int))) else none) (λb=>?_) (.inl (.inr ⟨{ cls:=.type "list",data:=.seq vs.toArray },if_pos rfl⟩)) (λb u z=>?_) (λb z=>?_) λ_=>hk
  .by_cases hb:b=a
   .exact .inr ⟨_,_,if_pos hb⟩
   .exact .inl (if_neg hb)
  .by_cases hb:b=a
   .have z':=(if_pos hb).symm.trans z
    cases z';subst hb;exact⟨ha,by rw[bL];exact hl,vs,_,rv,ha⟩
   .have z':=(if_neg hb).symm.trans z
    cases z'
  .by_cases hb:b=a
   .exact hb
   .exact NH (if_neg hb) z
theorem walk_of{n:Nat}{q:Program}{loose:List Str}{d:DefRec}{K:Params->NF}{CX:World->lR}{sp:World->Sp}
  (hn:l.most=some n) (hn2:n<=sizeLine) (hdf:d.params.defaults=[]) (hr:Room k callerA)
  (hY:∀(w:World) (h:Heap),YP w h->(K w.params).In h)
  (F:∀ (w:World) (mg:Str->Option Value) (fa:Addr) (h:Heap),(K w.params).In h->h.Ns mainGlobals mg->mg d.name=some (.ref fa)->
   ∃fd:FuncData,(∀(s:Shared) (u:Value),BindsTo s fd ⟨[u],[]⟩ [(x,u)])/\
    ∀base:Heap,(K w.params).In base->base.Ns mainGlobals mg->FnOk l.prog w (K w.params) mg base (CX w) k fa fd [x] (sp w))
  (hsp:∀(w:World) (H:Hp) (a:Addr) (ns:List Int),ns.length<=n->qj H->SqL (K w.params) H a (ns.map V.int)->sp w [.ref a] H (λv _=>v=.bl true) λ_ _ _=>False)
  (hCX:∀(w:World) (H:Hp) (s:Shared) (e:Value) (s':Shared),CX w [] H s (λ_ _ _=>False) e s'->False) :
  PySem.W.WalkO q loose XP YP l.row.toRowW d [] (λf vs=>PySem.call f vs):=by
 refine Att.attach_call hn hdf λw s₀ s₁ mg mb fa o pm cd doc a vs ns G Y ho hd hcd hmg hobj hints hlen hsy hg=>?_;have KX:=hY w _ Y;obtain⟨fd,hb,hF⟩:=F w mg fa _ KX G.T.g hmg;exact mW KX G.T.g G.T.b G.T.builtins G.T.nolimit hg hobj hints (gv hlen hn2) hsy hr hF hb (λH hO hS=>hsp w H a ns hlen hO hS) λH e s'=>hCX w H s₁ e s'
def cP(s:Stmt):Arguments:=match s with
 |.FunctionDef _ a _ _ _ _ _ _ _ _=>a
 |_=>{ posonlyargs:=[],args:=[],vararg:=none,kwonlyargs:=[],kw_defaults:=[],kwarg:=none,defaults:=[] }
def bF(s:Stmt):List Stmt:=match s with
 |.FunctionDef _ _ b _ _ _ _ _ _ _=>b
 |_=>[]
def aK(s:Stmt):Scope:=match s with
 |.FunctionDef _ _ _ _ _ _ sc _ _ _=>sc
 |_=>{ kind:=.function,names:=[],isGenerator:=false,isCoroutine:=false }
abbrev yv:lR:=λ_ _ _ _ _ _=>False
abbrev E0:XK:=λ_ _ _=>False
structure Fun(K:NF)(x qual:Str)(st:Stmt)(f:Addr)(fd:FuncData):Prop where
 ex:∃(oc:Value) (od:Option Addr) (kV doc pm:Value) (an:Option Addr) (cdv ct:Value) (osl:Array (Option Value)),
  fd=PySem.W.fnOf x qual (cP st) (bF st) (aK st) .none kV doc pm an cdv ct/\K.lookup f=some ⟨oc,od,.func fd,osl⟩/\PySem.W.codeIn K cdv qual=true
 kp:PySem.W.keepIn K (.ref f)=true
section
variable{base:Heap}
theorem Fun.ok{N:List Str}{sp:Sp}(F:Fun K x qual st f fd)(S:cO N ps (aK st))(len:∀vs H Q E,sp vs H Q E->vs.length=ps.length)
  (hbody:∀ (cdv:Value) (A:Around) (outer:List Env) (s:Shared) (H:Hp) (vs:List V) (Q:VK) (E:XK),Room k (A.deeper (envOfC qual (aK st) s.heap.objs.size f cdv))->sp vs H Q E->
   ∃t,PSs (dQ yv P w K mg base N qual (aK st) f cdv A outer s H E).nox (bF st) t/\t { nx:=λ_ H'=>Q .non H',rt:=Q } (start N vs) H):FnOk P w K mg base yv (k+1) f fd ps sp:=by
 obtain⟨oc,od,kV,doc,pm,an,cdv,ct,osl,rfl,lk,hcd⟩:=F.ex;refine qO lk hcd S len λA outer s H vs Q E hr hsp=>?_;obtain⟨t,h,q⟩:=hbody cdv A outer s H vs Q E hr hsp;exact⟨t,h.nox,q⟩
theorem Fun.binds(F:Fun K x qual st f fd)
  (h:∀(kV doc pm:Value) (an:Option Addr) (cdv ct:Value) (us:List Value),us.length=ps.length->bindArgs (PySem.W.fnOf x qual (cP st) (bF st) (aK st) .none kV doc pm an cdv ct) ⟨us,[]⟩=pure (ps.zip us)):Binds K fd ps []:=by
 obtain⟨oc,od,kV,doc,pm,an,cdv,ct,osl,rfl,lk,hcd⟩:=F.ex;exact .all (h kV doc pm an cdv ct)
theorem sL{oc:Value}{od an:Option Addr}{kV doc pm cdv ct:Value}(l:K.lookup f=some ⟨oc,od,.func (PySem.W.fnOf x qual (cP st) (bF st) (aK st) .none kV doc pm an cdv ct),osl⟩)
  (c:PySem.W.codeIn K cdv qual=true) (k:PySem.W.keepIn K (.ref f)=true):Fun K x qual st f (PySem.W.fnOf x qual (cP st) (bF st) (aK st) .none kV doc pm an cdv ct):=⟨⟨oc,od,kV,doc,pm,an,cdv,ct,osl,rfl,l,c⟩,k⟩
end
def Same(H H':Hp):Prop:=∀b o,H b=some o->H' b=some o
def Same.refl(H:Hp):Same H H:=λ_ _ h=>h
def Same.trans{H2:Hp}(a:Same H H1)(b:Same H1 H2):Same H H2:=λc o h=>b c o (a c o h)
theorem Same.free{H':Hp}(e:Same H H'){l:Addr}(h:H' l=Option.none):H l=Option.none:=by
 cases q:H l with
 |none=>rfl
 |some o=>
  rw[e l o q] at h;cases h
theorem Same.seq{H':Hp}{xs:List V}(e:Same H H')(h:SqL K H a xs):SqL K H' a xs:=by
 rcases h with(h|⟨o,h⟩)|h
 .exact .inl (.inl (e _ _ h))
 .exact .inl (.inr ⟨o,e _ _ h⟩)
 .exact .inr h
def qQ:List (Str×NameKind)->Bool
 |[]=>true
 |(n,_)::r=>!(r.any λy=>y.1==n)&&qQ r
def ji(sc outer:Scope):Bool:=
 decide (sc.kind=.function)&&qQ sc.names&&sc.names.all λy=>!decide (y.2=.free)||(decide (outer.names.lookup y.1=some .cell)||decide (outer.names.lookup y.1=some .free))
theorem Ba{α:Type}:∀{l:List (Str×α)} {n:Str},(l.any λy=>y.1==n)=false->l.lookup n=none
 |[],_,_=>rfl
 |(k,v)::r,n,h=>by
  simp only[xK,Bool.or_eq_false_iff] at h;have e:(n==k)=false:=by
   have:=h.1;simp only[beq_eq_false_iff_ne] at this ⊢;exact λz=>this z.symm
  rw[nG,e];exact Ba h.2
theorem yw:∀{l:List (Str×NameKind)} {n:Str} {k:NameKind},qQ l=true->(n,k)∈l->l.lookup n=some k
 |(m,j)::r,n,k,nd,h=>by
  simp only[qQ,dj,tS] at nd;rcases Yan.mp h with e|h2
  .cases e;simp
  .have hm:n≠m:=by
    rintro rfl;have:(r.any λy=>y.1==n)=true:=List.any_eq_true.mpr ⟨_,h2,by simp⟩;rw[nd.1] at this;cases this
   rw[nG,beq_eq_false_iff_ne.mpr hm];exact yw nd.2 h2
def cW(cells:List (Str×Addr)):List (Str×NameKind)->List (Str×Addr)->List (Str×Addr)
 |[],acc=>acc
 |(n,k)::r,acc=>if k==.free then cW cells r ((n,(cells.lookup n).getD 0)::acc) else cW cells r acc
theorem u8{cells:List (Str×Addr)}{x:Str}:∀{names:List (Str×NameKind)} {acc:List (Str×Addr)},qQ names=true->
  ((names.lookup x=some .free->∃c,(cW cells names acc).lookup x=some c/\(cells.lookup x).getD 0=c)/\(names.lookup x≠some .free->(cW cells names acc).lookup x=acc.lookup x))
 |[],acc,_=>⟨λh=>by simp at h,λ_=>rfl⟩
 |(m,k)::r,acc,nd=>by
  simp only[qQ,dj,tS] at nd
  by_cases hm:x=m
  .subst hm
   have hr:r.lookup x=none:=Ba nd.1;rw[show List.lookup x ((x,k)::r)=some k by simp];have ih:=@u8 cells x r
   by_cases hk:k=.free
   .subst hk
    refine⟨λ_=>⟨_,?_,rfl⟩,λh=>NH rfl h⟩;show(cW cells r ((x,_)::acc)).lookup x=_;rw[(ih nd.2).2 (by rw[hr];simp)];simp
   .refine⟨λh=>NH (NJ h) hk,λ_=>?_⟩
    have:cW cells ((x,k)::r) acc=cW cells r acc:=by
     show(if k==.free then _ else _)=_;rw[if_neg (by simpa using hk)]
    rw[this,(ih nd.2).2 (by rw[hr];simp)]
  .have e:List.lookup x ((m,k)::r)=r.lookup x:=by rw[nG,beq_eq_false_iff_ne.mpr hm]
   rw[e]
   by_cases hk:k=.free
   .subst hk
    have ih:=@u8 cells x r ((m,(cells.lookup m).getD 0)::acc) nd.2;have e2:List.lookup x ((m,(cells.lookup m).getD 0)::acc)=acc.lookup x:=by rw[nG,beq_eq_false_iff_ne.mpr hm]
    rw[e2] at ih;exact ih
   .have:cW cells ((m,k)::r) acc=cW cells r acc:=by
     show(if k==.free then _ else _)=_;rw[if_neg (by simpa using hk)]
    rw[this];exact @u8 cells x r acc nd.2
theorem Bb(h:∀y∈scope.names,y.2=.free->∃c,env.cells.lookup y.1=some c):closureFor scope env=pure (cW env.cells scope.names []):=by
  have gen:∀ (names:List (Str×NameKind)) (acc:List (Str×Addr)),(∀ y∈names,y.2 = .free->∃ c,env.cells.lookup y.1=some c)->
      (forIn names acc (fun (x:Str×NameKind) (r:List (Str×Addr))=>(if (x.2 == NameKind.free)=true then (do
        let c <-cellOf env x.1
        pure (ForInStep.yield ((x.1,c)::r))) else pure (ForInStep.yield r):Sem (ForInStep (List (Str×Addr))))))=(pure (cW env.cells names acc):Sem (List (Str×Addr))):=by
    intro names
    induction names with
    |nil=>intro acc _;rfl
    |cons y r ih=>
      intro acc hh;obtain⟨n,k⟩:=y;rw[Aw]
      by_cases hk:k=.free
      · subst hk
        obtain⟨c,hc⟩:=hh (n,.free) j5 rfl;have hc':env.cells.lookup n=some c:=hc;have e:cellOf env n=pure c:=by unfold cellOf;rw[hc']
        simp only[NV,if_true,e];have:=ih ((n,c)::acc) λy hy=>hh y (gI _ hy);have e3:cW env.cells ((n,.free)::r) acc=cW env.cells r ((n,c)::acc):=by
          show(if _ then _ else _)=_;rw[hc'];rfl
        rw[e3,<-this];rfl
      · have hb:(k==NameKind.free)=false:=by simpa using hk
        simp only[hb,dX,if_false];have:=ih acc λy hy=>hh y (gI _ hy);have e3:cW env.cells ((n,k)::r) acc=cW env.cells r acc:=by
          show(if _ then _ else _)=_;rw[if_neg (by simpa using hk)]
        rw[e3,<-this];rfl
  unfold closureFor;have:=gen scope.names [] h
  first
    |exact this
    | (show (forIn scope.names [] _ >>= λcs=>pure cs)=_
       refine Eq.trans (congrArg (· >>= λcs=>pure cs) this) rfl)
theorem qR{x:Str}:∀(names:List (Str×NameKind)) (n:Nat) (acc acc':List (Str×Addr)),qQ names=true->
  ((names.lookup x=some .cell->(cellsFrom n names acc).lookup x=(cellsFrom n names acc').lookup x)/\(names.lookup x≠some .cell->(cellsFrom n names acc).lookup x=acc.lookup x))
 |[],_,_,_,_=>⟨λh=>by simp at h,λ_=>rfl⟩
 |(m,k)::r,n,acc,acc',nd=>by
  simp only[qQ,dj,tS] at nd
  by_cases hm:x=m
  .subst hm
   have hr:r.lookup x=none:=Ba nd.1;rw[show List.lookup x ((x,k)::r)=some k by simp]
   by_cases hk:k=.cell
   .subst hk
    refine⟨λ_=>?_,λh=>NH rfl h⟩;have a:=(@qR x r (n+1) ((x,n)::acc) acc' nd.2).2 (by rw[hr];simp);have b:=(@qR x r (n+1) ((x,n)::acc') acc' nd.2).2 (by rw[hr];simp);show(cellsFrom (n+1) r ((x,n)::acc)).lookup x=(cellsFrom (n+1) r ((x,n)::acc')).lookup x;rw[a,b];simp
   .refine⟨λh=>NH (NJ h) hk,λ_=>?_⟩
    have e:cellsFrom n ((x,k)::r) acc=cellsFrom n r acc:=by
     show(if k==.cell then _ else _)=_;rw[if_neg (by simpa using hk)]
    rw[e,(@qR x r n acc acc' nd.2).2 (by rw[hr];simp)]
  .have e:List.lookup x ((m,k)::r)=r.lookup x:=by rw[nG,beq_eq_false_iff_ne.mpr hm]
   rw[e]
   by_cases hk:k=.cell
   .subst hk
    have ih:=@qR x r (n+1) ((m,n)::acc) ((m,n)::acc') nd.2;have e2:List.lookup x ((m,n)::acc)=acc.lookup x:=by rw[nG,beq_eq_false_iff_ne.mpr hm]
    rw[e2] at ih;exact ih
   .have e3:∀a:List (Str×Addr),cellsFrom n ((m,k)::r) a=cellsFrom n r a:=λa=>by
     show(if k==.cell then _ else _)=_;rw[if_neg (by simpa using hk)]
    rw[e3,e3];exact @qR x r n acc acc' nd.2
theorem DH:(relabel sc env).names.lookup x=(sc.names.lookup x).map λk=>if(k==NameKind.free&&env.scope.kind==.function&&env.kindOf x==some .cell)=true then .cell else k:=by
 show List.lookup x (sc.names.map _)=_;generalize sc.names=l
 induction l with
 |nil=>rfl
 |cons y r ih=>
  obtain⟨m,k⟩:=y
  by_cases hx:x=m
  .subst hx
   simp only[cV]
   by_cases hc:(k==NameKind.free&&env.scope.kind==.function&&env.kindOf x==some .cell)=true
   .rw[if_pos hc]
    simp only[nG,NV,uC];rw[if_pos hc]
   .rw[if_neg hc]
    simp only[nG,NV,uC];rw[if_neg hc]
  .have hb:(x==m)=false:=beq_eq_false_iff_ne.mpr hx
   simp only[cV]
   by_cases hc:(k==NameKind.free&&env.scope.kind==.function&&env.kindOf m==some .cell)=true
   .rw[if_pos hc];simp only[nG,hb];exact ih
   .rw[if_neg hc];simp only[nG,hb];exact ih
def ia(sc:Scope)(env:Env)(C:Addr):Env:=
 { scope:=relabel sc env,locals:=C,globals:=env.globals,cells:=cellsFrom (C+1) sc.names (cW env.cells sc.names []),qual:=env.qual,func:=none,code:=env.code,frame:=env.frame,builtins:=env.builtins }
theorem DI{M:Model}{E:Value->Shared->Prop}
  (h:Q { scope:=sc,locals:=s.heap.objs.size,globals:=env.globals,cells:=cellsFrom (s.heap.objs.size+1) sc.names (cW env.cells sc.names []),qual:=env.qual,func:=none,code:=env.code,frame:=env.frame,builtins:=env.builtins }
   { s with heap:=pushCells (s.heap.push { cls:=.type "dict",data:=.dict #[] }) sc.names }) :
  wpAny M A (newFunctionEnv sc env.globals (cW env.cells sc.names []) [] env.qual none .none (some env)) Q E s:=by
 simp only[newFunctionEnv,Option.isSome_some,if_true];refine NE (wpAny_alloc ?_);refine NE (wpAny_layCells _ (λname kind cells=>by cases hkc:kind==NameKind.cell<;>simp[hkc]) _ _ _ _ ?_);rw[show({ s with heap:=s.heap.push { cls:=.type "dict",data:=.dict #[] } }:Shared).heap.objs.size=s.heap.objs.size+1 from lM ..];exact NE (NG (NG h))
def Cx.lc(X:Cx)(sc:Scope)(vars:List Str)(sel:List Nat)(s:Shared)(H:Hp)(fp:List Addr):Cx where
 prog:=X.prog
 w:=X.w
 K:=X.K
 mg:=X.mg
 base:=X.base
 A:=X.A
 N:=vars++sel.map λj=>X.N.getD j ""
 s₀:=s
 H₀:=H
 env:=ia sc X.env s.heap.objs.size
 outer:=X.stack
 stack:=X.stack
 ex:=fp
 fn:=λx=>decide (sc.names.lookup x=some .cell)
 calm:=X.calm
 pn:=[]
 xe:=λ_ _=>False
def mX(N:List Str)(sc:Scope)(sel:List Nat):Bool:=sel.all λj=>match N[j]? with
 |some x=>decide (sc.names.lookup x=some .free)
 |none=>false
def fL(nv:Nat)(sel:List Nat)(σ:St):St:=List.replicate nv none++sel.map λj=>(σ[j]?).getD none
section
theorem yx(I:Inv X pins σ H s)(ok:ji sc X.env.scope=true):∀y∈sc.names,y.2=.free->∃c,X.env.cells.lookup y.1=some c:=λy hy hk=>by
 simp only[ji,dj,Ybh,xM,tS,NI,decide_eq_false_iff_not] at ok;rcases ok.2 y hy with z|z
 .exact NH hk z
 .exact I.ok.has y.1 z
theorem Zo(I:Inv X pins σ H s)(ok:ji sc X.env.scope=true)(so:mX X.N sc sel=true)(hf:∀b∈fp,dq X pins H b)(ho:∀b∈fp,∃o,s.heap.get? b=some o)(ha:X.env.scope.kind=.function:=by rfl) :
  Inv (X.lc sc vars sel s H fp) [] (fL vars.length sel σ) H { s with heap:=pushCells (s.heap.push { cls:=.type "dict",data:=.dict #[] }) sc.names }:=by
 have hcl:=yx I ok;have ok':=ok;simp only[ji,dj,Ybh,xM,tS,NI,decide_eq_false_iff_not] at ok';obtain⟨⟨hk,nd⟩,hfree⟩:=ok';have szp:(s.heap.push { cls:=.type "dict",data:=.dict #[] }).objs.size=s.heap.objs.size+1:=lM ..;have keep:∀b o,s.heap.get? b=some o->(pushCells (s.heap.push { cls:=.type "dict",data:=.dict #[] }) sc.names).get? b=some o:=λb o e=>pushCells_keeps _ _ _ _ (de _ e);have okc:=cellsFrom_ok sc.names (s.heap.push { cls:=.type "dict",data:=.dict #[] }) (s.heap.objs.size+1) [] ⟨λ_ _ hm=>(nomatch hm),List.Pairwise.nil⟩ (by rw[szp];exact bP _);rw[szp] at okc
 -- the cells of the block
 have own:∀x,sc.names.lookup x=some .cell->∃c,(ia sc X.env s.heap.objs.size).cells.lookup x=some c/\(x,c)∈cellsFrom (s.heap.objs.size+1) sc.names []:=λx hx=>by
  have e:=(qR sc.names (s.heap.objs.size+1) (cW X.env.cells sc.names []) [] nd).1 hx;obtain⟨c,hc⟩:=d6 (sc:=sc) (n:=s.heap.objs.size+1) hx;exact⟨c,by show(cellsFrom _ _ _).lookup x=_;rw[e];exact hc,NP hc⟩
 have clo:∀x,sc.names.lookup x=some .free->∃c,(ia sc X.env s.heap.objs.size).cells.lookup x=some c/\X.env.cells.lookup x=some c:=λx hx=>by
  have e:=(qR sc.names (s.heap.objs.size+1) (cW X.env.cells sc.names []) [] nd).2 (by rw[hx];decide);obtain⟨c,h1,h2⟩:=(@u8 X.env.cells x sc.names [] nd).1 hx;obtain⟨c',h3⟩:=hcl (x,.free) (NP hx) rfl;have h3':X.env.cells.lookup x=some c':=h3;rw[h3'] at h2;have h4:c'=c:=h2;subst h4;exact⟨c',by show(cellsFrom _ _ _).lookup x=_;rw[e];exact h1,h3'⟩
 have oth:∀x c,(ia sc X.env s.heap.objs.size).cells.lookup x=some c->sc.names.lookup x=some .cell\/sc.names.lookup x=some .free:=λx c hc=>by
  by_cases h1:sc.names.lookup x=some .cell
  .exact .inl h1
  .by_cases h2:sc.names.lookup x=some .free
   .exact .inr h2
   .have e:=(qR sc.names (s.heap.objs.size+1) (cW X.env.cells sc.names []) [] nd).2 h1
    have e2:=(@u8 X.env.cells x sc.names [] nd).2 h2;have hc':(cellsFrom (s.heap.objs.size+1) sc.names (cW X.env.cells sc.names [])).lookup x=some c:=hc;rw[e,e2] at hc';simp at hc'
 have ownC:∀x c,(x,c)∈cellsFrom (s.heap.objs.size+1) sc.names []->(pushCells (s.heap.push { cls:=.type "dict",data:=.dict #[] }) sc.names).IsCell c none/\s.heap.objs.size+1<=c:=λx c h=>okc.empty x c h;have cloLt:∀x c,X.env.cells.lookup x=some c->c<s.heap.objs.size:=λx c h=>by
  obtain⟨v,q⟩:=I.cell x c h;exact q.lt
 have noA:∀b∈fp,b<s.heap.objs.size:=λb hb=>by obtain⟨o,e⟩:=ho b hb;exact db e
 refine ⟨⟨I.ok.mod,hk,I.ok.glob,I.ok.blt,bP _,λx y c h1 h2=>?_,λx hx=>?_,λx c hx h=>?_,I.ok.hd,I.ok.frames,.inl rfl,λb hb=>⟨fJ (noA b hb),λx c h=>?_⟩,I.bs,gv I.ok.bsz I.sz,λb o e hb=>?_,λb hb hq=>?_,I.stack,I.stkFree,I.sysn⟩,
  rfl,I.bare,Un.kept keep,⟨λ_=>none,?_,λi x v h1 h2 h3=>?_⟩,λx c h=>?_,I.hok.fresh (bP _),λx c h=>?_,λp hp=>NH (show p∈([]:List (Addr×Obj)) from hp) (by simp),I.hok.kept keep,?_⟩
 ·-- inj
  replace h1:(ia sc X.env s.heap.objs.size).cells.lookup x=some c:=h1;replace h2:(ia sc X.env s.heap.objs.size).cells.lookup y=some c:=h2;rcases oth x c h1 with k1|k1<;>rcases oth y c h2 with k2|k2
  .obtain⟨c1,e1,m1⟩:=own x k1
   obtain⟨c2,e2,m2⟩:=own y k2;rw[h1] at e1;rw[h2] at e2;cases e1;cases e2;exact name_of_addr okc.apart m1 m2
  .obtain⟨c1,e1,m1⟩:=own x k1
   obtain⟨c2,e2,m2⟩:=clo y k2;rw[h1] at e1;rw[h2] at e2;cases e1;cases e2;exact NH (cU (cloLt y c m2) (Ax (ownC x c m1).2)) (gZ _)
  .obtain⟨c1,e1,m1⟩:=clo x k1
   obtain⟨c2,e2,m2⟩:=own y k2;rw[h1] at e1;rw[h2] at e2;cases e1;cases e2;exact NH (cU (cloLt x c m1) (Ax (ownC y c m2).2)) (gZ _)
  .obtain⟨c1,e1,m1⟩:=clo x k1
   obtain⟨c2,e2,m2⟩:=clo y k2;rw[h1] at e1;rw[h2] at e2;cases e1;cases e2;exact I.ok.inj x y c m1 m2
 ·-- has
  have hx':(relabel sc X.env).names.lookup x=some .cell\/(relabel sc X.env).names.lookup x=some .free:=hx;rw[DH] at hx';cases q:sc.names.lookup x with
  |none=>rw[q] at hx';simp at hx'
  |some k=>
   cases k with
   |cell=>obtain⟨c,e,_⟩:=own x q;exact⟨c,e⟩
   |free=>obtain⟨c,e,_⟩:=clo x q;exact⟨c,e⟩
   | «local»=>rw[q] at hx';simp at hx'
   |globalExplicit=>rw[q] at hx';simp at hx'
   |globalImplicit=>rw[q] at hx';simp at hx'
 .have hx':sc.names.lookup x=some .cell:=of_decide_eq_true hx
  obtain⟨c1,e1,m1⟩:=own x hx';have h':(ia sc X.env s.heap.objs.size).cells.lookup x=some c:=h;rw[h'] at e1;cases e1;have:=(ownC x c m1).2;show s.heap.objs.size<=c;omega
 .rcases oth x c h with k|k
  .obtain⟨c1,e1,m1⟩:=own x k
   rw[show(ia sc X.env s.heap.objs.size).cells.lookup x=some c from h] at e1;cases e1;exact λz=>NH (cU (noA b hb) (Ax (ownC x c m1).2)) (by rw[z];exact gZ _)
  .obtain⟨c1,e1,m1⟩:=clo x k
   rw[show(ia sc X.env s.heap.objs.size).cells.lookup x=some c from h] at e1;cases e1;exact(hf b hb).2.2.2.2.1 x c m1
 .have q:=(hf b hb).2.2.2.1
  rcases q with q|q
  .exact I.ok.noex b o e q
  .exact NH (cU (db (I.ok.bs b o e).1) q) (gZ _)
 .rcases Yan.mp (I.stkSub b hq) with z|z
  .exact(hf b hb).2.1 z
  .exact(hf b hb).2.2.1 z
 ·-- the names' dict
  refine Heap.Ns.keeps (h:=s.heap.push { cls:=.type "dict",data:=.dict #[] }) ?_ (λb o e=>pushCells_keeps _ _ _ _ e);exact⟨_,#[],_,f9 _ rfl,rfl,λe he=>NH he (by simp),λ_=>rfl⟩
 ·-- what is seen
  have hi:vars.length<=i:=by
   rcases gg i vars.length with z|z
   .exfalso
    unfold fL at h2;rw[j6 (by simpa using z),mo] at h2;split at h2<;>cases h2
   .exact z
  unfold fL at h2;rw[jt (by simpa using hi),pJ,cI] at h2;have h1':(vars++sel.map λj=>X.N.getD j "")[i]? = some x:=h1;rw[jt hi,cI] at h1';cases q:sel[i-vars.length]? with
  |none=>rw[q] at h2;cases h2
  |some j=>
   rw[q] at h1' h2;have e1:X.N.getD j "" = x:=NJ h1';have e2:(σ[j]?).getD none=some v:=NJ h2;have hj:∃y,X.N[j]? = some y/\sc.names.lookup y=some .free:=by
    have:=Ybh.mp so j (ge q);cases z:X.N[j]? with
    |none=>rw[z] at this;cases this
    |some y=>rw[z] at this;exact⟨y,rfl,of_decide_eq_true this⟩
   obtain⟨y,hy,hyf⟩:=hj;have:y=x:=by
    rw[<-e1,bD,hy];rfl
   subst this;have e3:σ[j]? = some (some v):=by
    cases z:σ[j]? with
    |none=>rw[z] at e2;cases e2
    |some w=>rw[z] at e2;exact congrArg some e2
   obtain⟨c,k1,k2⟩:=clo y hyf;have vis:kf X.env.scope y:=by
    rcases hfree (y,.free) (NP hyf) with z|z|z
    .exact NH rfl z
    .exact .inr (.inl z)
    .exact .inr (.inr z)
   obtain⟨m,hn,hl⟩:=I.loc;obtain⟨u,r,l⟩:=hl j y v hy e3 vis;refine⟨u,r,?_⟩;have notloc:X.env.kindOf y≠some .local:=by
    rcases hfree (y,.free) (NP hyf) with z|z|z
    .exact NH rfl z
    .show X.env.scope.names.lookup y≠_;rw[z];decide
    .show X.env.scope.names.lookup y≠_;rw[z];decide
   rcases l with⟨z,_⟩|⟨_,c',e',q'⟩
   .exact NH z notloc
   .rw[k2] at e';cases e'
    have kk:(ia sc X.env s.heap.objs.size).kindOf y=some .cell\/(ia sc X.env s.heap.objs.size).kindOf y=some .free:=by
     show(relabel sc X.env).names.lookup y=_\/(relabel sc X.env).names.lookup y=_;rw[DH,hyf];simp only[uC];split
     .exact .inl rfl
     .exact .inr rfl
    exact .inr ⟨kk,c,k1,q'.keeps keep⟩
 .rcases oth x c h with k|k
  .obtain⟨c1,e1,m1⟩:=own x k
   rw[show(ia sc X.env s.heap.objs.size).cells.lookup x=some c from h] at e1;cases e1;exact⟨none,(ownC x c m1).1⟩
  .obtain⟨c1,e1,m1⟩:=clo x k
   rw[show(ia sc X.env s.heap.objs.size).cells.lookup x=some c from h] at e1;cases e1;obtain⟨v,q⟩:=I.cell x c m1;exact⟨v,q.keeps keep⟩
 .rcases oth x c h with k|k
  .obtain⟨c1,e1,m1⟩:=own x k
   rw[show(ia sc X.env s.heap.objs.size).cells.lookup x=some c from h] at e1;cases e1;exact I.hok.fresh (by have:=(ownC x c m1).2;omega)
  .obtain⟨c1,e1,m1⟩:=clo x k
   rw[show(ia sc X.env s.heap.objs.size).cells.lookup x=some c from h] at e1;cases e1;exact I.freeC x c m1
 .show(fL vars.length sel σ).length=(vars++sel.map _).length
  unfold fL;simp
end
def PF(X:Cx)(ifs:List Expr)(t:TT):Prop:=
 ∀(pins:List (Addr×Obj)) (s:Shared) (σ:St) (H:Hp) (Q:Bool->Hp->Prop),Inv X pins σ H s->t σ H Q->
  wpAny (model X.prog X.w) X.A (forIn ifs true λc r=>if r=true then do let ok <-isTrue c X.env (eval c X.env);pure (ForInStep.yield ok) else pure (ForInStep.yield r)) (TP X pins σ Q) X.xe s
def u9:TT:=λ_ H Q=>Q true H
def HR:PF X [] u9:=λ_ _ _ H _ I h=>wpAny_tests_nil ⟨H,I,h⟩
def HS{c:Expr}{t:TT}(h:PT X c t):PF X [c] t:=λpins s σ H Q I q=>wpAny_tests_one (h pins s σ H Q I q)
def va(g:TG)(tf:TT)(te:TE)(J:It)(D:Addr)(Q:Hp->Prop)(W:Nat->Nat->List V->St->Hp->Prop):Prop:=
 ∀ i m ys σ2 H2,W i m ys σ2 H2->H2 D=some (.lst ys)/\((J.stop i H2/\Q H2)\/(J.go i H2/\∀ x H3,J.yld i H2 x H3->g x σ2 H3 λσ4 H4=>tf σ4 H4 λb H5=>
  if b=true then te σ4 H5 λv H6=>H6 D=some (.lst ys)/\ys.length<sizeLine/\∃m',m'<m/\W (i+1) m' (ys++[v]) σ4 (upd H6 D (.lst (ys++[v]))) else∃m',m'<m/\W (i+1) m' ys σ4 H5))
def Bc(wi:TI)(nv:Nat)(sel:List Nat)(g:TG)(tf:TT)(te:TE):TE:=λσ H Q=>wi σ H λJ H1=>∀D,H1 D=none->
 ∃W:Nat->Nat->List V->St->Hp->Prop,(∃m,W 0 m [] (fL nv sel σ) (upd H1 D (.lst [])))/\va g tf te J D (Q (.ref D)) W
section
variable{s2:Shared}{elt target iter:Expr}{ifs:List Expr}{pos:Pos}{g:TG}{tf:TT}{te:TE}
theorem HU{prog:Program}{R:Result->Shared->Prop}{it acc:Value}(I:Nat->Shared->Prop)
  (turn:∀ n s,I n s->wpAny (model prog w) A (pyNext it) (λr s₁=>match r with
   |none=>R (.ok .next) s₁
   | some v=>wpAny (model prog w) A (letOwnedTupleGo target it v) (λ_ s₁'=>wpAny (model prog w) A (assign target env v) (λ_ s₂=>
     wpAny (model prog w) A (forIn ifs true λc r=>if r=true then do let ok <- isTrue c env (eval c env);pure (ForInStep.yield ok) else pure (ForInStep.yield r)) (λok s₃=>
      if ok=true then wpAny (model prog w) A (eval elt env) (λx s₄=>
       wpAny (model prog w) A (call (.builtin "list.append") [acc,x]) (λ_ s₅=>∃m,m<n/\I m s₅) (λ_ _=>False) s₄) (λ_ _=>False) s₃
      else∃m,m<n/\I m s₃) (λ_ _=>False) s₂) (λ_ _=>False) s₁') (λ_ _=>False) s₁) (λ_ _=>False) s)
  (n:Nat) (h:I n s) :
  codeAny (model prog w) A (.compLoop (.ListComp elt [⟨target,iter,ifs,0⟩] scope pos) 0 it acc env) R s:=by
 refine codeAny_loop rfl I (λn s hI=>?_) n h;show wpAny _ A ((compTurn (.ListComp elt [⟨target,iter,ifs,0⟩] scope pos) 0 it acc env).onRaise (λx=>do noteFrame x env;theTreesLotGoes x)) _ _ s;refine wpAny_noted ?_;rw[compTurn_list];refine NE (NX (NE (NN (turn n s hI) (λr s₁ h₁=>?_) λ_ _ h'=>h'.elim)));cases r with
 |none=>exact NG h₁
 |some v=>
  refine NE (NN h₁ (λ_ s₁' h₁'=>?_) λ_ _ h'=>h'.elim);refine NE (NN h₁' (λ_ s₂ h₂=>NE (NN h₂ (λok s₃ h₃=>?_) λ_ _ h'=>h'.elim)) λ_ _ h'=>h'.elim);cases ok with
  |false=>exact NG ⟨rfl,h₃⟩
  |true=>
   exact NE (NE (NN h₃ (λx s₄ h₄=>NE (NN h₄ (λ_ s₅ h₅=>NG (NG ⟨rfl,h₅⟩)) λ_ _ h'=>h'.elim)) λ_ _ h'=>h'.elim))
theorem DJ{J:It}{it:Addr}{Q:VK}{E:Value->Shared->Prop}{R:Value->Addr->Result->Shared->Prop}(hc:X.calm=true)
  (hg:∀s H fp,PG (X.lc sc vars sel s H fp) target g) (hf:∀s H fp,PF (X.lc sc vars sel s H fp) ifs tf) (he:∀s H fp,PE (X.lc sc vars sel s H fp) elt te)
  (ok:ji sc X.env.scope=true) (so:mX X.N sc sel=true)
  (I2:Inv X pins σ H1 s2) (T:iH X.prog X.w X.K target J fp it tn) (st2:tn 0 s2.heap) (f2:∀b∈fp,dq X pins H1 b)
  (q:∀D,H1 D=none->∃W:Nat->Nat->List V->St->Hp->Prop,(∃m,W 0 m [] (fL vars.length sel σ) (upd H1 D (.lst [])))/\va g tf te J D (Q (.ref D)) W)
  (hR:∀D C H' s',Inv X pins σ H' s'->Q (.ref D) H'->(∃m,s'.heap.Ns C m)->dq X pins H' C->R (.ref D) C (.ok .next) s') :
  wpAny (model X.prog X.w) X.A (newList []) (λacc s₃=>wpAny (model X.prog X.w) X.A (newFunctionEnv sc X.env.globals (cW X.env.cells sc.names []) [] X.env.qual none .none (some X.env)) (λcenv s₄=>
   codeAny (model X.prog X.w) X.A (.compStart (.ListComp elt [⟨target,iter,ifs,0⟩] sc pos) 0 (.ref it) acc { cenv with scope:=relabel sc X.env }) (R acc cenv.locals) s₄) E s₃) E s2:=by
 refine NR ?_;have hD0:H1 s2.heap.objs.size=none:=I2.hok.fresh (bP _);obtain⟨W,⟨m0,w0⟩,turn⟩:=q _ hD0;have I3:Inv X pins σ (upd H1 s2.heap.objs.size (.lst [])) { s2 with heap:=s2.heap.push { cls:=.type "list",data:=.seq ([]:List Value).toArray },toks:=s2.toks }:=I2.lnew (ys:=[]) .nil (gJ _);have ho2:∀b∈fp,∃o,s2.heap.get? b=some o/\∀v,o.data≠.cell v:=T.obj _ _ st2;have lt2:∀b∈fp,b<s2.heap.objs.size:=λb hb=>by obtain⟨o,e,_⟩:=ho2 b hb;exact db e
 have f3:∀b∈fp,dq X pins (upd H1 s2.heap.objs.size (.lst [])) b:=λb hb=>⟨by rw[aG (fJ (lt2 b hb))];exact(f2 b hb).1,(f2 b hb).2⟩;have ho3:∀b∈fp,∃o,(s2.heap.push { cls:=.type "list",data:=.seq ([]:List Value).toArray }).get? b=some o:=λb hb=>by obtain⟨o,e,_⟩:=ho2 b hb;exact⟨o,de _ e⟩
 refine DI (s:={ s2 with heap:=s2.heap.push { cls:=.type "list",data:=.seq ([]:List Value).toArray },toks:=s2.toks }) ?_;generalize hs3:({ s2 with heap:=s2.heap.push { cls:=.type "list",data:=.seq ([]:List Value).toArray },toks:=s2.toks }:Shared)=s3 at I3 ⊢;have kp23:∀b o,s2.heap.get? b=some o->s3.heap.get? b=some o:=λb o e=>by rw[<-hs3];exact de _ e
 have sz3:s3.heap.objs.size=s2.heap.objs.size+1:=by rw[<-hs3];exact lM ..
 have os3:s3.os=s2.os:=by rw[<-hs3]
 have ho3':∀b∈fp,∃o,s3.heap.get? b=some o:=λb hb=>by rw[<-hs3];exact ho3 b hb
 have I4:=Zo (vars:=vars) I3 ok so f3 ho3' I2.ok.kind;have kp4:∀b o,s3.heap.get? b=some o->(pushCells (s3.heap.push { cls:=.type "dict",data:=.dict #[] }) sc.names).get? b=some o:=λb o e=>pushCells_keeps _ _ _ _ (de _ e);have st4:tn 0 (pushCells (s3.heap.push { cls:=.type "dict",data:=.dict #[] }) sc.names):=T.keep _ _ _ st2 λb hb o e=>kp4 b o (kp23 b o e)
 -- what stays true of the iterator
 have stat:∀{H':Hp},(∀b∈fp,H' b=none)->∀b∈fp,dq (X.lc sc vars sel s3 (upd H1 s2.heap.objs.size (.lst [])) fp) [] H' b:=λ{H'} hn b hb=>by
  refine⟨hn b hb,(I4.ok.exf b hb).1,I4.ok.exfs b hb,.inl hb,λx c e z=>(I4.ok.exf b hb).2 x c e z,λp hp=>NH (show p∈([]:List (Addr×Obj)) from hp) (by simp)⟩
 have loop:codeAny (model X.prog X.w) X.A (.compLoop (.ListComp elt [⟨target,iter,ifs,0⟩] sc pos) 0 (.ref it) (.ref s2.heap.objs.size) (ia sc X.env s3.heap.objs.size))
   (R (.ref s2.heap.objs.size) s3.heap.objs.size) { s3 with heap:=pushCells (s3.heap.push { cls:=.type "dict",data:=.dict #[] }) sc.names }:=by
  refine HU (λn s'=>∃i ys σ' H',Inv (X.lc sc vars sel s3 (upd H1 s2.heap.objs.size (.lst [])) fp) [] σ' H' s'/\tn i s'.heap/\(∀b∈fp,H' b=none)/\W i n ys σ' H') ?_ m0
   ⟨0,[],_,_,I4,st4,λb hb=>(f3 b hb).1,w0⟩
  rintro n s5 ⟨i,ys,σ5,H5,I5,st5,fr5,w5⟩;obtain⟨hD,⟨stop,qn⟩|⟨go,step⟩⟩:=turn i n ys σ5 H5 w5
  .refine bA (T.done (X.lc sc vars sel s3 (upd H1 s2.heap.objs.size (.lst [])) fp) rfl rfl rfl hc i [] s5 σ5 H5 _ I5 (stat fr5) st5 stop) λr s6 ⟨hr,I6⟩=>?_
   subst hr;have un:Un (cY X.stack) fp H1 H5 s2.heap s6.heap:=by
    have a:Un (cY X.stack) fp H1 (upd H1 s2.heap.objs.size (.lst [])) s2.heap s3.heap:=Un.laid kp23 (bP _) hD0;exact a.trans I6.base
   have I7:Inv X pins σ H5 s6:=I2.call' (ch:=fp) (I6.os.trans os3) un I6.hok I6.bare λb hb=>⟨(f2 b hb).2.2.2.1,(f2 b hb).2.1,(f2 b hb).2.2.2.2.1,(f2 b hb).2.2.2.2.2⟩;refine hR _ _ H5 s6 I7 qn ?_ ?_
   .obtain⟨m,hn,_⟩:=I6.loc
    exact⟨m,hn⟩
   .exact I3.fpOk (bP _) I6.free
  .refine bA (T.item (X.lc sc vars sel s3 (upd H1 s2.heap.objs.size (.lst [])) fp) rfl rfl rfl hc i [] s5 σ5 H5 _ I5 (stat fr5) st5 go) λr s6 ⟨u,hr,h6⟩=>?_
   subst hr;refine bA h6 λ_ s7 ⟨x,H7,I7,r7,y7,st7,fr7⟩=>?_;have I7':=I7.pinned (stat fr7) (T.obj _ _ st7);refine bA (hg _ _ _ _ s7 σ5 H7 x u _ I7' r7 (step x H7 y7)) λ_ s8 ⟨σ8,H8,I8,q8⟩=>?_;refine bA (hf _ _ _ _ s8 σ8 H8 _ I8 q8) λb s9 ⟨H9,I9,q9⟩=>?_;have back:∀{σ':St} {H':Hp} {s':Shared},Inv (X.lc sc vars sel s3 (upd H1 s2.heap.objs.size (.lst [])) fp) ([]++dZ fp s7.heap) σ' H' s'->tn (i+1) s'.heap/\∀b∈fp,H' b=none:=λ{σ' H' s'} I'=>by
    refine⟨T.keep _ _ _ st7 λb hb o e=>(I'.pin (b,o) (g6 _ (g6 _ (bQ hb e)))).1,λb hb=>?_⟩;obtain⟨o,e,d⟩:=T.obj _ _ st7 b hb;exact(I'.pin (b,o) (g6 _ (g6 _ (bQ hb e)))).2.1
   cases b with
   |false=>
    rw[if_neg (by decide)] at q9 ⊢;obtain⟨m',hm,w9⟩:=q9;exact⟨m',hm,i+1,ys,σ8,H9,I9.unpinned,(back I9).1,(back I9).2,w9⟩
   |true=>
    rw[if_pos rfl] at q9 ⊢;refine bA (he _ _ _ _ s9 σ8 H9 _ I9 q9) λv sA ⟨y,HA,IA,rA,hDA,hz,m',hm,wA⟩=>?_;obtain⟨z,its,nn,rr,hl,e⟩:=IA.lstM hDA;refine call_meets F.slot_list_append ⟨_,e,rfl⟩ F.entry_list_append (F.args_list_append_2 _ _) (PySem.list_append _ its.toArray nn v (by rw[dW];omega)) ⟨e,?_⟩;have IB:=IA.lset (its':=its++[v]) (f:=(·.push v)) (t':=sA.toks) hDA e (by simp) (rr.append (.cons rA .nil)) (by rw[dM,j7];omega);exact⟨m',hm,i+1,ys++[y],σ8,_,IB.unpinned,(back IB).1,(back IB).2,wA⟩
 exact codeAny_compStart_list loop (T.self _ 0 _ _ _ st4 loop)
theorem DK(vars:List Str)(sel:List Nat)(hc:X.calm=true)(hi:PI X target iter wi)
  (ok:ji sc X.env.scope=true) (so:mX X.N sc sel=true)
  (hg:∀s H fp,PG (X.lc sc vars sel s H fp) target g) (hf:∀s H fp,PF (X.lc sc vars sel s H fp) ifs tf) (he:∀s H fp,PE (X.lc sc vars sel s H fp) elt te)
  (hs:∀x,foldedSetIterable iter X.env x=pure x:=by intro _;rfl):PE X (.ListComp elt [⟨target,iter,ifs,0⟩] sc pos) (Bc wi vars.length sel g tf te):=by
 intro pins s σ H Q I h;rw[eval_ListComp];have ok':=ok;simp only[ji,dj,NI] at ok';refine N8 (use:=none) rfl hs (Bb (yx I ok)) ok'.1.1 (λx hx hl=>?_) ?_
 .obtain⟨n,k⟩:=x
  have hl':k=.local:=hl;subst hl';exact yw ok'.1.2 hx
 .refine bA (hi pins s σ H _ I h) λv s1 h1=>bA h1 λitv s2 h2=>?_
  obtain⟨it,fp,tn,J,H2,e,I2,T,st2,f2,q⟩:=h2;subst e;refine DJ (Q:=Q) hc hg hf he ok so I2 T st2 f2 q λD C H' s' I' q' hn fC=>?_;obtain⟨m,hn⟩:=hn;refine⟨m,hn,λh' hs'=>?_⟩;obtain⟨f0,f1,f2,f3,f4,f5⟩:=fC;exact⟨.ref D,H',I'.turned (t':=s'.toks) (λb o hb e=>(hs'.2 b hb).trans e) f0 f1 f3 f4 f5,rfl,q'⟩
theorem DL{i:Nat}{pos' spos:Pos}(vars:List Str)(sel:List Nat)(hc:X.calm=true)(hN:X.N.Nodup)(hix:X.N[i]? = some x)(hx:kj X.env.scope x)(hi:PI X target iter wi)
  (ok:ji sc X.env.scope=true) (so:mX X.N sc sel=true)
  (hg:∀s H fp,PG (X.lc sc vars sel s H fp) target g) (hf:∀s H fp,PF (X.lc sc vars sel s H fp) ifs tf) (he:∀s H fp,PE (X.lc sc vars sel s H fp) elt te)
  (hsw:swapsWith (.ListComp elt [⟨target,iter,ifs,0⟩] sc pos) (some (.Name x pos')) spos.line X.env=pure true)
  (hs:∀x,foldedSetIterable iter X.env x=pure x:=by intro _;rfl) (hfn:X.fn x=true\/X.env.scope.names.lookup x=some .local:=by first|exact .inl rfl|exact .inr rfl|assumption) :
  PS X (.Assign [.Name x pos'] (.ListComp elt [⟨target,iter,ifs,0⟩] sc pos) spos) (se (Bc wi vars.length sel g tf te) (km i)):=by
 intro pins s σ H D I h;rw[exec_Assign_Name_used _ _ _ _ hsw];refine NE (NX (NE ?_));show wpAny _ X.A (do let _ <-comprehension (.ListComp elt [⟨target,iter,ifs,0⟩] sc pos) sc X.env _ (newList []) false (eval iter X.env) (some (assign (.Name x pos') X.env))) _ _ s;have ok':=ok;simp only[ji,dj,NI] at ok';refine NE (NN (N8 (use:=some (assign (.Name x pos') X.env)) (Q:=λ_ s'=>SP X pins D .next s') rfl hs (Bb (yx I ok)) ok'.1.1 (λx hx hl=>?_) ?_) (λ_ s' q=>NG (NG q)) λ_ _ e=>e)
 .obtain⟨n,k⟩:=x
  have hl':k=.local:=hl;subst hl';exact yw ok'.1.2 hx
 .refine bA (hi pins s σ H _ I h) λv s1 h1=>bA h1 λitv s2 h2=>?_
  obtain⟨it,fp,tn,J,H2,e,I2,T,st2,f2,q⟩:=h2;subst e;refine DJ (Q:=λv H'=>km i v σ H' D.nx) hc hg hf he ok so I2 T st2 f2 q λD' C H' s' I' q' hn fC=>?_;obtain⟨m,hn⟩:=hn;obtain⟨f0,f1,f2,f3,f4,f5⟩:=id fC;refine wpAny_assign_Name (fc I' hN hix hx (v:=.ref D') rfl (λs'' I'' ⟨a,sb,ha⟩=>?_) hfn);have hCa:C≠a:=by
   rcases ha with z|z
   .rw[z];exact f1
   .exact NO (f4 x a z)
  refine⟨m,hn.sameBut sb hCa,λh' hs'=>?_⟩;exact⟨_,H',I''.turned (t':=s''.toks) (λb o hb e=>(hs'.2 b hb).trans e) f0 f1 f3 f4 f5,q'⟩
end
end L2
namespace HT
open PySem PySem.Spec PyProof.Rows
section
variable{prog:Program}{w:World}{A:Around}{E:Value->Shared->Prop}{s:Shared}
theorem getItem_tuple_whole{t sl:Addr}{items:Array Value}{vl vu:Value}{lo hi:Option Int}{Q:Value->Shared->Prop}(ht:IsTup s.heap t items)(hs:s.heap.IsSliceOf sl vl vu .none)(pl:IsPart vl lo)(pu:IsPart vu hi)
  (hw:sIx items.size 0 lo=0/\sIx items.size items.size hi=items.size) (h:Q (.ref t) s):wpAny (model prog w) A (getItem (.ref t) (.ref sl)) Q E s:=by
 obtain⟨os,hos,hcs,hds⟩:=id hs;have hTs:s.TypeIs (.ref sl) "slice" :=⟨os,hos,hcs⟩
 unfold getItem
 try with_reducible refine N3 ?_
 first|refine NE (NG ?_)|skip
 refine NE (wpAny_sequenceKey ht.typeIs (by decide) ?_);refine NE (wpAny_callSpecial?_slot (name:=Str.ofString "__getitem__") ht.typeIs PyProof.Rows.slot_tuple_getitem
  (NZ PyProof.Rows.slot_tuple_getitem ht.typeIs entry_tuple_getitem ?_ (args_tuple_getitem _ _)))
 show wpAny _ _ (Builtin.Tuple.tupleItemsOf (.ref t) >>= _) _ _ s;refine NE (tupleItemsOf_ ht ?_);refine NE (wpAny_typeOf hTs ?_);rw[if_pos (by decide)];refine NE (du hs pl pu ?_);have hyes:(((sIx items.size 0 lo:Nat):Int)==0&&(1:Int)==1&&(sIx items.size items.size hi-sIx items.size 0 lo)==items.size)=true:=by
  rw[hw.1,hw.2];simp
 show wpAny _ _ (if(((sIx items.size 0 lo:Nat):Int)==0&&(1:Int)==1&&(sIx items.size items.size hi-sIx items.size 0 lo)==items.size)=true then _ else _) _ _ s;rw[if_pos hyes];have ex:Builtin.Tuple.tupleIsExact (.ref t)=(do return(<-typeOf (.ref t))==.type "tuple"):=rfl;rw[ex];refine NE (NE (wpAny_typeOf ht.typeIs (NG ?_)));rw[if_pos (by decide)]
 first
  |exact NE (N4 (NE (NG (NG ⟨_,rfl,NG h⟩))))
  |exact NE (N4 (NG ⟨_,rfl,NG h⟩))
  |exact NE (N4 (NE (NG ⟨_,rfl,NG h⟩)))
theorem HV{sl:Addr}{tk:Tok}{n:Nat}{Q:Int×Int×Nat->Shared->Prop}(hs:s.heap.IsSliceOf sl .none .none (.int (-1) tk))
  (h:Q ((n:Int)-1,-1,n) s):wpAny (model prog w) A (Builtin.Slice.sliceApplied (.ref sl) (pure (n:Int))) Q E s:=by
 obtain⟨os,hos,hcs,hds⟩:=id hs;unfold Builtin.Slice.sliceApplied Builtin.Slice.sliceFields;refine NE (NE (NQ hos hds (x:=.none) rfl (NE (NQ hos hds (x:=.none) rfl (NE (NQ hos hds (x:=.int (-1) tk) rfl (NG ?_)))))));refine NE (slicePart_int ?_);show wpAny _ _ (if((-1:Int)==0)=true then _ else _) _ _ s;rw[if_neg (by decide)];refine NE (slicePart_none (NE (slicePart_none (NE (NG ?_)))));show wpAny _ _ (match Builtin.Slice.sliceAdjust none none (-1) (n:Int) with|(lo,hi)=>pure (lo,(-1:Int),Builtin.Slice.slicePlaces lo hi (-1))) _ _ s;have e:Builtin.Slice.sliceAdjust none none (-1) (n:Int)=((n:Int)-1,-1):=by
  unfold Builtin.Slice.sliceAdjust;simp
 rw[e];have e2:Builtin.Slice.slicePlaces ((n:Int)-1) (-1) (-1)=n:=by
  unfold Builtin.Slice.slicePlaces;simp
  try omega
 show wpAny _ _ (pure ((n:Int)-1,(-1:Int),Builtin.Slice.slicePlaces ((n:Int)-1) (-1) (-1))) _ _ s;rw[e2];exact NG h
theorem pick_rev(xs:Array Value):((List.range xs.size).filterMap λ(m:Nat)=>xs[((xs.size:Int)-1+(m:Int)*(-1)).toNat]?)=xs.toList.reverse:=by
 refine tT λi=>?_;have gen:∀(l:List Nat),(∀m∈l,m<xs.size)->(l.filterMap λ(m:Nat)=>xs[((xs.size:Int)-1+(m:Int)*(-1)).toNat]?)=l.map λm=>xs.toList.getD (xs.size-1-m) .none:=by
  intro l
  induction l with
  |nil=>intro _;rfl
  |cons m r ih=>
   intro hm;have h1:m<xs.size:=hm m j5;have h2:((xs.size:Int)-1+(m:Int)*(-1)).toNat=xs.size-1-m:=by omega
   have h3:xs.size-1-m<xs.size:=by omega
   rw[xF,h2,Array.getElem?_eq_getElem h3,cV,ih λk hk=>hm k (gI _ hk)];simp[bD,h3]
 rw[gen _ λm hm=>Yah.mp hm]
 by_cases hi:i<xs.size
 .rw[cI,jD hi,List.getElem?_reverse (by simpa using hi)]
  simp[bD];rw[Array.getElem?_eq_getElem (by omega)];simp
 .rw[eK (by simp;omega),eK (by simp;omega)]
theorem getItem_tuple_rev{t sl:Addr}{items:Array Value}{tk:Tok}{Q:Value->Shared->Prop}(ht:IsTup s.heap t items)(hs:s.heap.IsSliceOf sl .none .none (.int (-1) tk))(hsz:items.size<=sizeLine)
  (h:Q (.ref s.heap.objs.size) { s with heap:=s.heap.push { cls:=.type "tuple",data:=.seq items.toList.reverse.toArray } }):wpAny (model prog w) A (getItem (.ref t) (.ref sl)) Q E s:=by
 have htake:sizeOk (.seq items.toList.reverse.toArray):=by
  show items.toList.reverse.toArray.size<=sizeLine;simpa using hsz
 obtain⟨os,hos,hcs,hds⟩:=id hs;have hTs:s.TypeIs (.ref sl) "slice" :=⟨os,hos,hcs⟩
 unfold getItem
 try with_reducible refine N3 ?_
 first|refine NE (NG ?_)|skip
 refine NE (wpAny_sequenceKey ht.typeIs (by decide) ?_);refine NE (wpAny_callSpecial?_slot (name:=Str.ofString "__getitem__") ht.typeIs PyProof.Rows.slot_tuple_getitem
  (NZ PyProof.Rows.slot_tuple_getitem ht.typeIs entry_tuple_getitem ?_ (args_tuple_getitem _ _)))
 show wpAny _ _ (Builtin.Tuple.tupleItemsOf (.ref t) >>= _) _ _ s;refine NE (tupleItemsOf_ ht ?_);refine NE (wpAny_typeOf hTs ?_);rw[if_pos (by decide)];refine NE (HV hs ?_);show wpAny _ _ (if((((items.size:Int)-1)==0&&(-1:Int)==1&&items.size==items.size)=true) then _ else _) _ _ s;rw[if_neg (by simp),pick_rev]
 first
  |exact NE (m:=Builtin.Tuple.tupleExact _) (NR (NG ⟨_,rfl,NG h⟩) htake)
  |exact NE (m:=Builtin.Tuple.tupleExact _) (NR (NE (NG (NG ⟨_,rfl,NG h⟩))) htake)
  |exact NE (NE (m:=Builtin.Tuple.tupleExact _) (NR (NG (NG ⟨_,rfl,NG h⟩)) htake))
  |exact NE (NE (m:=Builtin.Tuple.tupleExact _) (NR (NG ⟨_,rfl,NG h⟩) htake))
end
end HT
namespace L2
open PySem PySem.Spec PyProof.Rows
variable{X:Cx}{e:Expr}{pos p:Pos}{xs vs ys:Array Value}{us bm bmB:List Value}{A:Around}{s:Shared}{P prog:Program}{env:Env}{outer:List Env}{l b a f:Addr}{Q:Value->Shared->Prop}{oe:Obj}{h h':Heap}{w:World}{g:Array GenState}{d:Drawn}{t t' i n1 k:Nat}{os:OsState}{nm q x n qual:Str}{N sn ns ps:List Str}{hdct ab κ κ':Bool}{col:Option Bool}{dd:Option Addr}{newId:String}{mN m mg:Str->Option Value}{y:Option Value}{H:Hp}{K:NF}{scope:Scope}{cd:Value}{pins:List (Addr×Obj)}{σ:St}{es:List Expr}{ta:TA}{fd:FuncData}{tk:Tok}
section
variable{te:TE}{p2:Pos}
def vb(K:NF):V->Option Int->Option Int->Hp->VK->Prop:=λx lo hi H Q=>∃a xs,x=.ref a/\SqT K H a xs/\
 (HT.sIx xs.length 0 lo=0/\HT.sIx xs.length xs.length hi=xs.length)/\Q (.ref a) H
theorem HW:SlR X (vb X.K):=by
 intro pins s σ H x v vl vu lo hi sl Q I rx hs pl pu h;obtain⟨a,xs,rfl,hx,hw,q⟩:=h;cases rx;obtain⟨its,r,ht,hz⟩:=I.tuple hx;have hlen:its.toArray.size=xs.length:=by rw[dW];exact r.length.symm
 refine⟨"tuple",_,PyProof.Rows.slot_tuple_getitem.lookup,ht.typeIs,?_⟩;exact HT.getItem_tuple_whole ht hs pl pu (by rw[hlen];exact hw) ⟨.ref a,H,I,rfl,q⟩
def Be(r:V->Hp->VK->Prop)(te:TE):TE:=λσ H Q=>te σ H λx H1=>r x H1 Q
def Bf(K:NF):V->Hp->VK->Prop:=λx H Q=>∃a xs,x=.ref a/\((SqT K H a xs/\∀p,H p=none->Q (.ref p) (upd H p (.tup xs.reverse)))\/(SqL K H a xs/\∀p,H p=none->Q (.ref p) (upd H p (.lst xs.reverse))))
theorem Vals.rev{xs:List V}(r:Vals xs us):Vals xs.reverse us.reverse:=by
 induction xs generalizing us with
 |nil=>cases r;exact .nil
 |cons x xs ih=>cases r with|cons r t=>rw[tR,tR];exact(ih t).append (.cons r .nil)
theorem HX(its:List Value):slicePick its.toArray none none (some (-1))=its.reverse.toArray:=by
 have e:slicePick its.toArray none none (some (-1))=((sliceRange ((its.length:Int)-1) (-1) (-1)).filterMap (its.toArray[·]?)).toArray:=by
  unfold slicePick sliceBounds;simp
 rw[e];congr 1;have h:=HT.pick_rev its.toArray;rw[dW] at h;have h':its.toArray.toList.reverse=its.reverse:=by simp
 rw[h'] at h;rw[<-h];unfold sliceRange;simp only[show¬((-1:Int)>0) by decide,if_false];have hn:(if(-1:Int)<(its.length:Int)-1 then(its.length:Int) else 0).toNat=its.length:=by split<;>omega
 simp;rw[hn];rfl
theorem HY{j pos3 pos4}(he:PE X e te):PE X (.Subscript e (.Slice none none (some (.UnaryOp .USub (.Constant (.int 1) j pos3) pos4)) p2) pos) (Be (Bf X.K) te):=by
 intro pins s σ H Q I h;refine Subscript_ (bA (he pins s σ H _ I h) λv s1 ⟨x,H1,I1,r1,a,xs,ex,q1⟩=>?_);subst ex;cases r1;refine wpAny_Slice ?_;rw[evalPart_none];refine NG (NG ?_);rw[evalPart_some];refine bA (qL (mG (X:=X)) jH pins s1 σ H1 (λx H'=>x=.int (-1)/\H'=H1) I1 ⟨1,rfl,rfl,rfl⟩) λu s3 ⟨y,H3,I3,r3,e3,e4⟩=>?_;subst e3;obtain rfl:=e4.symm;obtain⟨tk,rfl⟩:=r3;have I4:Inv X pins σ H1 { s3 with heap:=s3.heap.push { cls:=.type "slice",data:=.fields #[.none,.none,.int (-1) tk] } }:=I3.kept (t':=s3.toks) λb ob q=>de _ q;show wpAny (model X.prog X.w) X.A (subscriptTail e (.Slice none none (some (.UnaryOp .USub (.Constant (.int 1) j pos3) pos4)) p2) (.ref a) (.ref s3.heap.objs.size)) (EP X pins σ Q) X.xe { s3 with heap:=s3.heap.push { cls:=.type "slice",data:=.fields #[.none,.none,.int (-1) tk] } };rcases q1 with⟨hx,q1⟩|⟨hx,q1⟩
 .obtain⟨its,r,ht,hz⟩:=I4.tuple hx
  have hlen:=r.length;refine tail_any (ops:=[.ref a,.ref s3.heap.objs.size]) ht.typeIs PyProof.Rows.slot_tuple_getitem.lookup (HT.getItem_tuple_rev ht (Heap.IsSliceOf.new ..) (by rw[dW];omega) ?_) (by with_unfolding_all rfl);refine⟨.ref _,_,I4.laid (t':=s3.toks) (o:=.tup xs.reverse) (λb ob q=>de _ q) (bP _) ?_,rfl,q1 _ (I4.hok.fresh (bP _))⟩;exact⟨by rw[xN];exact hz,_,r.rev,IsTup.new _ _⟩
 .obtain⟨its,r,ht,hz⟩:=I4.list hx
  have hlen:=r.length;refine tail_any (ops:=[.ref a,.ref s3.heap.objs.size]) ht.isList.typeIs slot_list_getitem.lookup (wpAny_getItem_list_slice ht.isList (Heap.IsSliceOf.new ..) .none .none (.int (-1) tk) (by simp) ?_ (by rw[dW];omega)) (by with_unfolding_all rfl);rw[HX];refine⟨.ref _,_,I4.laid (t':=s3.toks) (o:=.lst xs.reverse) (λb ob q=>de _ q) (bP _) ?_,rfl,q1 _ (I4.hok.fresh (bP _))⟩;exact⟨by rw[xN];exact hz,_,0,r.rev,f9 _ rfl⟩
end
namespace Fl
def kX(P:Obj->Prop):Prop:=∀(o:Obj) f,P o->P (o.mapFields f)
def HZ(o:Obj)(f:Array Value->Array Value):(o.mapFields f).dict=o.dict:=by
 unfold Obj.mapFields;split<;>rfl
def Is(cls:Value)(dx:Option Addr)(o:Obj):Prop:=o.cls=cls/\o.dict=dx
def Is.firm{cls:Value}{dx:Option Addr}:kX (Is cls dx):=λo f h=>⟨(Obj.cls_mapFields o f).trans h.1,(HZ o f).trans h.2⟩
def Tr(P:Obj->Prop)(base:Heap)(e:Addr)(fl:Value)(h:Heap):Prop:=
 ∃(oe:Obj) (vs:Array Value) (T:Addr) (oT:Obj) (ts:Array Value),h.get? e=some oe/\P oe/\oe.data=.fields vs/\vs[1]? = some (.ref T)/\base.get? T=none/\T≠e/\h.get? T=some oT/\oT.data=.fields ts/\ts[3]? = some fl
structure Up(P:Obj->Prop)(base:Heap)(l:List Env)(e:Addr)(fl:Value)(h:Heap):Prop where
 st:base.StaysIn h
 new:base.get? e=none
 fr:h.FunFrames base l
 tr:Tr P base e fl h
section
variable{M:Model}{E:Value->Shared->Prop}{P:Obj->Prop}{base:Heap}{l:List Env}{L e:Addr}{fl:Value}{Q:Unit->Shared->Prop}
theorem qS(hP:kX P){head:Value}{b:Bool}(hA:A.frames=some (env::outer))(hl:s.heap.FunFrames base (env::outer))(hf:env.frame=some L)(he:s.heap.get? e=some oe)(hp:P oe)
  (st:base.StaysIn s.heap) (new:base.get? e=none) (hd:oe.data=.fields vs) (hz:1<vs.size) (k:∀h',Up P base (env::outer) e (rawInt L) h'->s.heap.UpToSlots h'->Q () { s with heap:=h' }) :
  wpAny M A (do let a <-frameOf env;let pl <-entryPlaceOf L b;let c <-EntryCells.newEntry head a .none (rawInt L) .none pl;setField (.ref e) 1 c) Q E s:=by
 have out:e∉(env::outer).filterMap (·.frame):=λz=>by
  obtain⟨_,o,ho,nf⟩:=hl.mem z;cases he.symm.trans ho;exact nf vs hd
 refine NE (wpAny_frameOf_fun hA hl hf λh1 so=>?_);refine NE (wpAny_entryPlaceOf λpl place=>?_);unfold EntryCells.newEntry newFields;refine NE (NR ?_ (place.sizeOk5 _ _ _ _ _));generalize ho:({ cls:=.type "traceback",dict:=none,data:=.fields ([head,.ref L,.none,rawInt L,.none]++(if pl.isEmpty then List.replicate 6 Value.none else pl)).toArray }:Obj)=ob;have e1:h1.get? e=some oe:=(so.2.1 e out).trans he;have ne:h1.objs.size≠e:=xH (db e1);have e2:(h1.push ob).get? e=some oe:=de ob e1;have fr0:ob.isFreed=false:=by rw[<-ho];exact Obj.isFreed_of_fields rfl
 refine N9 e2 hd hz (k _ ?_ ?_)
 .have e3:=xJ (Obj.mapFields (·.setIfInBounds 1 (Value.ref h1.objs.size))) e2 (Obj.isFreed_of_fields (Obj.data_mapFields hd _))
  have oth:∀{c o},c≠e->h1.get? c=some o->((h1.push ob).update e (Obj.mapFields (·.setIfInBounds 1 (Value.ref h1.objs.size)))).get? c=some o:=λne hc=>(rC _ _ (NO ne)).trans (de ob hc);refine⟨λc o hc=>?_,new,hl.of_keeps λc o hc nf=>?_,_,_,h1.objs.size,ob,_,e3,hP _ _ hp,Obj.data_mapFields hd _,by simp[hz],?_,ne,(rC _ _ (NO ne)).trans (f9 h1 fr0),by rw[<-ho],?_⟩
  .exact oth (λz=>by rw[z,new] at hc;cases hc) ((so.2.1 c λz=>by rw[(hl.mem z).1] at hc;cases hc).trans (st c o hc))
  .obtain⟨sl,hs⟩:=so.2.2 c o hc
   exact⟨_,oth (λz=>by rw[z,he] at hc;cases hc;exact nf vs hd) hs,rfl⟩
  .cases q:base.get? h1.objs.size with
   |none=>rfl
   |some o=>
    have:h1.get? h1.objs.size=some o:=(so.2.1 _ λz=>by rw[(hl.mem z).1] at q;cases q).trans (st _ o q);exact NH (db this) (gZ _)
  .rcases place with rfl|⟨_,_,_,_,_,_,_,rfl⟩<;>simp
 .intro c o hc nf
  obtain⟨sl,hs⟩:=so.2.2 c o hc;exact⟨sl,(rC _ _ (NO λz=>by rw[z,he] at hc;cases hc;exact nf vs hd)).trans (de ob hs)⟩
theorem Ia(hP:kX P)(hA:A.frames=some (env::outer))(hl:s.heap.FunFrames base (env::outer))(hf:env.frame=some L)(he:s.heap.get? e=some oe)(hp:P oe)
  (st:base.StaysIn s.heap) (new:base.get? e=none) (hd:oe.data=.fields vs) (h1:vs[1]? = some .none) (k:∀h',Up P base (env::outer) e (rawInt L) h'->s.heap.UpToSlots h'->Q () { s with heap:=h' }) :
  wpAny M A (noteFrame (.ref e) env) Q E s:=by
 unfold noteFrame;simp only[hf];refine NE (NQ he hd h1 ?_);rw[if_neg (by decide)];exact qS hP hA hl hf he hp st new hd (Ybq.mp h1).1 k
theorem note(hP:kX P)(hA:A.frames=some (env::outer))(hf:env.frame=some L)(u:Up P base (env::outer) e .none s.heap)
  (k:∀h',Up P base (env::outer) e (rawInt L) h'->s.heap.UpToSlots h'->Q () { s with heap:=h' }):wpAny M A (noteFrame (.ref e) env) Q E s:=by
 obtain⟨st,new,fr,oe,vs,T,oT,ts,he,hp,hd,h1,nT,Te,hT,dT,h3⟩:=u;unfold noteFrame;simp only[hf];refine NE (NQ he hd h1 ?_);rw[if_pos (show(Value.ref T != Value.none)=true from by simp)];refine NE (NQ hT dT h3 ?_);rw[if_neg (by simp[rawInt])];refine NE (N9 hT dT (Ybq.mp h3).1 ?_);have oth:∀{c o},c≠T->s.heap.get? c=some o->(s.heap.update T (Obj.mapFields (·.setIfInBounds 3 Value.none))).get? c=some o:=λne hc=>(rC _ _ (NO ne)).trans hc;have notT:∀{c o},s.heap.get? c=some o->(∀vs,o.data≠.fields vs)->c≠T:=λhc nf z=>by
  rw[z,hT] at hc;cases hc;exact nf ts dT
 refine qS hP hA (fr.of_keeps λc o hc nf=>⟨o,oth (notT hc nf) hc,rfl⟩) hf (oth (NO Te) he) hp (λc o hc=>oth (λz=>by rw[z,nT] at hc;cases hc) (st c o hc)) new hd (Ybq.mp h1).1 λh' u' up=>k h' u' λc o hc nf=>up c o (oth (notT hc nf) hc) nf
theorem lands(u:Up P base l e fl s.heap)(k:∀h',Up P base l e .none h'->s.heap.UpToSlots h'->Q () { s with heap:=h' }):wpAny M A (setFlight (.ref e) none) Q E s:=by
 obtain⟨st,new,fr,oe,vs,T,oT,ts,he,hp,hd,h1,nT,Te,hT,dT,h3⟩:=u;have oth:∀{c o},c≠T->s.heap.get? c=some o->(s.heap.update T (Obj.mapFields (·.setIfInBounds 3 ((none:Option Addr).elim Value.none λf=>rawInt f)))).get? c=some o:=λne hc=>(rC _ _ (NO ne)).trans hc;have notT:∀{c o},s.heap.get? c=some o->(∀vs,o.data≠.fields vs)->c≠T:=λhc nf z=>by
  rw[z,hT] at hc;cases hc;exact nf ts dT
 have z3:=(Ybq.mp h3).1;unfold setFlight;refine NE (NQ he hd h1 ?_);rw[if_pos (show(Value.ref T != Value.none)=true from by simp)];refine N9 hT dT z3 (k _ ⟨λc o hc=>oth (λz=>by rw[z,nT] at hc;cases hc) (st c o hc),new,fr.of_keeps λc o hc nf=>⟨o,oth (notT hc nf) hc,rfl⟩,oe,vs,T,_,_,oth (NO Te) he,hp,hd,h1,nT,Te,xJ _ hT (Obj.isFreed_of_fields (Obj.data_mapFields dT _)),Obj.data_mapFields dT _,by simp[z3]⟩ λc o hc nf=>⟨o.slots,oth (notT hc nf) hc⟩)
def Up.out(u:Up P base (env::outer) e fl s.heap):Up P base outer e fl s.heap:=⟨u.st,u.new,u.fr.2.2,u.tr⟩
theorem Up.there(u:Up P base l e fl h):∃ob,h.get? e=some ob/\P ob/\∃vs,ob.data=.fields vs:=by
 obtain⟨oe,vs,_,_,_,he,hp,hd,_⟩:=u.tr;exact⟨oe,he,hp,vs,hd⟩
theorem leaves(hP:kX P)(hA:A.frames=some (env::outer))(hf:env.frame=some L)(u:Up P base (env::outer) e .none s.heap)(k:∀h',Up P base outer e .none h'->s.heap.UpToSlots h'->Q () { s with heap:=h' }) :
  wpAny M A (leaving env (.ref e)) Q E s:=by
 unfold leaving;exact NE (note hP hA hf u λh1 u1 up1=>lands (s:={ s with heap:=h1 }) u1 λh2 u2 up2=>k h2 ⟨u2.st,u2.new,u2.fr.2.2,u2.tr⟩ (up1.trans up2))
theorem leaves_new(hP:kX P)(hA:A.frames=some (env::outer))(hl:s.heap.FunFrames base (env::outer))(hf:env.frame=some L)(he:s.heap.get? e=some oe)(hp:P oe)
  (st:base.StaysIn s.heap) (new:base.get? e=none) (hd:oe.data=.fields vs) (h1:vs[1]? = some .none) (k:∀h',Up P base outer e .none h'->s.heap.UpToSlots h'->Q () { s with heap:=h' }):wpAny M A (leaving env (.ref e)) Q E s:=by
 unfold leaving;exact NE (Ia hP hA hl hf he hp st new hd h1 λh1 u1 up1=>lands (s:={ s with heap:=h1 }) u1 λh2 u2 up2=>k h2 ⟨u2.st,u2.new,u2.fr.2.2,u2.tr⟩ (up1.trans up2))
end
abbrev yy(C t:Addr)(dx:Option Addr):Obj:={ cls:=.ref C,dict:=dx,data:=.fields #[.ref t,.none,.none,.none,.bool false,.none] }
section
variable{M:Model}{E:Value->Shared->Prop}
variable{C N fI:Addr}{bs:List Value}{sub:List Value}{k0 k1 k2 k3 k5:Option Value}{B initId:String}{rest:List Value}{oI:Obj}
end
end Fl
namespace Fl
open PySem.Builtin PySem.Builtin.ObjectAttr
inductive Tl (h:Heap) (ns:List Str) (bmB:List Value):List Value->Prop
 |last:Tl h ns bmB bmB
 |more {a:Addr} {c:Value} {dd:Option Addr} {cd:ClassData} {sl:Array (Option Value)} {m:Str->Option Value} {l:List Value}:h.get? a=some ⟨c,dd,.cls cd,sl⟩->h.Ns cd.ns m->(∀n∈ns,m n=none)->Tl h ns bmB l->Tl h ns bmB (.ref a::l)
section
variable{l:List Value}
theorem Tl.keeps(T:Tl h ns bmB l)(k:∀b o,h.get? b=some o->h'.get? b=some o):Tl h' ns bmB l:=by
 induction T with
 |last=>exact .last
 |more a b c _ ih=>exact .more (k _ _ a) (b.keeps k) c ih
theorem Tl.own(T:Tl h ns bmB l)(i:("__init__" : Str)∈ns):OwnTail h bmB l:=by
 induction T with
 |last=>exact .base
 |more a b c _ ih=>exact .own a b (c _ i) ih
end
section
variable{M:Model}{E:Value->Shared->Prop}
variable{C N x:Addr}{bs:List Value}{sub:List Value}{k0 k1 k2 k3 k5:Option Value}{B sa owner:String}
theorem vc{l:List Value}{Q:Option Value->Shared->Prop}(T:Tl h ns bmB l)(i:n∈ns)(r:lookupAlong bmB n=pure y)(k:Q y ⟨h,g,d,t,os⟩):wpAny M A (lookupAlong l n) Q E ⟨h,g,d,t,os⟩:=by
 induction T with
 |last=>
  rw[r];exact NG k
 |more a b c _ ih=>
  rw[lookupAlong_cons];refine NE (wpAny_classOwn_cls a b ?_);rw[c n i];exact ih
theorem look{Q:Option Value->Shared->Prop}(hC:h.get? C=some (excClassObj nm q C N bs bm hdct sn sub ab col dd k0 k1 k2 k3 k5 newId))(hN:h.Ns N mN)(hm:mN n=none)(T:Tl h ns bmB bm)(i:n∈ns)
  (b:mroOf (.type B)=pure bmB) (hB:typeLookup (.type B) n=pure y) (k:Q y ⟨h,g,d,t,os⟩):wpAny M A (typeLookup (.ref C) n) Q E ⟨h,g,d,t,os⟩:=by
 have r:lookupAlong bmB n=pure y:=by
  rw[typeLookup_eq,b] at hB;exact hB
 rw[typeLookup_eq];refine NE (wpAny_mroOf_exc hC ?_);rw[lookupAlong_cons];refine NE (wpAny_classOwn_exc hC hN ?_);rw[hm];exact vc T i r k
end
section
variable{M:Model}{E:Value->Shared->Prop}
variable{C N dx:Addr}{bs:List Value}{sub:List Value}{k0 k1 k2 k3 k5:Option Value}{B:String}{name:Str}{v:Value}{o:Obj}
end
end Fl
def eY(P:Program)(w:World):lR:=λouter H s E e s'=>∃(ea:Addr) (cls:Value) (dx:Option Addr) (H':Hp) (B:Heap),e=.ref ea/\Fl.Up (Fl.Is cls dx) B outer ea .none s'.heap/\s'.os=s.os/\AllBare s'.gens/\Un (cY outer) [] H H' s.heap s'.heap/\HOk P w H' s'.heap/\
 (∀b o,s.heap.get? b=some o->b∉cY outer->∃o',B.get? b=some o')/\(∀b u,H' b=some u->∃o,B.get? b=some o)/\E cls dx H'
def cF:c8 (eY P w) X E0:=λ_ _ _ _ _ _ _ ⟨_,_,_,_,_,_,_,_,_,_,_,_,_,z⟩=>z.elim
theorem HOk.through{B h2:Heap}(hok:HOk P w H h)(hT:∀ b u,H b=some u->∃ o,B.get? b=some o)(s1:B.StaysIn h)(s2:B.StaysIn h2):HOk P w H h2:=λa o e=>(hok a o e).stay (λb u hb q=>by
  have hb':∃v,H b=some v:=by
   rcases hb with rfl|hb
   .exact⟨_,e⟩
   .exact⟨_,hb⟩
  obtain⟨v,hv⟩:=hb';obtain⟨o',eB⟩:=hT b v hv;have:=s1 b o' eB;rw[q] at this;cases this;exact s2 b _ eB) (λ_ z=>z) λ_ _ z=>z
section
variable{base:Heap}{E:XK}
def yz{l:List Env}(h:b∈cY l):b∈cY (env::l):=by
 unfold cY at h ⊢;obtain⟨e,h1,h2⟩:=YaA.mp h;exact YaA.mpr ⟨e,gI _ h1,h2⟩
theorem Ib:c8 (eY P w) (dQ (eY P w) P w K mg base N qual scope f cd A outer s H E) E:=by
 rintro pins σ H1 s1 _ s' I ⟨ea,cls,dx,H',B,rfl,fl,hos,hbare,un,hok,hB,hT,hE⟩;have nostk:∀b o,s.heap.get? b=some o->b∉cY outer->b∉cY (envOfC qual scope s.heap.objs.size f cd::outer):=λb o e hb hm=>by
  rcases Yan.mp (I.stkSub b hm) with z|z
  .have l1:=db e
   have l2:s.heap.objs.size<=(envOfC qual scope s.heap.objs.size f cd).locals:=I.ok.above;have z':b=(envOfC qual scope s.heap.objs.size f cd).locals:=z;rw[<-z'] at l2;exact NH (cU l1 l2) (gZ _)
  .exact hb z
 have ib:Un (cY outer) [] H H1 s.heap s1.heap:=I.base;show wpAny (model P w) (A.deeper (envOfC qual scope s.heap.objs.size f cd)) (leaving (envOfC qual scope s.heap.objs.size f cd) (.ref ea)) (λ_ s''=>eY P w outer H s E (.ref ea) s'') _ s';refine Fl.leaves Fl.Is.firm I.ok.frames rfl fl λh2 fl2 up=>?_;have frm:∀b,b∈cY (envOfC qual scope s.heap.objs.size f cd::outer)->∃o,s'.heap.get? b=some o/\∀vs,o.data≠.fields vs:=λb hb=>(fl.fr.mem hb).2;refine⟨ea,cls,dx,H',B,rfl,fl2,hos.trans I.os,hbare,⟨λb o e n hb _=>?_,λb o e n hb _=>?_,λb o e n _=>?_,λb o e _=>?_,λb xs e=>un.tups b xs (ib.tups b xs e),λb o xs e=>un.frzs b o xs (ib.frzs b o xs e),λb ps e=>?_,λ_ ⟨o,e⟩ n=>un.sys (by simp) (ib.there _ o e (by simp)) (ib.sys (by simp) ⟨o,e⟩ n)⟩,hok.through hT fl.st fl2.st,λb o e hb=>?_,hT,hE⟩
 .have e1:=ib.keep b o e n hb (by simp)
  have n1:=ib.free b o e n (by simp);have e2:=un.keep b o e1 n1 (nostk b o e hb) (by simp);obtain⟨o',eB⟩:=hB b o e1 (nostk b o e hb);have:=fl.st b o' eB;rw[e2] at this;cases this;exact fl2.st b _ eB
 .obtain⟨sl,e1⟩:=ib.slot b o e n hb (by simp)
  have n1:=ib.free b o e n (by simp);obtain⟨sl',e2⟩:=un.slot b _ e1 n1 (yz hb) (by simp);obtain⟨o3,e3,nf⟩:=frm b (yz hb);rw[e2] at e3;cases e3;obtain⟨sl3,e4⟩:=up b _ e2 nf;exact⟨sl3,e4⟩
 .obtain⟨o',e1⟩:=ib.there b o e (by simp)
  exact un.free b o' e1 (ib.free b o e n (by simp)) (by simp)
 .obtain⟨o',e1⟩:=ib.there b o e (by simp)
  by_cases hb:b∈cY (envOfC qual scope s.heap.objs.size f cd::outer)
  .obtain⟨o3,e3,nf⟩:=frm b hb
   obtain⟨sl3,e4⟩:=up b _ e3 nf;exact⟨_,e4⟩
  .obtain⟨o2,eB⟩:=hB b o' e1 hb
   exact⟨o2,fl2.st b _ eB⟩
 .obtain⟨m1,e1⟩:=ib.tbls b ps e
  obtain⟨m2,e2⟩:=un.tbls b _ e1;exact⟨m1++m2,by rw[e2,As]⟩
 .obtain⟨o',e1⟩:=ib.there b o e (by simp)
  exact hB b o' e1 (nostk b o e hb)
def kY(X:Cx)(E:XK):Prop:=∀(pins:List (Addr×Obj)) (σ:St) (H:Hp) (s:Shared) (h':Heap) (e:Addr) (cls:Value) (args:List Value),Inv X pins σ H s->Heap.MadeExcOf s.heap h' e cls args->E cls none H->X.xe (.ref e) { s with heap:=h' }
theorem Ic:kY (dQ (eY P w) P w K mg base N qual scope f cd A outer s H E) E:=by
 intro pins σ H1 s1 h2 e cls args I hx hE;have ib:Un (cY outer) [] H H1 s.heap s1.heap:=I.base;have neL:∀b o,s.heap.get? b=some o->b∉cY outer->b∉cY (envOfC qual scope s.heap.objs.size f cd::outer):=λb o e hb hm=>by
  rcases Yan.mp (I.stkSub b hm) with z|z
  .have l1:=db e
   have l2:s.heap.objs.size<=(envOfC qual scope s.heap.objs.size f cd).locals:=I.ok.above;have z':b=(envOfC qual scope s.heap.objs.size f cd).locals:=z;rw[<-z'] at l2;exact NH (cU l1 l2) (gZ _)
  .exact hb z
 have stk:s1.heap.FunFrames base (envOfC qual scope s.heap.objs.size f cd::outer):=I.stack;have frm:∀b,b∈cY (envOfC qual scope s.heap.objs.size f cd::outer)->∃o,s1.heap.get? b=some o/\∀vs,o.data≠.fields vs:=λb hb=>(stk.mem hb).2;have inB:∀{b o},s1.heap.get? b=some o->b∉cY (envOfC qual scope s.heap.objs.size f cd::outer)->(PySem.W.hideAll s1.heap (cY (envOfC qual scope s.heap.objs.size f cd::outer))).get? b=some o:=λe hb=>PySem.W.hideAll_get _ e hb;have hT:∀b u,H1 b=some u->∃o,(PySem.W.hideAll s1.heap (cY (envOfC qual scope s.heap.objs.size f cd::outer))).get? b=some o:=λb u hu=>by
  have hb:b∉cY (envOfC qual scope s.heap.objs.size f cd::outer):=λhm=>by
   have:=I.stkFree b hm;rw[hu] at this;cases this
  have l:=I.hok.lt hu;have:∃o,s1.heap.get? b=some o:=by
   have q:=I.hok b u hu;cases u with
   |lst xs=>obtain⟨_,_,_,_,e⟩:=q;exact⟨_,e⟩
   |tup xs=>obtain⟨_,_,_,o,e,_⟩:=q;exact⟨_,e⟩
   |dK kvs=>obtain⟨_,_,_,_,o,_,_,e,_⟩:=q;exact⟨_,e⟩
   |dT kvs=>obtain⟨_,_,_,_,o,_,_,e,_⟩:=q;exact⟨_,e⟩
   |set S n=>obtain⟨o,_,_,_,e,_⟩:=q;exact⟨_,e⟩
   |ins C dx fs=>obtain⟨_,_,_,e,_⟩:=q;exact⟨_,e⟩
   |own y=>obtain⟨o,e⟩:=q;exact⟨_,e⟩
   |xd fs=>obtain⟨_,⟨o,_,_,e,_⟩,_⟩:=q;exact⟨_,e⟩
   |rng lo hi=>obtain⟨_,_,_,e⟩:=q;exact⟨_,e⟩
   |frz ob u=>obtain⟨e,_⟩:=q;exact⟨_,e⟩
   |tbl ps=>exact⟨_,(show s1.heap.get? b=some _ from q)⟩
   |met f y=>exact⟨_,(show s1.heap.get? b=some _ from q)⟩
   |ext φ=>obtain⟨_,⟨o,e⟩,_⟩:=q;exact⟨_,e⟩
  obtain⟨o,e⟩:=this;exact⟨o,inB e hb⟩
 show wpAny (model P w) (A.deeper (envOfC qual scope s.heap.objs.size f cd)) (leaving (envOfC qual scope s.heap.objs.size f cd) (.ref e)) (λ_ s''=>eY P w outer H s E (.ref e) s'') _ _;obtain⟨tt,he,_,_⟩:=hx.there;have newB:(PySem.W.hideAll s1.heap (cY (envOfC qual scope s.heap.objs.size f cd::outer))).get? e=none:=by
  cases q:(PySem.W.hideAll s1.heap (cY (envOfC qual scope s.heap.objs.size f cd::outer))).get? e with
  |none=>rfl
  |some o=>
   have:=PySem.W.of_hideAll _ q;rw[hx.new] at this;cases this
 refine Fl.leaves_new (P:=Fl.Is cls none) (base:=PySem.W.hideAll s1.heap (cY (envOfC qual scope s.heap.objs.size f cd::outer))) Fl.Is.firm I.ok.frames ((PySem.W.funFrames_hide stk λenv he b hb=>YaA.mpr ⟨env,he,hb⟩).of_keeps λb o hb _=>⟨o,hx.keeps b o hb,rfl⟩) rfl he ⟨rfl,rfl⟩
  (λb o q=>hx.keeps b o (PySem.W.of_hideAll _ q)) newB rfl rfl λh3 fl up=>?_
 have st1:(PySem.W.hideAll s1.heap (cY (envOfC qual scope s.heap.objs.size f cd::outer))).StaysIn s1.heap:=λb o q=>PySem.W.of_hideAll _ q;refine⟨e,cls,none,H1,_,rfl,fl,I.os,I.bare,⟨λb o e n hb _=>?_,λb o e n hb _=>?_,λb o e n _=>ib.free b o e n (by simp),λb o e _=>?_,λb xs e=>ib.tups b xs e,λb o xs e=>ib.frzs b o xs e,λb ps e=>ib.tbls b ps e,λ_ eg n=>ib.sys (by simp) eg n⟩,I.hok.through hT st1 fl.st,λb o e hb=>?_,hT,hE⟩
 .exact fl.st b o (inB (ib.keep b o e n hb (by simp)) (neL b o e hb))
 .obtain⟨sl,e1⟩:=ib.slot b o e n hb (by simp)
  obtain⟨o3,e3,nf⟩:=frm b (yz hb);rw[e1] at e3;cases e3;obtain⟨sl3,e4⟩:=up b _ (hx.keeps b _ e1) nf;exact⟨sl3,e4⟩
 .obtain⟨o',e1⟩:=ib.there b o e (by simp)
  by_cases hb:b∈cY (envOfC qual scope s.heap.objs.size f cd::outer)
  .obtain⟨o3,e3,nf⟩:=frm b hb
   obtain⟨sl3,e4⟩:=up b _ (hx.keeps b _ e3) nf;exact⟨_,e4⟩
  .exact⟨o',fl.st b o' (inB e1 hb)⟩
 .obtain⟨o',e1⟩:=ib.there b o e (by simp)
  exact⟨o',inB e1 (neL b o e hb)⟩
end
section
variable{tg:Expr}
def Bg(K:NF)(tl:TE):TI:=λσ H R=>tl σ H λx H1=>∃a,x=.ref a/\(((∃xs,SqL K H1 a xs)/\R (AZ K a) H1)\/((∃xs,SqT K H1 a xs)/\R (A0 K a) H1))
theorem Id{l:Expr}{tl:TE}(hl:PE X l tl):PI X tg l (Bg X.K tl):=by
 intro pins s σ H R I h;refine bA (hl pins s σ H _ I h) λv s1 ⟨x,H1,I1,r1,q1⟩=>?_;obtain⟨a,e,⟨⟨xs,hq⟩,q⟩|⟨⟨xs,hq⟩,q⟩⟩:=q1
 .subst e
  cases r1;obtain⟨its,rv,p,hz⟩:=I1.list hq;refine Oa p.isList ?_;refine⟨s1.heap.objs.size,[s1.heap.objs.size],_,_,H1,rfl,I1.kept (t':=s1.toks) λb o e=>de _ e,hV a _,⟨_,f9 _ rfl,rfl,rfl⟩,λb hb=>?_,q⟩;have e:b=s1.heap.objs.size:=by simpa using hb
  subst e;exact I1.fpOk (bP _) (I1.hok.fresh (bP _))
 .subst e
  cases r1;obtain⟨its,rv,p,hz⟩:=I1.tuple hq;refine wpAny_pyIter_tuple (show s1.heap.IsTuple a its.toArray from p) ?_;refine⟨s1.heap.objs.size,[s1.heap.objs.size],_,_,H1,rfl,I1.kept (t':=s1.toks) λb o e=>de _ e,jI a _,⟨_,f9 _ rfl,rfl,rfl⟩,λb hb=>?_,q⟩;have e:b=s1.heap.objs.size:=by simpa using hb
  subst e;exact I1.fpOk (bP _) (I1.hok.fresh (bP _))
end
theorem Inv.turnedL(ts:List Addr)(I:Inv X pins σ H s)(k:∀b o,b∉ts->s.heap.get? b=some o->h'.get? b=some o)
  (hf:∀b∈ts,dq X pins H b):Inv X pins σ H { s with heap:=h',toks:=t' }:=by
 refine I.step (g':=s.gens) (d':=s.drawn) (ch:=ts) (λb hb=>?_) (λb o _ _ hc e _=>k b o hc e) (λb o _ _ hc e _=>⟨o.slots,k b o hc e⟩) (λ_ _ _ _ n=>n)
  (λb o hc e=>⟨o,k b o hc e⟩) (λ_ _ e=>e) (λ_ _ _ e=>e) (λb ps e=>⟨#[],by rw[e];simp⟩) (λm hm=>?_) (λb u e=>?_) I.bare (λn=>n)
 .obtain⟨_,f1,_,f3,f4,f5⟩:=hf b hb
  exact⟨f3,f1,f4,f5⟩
 .obtain⟨o,es,ep,ho,r⟩:=hm
  exact⟨o,es,ep,k _ o (λz=>(hf _ z).2.1 rfl) ho,r⟩
 .have nt:∀c v,H c=some v->c∉ts:=λc v q z=>by rw[(hf c z).1] at q;cases q
  refine(I.hok b u e).stay (λc v hc q=>k c v ?_ q) (λ_ q=>q) λ_ _ q=>q;rcases hc with z|z
  .rw[z];exact nt b u e
  .exact nt c _ z
def SIt(κ:Bool)(h:Heap)(it l:Addr)(i:Nat):Prop:=match κ with
 |true=>h.IsTupleIter it l i
 |false=>h.IsListIter it l i
def SSq(κ:Bool)(h:Heap)(l:Addr)(xs:Array Value):Prop:=match κ with
 |true=>h.IsTuple l xs
 |false=>h.IsList l xs
section
variable{it:Addr}
theorem SIt.keep(x:SIt κ h it l i)(k:∀o,h.get? it=some o->h'.get? it=some o):SIt κ h' it l i:=by
 cases κ
 .exact Heap.IsListIter.at x k
 .exact Heap.IsTupleIter.at x k
theorem SIt.obj(x:SIt κ h it l i):∃o,h.get? it=some o/\(∀v,o.data≠.cell v):=by
 cases κ
 all_goals
  obtain⟨o,e,_,d⟩:=x;exact⟨o,e,λv z=>by rw[d] at z;cases z⟩
theorem SSq.keep(x:SSq κ h l xs)(k:∀o,h.get? l=some o->h'.get? l=some o):SSq κ h' l xs:=by
 cases κ
 all_goals
  obtain⟨o,e,r⟩:=x;exact⟨o,k o e,r⟩
end
section
variable{E:Value->Shared->Prop}{it:Addr}{x:Value}
theorem yA(hi:SIt κ s.heap it l i)(hl:SSq κ s.heap l xs)(hx:xs[i]? = some x)(q:∀h',SIt κ h' it l (i+1)->Heap.SameBut it s.heap h'->Q x { s with heap:=h' }) :
  wpAny (model prog w) A (Builtin.SmallTypes.nextOf (.ref it)) Q E s:=by
 cases κ with
 |false=>exact wpAny_nextOf_list_item hi hl hx q
 |true=>
  have ht:s.heap.IsTupleIter it l i:=hi;obtain⟨ob,hob,hcl,hda⟩:=id ht;obtain⟨sq,hsq,_,nn,hds⟩:=(show s.heap.IsTuple l xs from hl)
  unfold Builtin.SmallTypes.nextOf;refine NE (wpAny_callSpecial?_slot (name:=Str.ofString "__next__") ht.typeIs F.slot_tuple_iterator_next (NZ F.slot_tuple_iterator_next ht.typeIs F.entry_tuple_iterator_next ?_ (F.args_tuple_iterator_next_1 _)));show wpAny _ _ (field (.ref it) 0 >>= _) _ E s;refine NE (NQ hob hda (x:=.ref l) rfl ?_);show wpAny _ _ (if(Value.ref l==Value.none)=true then _ else _) _ E s;rw[if_neg (show¬((Value.ref l==Value.none)=true) by exact i4)];show wpAny _ _ (field (.ref it) 1 >>= _) _ E s;refine NE (NQ hob hda (x:=.int i 0) rfl ?_);show wpAny _ _ (seqItems? (.ref l) >>= _) _ E s;refine NE (N0 hsq hds ?_);simp only[hJ,hx];refine NE (N9 hob hda (by simp) (NG ⟨x,rfl,NG (q _ ?_ (Heap.SameBut.update ..))⟩));exact⟨_,xJ _ hob (Obj.isFreed_of_fields (Obj.data_mapFields hda _)),(Obj.cls_mapFields ..).trans hcl,by rw[Obj.data_mapFields hda];simp[rawInt]⟩
theorem yB(hh:A.handled=none)(hi:SIt κ s.heap it l i)(hl:SSq κ s.heap l xs)(hx:xs[i]? = none)
  (q:∀h' e,Heap.ExtBut it s.heap h'->(∃o,h'.get? e=some o/\o.cls=.type "StopIteration")->E (.ref e) { s with heap:=h' }) :
  wpAny (model prog w) A (Builtin.SmallTypes.nextOf (.ref it)) Q E s:=by
 cases κ with
 |false=>exact wpAny_nextOf_list_end hh hi hl hx q
 |true=>
  have ht:s.heap.IsTupleIter it l i:=hi;obtain⟨ob,hob,hcl,hda⟩:=id ht;obtain⟨sq,hsq,_,nn,hds⟩:=(show s.heap.IsTuple l xs from hl)
  unfold Builtin.SmallTypes.nextOf;refine NE (wpAny_callSpecial?_slot (name:=Str.ofString "__next__") ht.typeIs F.slot_tuple_iterator_next (NZ F.slot_tuple_iterator_next ht.typeIs F.entry_tuple_iterator_next ?_ (F.args_tuple_iterator_next_1 _)));show wpAny _ _ (field (.ref it) 0 >>= _) _ E s;refine NE (NQ hob hda (x:=.ref l) rfl ?_);show wpAny _ _ (if(Value.ref l==Value.none)=true then _ else _) _ E s;rw[if_neg (show¬((Value.ref l==Value.none)=true) by exact i4)];show wpAny _ _ (field (.ref it) 1 >>= _) _ E s;refine NE (NQ hob hda (x:=.int i 0) rfl ?_);show wpAny _ _ (seqItems? (.ref l) >>= _) _ E s;refine NE (N0 hsq hds ?_);simp only[hJ,hx];refine NE (N4 (NE (N9 hob hda (by simp) ?_)));show wpAny _ _ (newExc (.type "StopIteration") [] >>= _) _ E _;refine NE ?_;simp only[newExc,newTuple];refine NE (NR ?_ (by size_fits));refine NE (m:=firstArgMember _ _) (wpAny_of_eq (a:=Value.none) (by first|rfl|(rw[firstArgMember];rfl)) (NR ?_ (by size_fits)));simp only[raiseNew];refine NE (wpAny_handled ?_);rw[show A.in1.handled=none from hh];exact NE (NG (wpAny_throw (q _ _ (((Heap.SameBut.update ..).extBut.push _).push _) ⟨_,f9 _ rfl,rfl⟩)))
end
structure ve(z TI TO j1 j2:Addr):Prop where
 a:TI≠z
 b:TO≠z
 c:j1≠z
 d:j2≠z
 e:TI≠TO
 f:TI≠j1
 g:TI≠j2
 h:TO≠j1
 i:TO≠j2
 j:j1≠j2
def t3(z TI TO j1 j2 l:Addr):Prop:=l≠z/\l≠TI/\l≠TO/\l≠j1/\l≠j2
section
variable{E:Value->Shared->Prop}{z TI TO j1 j2 l1 l2:Addr}{x y a b:Value}
theorem Ie(D:ve z TI TO j1 j2)(d1:t3 z TI TO j1 j2 l1)(d2:t3 z TI TO j1 j2 l2)
  (zz:IsZip s.heap z TI TO .none) (zi:IsPair s.heap TI (.ref j1) (.ref j2)) (zo:IsPair s.heap TO a b) (u1:SIt κ s.heap j1 l1 i) (u2:SIt κ' s.heap j2 l2 i) (v1:SSq κ s.heap l1 xs) (v2:SSq κ' s.heap l2 ys) (ex:xs[i]? = some x) (ey:ys[i]? = some y)
  (q:∀ h',IsZip h' z TI TO (rawInt s.heap.objs.size)->IsPair h' TO x y->SIt κ h' j1 l1 (i+1)->SIt κ' h' j2 l2 (i+1)->IsPair h' s.heap.objs.size x y->h'.objs.size=s.heap.objs.size+1->
   (∀c o,c≠z->c≠TO->c≠j1->c≠j2->s.heap.get? c=some o->h'.get? c=some o)->Q (.ref s.heap.objs.size) { s with heap:=h' }) :
  wpAny (model prog w) A (Builtin.«zip.__next__» ⟨[.ref z],[]⟩) (λfin s'=>∃v,fin=.done (.ret v)/\Q v s') E s:=by
 obtain⟨o1z,_,o1O,o11,o12⟩:=d1;obtain⟨o2z,_,o2O,o21,o22⟩:=d2;show wpAny _ _ (field (.ref z) 2 >>= _) _ E _;refine NE (NQ zz rfl (x:=.bool false) rfl ?_);show wpAny _ _ (field (.ref z) 3 >>= _) _ E _;refine NE (NQ zz rfl (x:=.ref TI) rfl (NE (N0 zi rfl ?_)));show wpAny _ _ (Builtin.SmallTypes.ownedTupleIsFree (.ref z) >>= _) _ E _;refine NE ?_;unfold Builtin.SmallTypes.ownedTupleIsFree;refine NE (NQ zz rfl (x:=.none) rfl (NG ?_));simp only[if_true];refine NE (N4 (NE (NQ zz rfl (x:=.ref TO) rfl (NE (N1 zz (by simp) λg1 zz1 k1=>?_)))));replace zz1:IsZip g1 z TI TO .ellipsis:=zz1;refine NE ?_;simp only[List.zipIdx_cons,List.zipIdx_nil,Aw,List.forIn_nil];refine NE (NE (Od ?_));show wpAny _ _ (Builtin.SmallTypes.nextOf (.ref j1) >>= _) _ _ _;refine NE (yA (u1.keep λo e=>k1.extBut _ o D.c e) (v1.keep λo e=>k1.extBut _ o o1z e) ex λg2 u1' k2=>NG ?_);have zo2:IsPair g2 TO a b:=k2.extBut _ _ D.h (k1.extBut _ _ D.b zo);refine NE (N0 zo2 rfl (NE (Ob zo2 λg3 zo3 k3=>?_)));replace zo3:IsPair g3 TO x b:=zo3;refine NE (wpAny_letGo (NG ?_));refine NE (NE (Od ?_));show wpAny _ _ (Builtin.SmallTypes.nextOf (.ref j2) >>= _) _ _ _;refine NE (yA (u2.keep λo e=>k3.extBut _ o D.i.symm (k2.extBut _ o D.j.symm (k1.extBut _ o D.d e))) (v2.keep λo e=>k3.extBut _ o o2O (k2.extBut _ o o21 (k1.extBut _ o o2z e))) ey λg4 u2' k4=>NG ?_);have zo4:IsPair g4 TO x b:=k4.extBut _ _ D.i zo3;refine NE (N0 zo4 rfl (NE (Ob zo4 λg5 zo5 k5=>?_)));replace zo5:IsPair g5 TO x y:=zo5;refine NE (wpAny_letGo (NG (NG (NE (N0 zo5 rfl (NE (wpAny_newTuple ?_)))))));have sz:g5.objs.size=s.heap.objs.size:=by rw[k5.1,k4.1,k3.1,k2.1,k1.1]
 have zz5:IsZip g5 z TI TO .ellipsis:=k5.extBut _ _ D.b.symm (k4.extBut _ _ D.d.symm (k3.extBut _ _ D.b.symm (k2.extBut _ _ D.c.symm zz1)));have kk:∀c o,c≠z->c≠TO->c≠j1->c≠j2->s.heap.get? c=some o->g5.get? c=some o:=λc o c1 c2 c3 c4 e=>k5.extBut _ _ c2 (k4.extBut _ _ c4 (k3.extBut _ _ c2 (k2.extBut _ _ c3 (k1.extBut _ _ c1 e))));have r1:SIt κ g5 j1 l1 (i+1):=u1'.keep λo e=>k5.extBut _ o D.h.symm (k4.extBut _ o D.j (k3.extBut _ o D.h.symm e));have r2:SIt κ' g5 j2 l2 (i+1):=u2'.keep λo e=>k5.extBut _ o D.i.symm e;have zlt:z<g5.objs.size:=db zz5;show wpAny _ _ (Builtin.SmallTypes.ownedTupleHandOut (.ref z) (.ref g5.objs.size) >>= _) _ E _;refine NE ?_;unfold Builtin.SmallTypes.ownedTupleHandOut;have zz6:IsZip (g5.push { cls:=.type "tuple",data:=.seq #[x,y] }) z TI TO .ellipsis:=de _ zz5;refine NE (N1 zz6 (by simp) λg7 zz7 k7=>?_);replace zz7:IsZip g7 z TI TO (rawInt g5.objs.size):=zz7;refine N1 zz7 (by simp) λg8 zz8 k8=>?_;replace zz8:IsZip g8 z TI TO (rawInt g5.objs.size):=zz8;have up:∀c o,c≠z->g5.get? c=some o->g8.get? c=some o:=λc o c1 e=>k8.extBut _ _ c1 (k7.extBut _ _ c1 (de _ e));have tt8:IsPair g8 g5.objs.size x y:=k8.extBut _ _ (xH zlt) (k7.extBut _ _ (xH zlt) (f9 _ rfl));have sz8:g8.objs.size=g5.objs.size+1:=by rw[k8.1,k7.1,lM]
 rw[sz] at zz8 tt8 sz8;refine NG ⟨_,rfl,?_⟩;show Q (.ref g5.objs.size) _;rw[sz];exact q g8 zz8 (up _ _ D.b zo5) (r1.keep λo e=>up _ o D.c e) (r2.keep λo e=>up _ o D.d e) tt8 sz8 λc o c1 c2 c3 c4 e=>up c o c1 (kk c o c1 c2 c3 c4 e)
theorem Ig{Q:Fin->Shared->Prop}(hh:A.handled=none)(D:ve z TI TO j1 j2)(d1:t3 z TI TO j1 j2 l1)(d2:t3 z TI TO j1 j2 l2)
  (zz:IsZip s.heap z TI TO .none) (zi:IsPair s.heap TI (.ref j1) (.ref j2)) (zo:IsPair s.heap TO a b) (u1:SIt κ s.heap j1 l1 i) (u2:SIt κ' s.heap j2 l2 i) (v1:SSq κ s.heap l1 xs) (v2:SSq κ' s.heap l2 ys) (en:xs[i]? = none\/ys[i]? = none)
  (q:∀h' e,(∀c o,c≠z->c≠TO->c≠j1->c≠j2->s.heap.get? c=some o->h'.get? c=some o)->(∃o,h'.get? e=some o/\o.cls=.type "StopIteration")->E (.ref e) { s with heap:=h' }) :
  wpAny (model prog w) A (Builtin.«zip.__next__» ⟨[.ref z],[]⟩) Q E s:=by
 obtain⟨o1z,_,o1O,o11,o12⟩:=d1;obtain⟨o2z,_,o2O,o21,o22⟩:=d2;show wpAny _ _ (field (.ref z) 2 >>= _) _ E _;refine NE (NQ zz rfl (x:=.bool false) rfl ?_);show wpAny _ _ (field (.ref z) 3 >>= _) _ E _;refine NE (NQ zz rfl (x:=.ref TI) rfl (NE (N0 zi rfl ?_)));show wpAny _ _ (Builtin.SmallTypes.ownedTupleIsFree (.ref z) >>= _) _ E _;refine NE ?_;unfold Builtin.SmallTypes.ownedTupleIsFree;refine NE (NQ zz rfl (x:=.none) rfl (NG ?_));simp only[if_true];refine NE (N4 (NE (NQ zz rfl (x:=.ref TO) rfl (NE (N1 zz (by simp) λg1 zz1 k1=>?_)))));replace zz1:IsZip g1 z TI TO .ellipsis:=zz1;refine NE ?_;simp only[List.zipIdx_cons,List.zipIdx_nil,Aw,List.forIn_nil];refine NE (NE (Od ?_));show wpAny _ _ (Builtin.SmallTypes.nextOf (.ref j1) >>= _) _ _ _;cases ex:xs[i]? with
 |none=>
  refine NE (yB hh (u1.keep λo e=>k1.extBut _ o D.c e) (v1.keep λo e=>k1.extBut _ o o1z e) ex λg2 e k2 ⟨oe,e1,e2⟩=>?_);have zz2:IsZip g2 z TI TO .ellipsis:=k2 _ _ D.c.symm zz1;have ne:e≠z:=λr=>by subst r;rw[zz2] at e1;cases e1;simp at e2
  exact N1 zz2 (by simp) λg3 _ k3=>q g3 e (λc o c1 _ c3 _ r=>k3.extBut _ _ c1 (k2 _ _ c3 (k1.extBut _ _ c1 r))) ⟨oe,k3.extBut _ _ ne e1,e2⟩
 |some x=>
  have ey:ys[i]? = none:=en.elim (λh=>by rw[ex] at h;cases h) id;refine NE (yA (u1.keep λo e=>k1.extBut _ o D.c e) (v1.keep λo e=>k1.extBut _ o o1z e) ex λg2 u1' k2=>NG ?_);have zo2:IsPair g2 TO a b:=k2.extBut _ _ D.h (k1.extBut _ _ D.b zo);refine NE (N0 zo2 rfl (NE (Ob zo2 λg3 zo3 k3=>?_)));refine NE (wpAny_letGo (NG ?_));refine NE (NE (Od ?_));show wpAny _ _ (Builtin.SmallTypes.nextOf (.ref j2) >>= _) _ _ _;refine NE (yB hh (u2.keep λo e=>k3.extBut _ o D.i.symm (k2.extBut _ o D.j.symm (k1.extBut _ o D.d e))) (v2.keep λo e=>k3.extBut _ o o2O (k2.extBut _ o o21 (k1.extBut _ o o2z e))) ey λg4 e k4 ⟨oe,e1,e2⟩=>?_);have zz4:IsZip g4 z TI TO .ellipsis:=k4 _ _ D.d.symm (k3.extBut _ _ D.b.symm (k2.extBut _ _ D.c.symm zz1));have ne:e≠z:=λr=>by subst r;rw[zz4] at e1;cases e1;simp at e2
  exact N1 zz4 (by simp) λg5 _ k5=>q g5 e (λc o c1 c2 c3 c4 r=>k5.extBut _ _ c1 (k4 _ _ c4 (k3.extBut _ _ c2 (k2.extBut _ _ c3 (k1.extBut _ _ c1 r))))) ⟨oe,k5.extBut _ _ ne e1,e2⟩
end
section
theorem Inv.turnedN{o:HO}(ts:List Addr)(I:Inv X pins σ H s)(k:∀b o,b∉ts->s.heap.get? b=some o->h'.get? b=some o)
  (hf:∀b∈ts,dq X pins H b) (hp:s.heap.objs.size<=a) (new:ObjOk X.prog X.w (upd H a o) h' a o):Inv X pins σ (upd H a o) { s with heap:=h',toks:=t' }:=by
 have hn:H a=none:=I.hok.fresh hp;have nea:∀b u,H b=some u->b≠a:=λb u e z=>by rw[z,hn] at e;cases e
 have neb:∀b u,s.heap.get? b=some u->b≠a:=λb u e z=>by subst z;exact NH (cU (db e) hp) (gZ _)
 refine I.step (g':=s.gens) (d':=s.drawn) (ch:=ts) (λb hb=>?_) (λb o _ _ hc e _=>k b o hc e) (λb o _ _ hc e _=>⟨o.slots,k b o hc e⟩) (λb u _ e n=>by rw[aG (neb b u e)];exact n)
  (λb o hc e=>⟨o,k b o hc e⟩) (λb xs e=>by rw [aG (nea _ _ e)];exact e) (λb _ _ e=>by rw [aG (nea _ _ e)];exact e) (λb ps e=>⟨#[],by rw [aG (nea _ _ e),e];simp⟩) (λm hm=>?_) (λb u e=>?_) I.bare (λn ys=>by
   obtain⟨og,eg⟩:=I.hasG;rw[aG (fJ (cU (tO (by decide) (db eg)) hp))];exact n ys)
 .obtain⟨_,f1,_,f3,f4,f5⟩:=hf b hb
  exact⟨f3,f1,f4,f5⟩
 .obtain⟨o,es,ep,ho,r⟩:=hm
  exact⟨o,es,ep,k _ o (λz=>(hf _ z).2.1 rfl) ho,r⟩
 .by_cases hb:b=a
  .subst hb;rw[aN] at e;cases e;exact new
  .rw[aG hb] at e
   have nt:∀c v,H c=some v->c∉ts:=λc v q z=>by rw[(hf c z).1] at q;cases q
   refine(I.hok b u e).stay (λc v hc q=>k c v ?_ q) (λc q=>by rw[aG (nea _ _ q)];exact q) λc _ q=>by rw[aG (nea _ _ q)];exact q
   rcases hc with z|z
   .rw[z];exact nt b u e
   .exact nt c _ z
def Sq(K:NF)(κ:Bool)(H:Hp)(a:Addr)(xs:List V):Prop:=match κ with
 |true=>SqT K H a xs
 |false=>SqL K H a xs
theorem Inv.sq{xs:List V}(I:Inv X pins σ H s)(h:Sq X.K κ H a xs):∃its:List Value,Vals xs its/\SSq κ s.heap a its.toArray/\xs.length<=sizeLine:=by
 cases κ with
 |false=>obtain⟨its,r,p,hz⟩:=I.list h;exact⟨its,r,p.isList,hz⟩
 |true=>obtain⟨its,r,p,hz⟩:=I.tuple h;exact⟨its,r,(show s.heap.IsTuple a its.toArray from p),hz⟩
theorem Inv.sq_inj{xs ys:List V}(I:Inv X pins σ H s)(h:Sq X.K κ H a xs)(h':Sq X.K κ H a ys):xs=ys:=by
 cases κ with
 |false=>exact I.list_inj h h'
 |true=>exact I.tuple_inj h h'
theorem Inv.sq_out{xs:List V}(I:Inv X pins σ H s)(h:Sq X.K κ H a xs)(f:dq X pins H b):a≠b:=by
 rintro rfl;have hk:∀o,X.K.lookup a=some o->False:=λo e=>by
  have e1:=I.ok.mod.kin a o e;rcases f.2.2.2.1 with z|z
  .exact I.ok.noex a o e1 z
  .exact NH (cU (db (I.ok.bs a o e1).1) z) (gZ _)
 have hr:∀u,Rd H a u->False:=λu r=>by
  rcases r with r|⟨o,r⟩
  .rw[f.1] at r;cases r
  .rw[f.1] at r;cases r
 cases κ with
 |false=>
  rcases h with h|⟨o,_,_,e,_⟩
  .exact hr _ h
  .exact hk o e
 |true=>
  rcases h with h|⟨o,_,_,e,_⟩
  .exact hr _ h
  .exact hk o e
end
def DM(K:NF)(κ κ':Bool)(a b:Addr):It:=
  ⟨λi H=>∃ xs ys x y,Sq K κ H a xs/\Sq K κ' H b ys/\xs[i]? = some x/\ys[i]? = some y,
   λi H v H'=>∃p x y,v=.ref p/\H p=none/\H'=upd H p (.tup [x,y])/\(∀xs,Sq K κ H a xs->xs[i]? = some x)/\(∀ys,Sq K κ' H b ys->ys[i]? = some y),
   λi H=>∃xs ys,Sq K κ H a xs/\Sq K κ' H b ys/\(xs.length<=i\/ys.length<=i)⟩
theorem Ih{ps:Pos}(a b z TI TO j1 j2:Addr)(D:ve z TI TO j1 j2) :
  iH P w K (.Tuple es n1 ps) (DM K κ κ' a b) [z,TI,TO,j1,j2] z (λi h=>IsZip h z TI TO .none/\IsPair h TI (.ref j1) (.ref j2)/\(∃u v,IsPair h TO u v)/\SIt κ h j1 a i/\SIt κ' h j2 b i) where
 mem:=by simp
 obj:=λi h ⟨q1,q2,⟨u,v,q3⟩,q4,q5⟩ c hc=>by
  simp only[Yan,dN,or_false] at hc;rcases hc with rfl|rfl|rfl|rfl|rfl
  .exact⟨_,q1,λv e=>by cases e⟩
  .exact⟨_,q2,λv e=>by cases e⟩
  .exact⟨_,q3,λv e=>by cases e⟩
  .exact q4.obj
  .exact q5.obj
 keep:=λi h h' ⟨q1,q2,⟨u,v,q3⟩,q4,q5⟩ k=>
  ⟨k z (by simp) _ q1,k TI (by simp) _ q2,⟨u,v,k TO (by simp) _ q3⟩,q4.keep λo e=>k j1 (by simp) o e,q5.keep λo e=>k j2 (by simp) o e⟩
 item:=by
  intro X hP hw hK hc i pins s σ H E I hf ⟨q1,q2,⟨u,v,q3⟩,q4,q5⟩ hg;subst hP hw hK;obtain⟨xs,ys,x,y,hx,hy,ex,ey⟩:=hg;obtain⟨its,rv,p,hz⟩:=I.sq hx;obtain⟨its',rv',p',hz'⟩:=I.sq hy;obtain⟨ux,hux,rux⟩:=rv.get ex;obtain⟨uy,huy,ruy⟩:=rv'.get ey;have out:∀{κ:Bool} {c:Addr} {xs:List V},Sq X.K κ H c xs->t3 z TI TO j1 j2 c:=λhq=>
   ⟨I.sq_out hq (hf z (by simp)),I.sq_out hq (hf TI (by simp)),I.sq_out hq (hf TO (by simp)),I.sq_out hq (hf j1 (by simp)),I.sq_out hq (hf j2 (by simp))⟩
  have hT:s.TypeIs (.ref z) "zip" :=⟨_,q1,rfl⟩
  unfold pyNext;refine NE (wpAny_attempt (wpAny_callSpecial?_slot (name:=Str.ofString "__next__") hT F.slot_zip_next (NZ F.slot_zip_next hT F.entry_zip_next
   (Ie D (out hx) (out hy) q1 q2 q3 q4 q5 p p' (x:=ux) (y:=uy) (by simpa using hux) (by simpa using huy) λh' a1 a2 a3 a4 a5 a6 a7=>NG ⟨_,rfl,?_⟩) (F.args_zip_next_1 _))))
  refine wpAny_letOwnedTupleGo_zip (s:={ s with heap:=h' }) a1 λh2 b1 b2=>?_;have lt:∀{c o},s.heap.get? c=some o->c≠s.heap.objs.size:=λe=>fJ (db e);have zl:=lt q1;have up:∀c o,c∉[z,TI,TO,j1,j2]->s.heap.get? c=some o->h2.get? c=some o:=λc o hc e=>by
   simp only[Yan,dN,or_false,not_or] at hc;exact b2.extBut _ _ hc.1 (a7 c o hc.1 hc.2.2.1 hc.2.2.2.1 hc.2.2.2.2 e)
  refine⟨.ref s.heap.objs.size,upd H s.heap.objs.size (.tup [x,y]),Inv.turnedN (s:=s) (t':=s.toks) [z,TI,TO,j1,j2] I up hf (bP _) ?_,rfl,⟨s.heap.objs.size,x,y,rfl,I.fresh,rfl,λxs' h'=>by rw[I.sq_inj h' hx];exact ex,λys' h'=>by rw[I.sq_inj h' hy];exact ey⟩,?_,λc hc=>?_⟩
  .refine⟨by rw[sizeLine_eq];simp,[ux,uy],.cons rux (.cons ruy .nil),?_⟩
   exact⟨_,b2.extBut _ _ (NO zl) a5,rfl,_,rfl⟩
  .exact⟨b1,b2.extBut _ _ D.a (a7 _ _ D.a D.e D.f D.g q2),⟨_,_,b2.extBut _ _ D.b a2⟩,a3.keep λo e=>b2.extBut _ o D.c e,a4.keep λo e=>b2.extBut _ o D.d e⟩
  .have he:∃o,s.heap.get? c=some o:=by
    simp only[Yan,dN,or_false] at hc;rcases hc with rfl|rfl|rfl|rfl|rfl
    .exact⟨_,q1⟩
    .exact⟨_,q2⟩
    .exact⟨_,q3⟩
    .obtain⟨o,e,_⟩:=q4.obj;exact⟨o,e⟩
    .obtain⟨o,e,_⟩:=q5.obj;exact⟨o,e⟩
   obtain⟨o,e⟩:=he;rw[aG (lt e)];exact(hf c hc).1
 done:=by
  intro X hP hw hK hc i pins s σ H E I hf ⟨q1,q2,⟨u,v,q3⟩,q4,q5⟩ hg;subst hP hw hK;obtain⟨xs,ys,hx,hy,en⟩:=hg;obtain⟨its,rv,p,hz⟩:=I.sq hx;obtain⟨its',rv',p',hz'⟩:=I.sq hy;have l1:=rv.length;have l2:=rv'.length;have out:∀{κ:Bool} {c:Addr} {xs:List V},Sq X.K κ H c xs->t3 z TI TO j1 j2 c:=λhq=>
   ⟨I.sq_out hq (hf z (by simp)),I.sq_out hq (hf TI (by simp)),I.sq_out hq (hf TO (by simp)),I.sq_out hq (hf j1 (by simp)),I.sq_out hq (hf j2 (by simp))⟩
  have hT:s.TypeIs (.ref z) "zip" :=⟨_,q1,rfl⟩
  unfold pyNext;refine NE (wpAny_attempt (wpAny_callSpecial?_slot (name:=Str.ofString "__next__") hT F.slot_zip_next (NZ F.slot_zip_next hT F.entry_zip_next
   (Ig (I.ok.hd hc) D (out hx) (out hy) q1 q2 q3 q4 q5 p p' (by rcases en with z|z;exact .inl (by simp;omega);exact .inr (by simp;omega)) λh' e k ⟨o,e1,e2⟩=>?_) (F.args_zip_next_1 _))))
  refine NE (wpAny_isInstance (s:={ s with heap:=h' }) (T:= "StopIteration") (b:=true) ⟨o,e1,e2⟩ isSubtype_stop (NG ⟨rfl,?_⟩));refine I.turnedL (t':=s.toks) [z,TI,TO,j1,j2] (λc o hc e=>?_) hf;simp only[Yan,dN,or_false,not_or] at hc;exact k c o hc.1 hc.2.2.1 hc.2.2.2.1 hc.2.2.2.2 e
 self:=λ_ _ _ _ _ st h=>wpAny_pyIter_zip st.1 h
def io(κ:Bool)(l:Addr):Obj:={ cls:=.type (match κ with|true=> "tuple_iterator" |false=> "list_iterator"),data:=.fields #[.ref l,.int 0 0] }
def Bh{j:Addr}(e:h.get? j=some (io κ l)):SIt κ h j l 0:=by
 cases κ
 all_goals exact⟨_,e,rfl,rfl⟩
theorem yC{E:Value->Shared->Prop}(hl:SSq κ s.heap l xs)(q:Q (.ref s.heap.objs.size) { s with heap:=s.heap.push (io κ l) }) :
  wpAny (model prog w) A (pyIter (.ref l)) Q E s:=by
 cases κ with
 |false=>exact Oa hl q
 |true=>exact wpAny_pyIter_tuple hl q
abbrev vf(κ:Bool)(h:Heap)(l1:Addr):Heap:=h.push (io κ l1)
abbrev vg(κ κ':Bool)(h:Heap)(l1 l2:Addr):Heap:=(vf κ h l1).push (io κ' l2)
abbrev vh(κ κ':Bool)(h:Heap)(l1 l2:Addr):Heap:=(vg κ κ' h l1 l2).push { cls:=.type "tuple",data:=.seq #[.ref h.objs.size,.ref (vf κ h l1).objs.size] }
abbrev vj(κ κ':Bool)(h:Heap)(l1 l2:Addr):Heap:=(vh κ κ' h l1 l2).push { cls:=.type "tuple",data:=.seq #[.none,.none] }
abbrev nM(κ κ':Bool)(h:Heap)(l1 l2:Addr):Heap:=(vj κ κ' h l1 l2).push { cls:=.type "zip",data:=.fields #[.none,.bool false,.bool false,.ref (vg κ κ' h l1 l2).objs.size,.ref (vh κ κ' h l1 l2).objs.size] }
theorem Ii(κ κ':Bool)(l1 l2:Addr)(xs ys:Array Value) :
  Meets (Builtin.«zip.__new__» ⟨[.type "zip",.ref l1,.ref l2],[]⟩) (λ_ R s=>SSq κ s.heap l1 xs/\SSq κ' s.heap l2 ys/\R (.ok (.ret (.ref (vj κ κ' s.heap l1 l2).objs.size))) { s with heap:=nM κ κ' s.heap l1 l2 }):=
 .of_wp λprog w A R s h=>by
  obtain⟨hp,g,d,tk,os⟩:=s;obtain⟨hl1,hl2,h⟩:=h;have hsub:=sub_zip;have L1:SSq κ (Shared.heap ⟨hp,g,d,tk,os⟩) l1 xs:=hl1;have L2':SSq κ' (Shared.heap ⟨hp.push (io κ l1),g,d,tk,os⟩) l2 ys:=hl2.keep λo e=>de _ e
  wp_walk using yC L1,yC L2'
  exact⟨_,rfl,h⟩
theorem Ij{E:Value->Shared->Prop}{l1 l2:Addr}(hl1:SSq κ s.heap l1 xs)(hl2:SSq κ' s.heap l2 ys)
  (h:∀ h',IsZip h' (s.heap.objs.size+4) (s.heap.objs.size+2) (s.heap.objs.size+3) .none->IsPair h' (s.heap.objs.size+2) (.ref s.heap.objs.size) (.ref (s.heap.objs.size+1))->
   IsPair h' (s.heap.objs.size+3) .none .none->SIt κ h' s.heap.objs.size l1 0->SIt κ' h' (s.heap.objs.size+1) l2 0->
   (∀c o,s.heap.get? c=some o->h'.get? c=some o)->Q (.ref (s.heap.objs.size+4)) { s with heap:=h' }) :
  wpAny (model prog w) A (call (.type "zip") [.ref l1,.ref l2]) Q E s:=by
 refine callType_new F.called_zip (by decide) (F.typeCall_zip_2 _ _) (F.newCall_zip_2 _ _) (λobj=>F.args_object_init_3 obj _ _) F.entry_zip_new (Ii κ κ' l1 l2 xs ys) ⟨hl1,hl2,?_⟩;have z1:(vf κ s.heap l1).objs.size=s.heap.objs.size+1:=lM ..;have z2:(vg κ κ' s.heap l1 l2).objs.size=s.heap.objs.size+2:=by rw[lM,z1]
 have z3:(vh κ κ' s.heap l1 l2).objs.size=s.heap.objs.size+3:=by rw[lM,z2]
 have z4:(vj κ κ' s.heap l1 l2).objs.size=s.heap.objs.size+4:=by rw[lM,z3]
 have up5:∀{c o},(vj κ κ' s.heap l1 l2).get? c=some o->(nM κ κ' s.heap l1 l2).get? c=some o:=λe=>de _ e;have up4:∀{c o},(vh κ κ' s.heap l1 l2).get? c=some o->(nM κ κ' s.heap l1 l2).get? c=some o:=λe=>up5 (de _ e);have up3:∀{c o},(vg κ κ' s.heap l1 l2).get? c=some o->(nM κ κ' s.heap l1 l2).get? c=some o:=λe=>up4 (de _ e);have up2:∀{c o},(vf κ s.heap l1).get? c=some o->(nM κ κ' s.heap l1 l2).get? c=some o:=λe=>up3 (de _ e);have ob:∀κ l,(io κ l).isFreed=false:=λκ l=>rfl;have g5:(nM κ κ' s.heap l1 l2).get? (vj κ κ' s.heap l1 l2).objs.size=some _:=f9 _ rfl;have g4:(nM κ κ' s.heap l1 l2).get? (vh κ κ' s.heap l1 l2).objs.size=some _:=up5 (f9 _ rfl);have g3:(nM κ κ' s.heap l1 l2).get? (vg κ κ' s.heap l1 l2).objs.size=some _:=up4 (f9 _ rfl);have g2:(nM κ κ' s.heap l1 l2).get? (vf κ s.heap l1).objs.size=some _:=up3 (f9 _ (ob κ' l2));have g1:(nM κ κ' s.heap l1 l2).get? s.heap.objs.size=some _:=up2 (f9 _ (ob κ l1));show _/\_;rw[z2,z3,z4] at g5;rw[z1,z2] at g3;rw[z3] at g4;rw[z1] at g2;rw[z4];exact⟨⟨_,g5,rfl⟩,h _ g5 g3 g4 (Bh g1) (Bh g2) λc o x=>up2 (de _ x)⟩
theorem Ik(n:Nat):ve (n+4) (n+2) (n+3) n (n+1):=
 ⟨(by omega:n+2≠n+4),(by omega:n+3≠n+4),(by omega:n≠n+4),(by omega:n+1≠n+4),(by omega:n+2≠n+3),(by omega:n+2≠n),(by omega:n+2≠n+1),(by omega:n+3≠n),(by omega:n+3≠n+1),(by omega:n≠n+1)⟩
def Bi(n b:Nat)(h:b=n+4\/b=n+2\/b=n+3\/b=n\/b=n+1):n<=b:=by omega
section
def Bj(K:NF)(ta:TA):TI:=λσ H R=>ta σ H λvs H1=>∃κ κ' a b,vs=[.ref a,.ref b]/\(∃xs,Sq K κ H1 a xs)/\(∃ys,Sq K κ' H1 b ys)/\R (DM K κ κ' a b) H1
theorem Im{a b:Expr}{ps:Pos}(hg:Gl X "zip")(hm:X.mg "zip" = none)(ha:PA X [a,b] ta)(hs:starEach [a,b] X.env=[(false,eval a X.env),(false,eval b X.env)]:=by rfl)(hs2:starEach [b] X.env=[(false,eval b X.env)]:=by rfl) :
  PI X (.Tuple es n1 ps) (.Call (.Name "zip" p) [a,b] [] pos) (Bj X.K ta):=by
 intro pins s σ H R I h;refine Call_ (fe I hg hm boot_zip (PyProof.Rows.callWith_type1 (bA (ha pos pins s σ H _ I h) λus s1 ⟨vs,H1,I1,r1,q1⟩=>?_) (by rw[hs,hs2]) (by rw[hs2];rfl)));obtain⟨κ,κ',l1,l2,e,⟨xs,hx⟩,⟨ys,hy⟩,q⟩:=q1;subst e;cases r1 with
 |cons r rr=>
  cases rr with
  |cons r' rr=>
   cases rr;cases r;cases r';obtain⟨its,rv,p1,hz⟩:=I1.sq hx;obtain⟨its',rv',p2,hz'⟩:=I1.sq hy;refine Ij p1 p2 λh' a1 a2 a3 a4 a5 k=>wpAny_pyIter_zip (s:={ s1 with heap:=h' }) a1 ?_;have D:ve (s1.heap.objs.size+4) (s1.heap.objs.size+2) (s1.heap.objs.size+3) s1.heap.objs.size (s1.heap.objs.size+1):=Ik _;refine⟨_,[s1.heap.objs.size+4,s1.heap.objs.size+2,s1.heap.objs.size+3,s1.heap.objs.size,s1.heap.objs.size+1],_,_,H1,rfl,I1.kept (t':=s1.toks) k,Ih (κ:=κ) (κ':=κ') l1 l2 _ _ _ _ _ D,⟨a1,a2,⟨_,_,a3⟩,a4,a5⟩,λb hb=>?_,q⟩;have hb':s1.heap.objs.size<=b:=by
    simp only[Yan,dN,or_false] at hb;exact Bi _ _ hb
   exact I1.fpOk hb' (I1.hok.fresh hb')
end
theorem DN{C:Addr}(X:K.In h)(q:PySem.W.excIn K C bmB newId=true) :
  ∃(bm:List Value) (N:Addr) (nm qn:Str) (bs:List Value) (hd:Bool) (sn:List Str) (sub:List Value) (ab:Bool) (col:Option Bool) (dd:Option Addr) (k0 k1 k2 k3 k5:Option Value) (mN:Str->Option Value),
   h.get? C=some (excClassObj nm qn C N bs bm hd sn sub ab col dd k0 k1 k2 k3 k5 newId)/\h.Ns N mN/\mN "__init__" = none/\OwnTail h bmB bm:=by
 unfold PySem.W.excIn at q;split at q
 .rename_i dd cd sl ho
  split at q
  .rename_i C' bm k0 k1 k2 k3 n k5 hm hs
   simp only[dj,N5,tS] at q;obtain⟨⟨⟨⟨⟨rfl,rfl⟩,hdel⟩,ht⟩,hok⟩,hni⟩:=q;obtain⟨nm,bs,mro,ns,qn,hd,sn,sub,ab,col,del⟩:=cd;dsimp only at hm hdel hok hni;subst hm hdel;have hsl:sl = #[k0,k1,k2,k3,some (.builtin n),k5]:=by
    cases sl with
    |mk l=>exact congrArg Array.mk hs
   subst hsl;exact⟨bm,ns,nm,qn,bs,hd,sn,sub,ab,col,dd,k0,k1,k2,k3,k5,_,X _ _ ho,.of_isNs (PySem.W.isNs_of_in X hok),PySem.W.nsMap_none_of_in X hok hni,PySem.W.tail_of_in X ht⟩
  .cases q
 .cases q
section
variable{EX:XK}{C:Addr}{np cpos:Pos}{B initId:String}
theorem Io(hr:kY X EX)(hc:X.calm=true)(hm:X.mg x=some (.ref C))(hq:PySem.W.excIn X.K C bmB newId=true)(FB:ExcBaseFacts B newId initId bmB)(hg:Gl X x:=by rfl)(hd:(x==("__debug__" : Str))=false:=by decide) :
  PS X (.Raise (some (.Call (.Name x np) [] [] cpos)) none pos) (λ_ _ H=>EX (.ref C) none H):=by
 intro pins s σ H D I h;obtain⟨bm,N,nm,qn,bs,hdc,sn,sub,ab,col,dd,k0,k1,k2,k3,k5,mN,hC,hN,hni,T⟩:=DN I.kIn hq;refine wpAny_Raise_call_subT (C:=C) (nm:=nm) (q:=qn) (N:=N) (bs:=bs) (bm:=bm) (hdct:=hdc) (sn:=sn) (sub:=sub) (ab:=ab) (col:=col) (dd:=dd) (k0:=k0) (k1:=k1) (k2:=k2) (k3:=k3) (k5:=k5)
  FB (mN:=mN) (T.hasType FB.hasBase) (I.ok.hd hc) rfl hni (eW I hg hm ⟨rfl,?_⟩ hd)
 exact evalArgs_empty ⟨rfl,gJ _,hC,hN,T,λh' e hx=>hr pins σ H s h' e (.ref C) [] I hx h⟩
end
section
variable{H':Hp}{s':Shared}{B h2:Heap}
def Inv.fsStk(I:Inv X pins σ H s)(hb:b∈X.fs):b∈cY X.stack:=by
 rcases I.ok.stk with z|⟨z,_⟩
 .rw[z];exact hb
 .rw[z];exact yz hb
theorem Inv.fly(I:Inv X pins σ H s)(hos:s'.os=s.os)(hbare:AllBare s'.gens)(un:Un (cY X.stack) [] H H' s.heap s'.heap)(hok:HOk X.prog X.w H' s'.heap)
  (hB:∀b o,s.heap.get? b=some o->b∉cY X.stack->∃o',B.get? b=some o') (hT:∀b u,H' b=some u->∃o,B.get? b=some o) (st1:B.StaysIn s'.heap) (st2:B.StaysIn h2) (up:s'.heap.UpToSlots h2)
  (frm:∀b∈cY X.stack,∃o,s'.heap.get? b=some o/\∀vs,o.data≠.fields vs):Inv X pins σ H' { s' with heap:=h2 }:=by
 have I':Inv X pins σ H' s':=I.call' hos un hok hbare (ch:=[]) (λb z=>NH z (by simp));have nostk:∀b o,X.s₀.heap.get? b=some o->b∉X.fs->b∉cY X.stack:=λb o e hb hm=>by
  rcases Yan.mp (I.stkSub b hm) with z|z
  .have l1:=db e
   have l2:=I.ok.above;rw[<-z] at l2;exact NH (cU l1 l2) (gZ _)
  .exact hb z
 have inB:∀{b o},s.heap.get? b=some o->b∉cY X.stack->∀{u},s'.heap.get? b=some u->h2.get? b=some u:=λ{b o} e hb {u} q=>by
  obtain⟨o',eB⟩:=hB b o e hb;have:=st1 b o' eB;rw[q] at this;cases this;exact st2 b _ eB
 have cellK:∀c v,s'.heap.IsCell c v->h2.IsCell c v:=λc v ⟨o,ho,hd⟩=>by
  obtain⟨sl,e⟩:=up c o ho λvs z=>by rw[hd] at z;cases z
  exact⟨_,e,hd⟩
 refine⟨I'.ok,I'.os,I'.bare,⟨λb o e n hb hx=>?_,λb o e n hb hx=>?_,I'.base.free,λb o e hx=>?_,I'.base.tups,I'.base.frzs,I'.base.tbls,I'.base.sys⟩,?_,λx c e=>?_,I'.free,I'.freeC,λp hp=>?_,hok.through hT st1 st2,I'.len⟩
 .exact inB (I.base.keep b o e n hb hx) (nostk b o e hb) (I'.base.keep b o e n hb hx)
 .obtain⟨sl,e1⟩:=I'.base.slot b o e n hb hx
  obtain⟨o3,e3,nf⟩:=frm b (I.fsStk hb);rw[e1] at e3;cases e3;obtain⟨sl2,e4⟩:=up b _ e1 nf;exact⟨sl2,e4⟩
 .obtain⟨o',e1⟩:=I'.base.there b o e hx
  by_cases hb:b∈cY X.stack
  .obtain⟨o3,e3,nf⟩:=frm b hb
   obtain⟨sl,e4⟩:=up b _ e3 nf;exact⟨_,e4⟩
  .obtain⟨o2,e2⟩:=I.base.there b o e hx
   exact⟨o',inB e2 hb e1⟩
 .obtain⟨m,hn,hl⟩:=I'.loc
  refine⟨m,up.ns hn,λi x v e1 e2 e3=>?_⟩;obtain⟨u,r,l⟩:=hl i x v e1 e2 e3;refine⟨u,r,?_⟩;rcases l with l|⟨k,c,e,z⟩
  .exact .inl l
  .exact .inr ⟨k,c,e,cellK c _ z⟩
 .obtain⟨v,z⟩:=I'.cell x c e
  exact⟨v,cellK c v z⟩
 .obtain⟨e,n,ne,nf,d⟩:=I'.pin p hp
  obtain⟨e0,n0,_⟩:=I.pin p hp;have hb:p.1∉cY X.stack:=λhm=>by
   rcases Yan.mp (I.stkSub _ hm) with z|z
   .exact ne z
   .exact nf z
  exact⟨inB e0 hb e,n,ne,nf,d⟩
theorem Inv.track{u:HO}(I:Inv X pins σ H s)(hn:H a=none)(h0:X.s₀.heap.get? a=none)(hL:a≠X.env.locals)(hC:∀x c,X.env.cells.lookup x=some c->c≠a)(hP:∀p∈X.pn++pins,p.1≠a)
  (new:ObjOk X.prog X.w (upd H a u) s.heap a u) (hu:∀us,u≠.lst us):Inv X pins σ (upd H a u) s:=by
 have nea:∀b v,H b=some v->b≠a:=λb v e z=>by rw[z,hn] at e;cases e
 refine ⟨I.ok,I.os,I.bare,⟨I.base.keep,I.base.slot,λb o e n hx=>?_,I.base.there,λb xs e=>?_,λb o xs e=>?_,λb ps e=>?_,λx0 e0 n ys=>by
   by_cases z:sysModules=a
   .rw[z,aN];exact λy=>hu ys (NJ y)
   .rw[aG z];exact I.base.sys x0 e0 n ys⟩,I.loc,I.cell,?_,λx c e=>?_,λp hp=>?_,λb v e=>?_,I.len⟩
 .rw[aG (λz=>by rw[z,h0] at e;cases e)]
  exact I.base.free b o e n hx
 .have:=I.base.tups b xs e
  rw[aG (nea _ _ this)];exact this
 .have:=I.base.frzs b o xs e
  rw[aG (nea _ _ this)];exact this
 .obtain⟨m,e1⟩:=I.base.tbls b ps e
  exact⟨m,by rw[aG (nea _ _ e1)];exact e1⟩
 .rw[aG (NO hL)];exact I.free
 .rw[aG (hC x c e)];exact I.freeC x c e
 .obtain⟨e,n,r⟩:=I.pin p hp
  exact⟨e,by rw[aG (hP p hp)];exact n,r⟩
 .by_cases hb:b=a
  .subst hb;rw[aN] at e;cases e;exact new
  .rw[aG hb] at e
   exact(I.hok b v e).stay (λ_ _ _ q=>q) (λc q=>by rw[aG (nea _ _ q)];exact q) λc _ q=>by rw[aG (nea _ _ q)];exact q
end
abbrev Cx.tr(X:Cx)(E:Value->Shared->Prop)(pins:List (Addr×Obj)):Cx:={ X with xe:=E,pn:=X.pn++pins }
abbrev Cx.hnd(X:Cx)(e:Addr)(E:Value->Shared->Prop):Cx:={ X with A:=X.A.mark (some (.ref e)),calm:=false,xe:=E }
section
variable{pins':List (Addr×Obj)}{E:Value->Shared->Prop}{e:Addr}
theorem Inv.tr(I:Inv X pins σ H s):Inv (X.tr E pins) [] σ H s:=⟨⟨I.ok.mod,I.ok.kind,I.ok.glob,I.ok.blt,I.ok.above,I.ok.inj,I.ok.has,I.ok.cab,I.ok.hd,I.ok.frames,I.ok.stk,I.ok.exf,I.ok.bs,I.ok.bsz,I.ok.noex,I.ok.exfs,I.ok.funs,I.ok.frf,I.ok.sys0⟩,I.os,I.bare,I.base,I.loc,I.cell,I.free,I.freeC,λp hp=>I.pin p (by simpa using hp),I.hok,I.len⟩
theorem Inv.untr(I:Inv (X.tr E pins) pins' σ H s):Inv X pins σ H s:=⟨⟨I.ok.mod,I.ok.kind,I.ok.glob,I.ok.blt,I.ok.above,I.ok.inj,I.ok.has,I.ok.cab,I.ok.hd,I.ok.frames,I.ok.stk,I.ok.exf,I.ok.bs,I.ok.bsz,I.ok.noex,I.ok.exfs,I.ok.funs,I.ok.frf,I.ok.sys0⟩,I.os,I.bare,I.base,I.loc,I.cell,I.free,I.freeC,λp hp=>I.pin p (At _ hp),I.hok,I.len⟩
theorem SP.untr{D:je}{f:Flow}{s':Shared}(h:SP (X.tr E pins) pins' D f s'):SP X pins D f s':=by
 cases f with
 |next=>obtain⟨σ',H',I,q⟩:=h;exact⟨σ',H',I.untr,q⟩
 |brk=>obtain⟨σ',H',I,q⟩:=h;exact⟨σ',H',I.untr,q⟩
 |cont=>obtain⟨σ',H',I,q⟩:=h;exact⟨σ',H',I.untr,q⟩
 |ret u=>obtain⟨v,σ',H',I,r,q⟩:=h;exact⟨v,σ',H',I.untr,r,q⟩
theorem Inv.hnd(I:Inv X pins σ H s):Inv (X.hnd e E) pins σ H s:=⟨⟨I.ok.mod,I.ok.kind,I.ok.glob,I.ok.blt,I.ok.above,I.ok.inj,I.ok.has,I.ok.cab,(λz=>by cases z),I.ok.frames,I.ok.stk,I.ok.exf,I.ok.bs,I.ok.bsz,I.ok.noex,I.ok.exfs,I.ok.funs,I.ok.frf,I.ok.sys0⟩,I.os,I.bare,I.base,I.loc,I.cell,I.free,I.freeC,I.pin,I.hok,I.len⟩
theorem Inv.unhnd(hd:X.calm=true->X.A.handled=none)(I:Inv (X.hnd e E) pins σ H s):Inv X pins σ H s:=⟨⟨I.ok.mod,I.ok.kind,I.ok.glob,I.ok.blt,I.ok.above,I.ok.inj,I.ok.has,I.ok.cab,hd,I.ok.frames,I.ok.stk,I.ok.exf,I.ok.bs,I.ok.bsz,I.ok.noex,I.ok.exfs,I.ok.funs,I.ok.frf,I.ok.sys0⟩,I.os,I.bare,I.base,I.loc,I.cell,I.free,I.freeC,I.pin,I.hok,I.len⟩
end
theorem Ip{M:Model}{E:Value->Shared->Prop}{ea C Cs:Addr}{Q:Bool->Shared->Prop}(X:K.In s.heap)(hs:PySem.W.excIn K Cs bmB newId=true)(hbase:bmB.contains (.type "BaseException")=true)
  (he:∃oe,s.heap.get? ea=some oe/\oe.cls=.ref C) (hsub:PySem.W.mroIn K C (.ref Cs)=some true) (q:Q true s):wpAny M A (excMatches (.ref ea) (.ref Cs)) Q E s:=by
 obtain⟨bm,N,nm,qn,bs,hd,sn,sub,ab,col,dd,k0,k1,k2,k3,k5,mN,hC,hN,hni,T⟩:=DN X hs;obtain⟨oe,he,hcls⟩:=he;have hcB:(Value.ref Cs::bm).contains (.type "BaseException")=true:=by rw[List.contains_cons,T.hasType hbase,Bool.or_true]
 have f:=tc_notTuple;have LS:PySem.W.Looks M s.heap (isSubtype (.ref C) (.ref Cs)) true:=PySem.W.looks_mroIn X hsub;obtain⟨hh,g,d,tk,os⟩:=s;unfold excMatches
 repeat (first|(with_reducible refine wpAny_loadPart_at he ?_;rw[hcls])|with_reducible refine wpAny_loadPart_at hC ?_|(with_reducible refine wpAny_isSubtype_exc hC ?_;rw[hcB])|with_reducible refine LS.at ?_|wp_step)
 exact q
section
theorem Inv.names(I:Inv X pins σ H s)(hn:h'.Ns X.env.locals m)(hs:Heap.SameBut X.env.locals s.heap h'):Inv X pins (List.replicate σ.length none) H { s with heap:=h',toks:=t' }:=by
 have ne:∀b o,X.s₀.heap.get? b=some o->b≠X.env.locals:=λb o e=>fJ (cU (db e) I.ok.above);have same:∀b,b≠X.env.locals->h'.get? b=s.heap.get? b:=λb hb=>hs.2 b hb;have nH:∀b u,H b=some u->b≠X.env.locals:=λb u e z=>by rw[z,I.free] at e;cases e
 refine⟨I.ok,I.os,I.bare,⟨λb o e n hb hx=>?_,λb o e n hb hx=>?_,I.base.free,λb o e hx=>?_,I.base.tups,I.base.frzs,I.base.tbls,I.base.sys⟩,⟨m,hn,λi x v _ e2 _=>?_⟩,λx c e=>?_,I.free,I.freeC,λp hp=>?_,λb u e=>?_,by rw[pJ];exact I.len⟩
 .show h'.get? b=_
  rw[same b (ne b o e)];exact I.base.keep b o e n hb hx
 .obtain⟨sl,e1⟩:=I.base.slot b o e n hb hx
  refine⟨sl,?_⟩;show h'.get? b=_;rw[same b (ne b o e)];exact e1
 .obtain⟨o',e1⟩:=I.base.there b o e hx
  refine⟨o',?_⟩;show h'.get? b=_;rw[same b (ne b o e)];exact e1
 .rw[mo] at e2
  split at e2<;>cases e2
 .obtain⟨v,o,ho,hd⟩:=I.cell x c e
  refine⟨v,o,?_,hd⟩;show h'.get? c=_;rw[same c (I.cne x c e)];exact ho
 .obtain⟨e,n,nl,r⟩:=I.pin p hp
  refine⟨?_,n,nl,r⟩;show h'.get? p.1=_;rw[same _ nl];exact e
 .refine(I.hok b u e).stay (λc v hc q=>?_) (λ_ q=>q) λ_ _ q=>q
  show h'.get? c=_;rw[same c ?_]
  .exact q
  .rcases hc with rfl|hc
   .exact nH _ _ e
   .exact nH _ _ hc
end
structure RoomU(k:Nat)(A:Around):Prop where
 dp:A.depth+3*k+5<recursionLimit
 un:A.units+16*k+200<cLine
def RoomU.mono{j:Nat}(r:RoomU k A)(h:j<=k):RoomU j A:=⟨by have:=r.dp;omega,by have:=r.un;omega⟩
theorem RoomU.deeper{k:Nat}{A:Around}(r:RoomU (k+1) A)(env:Env):RoomU k (A.deeper env):=
 ⟨by have:=r.dp;show A.depth+1+3*k+5<_;omega,by have:=r.un;show A.units+3+16*k+200<_;omega⟩
def RoomU.depth{k:Nat}{A:Around}(r:RoomU k A):A.depth<recursionLimit:=by have:=r.dp;omega
def RoomU.units{k:Nat}{A:Around}(r:RoomU k A):A.units+64<cLine:=by have:=r.un;omega
def Room.u(r:Room k A):RoomU k A:=⟨r.dp,r.un⟩
def RoomU.mark{k:Nat}{A:Around}{v:Option Value}(r:RoomU k A):RoomU k (A.mark v):=⟨r.dp,r.un⟩
structure yD(P:Program)(w:World)(K:NF)(mg:Str->Option Value)(base:Heap)(k:Nat)(f:Addr)(fd:FuncData)(ps:List Str)(sp:Sp):Prop where
 len:∀vs H Q E,sp vs H Q E->vs.length=ps.length
 run:∀(A:Around) (outer:List Env) (s:Shared) (H:Hp) (args:Args) (us:List Value) (vs:List V) (Q:VK) (E:XK),RoomU k A->Env0 P w K mg base A outer s H->BindsTo s fd args (ps.zip us)->Vals vs us->sp vs H Q E->
  codeAny (model P w) A (.call (.ref f) args) (CR yv outer P w H s Q E) s
def sM(P:Program)(w:World)(K:NF)(mg:Str->Option Value)(base:Heap)(N:List Str)(qual:Str)(scope:Scope)(f:Addr)(cd:Value)(A:Around)(outer:List Env)(s:Shared)(H:Hp):Cx:=
 { dQ yv P w K mg base N qual scope f cd A outer s H E0 with calm:=false,xe:=λ_ _=>False }
theorem Iq{base:Heap}{s1:Shared}{vs:List V}
  (S:cO N ps scope) (e0:Env0 P w K mg base A outer s H) (hl:vs.length=ps.length) (r:Vals vs us)
  (x:InCallC s s.heap.objs.size (bindL (envOfC qual scope s.heap.objs.size f cd).kindOf (ps.zip us) λ_=>none) (cellsFrom (s.heap.objs.size+1) scope.names []) (bindC (envOfC qual scope s.heap.objs.size f cd).kindOf (ps.zip us) λ_=>none) s1) :
  Inv (sM P w K mg base N qual scope f cd A outer s H) [] (start N vs) H s1:=by
 have hpl:ps.length<=N.length:=by have:=congrArg List.length S.pre;rw[jr] at this;omega
 obtain⟨h1,tk,rfl,hk⟩:=x.done;have noA:∀b:Addr,b∉(sM P w K mg base N qual scope f cd A outer s H).ex:=λb z=>NH (show b∈([]:List Addr) from z) (by simp);refine ⟨⟨e0.mod,S.kind,rfl,rfl,bP _,λy z c h1 h2=>?_,λy hy=>?_,λy c _ h=>?_,(λz=>by cases z),Around.frames_deeper e0.frames,.inr ⟨rfl,rfl⟩,λb z=>NH z (noA b),e0.bs,e0.bsz,λb _ _=>noA b,λb z=>NH z (noA b),e0.funs,e0.frf,e0.sysn⟩,
  rfl,e0.bare,Un.kept hk,⟨_,x.toInCall.ns,λi y v h1 h2 h3=>?_⟩,λy c h=>⟨_,x.cell y c h⟩,e0.hok.fresh (bP _),λy c h=>?_,λp hp=>NH (show p∈([]:List (Addr×Obj)) from hp) (by simp),e0.hok.kept hk,?_⟩
 .exact name_of_addr x.apart (NP h1) (NP h2)
 .have hy:scope.names.lookup y=some .cell\/scope.names.lookup y=some .free:=hy
  rcases hy with hy|hy
  .exact d6 hy
  .exact NH rfl (S.nofree _ (NP hy))
 .exact jC (x.above y c (NP h))
 .have hi:i<vs.length:=by
   unfold start at h2
   by_cases hi:i<vs.length
   .exact hi
   .rw[jt (by simpa using hi)] at h2
    rw[mo] at h2;split at h2<;>cases h2
  have ha:vs[i]? = some v:=by
   unfold start at h2;rw[j6 (by simpa using hi),cI] at h2;cases e:vs[i]? with
   |none=>rw[e] at h2;cases h2
   |some a=>rw[e] at h2;cases h2;rfl
  obtain⟨u,hu,rv⟩:=r.get ha;have hp:ps[i]? = some y:=by
   rw[<-S.pre,Av (by omega)];exact h1
  have ndP:ps.Nodup:=by rw[<-S.pre];exact S.nd.sublist (List.take_sublist _ _)
  refine⟨u,rv,?_⟩;rcases S.par y (ge hp) with k|k
  .exact .inl ⟨k,fh ndP hp hu k⟩
  .obtain⟨c,e⟩:=d6 (n:=s.heap.objs.size+1) k
   refine .inr ⟨.inl k,c,e,?_⟩;have q:=x.cell y c e;rw[fk ndP hp hu (by show scope.names.lookup y≠_;rw[k];decide)] at q;exact q
 .exact e0.hok.fresh (jC (x.above y c (NP h)))
 .unfold start
  show _=N.length;rw[dM,bL,pJ];omega
theorem Fun.okU{base:Heap}{st:Stmt}{sp:Sp}(F:Fun K x qual st f fd)(S:cO N ps (aK st))(len:∀vs H Q E,sp vs H Q E->vs.length=ps.length)
  (hbody:∀ (cdv:Value) (A:Around) (outer:List Env) (s:Shared) (H:Hp) (vs:List V) (Q:VK) (E:XK),RoomU k (A.deeper (envOfC qual (aK st) s.heap.objs.size f cdv))->sp vs H Q E->
   ∃t,PSs (sM P w K mg base N qual (aK st) f cdv A outer s H) (bF st) t/\t { nx:=λ_ H'=>Q .non H',rt:=Q } (start N vs) H):yD P w K mg base (k+1) f fd ps sp:=by
 obtain⟨oc,od,kV,doc,pm,an,cdv,ct,osl,rfl,lk,hcd⟩:=F.ex;refine⟨len,λA outer s H args us vs Q E hr e0 hb r hsp=>?_⟩;have hl:=len _ _ _ _ hsp;have KX:K.In s.heap:=e0.mod.kin.keeps λb o e=>(e0.bs b o e).1;have lim:s.heap.NoLimit:=e0.mod.nolimit.keeps λb o e=>(e0.bs b o e).1;have hkind:∀y∈ps.zip us,(aK st).names.lookup y.1=some .local\/((aK st).names.lookup y.1=some .cell/\((cellsFrom (s.heap.objs.size+1) (aK st).names []).lookup y.1).isSome=true):=λ⟨n,v⟩ hy=>by
  rcases S.par n (xI hy).1 with q|q
  .exact .inl q
  .exact .inr ⟨q,PySem.W.cellsFrom_some _ _ _ (.inl q)⟩
 refine codeAny_call_function hr.depth (KX _ _ lk) rfl S.co S.gen rfl (PySem.W.codeRec_of KX hcd) (hb _ _ _ _ ?_);refine wpAny_newFunctionEnv_cells S.kind hkind λenv he s1 x=>?_;subst he;refine⟨lim.keeps x.toInCall.keep,codeAny_func ?_⟩;obtain⟨t,ht,hq⟩:=hbody cdv A outer s H vs Q E (hr.deeper _) hsp;have I:Inv (sM P w K mg base N qual (aK st) f cdv A outer s H) [] (start N vs) H s1:=Iq S e0 hl r x;refine NN (ht [] s1 (start N vs) H _ I hq) (λfl s' hs=>?_) λe s' hs=>hs.elim;have fin:∀{σ':St} {H':Hp} {v:V} {u:Value},Inv (sM P w K mg base N qual (aK st) f cdv A outer s H) [] σ' H' s'->RelV v u->Q v H'->CE outer P w H s Q u s':=
  λ{σ' H' v u} J rv q=>⟨v,H',J.os,J.bare,J.base,J.hok,rv,q⟩
 cases fl with
 |ret u=>
  obtain⟨v,σ',H',J,rv,q⟩:=hs;exact fin J rv q
 |next=>
  obtain⟨σ',H',J,q⟩:=hs;exact fin (v:=V.non) (u:=Value.none) J rfl q
 |brk=>
  obtain⟨_,_,_,q⟩:=hs;exact NT q
 |cont=>
  obtain⟨_,_,_,q⟩:=hs;exact NT q
section
variable{sp:Sp}{E:XK}{t:TA}
theorem Ir(F:yD X.prog X.w X.K X.mg X.base k f fd ps sp)(hr:RoomU k X.A)(hg:Gl X x)(hm:X.mg x=some (.ref f))(hk:PySem.W.keepIn X.K (.ref f)=true)(hb:Binds X.K fd ps [])
  (ha:PA X (e::es) t) (hdb:(x==("__debug__" : Str))=false:=by decide) (he:starEach (e::es) X.env=(false,eval e X.env)::starEach es X.env:=by rfl) (hpl:(backTo pos (starEach es X.env)).any (·.1)=false:=by rfl) :
  PE X (.Call (.Name x p) (e::es) [] pos) (qN sp [] E t):=by
 have F':∀(pins:List (Addr×Obj)) (σ:St) (H:Hp) (s:Shared) (Q:VK) (us:List Value) (vs:List V),Inv X pins σ H s->Vals vs us->sp (vs++[]) H Q E->wpAny (model X.prog X.w) X.A (call (.ref f) us) (EP X pins σ Q) X.xe s:=by
  intro pins σ H s Q us vs I r h;have r2:Vals (vs++[]) (us++[]):=by simpa using r
  have hl:(us++[]).length=ps.length:=by rw[<-r2.length];exact F.len _ _ _ _ h
  refine wpAny_call (codeAny_mono (F.run X.A X.stack s H ⟨us,[]⟩ (us++[]) (vs++[]) Q E hr I.env0 (hb s us I.kIn hl) r2 h) λr s' hq=>?_);cases r with
  |error e=>exact NT hq
  |ok fl=>
   cases fl with
   |ret u=>exact I.after hq
   |next=>exact NT hq
   |brk=>exact NT hq
   |cont=>exact NT hq
 intro pins s σ H Q I h;refine N7 (eW I hg hm ?_ hdb);refine PySem.W.callWith_K (h₀:=X.base) I.ok.mod.kin hk (bA (ha pos pins s σ H _ I h) λus s1 ⟨vs,H1,I1,r,q⟩=>⟨I1.kIn,?_⟩) he hpl;exact F' pins σ H1 s1 Q us vs I1 r q
end
section
open PySem PySem.Spec PySem.Calls PyProof.Rows PySem.W Builtin Builtin.ObjectAttr Builtin.Getset_descriptor
def XAt(h:Heap)(x C:Addr):Prop:=∃ox,h.get? x=some ox/\ox.cls=.ref C/\notCls ox=true
structure gM(K:Frag)(D:Addr):Prop where
 ga:findIn K (.ref D) "__getattribute__" = some (some (.builtin "BaseException.__getattribute__"))
 gn:findIn K (.ref D) "__getattr__" = some none
 be:mroIn K D (.type "BaseException")=some true
 is:(clsIn K D).isSome=true
 at':findIn K (.ref D) "__class__" = some (some (.builtin "object.__class__"))
 gt:specialIn K (.builtin "object.__class__") "__get__" = some (some (.builtin "getset_descriptor.__get__"))
 tk:takesIn K (.builtin "object.__class__")=some true
 ob:mroIn K D (.type "object")=some true
section
variable{E:Value->Shared->Prop}{K:Frag}{x D:Addr}
def XAt.type{M:Model}(I:XAt h x D):Looks M h (typeOf (.ref x)) (.ref D):=by
 obtain⟨ox,h1,h2,_⟩:=I;exact h2▸(Looks.ld h1).andThen .now
theorem Iu{M:Model}(X:K.In h)(c:gM K D):Looks M h (find (.ref x) (.ref D) "__class__") (.bind (.builtin "getset_descriptor.__get__") (.builtin "object.__class__")):=by
 have L1:=looks_findIn (M:=M) X c.at';have L2:Looks M h (getOf (some (.builtin "object.__class__"))) (some (.builtin "getset_descriptor.__get__")):=looks_specialIn X c.gt;have L3:=looks_takesIn (M:=M) X c.tk;refine L1.andThen (L2.andThen ?_);exact(show Looks M h (dataDescriptor? (some (.builtin "object.__class__")) (some (.builtin "getset_descriptor.__get__"))) (some (.builtin "getset_descriptor.__get__",.builtin "object.__class__")) from L3.andThen .now).andThen (Looks.tag .now)
theorem Iv{tp:Value}{R:Result->Shared->Prop}(X:K.In s.heap)(I:XAt s.heap x D)(hm:mroIn K D (.type "object")=some true)
  (h:R (.ok (.ret (.ref D))) s):codeAny (model prog w) A (.call (.builtin "getset_descriptor.__get__") ⟨[.builtin "object.__class__",.ref x,tp],[]⟩) R s:=by
 obtain⟨hh,g,dr,t,os⟩:=s;have L0:=I.type (M:=model prog w);have L1:=looks_mroIn (M:=model prog w) X hm;refine codeAny_call_builtin KF.slot_gs.plain KF.entry_gs (KF.slot_gs.check _ _ _ _ _ _ _ _ KF.type_class (KF.args_gs _ _ _) ?_);unfold Builtin.«getset_descriptor.__get__» descrGet;rw[dga_obj];refine NE (NG ?_);unfold descrGetter descrCheckInstance descrNameAndClass isInstance;simp only[KF.owner_class]
 repeat lk
 refine⟨Code.quiet_builtin _ (by decide +kernel),codeAny_builtin KF.entry_class ?_⟩;unfold Builtin.«object.__class__» shownTypeOf
 repeat lk
 exact h
theorem Iw{M:Model}{nameV:Value}{Q:Unit->Shared->Prop}(X:K.In s.heap)(I:XAt s.heap x D)(c:gM K D)(hq:Q () s):wpAny M A (checkBuiltinCall "BaseException.__getattribute__" ⟨[.ref x,nameV],[]⟩) Q E s:=by
 have hk:builtinKind "BaseException.__getattribute__" = some .slot:=by decide +kernel
 have hsplit:splitId "BaseException.__getattribute__" = some ("BaseException", "__getattribute__"):=by decide +kernel
 have ha:=PySem.F.args_bexc_ga (.ref x) nameV;have L0:=I.type (M:=M);have L1:=looks_mroIn (M:=M) X c.be;simp only[checkBuiltinCall,hk,hsplit];refine NE ?_;unfold isInstance;refine NE (L0.at (L1.at ?_))
 repeat (first|assumption|wp_step)
theorem Ix{Q:Fin->Shared->Prop}(X:K.In s.heap)(I:XAt s.heap x D)(c:gM K D)(hq:Q (.done (.ret (.ref D))) s) :
  wpAny (model prog w) A (Builtin.«object.__getattribute__» ⟨[.ref x,.str "__class__" tk],[]⟩) Q E s:=by
 obtain⟨hh,g,d,t,os⟩:=s;have L0:=I.type (M:=model prog w);have L2:=Iu (x:=x) (M:=model prog w) X c
 repeat (any_goals (first|assumption|(with_reducible refine L0.at ?_)|(with_reducible refine L2.at ?_)|wp_step))
 exact Iv (K:=K) (s:=⟨hh,g,d,t,os⟩) X I c.ob (NG hq)
theorem vk{R:Result->Shared->Prop}(X:K.In s.heap)(I:XAt s.heap x D)(c:gM K D)(hq:R (.ok (.ret (.ref D))) s) :
  codeAny (model prog w) A (.call (.builtin "BaseException.__getattribute__") ⟨[.ref x,.str "__class__" tk],[]⟩) R s:=
 codeAny_call_builtin PySem.F.attr_ValueError.ga.plain PySem.F.entry_bexc_ga (Iw X I c (Ix X I c hq))
theorem Iy{Q:Option Value->Shared->Prop}(X:K.In s.heap)(I:XAt s.heap x D)(c:gM K D)(h:Q (some (.ref D)) { s with toks:=s.toks+1 }):wpAny (model prog w) A (getAttr? (.ref x) "__class__") Q E s:=by
 obtain⟨hh,g,d,t,os⟩:=s;have L0:=I.type (M:=model prog w);have L1:=looks_findIn (M:=model prog w) X c.ga;have L3:=looks_findIn (M:=model prog w) X c.gn;have f3:=PySem.F.attr_ValueError.ga.bind (.ref x);have hx2:(Value.builtin "BaseException.__getattribute__" == Value.builtin "object.__getattribute__")=false:=by decide +kernel
 have hx1:(onTheHeap (Value.ref D)&&Value.builtin "BaseException.__getattribute__" == Value.builtin "object.__getattribute__")=false:=by rw[hx2];rfl
 unfold getAttr? getAttrBy?
 repeat (any_goals (first|assumption|(with_reducible refine L0.at ?_)|(with_reducible refine L1.at ?_)|(with_reducible refine L3.at ?_)|wp_step))
 exact vk (K:=K) (s:=⟨hh,g,d,t+1,os⟩) X I c (handed_on rfl (NG h))
theorem DO(c:gM K D):KitX K (.ref x) (.ref D) (λh=>XAt h x D) where
 ty:=λ_ _ _ I=>I.type
 it:=λ_ _ X _=>by
  have hcD:=c.is;unfold clsIn at hcD;split at hcD
  .rename_i c' d' cd' sl' ho
   intro A' Q' E' s' k q;unfold isType loadHead;exact NE (wpAny_loadPart (k _ _ (X _ _ ho)) (NG q))
  .cases hcD
 ne:=λh tp dd its n sl X htp=>by
  have hcD:=c.is;refine Ybs.mpr λq=>?_;have e:D=tp:=Value.ref.inj (beq_iff_eq.mp q);subst e;unfold clsIn at hcD;split at hcD
  .rename_i c' d' cd' sl' ho
   have z:=(X _ _ ho).symm.trans htp;cases z
  .cases hcD
 ca:=λX I k=>Iy X I c k
end
end
theorem Iz:fillsNumberSlot (.type "tuple") "mul" = pure false:=
 PySem.fillsNumberSlot_seq (id:= "tuple.__mul__") (r:=some (.builtin "tuple.__rmul__")) PySem.F.slot_tuple_mul.lookup (by decide +kernel) PySem.F.slot_tuple_rmul.lookup (by decide +kernel)
theorem IC:seqRepeat? (.type "tuple")=pure (some (.builtin "tuple.__mul__")):=by
 unfold seqRepeat?;rw[PySem.seqSlot_of (T:= "tuple") (name:= "__mul__") (id:= "tuple.__mul__") PySem.F.slot_tuple_mul.lookup (by decide +kernel),PySem.seqSlot_of (T:= "tuple") (name:= "__rmul__") (id:= "tuple.__rmul__") PySem.F.slot_tuple_rmul.lookup (by decide +kernel)];rfl
theorem ID(a:Int)(t:Tok)(l:Addr)(items:Array Value)(n:Nat)(dd:Option Addr)(sl:Array (Option Value)) :
  Meets (Builtin.«int.__rmul__» ⟨[.int a t,.ref l],[]⟩) (λ_ R s=>s.heap.get? l=some { cls:=.type "tuple",dict:=dd,data:=.seq items n,slots:=sl }/\R (.ok (.ret Value.notImplemented)) s):=
 .of_wp λprog w A R s h=>by obtain⟨hp,g,d,tk,os⟩:=s;obtain⟨hl,h⟩:=h;wp_walk;exact⟨_,rfl,h⟩
theorem IE(l:Addr)(items:Array Value)(n:Nat)(dd:Option Addr)(sl:Array (Option Value))(k:Int)(t:Tok)(h1:-(2^63)<=k)(h1':k<2^63)(h2:(items.isEmpty||k==1)=true) :
  Meets (Builtin.«tuple.__mul__» ⟨[.ref l,.int k t],[]⟩) (λ_ R s=>s.heap.get? l=some { cls:=.type "tuple",dict:=dd,data:=.seq items n,slots:=sl }/\R (.ok (.ret (Value.ref l))) s):=by
 intro prog w A R s h;obtain⟨hp,g,d,tk,os⟩:=s;obtain⟨hl,h⟩:=h;have f1:=AutoSeq1.idx_int;have c1:¬(decide (k < -2^63)||decide (k ≥ 2^63))=true:=by simp;omega
 unfold Builtin.«tuple.__mul__»
 wp_walk using wpAny_loadPart' hl
 rw[if_neg c1]
 wp_walk using wpAny_loadPart' hl
 exact h
theorem IF(l:Addr)(items:Array Value)(n:Nat)(dd:Option Addr)(sl:Array (Option Value))(k:Int)(t:Tok)(h1:-(2^63)<=k)(h1':k<2^63)(h2:¬(items.isEmpty||k==1)=true)(h3:k<=0) :
  Meets (Builtin.«tuple.__mul__» ⟨[.ref l,.int k t],[]⟩) (λ_ R s=>s.heap.get? l=some { cls:=.type "tuple",dict:=dd,data:=.seq items n,slots:=sl }/\R (.ok (.ret (Value.ref s.heap.objs.size))) { s with heap:=s.heap.push { cls:=Value.type "tuple",data:=Data.seq #[] } }):=by
 intro prog w A R s h;obtain⟨hp,g,d,tk,os⟩:=s;obtain⟨hl,h⟩:=h;have f1:=AutoSeq1.idx_int;have c1:¬(decide (k < -2^63)||decide (k ≥ 2^63))=true:=by simp;omega
 have c2:(decide (k<=0)||items.isEmpty)=true:=by simp[h3]
 unfold Builtin.«tuple.__mul__»
 wp_walk using wpAny_loadPart' hl
 rw[if_neg c1]
 wp_walk using wpAny_loadPart' hl
 exact h
theorem IG(l:Addr)(items:Array Value)(n:Nat)(dd:Option Addr)(sl:Array (Option Value))(k:Int)(t:Tok)(h1:-(2^63)<=k)(h1':k<2^63)(h2:¬(items.isEmpty||k==1)=true)(h3:0<k)(h4:items.size*k.toNat<=sizeLine) :
  Meets (Builtin.«tuple.__mul__» ⟨[.ref l,.int k t],[]⟩) (λ_ R s=>s.heap.get? l=some { cls:=.type "tuple",dict:=dd,data:=.seq items n,slots:=sl }/\R (.ok (.ret (Value.ref s.heap.objs.size))) { s with heap:=s.heap.push { cls:=Value.type "tuple",data:=Data.seq (List.foldl (λx1 x2=>x1++x2) #[] (List.replicate k.toNat items)) } }):=by
 intro prog w A R s h;obtain⟨hp,g,d,tk,os⟩:=s;obtain⟨hl,h⟩:=h;have f1:=AutoSeq1.idx_int;have c1:¬(decide (k < -2^63)||decide (k ≥ 2^63))=true:=by simp;omega
 have c2:¬(decide (k<=0)||items.isEmpty)=true:=by
  have:items.isEmpty=false:=by cases q:items.isEmpty<;>simp_all
  simp[this];omega
 have hk:(items.size:Int)*k=((items.size*k.toNat:Nat):Int):=by rw[Int.natCast_mul,xO (by omega)]
 have hsl:(sizeLine:Nat)=2^24:=rfl;have c3:¬((items.size:Int)*k>(2^63-1)/8):=by rw[hk];omega
 have c4:¬Builtin.Tuple.tupleTooMany ((items.size:Int)*k)=true:=λz=>by have z':=of_decide_eq_true z;rw[hk] at z';omega
 unfold Builtin.«tuple.__mul__»
 wp_walk using wpAny_loadPart' hl
 rw[if_neg c1]
 wp_walk using wpAny_loadPart' hl
 rw[if_neg c3]
 wp_walk using wpAny_loadPart' hl
 rw[if_neg c4]
 wp_walk using wpAny_loadPart' hl
 have hnew:List.foldl (λx1 x2=>x1++x2) #[] (List.replicate k.toNat items)=(List.replicate k.toNat items.toList).flatten.toArray:=by
  have:=eC items.toList k.toNat [];rw[et] at this;simpa using this
 have c5:¬((List.foldl (λx1 x2=>x1++x2) #[] (List.replicate k.toNat items)).size>sizeLine):=by
  rw[hnew,dW,iP,xG,xL];omega
 rw[if_neg c5]
 wp_walk using wpAny_loadPart' hl
 exact h
section
theorem Inv.tnew{ys:List V}{its:List Value}(I:Inv X pins σ H s)(hv:Vals ys its)(hz:ys.length<=sizeLine) :
  Inv X pins σ (upd H s.heap.objs.size (.tup ys)) { s with heap:=s.heap.push { cls:=.type "tuple",data:=.seq its.toArray },toks:=t' }:=
 I.laid (λ_ _ q=>de _ q) (bP _) ⟨hz,its,hv,IsTup.new _ _⟩
def vm(K:NF):R2:=λx y H Q=>∃l k xs,x=.ref l/\y=.int k/\SqT K H l xs/\-(2^63)<=k/\k<2^63/\xs.length*k.toNat<=sizeLine/\
 ((xs=[]\/k=1)->Q (.ref l) H)/\∀p,H p=none->Q (.ref p) (upd H p (.tup (List.replicate k.toNat xs).flatten))
theorem IH:OpR X (binaryOp .Mult) (vm X.K):=by
 intro pins s σ H x y v u Q I rx ry h;obtain⟨l,k,xs,rfl,rfl,hq,h1,h2,hz,q1,q2⟩:=h;cases rx;obtain⟨t,rfl⟩:=ry;obtain⟨its,r,pl,_⟩:=I.tuple hq;have hl:xs.length=its.length:=r.length;obtain⟨⟨cls,dd,data,sl⟩,ho,hc,n,hd⟩:=id pl;simp only at hc hd;subst hc hd;refine wpAny_binaryOp_repeat_ref (T:= "tuple") (U:= "int") (by decide) ⟨_,ho,rfl⟩ (λs'=>typeIs_int s' k t) Iz PySem.F.fills_int_mul PySem.F.slot_int_rmul IC PySem.F.slot_int_index.lookup
  (call_meets PySem.F.slot_int_rmul (typeIs_int s k t) PySem.F.entry_int_rmul (PySem.F.args_int_rmul_2 _ _) (ID k t l its.toArray n dd sl) ⟨ho,rfl,⟨_,ho,rfl⟩,?_⟩)
 by_cases hs:(its.toArray.isEmpty||k==1)=true
 .refine call_meets PySem.F.slot_tuple_mul ⟨_,ho,rfl⟩ PySem.F.entry_tuple_mul (PySem.F.args_tuple_mul_2 _ _) (IE l its.toArray n dd sl k t h1 h2 hs) ⟨ho,⟨.ref l,H,I,rfl,q1 ?_⟩⟩
  rw[xM] at hs;rcases hs with hs|hs
  .exact .inl (r.nil_iff.mp (by simpa using hs))
  .exact .inr (beq_iff_eq.mp hs)
 .by_cases h3:k<=0
  .refine call_meets PySem.F.slot_tuple_mul ⟨_,ho,rfl⟩ PySem.F.entry_tuple_mul (PySem.F.args_tuple_mul_2 _ _) (IF l its.toArray n dd sl k t h1 h2 hs h3) ⟨ho,⟨.ref _,_,I.tnew (its:=[]) (ys:=(List.replicate k.toNat xs).flatten) (t':=s.toks) ?_ ?_,rfl,q2 _ I.fresh⟩⟩
   .rw[show k.toNat=0 by omega];exact .nil
   .rw[show k.toNat=0 by omega];exact gJ _
  .have hnew:List.foldl (λx1 x2=>x1++x2) #[] (List.replicate k.toNat its.toArray)=(List.replicate k.toNat its).flatten.toArray:=by
    have:=eC its k.toNat [];rw[et] at this;exact this
   refine call_meets PySem.F.slot_tuple_mul ⟨_,ho,rfl⟩ PySem.F.entry_tuple_mul (PySem.F.args_tuple_mul_2 _ _) (IG l its.toArray n dd sl k t h1 h2 hs (by omega) (by rw[dW,<-hl];exact hz)) ⟨ho,?_⟩;rw[hnew];exact⟨.ref _,_,I.tnew (t':=s.toks) (r.rep k.toNat) (by rw[iP,xL];exact hz),rfl,q2 _ I.fresh⟩
end
theorem II(h:Heap)(hb:sysModules<h.objs.size):ObjOk P w H (h.push { cls:=.type "dict",data:=.dict #[] }) h.objs.size (.dK []):=
 ⟨gJ _,beq_eq_false_iff_ne.mpr (NO (fJ hb)),[],.nil,Heap.DictOf.new h⟩
theorem IJ:PE X (.Dict [] [] pos) (λ_ H Q=>∀p,H p=none->Q (.ref p) (upd H p (.dK []))):=λpins s σ H Q I h=>
 wpAny_Dict_empty ⟨.ref s.heap.objs.size,_,I.laid (a:=s.heap.objs.size) (o:=.dK []) (t':=s.toks) (λ_ _ q=>de _ q) (bP _) (II s.heap (tO (by decide) (I.mod.glob.keeps I.bk).lt)),rfl,h _ (I.hok.fresh (bP _))⟩
theorem IK(hh:A.handled=none)(it l:Addr)(hne:l≠it)(xs:Array Value):Draws prog w A it [it,l] xs.size (λi v=>xs[i]? = some v) (λi h=>SIt κ h it l i/\SSq κ h l xs) where
 live:=λ_ _ st=>let⟨o,ho,_⟩:=st.1.obj;⟨o,ho⟩
 frame:=λ_ _ _ st hk=>⟨st.1.keep λo e=>hk it (by simp) o e,st.2.keep λo e=>hk l (by simp) o e⟩
 item:=λi s Q E hi st hQ=>yA st.1 st.2 (x:=xs[i]) (by simp[hi]) λh' hit' hs'=>hQ _ h' s.toks (by simp[hi]) ⟨hit',st.2.keep λo e=>hs'.extBut l o hne e⟩ hs'
 done:=λs Q E st hE=>yB hh st.1 st.2 (by simp) hE
theorem IL(hh:A.handled=none)(it l:Addr)(xs:Array Value)(n:Nat)(hn:xs[n]? = none):Draws prog w A it [it,l] n (λ_ _=>False) (λj h=>j=n/\SIt κ h it l n/\SSq κ h l xs) where
 live:=λ_ _ st=>let⟨o,ho,_⟩:=st.2.1.obj;⟨o,ho⟩
 frame:=λ_ _ _ st hk=>⟨st.1,st.2.1.keep λo e=>hk it (by simp) o e,st.2.2.keep λo e=>hk l (by simp) o e⟩
 item:=λi s Q E hi st hQ=>NH st.1 (fJ hi)
 done:=λs Q E st hE=>yB hh st.2.1 st.2.2 hn hE
abbrev yE(κ:Bool)(h:Heap)(l:Addr):Heap:=h.push (io κ l)
abbrev Bl(κ:Bool)(h:Heap)(l:Addr):Heap:=(yE κ h l).push { cls:=.type "enumerate",data:=.fields #[.none,.bool false,.ref h.objs.size,rawInt 0,.none,.none] }
theorem IM(l:Addr)(xs:Array Value)(n:Nat)(dct:Option Addr)(sl:Array (Option Value)) :
  Meets (Builtin.«enumerate.__new__» ⟨[.type "enumerate",.ref l],[]⟩) (λ_ R s=>s.heap.get? l=some { cls:=.type "tuple",dict:=dct,data:=.seq xs n,slots:=sl }/\R (.ok (.ret (.ref (yE true s.heap l).objs.size))) { s with heap:=Bl true s.heap l }):=
 .of_wp λprog w A R s h=>by
  obtain⟨hp,g,d,tk,os⟩:=s;obtain⟨hl,h⟩:=h;have hsub:=sub_enumerate;have hT:SSq true (Shared.heap ⟨hp,g,d,tk,os⟩) l xs:=(show Heap.IsTuple _ l xs from⟨_,hl,rfl,n,rfl⟩)
  wp_walk using AutoSeq1.wpAny_loadPart' hl
  refine wpAny_stack_any λst=>(NG ?_);split
  .rename_i c _ _ _ _ _
   cases(c==Value.type "enumerate")<;>(wp_walk using AutoSeq1.wpAny_loadPart' hl,yC hT;exact⟨_,rfl,h⟩)
  .wp_walk using AutoSeq1.wpAny_loadPart' hl,yC hT
   exact⟨_,rfl,h⟩
theorem IN{E:Value->Shared->Prop}(hL:SSq κ s.heap l xs)
  (h:∀h',IsEnum h' (s.heap.objs.size+1) s.heap.objs.size 0 .none->SIt κ h' s.heap.objs.size l 0->(∀b o,s.heap.get? b=some o->h'.get? b=some o)->Q (.ref (s.heap.objs.size+1)) { s with heap:=h' }) :
  wpAny (model prog w) A (call (.type "enumerate") [.ref l]) Q E s:=by
 cases κ with
 |false=>exact call_enumerate_list hL λh' he hi _ hk=>h h' he hi hk
 |true=>
  obtain⟨⟨c,dct,dt,sl⟩,hl,hc,n,hd⟩:=(show s.heap.IsTuple l xs from hL)
  replace hc:c=.type "tuple" :=hc;replace hd:dt=.seq xs n:=hd;subst hc hd;refine callType_new F.called_enumerate (by decide) (F.typeCall_enumerate_1 _) (F.newCall_enumerate_1 _) (λobj=>F.args_object_init_2 obj _) F.entry_enumerate_new (IM l xs n dct sl) ⟨hl,?_⟩;have hz:(yE true s.heap l).objs.size=s.heap.objs.size+1:=lM ..;have g2:(Bl true s.heap l).get? (yE true s.heap l).objs.size=some _:=f9 _ rfl;have g1:(Bl true s.heap l).get? s.heap.objs.size=some _:=de _ (f9 _ rfl);show _/\_;rw[hz] at g2 ⊢;exact⟨⟨_,g2,rfl⟩,h _ g2 (Bh g1) λb o x=>de _ (de _ x)⟩
def DP(K:NF)(κ:Bool)(a:Addr):It:=
  ⟨λi H=>∃ xs x,Sq K κ H a xs/\xs[i]? = some x,
   λi H v H'=>∃p x,v=.ref p/\H p=none/\H'=upd H p (.tup [.int i,x])/\∀xs,Sq K κ H a xs->xs[i]? = some x,
   λi H=>∃xs,Sq K κ H a xs/\xs.length<=i⟩
theorem IO{ps:Pos}(a e it:Addr)(hne:e≠it) :
  iH P w K (.Tuple es n1 ps) (DP K κ a) [e,it] e (λi h=>(∃old,IsEnum h e it i old)/\SIt κ h it a i) where
 mem:=by simp
 obj:=λi h ⟨⟨old,q1⟩,q2⟩ c hc=>by
  simp only[Yan,dN,or_false] at hc;rcases hc with rfl|rfl
  .exact⟨_,q1,λv e=>by cases e⟩
  .exact q2.obj
 keep:=λi h h' ⟨⟨old,q1⟩,q2⟩ k=>⟨⟨old,k e (by simp) _ q1⟩,q2.keep λo x=>k it (by simp) o x⟩
 item:=by
  intro X hP hw hK hc i pins s σ H E I hf ⟨⟨old,q1⟩,q2⟩ hg;subst hP hw hK;obtain⟨xs,x,hx,ex⟩:=hg;obtain⟨its,rv,p,hz⟩:=I.sq hx;obtain⟨ux,hux,rux⟩:=rv.get ex;have oe:=I.sq_out hx (hf e (by simp));have oi:=I.sq_out hx (hf it (by simp));have hi:i<its.toArray.size:=by have:=(Yaq.mp hux).1;simpa using this
  refine wpAny_pyNext_enum_itemD (IK (κ:=κ) (A:=X.A.in1) (I.ok.hd hc) it a oi its.toArray) q1 ⟨q2,p⟩ hi hne (by simp[hne,NO oe]) λy h' tk b1 b2 b3 b4 b5 b6=>⟨_,rfl,?_⟩;have ey:y=ux:=by
   have:its[i]? = some y:=by simpa using b1
   rw[hux] at this;exact(NJ this).symm
  subst ey;refine wpAny_letOwnedTupleGo_enum (s:={ s with heap:=h',toks:=tk+1 }) b2 λh2 c1 c2=>?_;have lt:∀{c o},s.heap.get? c=some o->c≠s.heap.objs.size:=λz=>fJ (db z);have el:=lt q1;have up:∀c o,c∉[e,it]->s.heap.get? c=some o->h2.get? c=some o:=λc o hc z=>by
   simp only[Yan,dN,or_false,not_or] at hc;exact c2.extBut _ _ hc.1 (b6 c o hc.1 hc.2 z)
  refine⟨.ref s.heap.objs.size,upd H s.heap.objs.size (.tup [.int i,x]),Inv.turnedN (s:=s) (t':=tk+1) [e,it] I up hf (bP _) ?_,rfl,⟨s.heap.objs.size,x,rfl,I.fresh,rfl,λxs' h'=>by rw[I.sq_inj h' hx];exact ex⟩,?_,λc hc=>?_⟩
  .refine⟨by rw[sizeLine_eq];simp,[.int i tk,y],.cons ⟨_,rfl⟩ (.cons rux .nil),?_⟩
   exact⟨_,c2.extBut _ _ (NO el) b4,rfl,_,rfl⟩
  .exact⟨⟨_,by simpa using c1⟩,b3.1.keep λo z=>c2.extBut _ o (NO hne) z⟩
  .have he:∃o,s.heap.get? c=some o:=by
    simp only[Yan,dN,or_false] at hc;rcases hc with rfl|rfl
    .exact⟨_,q1⟩
    .obtain⟨o,z,_⟩:=q2.obj;exact⟨o,z⟩
   obtain⟨o,z⟩:=he;rw[aG (lt z)];exact(hf c hc).1
 done:=by
  intro X hP hw hK hc i pins s σ H E I hf ⟨⟨old,q1⟩,q2⟩ hg;subst hP hw hK;obtain⟨xs,hx,en⟩:=hg;obtain⟨its,rv,p,hz⟩:=I.sq hx;have l1:=rv.length;have oi:=I.sq_out hx (hf it (by simp));refine wpAny_pyNext_enum_endD (IL (κ:=κ) (A:=X.A.in1) (I.ok.hd hc) it a its.toArray i (by simp;omega)) q1 ⟨rfl,q2,p⟩ λh' k=>⟨rfl,?_⟩;refine I.turnedL (t':=s.toks) [e,it] (λc o hc z=>?_) hf;simp only[Yan,dN,or_false,not_or] at hc;exact k c o hc.2 z
 self:=λ_ _ _ _ _ st h=>let⟨⟨_,q⟩,_⟩:=st;wpAny_pyIter_enum q h
def IP(n b:Nat)(h:b=n+1\/b=n):n<=b:=by omega
section
def vn(K:NF)(ta:TA):TI:=λσ H R=>ta σ H λvs H1=>∃κ a,vs=[.ref a]/\(∃xs,Sq K κ H1 a xs)/\R (DP K κ a) H1
theorem IQ{a:Expr}{ps:Pos}(hg:Gl X "enumerate")(hm:X.mg "enumerate" = none)(ha:PA X [a] ta)(hs:starEach [a] X.env=[(false,eval a X.env)]:=by rfl) :
  PI X (.Tuple es n1 ps) (.Call (.Name "enumerate" p) [a] [] pos) (vn X.K ta):=by
 intro pins s σ H R I h;refine Call_ (fe I hg hm boot_enumerate (PyProof.Rows.callWith_type1 (bA (ha pos pins s σ H _ I h) λus s1 ⟨vs,H1,I1,r1,q1⟩=>?_) hs rfl));obtain⟨κ,l,rfl,⟨xs,hx⟩,q⟩:=q1;cases r1 with
 |cons r rr=>
  cases rr;cases r;obtain⟨its,rv,p1,hz⟩:=I1.sq hx;refine IN p1 λh' a1 a2 k=>wpAny_pyIter_enum (s:={ s1 with heap:=h' }) a1 ?_;refine⟨_,[s1.heap.objs.size+1,s1.heap.objs.size],_,_,H1,rfl,I1.kept (t':=s1.toks) k,IO (κ:=κ) l _ _ (Nat.succ_ne_self _),⟨⟨_,a1⟩,a2⟩,λb hb=>?_,q⟩;have hb':s1.heap.objs.size<=b:=by
   simp only[Yan,dN,or_false] at hb;exact IP _ _ hb
  exact I1.fpOk hb' (I1.hok.fresh hb')
def vo:V->V->Hp->VK->Prop:=λo i H Q=>∃p xs k v,o=.ref p/\i=.int k/\H p=some (.lst xs)/\eD xs k=some v/\Q v H
theorem IR:uS X vo:=by
 intro pins s σ H o i ov iv Q I ro ri h;obtain⟨p,xs,k,v,rfl,rfl,hp,he,q⟩:=h;cases ro;obtain⟨t,rfl⟩:=ri;obtain⟨its,r,pl,hz⟩:=I.list (SqL.of hp);obtain⟨j,h1,h2,h3,h4,h5⟩:=gj he;obtain⟨w,ew,rw'⟩:=r.get h2;have hl:=r.length;have hn:=eN;have fin:EP X pins σ Q w s:=⟨v,H,I,rw',q⟩
 by_cases h0:0<=k
 .have hj:k.toNat=j:=by
   rw[seqIndex_of h0 h5] at h1;exact NJ h1
  exact PySem.wpAny_getItem_list pl.isList h0 (by omega) (by rw[hj];simpa using ew) fin
 .have hj:(k+(its.toArray.size:Int)).toNat=j:=by
   rw[seqIndex_neg (by omega) h4] at h1;rw[dW,<-hl];exact NJ h1
  exact wpAny_getItem_list_neg pl.isList (by omega) (by rw[dW]<;>omega) (by omega) (by rw[hj];simpa using ew) fin
end
section
theorem IS:CallR X (.type "range") (λxs H Q=>∃n:Int,xs=[.int n]/\∀p,H p=none->Q (.ref p) (upd H p (.rng 0 n))):=by
 intro pins s σ H xs us Q I r h;obtain⟨n,rfl,q⟩:=h;obtain⟨u,rfl,ru⟩:=dO r;obtain⟨t,rfl⟩:=ru;refine call_range_1 ⟨.ref s.heap.objs.size,_,I.laid (a:=s.heap.objs.size) (o:=.rng 0 n) (t':=s.toks+1+1) (λ_ _ z=>de _ z) (bP _) ⟨s.toks,t,s.toks+1,f9 _ rfl⟩,rfl,q _ (I.hok.fresh (bP _))⟩
def DQ(n:Nat):Builtin.Range.rangeSize 0 (n:Int) 1=(n:Int):=by
 unfold Builtin.Range.rangeSize;rw[if_pos (by decide)];split<;>omega
theorem IT(n:Nat)(h:n<=10000):Builtin.Range.small 0 (n:Int) 1=true:=by
 have f:∀i:Int,0<=i->i<=10000->Builtin.Range.rangeFitsLong i=true:=λi h0 h1=>by
  unfold Builtin.Range.rangeFitsLong;simp;omega
 unfold Builtin.Range.small;rw[DQ,f 0 (by decide) (by decide),f n (by omega) (by omega),f 1 (by decide) (by decide),if_pos (by decide),show(n:Int)+(1-1)=n by omega,f n (by omega) (by omega)];simp
theorem DR{α β:Type}{F:α->β->Prop}:∀{l₁:List α} {l₂:List β},l₁.length=l₂.length->(∀(j:Nat) x y,l₁[j]? = some x->l₂[j]? = some y->F x y)->Paired F l₁ l₂
 |[],[],_,_=>.nil
 |[],_::_,h,_=>by simp at h
 |_::_,[],h,_=>by simp at h
 |a::l,b::m,h,f=>.cons (f 0 a b rfl rfl) (DR (by simpa using h) λj x y e1 e2=>f (j+1) x y (by simpa using e1) (by simpa using e2))
theorem IU(hc:X.calm=true):CallR X (.type "list") (λxs H Q=>∃(p:Addr) (n:Nat),xs=[.ref p]/\H p=some (.rng 0 n)/\n<=10000/\∀l,H l=none->Q (.ref l) (upd H l (.lst ((List.range n).map λ(k:Nat)=>V.int (k:Int))))):=by
 intro pins s σ H xs us Q I r h;obtain⟨p,n,rfl,hp,hn,q⟩:=h;obtain⟨u,rfl,ru⟩:=dO r;cases ru;obtain⟨t,u,v,hr⟩:=I.hok p _ hp;refine call_list_range (n:=n) (I.ok.hd hc) hr (IT n hn) (DQ n) (by omega) λh' tk acc c' k hl ha=>?_;refine⟨.ref s.heap.objs.size,_,I.laid (a:=s.heap.objs.size) (o:=.lst ((List.range n).map λ(k:Nat)=>V.int (k:Int))) (t':=tk) k (bP _) ?_,rfl,q _ (I.hok.fresh (bP _))⟩;refine⟨by rw[bL,jE,sizeLine_eq];omega,acc.toList,c',?_,by simpa using hl⟩;obtain⟨hz,hv⟩:=ha;refine DR (by simp[hz]) λj x y e1 e2=>?_;rw[cI] at e1;have hj:j<n:=by
  rcases gg j n with z|z
  .exact z
  .rw[eK (by simpa using z)] at e1;cases e1
 rw[jD hj] at e1;cases e1;obtain⟨t,rfl⟩:=hv j y (by simpa using e2);exact⟨t,by simp⟩
end
end L2
namespace PySem
open Sem (wp)
open AutoSeq1 (wpAny_loadPart')
section
variable{prog:Program}{w:World}{A:Around}{E:Value->Shared->Prop}{s:Shared}
def Zpu(h:Heap)(a t:Addr)(i:Int):Prop:=∃o,h.get? a=some o/\o.cls=.type "reversed" /\o.data=.fields #[.ref t,rawInt i]
theorem Zpu.at{h h':Heap}{a t:Addr}{i:Int}(x:Zpu h a t i)(e:∀o,h.get? a=some o->h'.get? a=some o):Zpu h' a t i:=let⟨o,ho,r⟩:=x;⟨o,e _ ho,r⟩
end
section
variable{prog:Program}{w:World}{A:Around}{E:Value->Shared->Prop}{s:Shared}
end
end PySem
namespace L2
open PySem PySem.Spec PyProof.Rows
variable{X:Cx}{pos:Pos}{a elt:Expr}{ta te:TE}{w:World}{K:NF}{mg:Str->Option Value}{scope sc:Scope}{f:Str}{A:Around}{s:Shared}{H H1:Hp}{f2 ifs:List Expr}{it:Addr}{pins:List (Addr×Obj)}{σ:St}{vars:List Str}{sel:List Nat}{wi2:TI}{J:It}{fp:List Addr}{tn:Nat->Heap->Prop}{Q:List V->St->Hp->Prop}
section
variable{CX:lR}{E:XK}{c e:Expr}{es:List Expr}{tc:TE}{t:TA}
end
open PySem.Builtin PySem.Builtin.Str in
section
variable{tg:Expr}
variable{p2:Pos}{b:Expr}{tb:TE}
end
namespace Fl
def quiet(f:Str):List Str:=["__setattr__", "__getattribute__", "__getattr__",f]
def DS(K:NF)(ns:List Str)(bmB:List Value):List Value->Bool
 |[]=>bmB==[]
 |v::r=>(v::r)==bmB||match v with
  | .ref a=>(match K.lookup a with
   |some ⟨_,_,.cls cd,_⟩=>PySem.W.nsOkIn K cd.ns&&ns.all (λn=>PySem.W.nsIn K cd.ns n==some none)&&DS K ns bmB r
   |_=>false)
  |_=>false
def clsF(K:NF)(C:Addr)(bmB:List Value)(newId:String)(f:Str)(fI:Addr):Bool:=match K.lookup C with
 | some ⟨.type "type",_,.cls cd,sl⟩=>(match cd.mro,sl.toList with
  |.ref C'::bm,[_,_,_,_,some (.builtin n),_]=>C'==C&&n==newId && !cd.hasDel&&cd.hasDict&&DS K ("__init__" ::quiet f) bmB bm&&PySem.W.nsOkIn K cd.ns&&PySem.W.nsIn K cd.ns "__init__" == some (some (.ref fI))&&(quiet f).all (λn=>PySem.W.nsIn K cd.ns n==some none)
  |_,_=>false)
 |_=>false
section
variable{P:Program}{base:Heap}{N:List Str}{qual:Str}{f:Addr}{cd:Value}{outer:List Env}{E:XK}
end
abbrev bmV:List Value:=[.type "ValueError",.type "Exception",.type "BaseException",.type "object"]
section
variable{C fI:Addr}{newId:String}{o value:Expr}{pos':Pos}
end
section
variable{EX:XK}{C fI:Addr}{fd:FuncData}{x:Str}{ps:List Str}{k:Nat}{np cpos:Pos}
end
end Fl
section
variable{prog:Program}{E:Value->Shared->Prop}{R:Result->Shared->Prop}{t1 i1 t2 i2:Expr}{f1:List Expr}{it acc:Value}{env:Env}
theorem IV:compTurn (.ListComp elt [⟨t1,i1,f1,0⟩,⟨t2,i2,f2,0⟩] scope pos) 0 it acc env=(do
   standAt i1.pos
   match<-pyNext it with
   |none=>pure (.done .next)
   |some v=>
    letOwnedTupleGo t1 it v
    assign t1 env v
    let mut ok:=true
    for c in f1 do
     if ok then ok <-isTrue c env (eval c env)
    if ok then
     let x <-eval i2 env
     standAt i2.pos
     let x <-foldedSetIterable i2 env x
     let _ <-runOwn (.compStart (.ListComp elt [⟨t1,i1,f1,0⟩,⟨t2,i2,f2,0⟩] scope pos) 1 (<-holding [x] (pyIter x)) acc env) env
    again (.compLoop (.ListComp elt [⟨t1,i1,f1,0⟩,⟨t2,i2,f2,0⟩] scope pos) 0 it acc env)):=by rfl
theorem IW:compTurn (.ListComp elt [⟨t1,i1,f1,0⟩,⟨t2,i2,f2,0⟩] scope pos) 1 it acc env=(do
   standAt i2.pos
   match<-pyNext it with
   |none=>pure (.done .next)
   |some v=>
    letOwnedTupleGo t2 it v
    assign t2 env v
    let mut ok:=true
    for c in f2 do
     if ok then ok <-isTrue c env (eval c env)
    if ok then
     (do let _ <-call (.builtin "list.append") [acc,<-eval elt env])
    again (.compLoop (.ListComp elt [⟨t1,i1,f1,0⟩,⟨t2,i2,f2,0⟩] scope pos) 1 it acc env)):=by rfl
theorem IX
  (h0:codeAny (model prog w) A (.compLoop (.ListComp elt [⟨t1,i1,f1,0⟩,⟨t2,i2,f2,0⟩] scope pos) 1 it acc env) R s)
  (h:wpAny (model prog w) A (pyIter it) (λit' s'=>codeAny (model prog w) A (.compLoop (.ListComp elt [⟨t1,i1,f1,0⟩,⟨t2,i2,f2,0⟩] scope pos) 1 it' acc env) R s')
   (notedBy (model prog w) A env λx s'=>R (.error x) s') s) :
  codeAny (model prog w) A (.compStart (.ListComp elt [⟨t1,i1,f1,0⟩,⟨t2,i2,f2,0⟩] scope pos) 1 it acc env) R s:=by
 refine codeAny_of_tree ?_;show wpAny _ _ ((compStart (.ListComp elt [⟨t1,i1,f1,0⟩,⟨t2,i2,f2,0⟩] scope pos) 1 it acc env).onRaise (λx=>do noteFrame x env;standAt theWindowsPlace)) _ _ s;refine wpAny_notedAt ?_;unfold compStart;show wpAny _ _ (ask >>= _) _ _ s;refine NE (wpAny_askSetting (wpAny_ite ?_));split
 .first
   |exact NE (NG (NG (And.intro rfl h0)))
   |exact NG (And.intro rfl h0)
 .first
   |exact NE (N4 (NE (NX (NE (NN h (λit' s' h'=>NG (And.intro rfl h')) λ_ _ x=>x)))))
   |(refine NE (N4 ?_);show wpAny _ _ (standAt i2.pos >>= _) _ _ s;exact NE (NX (NE (NN h (λit' s' h'=>NG (And.intro rfl h')) λ_ _ x=>x))))
theorem IY(I:Nat->Shared->Prop)
  (turn:∀ n s,I n s->wpAny (model prog w) A (pyNext it) (λr s₁=>match r with
   |none=>R (.ok .next) s₁
   | some v=>wpAny (model prog w) A (letOwnedTupleGo t2 it v) (λ_ s₁'=>wpAny (model prog w) A (assign t2 env v) (λ_ s₂=>
     wpAny (model prog w) A (forIn f2 true λc r=>if r=true then do let ok <- isTrue c env (eval c env);pure (ForInStep.yield ok) else pure (ForInStep.yield r)) (λok s₃=>
      if ok=true then wpAny (model prog w) A (eval elt env) (λx s₄=>
       wpAny (model prog w) A (call (.builtin "list.append") [acc,x]) (λ_ s₅=>∃m,m<n/\I m s₅) (λ_ _=>False) s₄) (λ_ _=>False) s₃
      else∃m,m<n/\I m s₃) (λ_ _=>False) s₂) (λ_ _=>False) s₁') (λ_ _=>False) s₁) (λ_ _=>False) s)
  (n:Nat) (h:I n s) :
  codeAny (model prog w) A (.compLoop (.ListComp elt [⟨t1,i1,f1,0⟩,⟨t2,i2,f2,0⟩] scope pos) 1 it acc env) R s:=by
 refine codeAny_loop rfl I (λn s hI=>?_) n h;show wpAny _ A ((compTurn (.ListComp elt [⟨t1,i1,f1,0⟩,⟨t2,i2,f2,0⟩] scope pos) 1 it acc env).onRaise (λx=>do noteFrame x env;theTreesLotGoes x)) _ _ s;refine wpAny_noted ?_;rw[IW];refine NE (NX (NE (NN (turn n s hI) (λr s₁ h₁=>?_) λ_ _ h'=>h'.elim)));cases r with
 |none=>exact NG h₁
 |some v=>
  refine NE (NN h₁ (λ_ s₁' h₁'=>?_) λ_ _ h'=>h'.elim);refine NE (NN h₁' (λ_ s₂ h₂=>NE (NN h₂ (λok s₃ h₃=>?_) λ_ _ h'=>h'.elim)) λ_ _ h'=>h'.elim);cases ok with
  |false=>exact NG ⟨rfl,h₃⟩
  |true=>
   exact NE (NE (NN h₃ (λx s₄ h₄=>NE (NN h₄ (λ_ s₅ h₅=>NG (NG ⟨rfl,h₅⟩)) λ_ _ h'=>h'.elim)) λ_ _ h'=>h'.elim))
theorem IZ(I:Nat->Shared->Prop)(hs:∀x,foldedSetIterable i2 env x=pure x)
  (turn:∀ n s,I n s->wpAny (model prog w) A (pyNext it) (λr s₁=>match r with
   |none=>R (.ok .next) s₁
   | some v=>wpAny (model prog w) A (letOwnedTupleGo t1 it v) (λ_ s₁'=>wpAny (model prog w) A (assign t1 env v) (λ_ s₂=>
     wpAny (model prog w) A (forIn f1 true λc r=>if r=true then do let ok <- isTrue c env (eval c env);pure (ForInStep.yield ok) else pure (ForInStep.yield r)) (λok s₃=>
      if ok=true then wpAny (model prog w) A (eval i2 env) (λx s₄=>
       wpAny (model prog w) A (pyIter x) (λitv s₅=>codeAny (model prog w) A (.compStart (.ListComp elt [⟨t1,i1,f1,0⟩,⟨t2,i2,f2,0⟩] scope pos) 1 itv acc env)
        (λr s₆=>r=.ok .next/\∃m,m<n/\I m s₆) s₅) (λ_ _=>False) s₄) (λ_ _=>False) s₃
      else∃m,m<n/\I m s₃) (λ_ _=>False) s₂) (λ_ _=>False) s₁') (λ_ _=>False) s₁) (λ_ _=>False) s)
  (n:Nat) (h:I n s) :
  codeAny (model prog w) A (.compLoop (.ListComp elt [⟨t1,i1,f1,0⟩,⟨t2,i2,f2,0⟩] scope pos) 0 it acc env) R s:=by
 refine codeAny_loop rfl I (λn s hI=>?_) n h;show wpAny _ A ((compTurn (.ListComp elt [⟨t1,i1,f1,0⟩,⟨t2,i2,f2,0⟩] scope pos) 0 it acc env).onRaise (λx=>do noteFrame x env;theTreesLotGoes x)) _ _ s;refine wpAny_noted ?_;rw[IV];refine NE (NX (NE (NN (turn n s hI) (λr s₁ h₁=>?_) λ_ _ h'=>h'.elim)));cases r with
 |none=>exact NG h₁
 |some v=>
  refine NE (NN h₁ (λ_ s₁' h₁'=>?_) λ_ _ h'=>h'.elim);refine NE (NN h₁' (λ_ s₂ h₂=>NE (NN h₂ (λok s₃ h₃=>?_) λ_ _ h'=>h'.elim)) λ_ _ h'=>h'.elim);cases ok with
  |false=>exact NG ⟨rfl,h₃⟩
  |true=>
   refine NE (NN h₃ (λx s₄ h₄=>NE (NX (NE (wpAny_of_eq (hs x) ?_)))) λ_ _ h'=>h'.elim);refine NE (N3 (NN h₄ (λitv s₅ h₅=>?_) λ_ _ h'=>h'.elim));refine NE (wpAny_runOwn (codeAny_mono h₅ λr s₆ h₆=>?_));obtain⟨rfl,h₆⟩:=h₆;exact NG ⟨rfl,h₆⟩
end
def vq(g:TG)(tf:TT)(te:TE)(J:It)(D:Addr)(Q:List V->St->Hp->Prop)(W:Nat->Nat->List V->St->Hp->Prop):Prop:=
 ∀ i m ys σ2 H2,W i m ys σ2 H2->H2 D=some (.lst ys)/\((J.stop i H2/\Q ys σ2 H2)\/(J.go i H2/\∀ x H3,J.yld i H2 x H3->g x σ2 H3 λσ4 H4=>tf σ4 H4 λb H5=>
  if b=true then te σ4 H5 λv H6=>H6 D=some (.lst ys)/\ys.length<sizeLine/\∃m',m'<m/\W (i+1) m' (ys++[v]) σ4 (upd H6 D (.lst (ys++[v]))) else∃m',m'<m/\W (i+1) m' ys σ4 H5))
def DT(g:TG)(tf:TT)(wi2:TI)(g2:TG)(tf2:TT)(te:TE)(J:It)(D:Addr)(Q:Hp->Prop)(W:Nat->Nat->List V->St->Hp->Prop):Prop:=
 ∀ i m ys σ2 H2,W i m ys σ2 H2->H2 D=some (.lst ys)/\((J.stop i H2/\Q H2)\/(J.go i H2/\∀ x H3,J.yld i H2 x H3->g x σ2 H3 λσ4 H4=>tf σ4 H4 λb H5=>
  if b=true then wi2 σ4 H5 λJ2 H6=>∃W2:Nat->Nat->List V->St->Hp->Prop,(∃k,W2 0 k ys σ4 H6)/\vq g2 tf2 te J2 D (λys' σ' H'=>∃m',m'<m/\W (i+1) m' ys' σ' H') W2 else∃m',m'<m/\W (i+1) m' ys σ4 H5))
def Bm(wi:TI)(nv:Nat)(sel:List Nat)(g:TG)(tf:TT)(wi2:TI)(g2:TG)(tf2:TT)(te:TE):TE:=λσ H Q=>wi σ H λJ H1=>∀D,H1 D=none->
 ∃W:Nat->Nat->List V->St->Hp->Prop,(∃m,W 0 m [] (fL nv sel σ) (upd H1 D (.lst [])))/\DT g tf wi2 g2 tf2 te J D (Q (.ref D)) W
section
variable{s2:Shared}{target iter t2 i2:Expr}{g g2:TG}{tf tf2:TT}
theorem I0{Y:Cx}{D:Addr}{R:Result->Shared->Prop}{ys:List V}{m0:Nat}{W:Nat->Nat->List V->St->Hp->Prop}
  (hc:Y.calm=true) (hxe:Y.xe=λ_ _=>False) (hg:PG Y t2 g2) (hf:PF Y f2 tf2) (he:PE Y elt te) (I:Inv Y pins σ H s) (T:iH Y.prog Y.w Y.K t2 J fp it tn) (st:tn 0 s.heap) (f:∀b∈fp,dq Y pins H b)
  (w0:W 0 m0 ys σ H) (turn:vq g2 tf2 te J D Q W) (hR:∀ys' σ' H' s',Inv Y pins σ' H' s'->Q ys' σ' H'->R (.ok .next) s') :
  codeAny (model Y.prog Y.w) Y.A (.compStart (.ListComp elt [⟨target,iter,ifs,0⟩,⟨t2,i2,f2,0⟩] sc pos) 1 (.ref it) (.ref D) Y.env) R s:=by
 have stat:∀{σ':St} {H':Hp} {s':Shared},(∀b∈fp,H' b=none)->∀b∈fp,dq Y pins H' b:=λ{σ' H' s'} hn b hb=>⟨hn b hb,(f b hb).2⟩;have loop:codeAny (model Y.prog Y.w) Y.A (.compLoop (.ListComp elt [⟨target,iter,ifs,0⟩,⟨t2,i2,f2,0⟩] sc pos) 1 (.ref it) (.ref D) Y.env) R s:=by
  refine IY (λn s'=>∃i ys σ' H',Inv Y pins σ' H' s'/\tn i s'.heap/\(∀b∈fp,H' b=none)/\W i n ys σ' H') ?_ m0 ⟨0,ys,_,_,I,st,λb hb=>(f b hb).1,w0⟩;rintro n s5 ⟨i,ys,σ5,H5,I5,st5,fr5,w5⟩;obtain⟨hD,⟨stop,qn⟩|⟨go,step⟩⟩:=turn i n ys σ5 H5 w5
  .refine bA (T.done Y rfl rfl rfl hc i pins s5 σ5 H5 _ I5 (stat (σ':=σ5) (s':=s5) fr5) st5 stop) λr s6 ⟨hr,I6⟩=>?_
   subst hr;exact hR _ _ H5 s6 I6 qn
  .refine bA (T.item Y rfl rfl rfl hc i pins s5 σ5 H5 _ I5 (stat (σ':=σ5) (s':=s5) fr5) st5 go) λr s6 ⟨u,hr,h6⟩=>?_
   subst hr;refine bA h6 λ_ s7 ⟨x,H7,I7,r7,y7,st7,fr7⟩=>?_;have I7':=I7.pinned (stat (σ':=σ5) (s':=s7) fr7) (T.obj _ _ st7);have hg':=hg (pins++dZ fp s7.heap) s7 σ5 H7 x u _ I7' r7 (step x H7 y7);rw[hxe] at hg';refine bA hg' λ_ s8 ⟨σ8,H8,I8,q8⟩=>?_;have hf':=hf _ s8 σ8 H8 _ I8 q8;rw[hxe] at hf';refine bA hf' λb s9 ⟨H9,I9,q9⟩=>?_;have back:∀{σ':St} {H':Hp} {s':Shared},Inv Y (pins++dZ fp s7.heap) σ' H' s'->tn (i+1) s'.heap/\∀b∈fp,H' b=none:=λ{σ' H' s'} I'=>by
    refine⟨T.keep _ _ _ st7 λb hb o e=>(I'.pin (b,o) (g6 _ (g6 _ (bQ hb e)))).1,λb hb=>?_⟩;obtain⟨o,e,d⟩:=T.obj _ _ st7 b hb;exact(I'.pin (b,o) (g6 _ (g6 _ (bQ hb e)))).2.1
   cases b with
   |false=>
    rw[if_neg (by decide)] at q9 ⊢;obtain⟨m',hm,w9⟩:=q9;exact⟨m',hm,i+1,ys,σ8,H9,I9.unpinned,(back I9).1,(back I9).2,w9⟩
   |true=>
    rw[if_pos rfl] at q9 ⊢;have he':=he _ s9 σ8 H9 _ I9 q9;rw[hxe] at he';refine bA he' λv sA ⟨y,HA,IA,rA,hDA,hz,m',hm,wA⟩=>?_;obtain⟨z,its,nn,rr,hl,e⟩:=IA.lstM hDA;refine call_meets F.slot_list_append ⟨_,e,rfl⟩ F.entry_list_append (F.args_list_append_2 _ _) (PySem.list_append _ its.toArray nn v (by rw[dW];omega)) ⟨e,?_⟩;have IB:=IA.lset (its':=its++[v]) (f:=(·.push v)) (t':=sA.toks) hDA e (by simp) (rr.append (.cons rA .nil)) (by rw[dM,j7];omega);exact⟨m',hm,i+1,ys++[y],σ8,_,IB.unpinned,(back IB).1,(back IB).2,wA⟩
 exact IX loop (T.self _ 0 _ _ _ st loop)
end
section
variable{s2:Shared}{target iter t2 i2:Expr}{fz:List Expr}{g g2:TG}{tf tf2:TT}
theorem Ja{Q:VK}{E:Value->Shared->Prop}{R:Value->Addr->Result->Shared->Prop}(hc:X.calm=true)
  (hg:∀s H fp,PG (X.lc sc vars sel s H fp) target g) (hf:∀s H fp,PF (X.lc sc vars sel s H fp) ifs tf) (hi2:∀s H fp,PI (X.lc sc vars sel s H fp) t2 i2 wi2) (hg2:∀s H fp,PG (X.lc sc vars sel s H fp) t2 g2) (hf2:∀s H fp,PF (X.lc sc vars sel s H fp) fz tf2) (he:∀s H fp,PE (X.lc sc vars sel s H fp) elt te) (hs2:∀a x,foldedSetIterable i2 (ia sc X.env a) x=pure x)
  (ok:ji sc X.env.scope=true) (so:mX X.N sc sel=true)
  (I2:Inv X pins σ H1 s2) (T:iH X.prog X.w X.K target J fp it tn) (st2:tn 0 s2.heap) (f2:∀b∈fp,dq X pins H1 b)
  (q:∀D,H1 D=none->∃W:Nat->Nat->List V->St->Hp->Prop,(∃m,W 0 m [] (fL vars.length sel σ) (upd H1 D (.lst [])))/\DT g tf wi2 g2 tf2 te J D (Q (.ref D)) W)
  (hR:∀D C H' s',Inv X pins σ H' s'->Q (.ref D) H'->(∃m,s'.heap.Ns C m)->dq X pins H' C->R (.ref D) C (.ok .next) s') :
  wpAny (model X.prog X.w) X.A (newList []) (λacc s₃=>wpAny (model X.prog X.w) X.A (newFunctionEnv sc X.env.globals (cW X.env.cells sc.names []) [] X.env.qual none .none (some X.env)) (λcenv s₄=>
   codeAny (model X.prog X.w) X.A (.compStart (.ListComp elt [⟨target,iter,ifs,0⟩,⟨t2,i2,fz,0⟩] sc pos) 0 (.ref it) acc { cenv with scope:=relabel sc X.env }) (R acc cenv.locals) s₄) E s₃) E s2:=by
 refine NR ?_;have hD0:H1 s2.heap.objs.size=none:=I2.hok.fresh (bP _);obtain⟨W,⟨m0,w0⟩,turn⟩:=q _ hD0;have I3:Inv X pins σ (upd H1 s2.heap.objs.size (.lst [])) { s2 with heap:=s2.heap.push { cls:=.type "list",data:=.seq ([]:List Value).toArray },toks:=s2.toks }:=I2.lnew (ys:=[]) .nil (gJ _);have ho2:∀b∈fp,∃o,s2.heap.get? b=some o/\∀v,o.data≠.cell v:=T.obj _ _ st2;have lt2:∀b∈fp,b<s2.heap.objs.size:=λb hb=>by obtain⟨o,e,_⟩:=ho2 b hb;exact db e
 have f3:∀b∈fp,dq X pins (upd H1 s2.heap.objs.size (.lst [])) b:=λb hb=>⟨by rw[aG (fJ (lt2 b hb))];exact(f2 b hb).1,(f2 b hb).2⟩;have ho3:∀b∈fp,∃o,(s2.heap.push { cls:=.type "list",data:=.seq ([]:List Value).toArray }).get? b=some o:=λb hb=>by obtain⟨o,e,_⟩:=ho2 b hb;exact⟨o,de _ e⟩
 refine DI (s:={ s2 with heap:=s2.heap.push { cls:=.type "list",data:=.seq ([]:List Value).toArray },toks:=s2.toks }) ?_;generalize hs3:({ s2 with heap:=s2.heap.push { cls:=.type "list",data:=.seq ([]:List Value).toArray },toks:=s2.toks }:Shared)=s3 at I3 ⊢;have kp23:∀b o,s2.heap.get? b=some o->s3.heap.get? b=some o:=λb o e=>by rw[<-hs3];exact de _ e
 have sz3:s3.heap.objs.size=s2.heap.objs.size+1:=by rw[<-hs3];exact lM ..
 have os3:s3.os=s2.os:=by rw[<-hs3]
 have ho3':∀b∈fp,∃o,s3.heap.get? b=some o:=λb hb=>by rw[<-hs3];exact ho3 b hb
 have I4:=Zo (vars:=vars) I3 ok so f3 ho3' I2.ok.kind;have kp4:∀b o,s3.heap.get? b=some o->(pushCells (s3.heap.push { cls:=.type "dict",data:=.dict #[] }) sc.names).get? b=some o:=λb o e=>pushCells_keeps _ _ _ _ (de _ e);have st4:tn 0 (pushCells (s3.heap.push { cls:=.type "dict",data:=.dict #[] }) sc.names):=T.keep _ _ _ st2 λb hb o e=>kp4 b o (kp23 b o e)
 -- what stays true of the iterator
 have stat:∀{H':Hp},(∀b∈fp,H' b=none)->∀b∈fp,dq (X.lc sc vars sel s3 (upd H1 s2.heap.objs.size (.lst [])) fp) [] H' b:=λ{H'} hn b hb=>by
  refine⟨hn b hb,(I4.ok.exf b hb).1,I4.ok.exfs b hb,.inl hb,λx c e z=>(I4.ok.exf b hb).2 x c e z,λp hp=>NH (show p∈([]:List (Addr×Obj)) from hp) (by simp)⟩
 have loop:codeAny (model X.prog X.w) X.A (.compLoop (.ListComp elt [⟨target,iter,ifs,0⟩,⟨t2,i2,fz,0⟩] sc pos) 0 (.ref it) (.ref s2.heap.objs.size) (ia sc X.env s3.heap.objs.size))
   (R (.ref s2.heap.objs.size) s3.heap.objs.size) { s3 with heap:=pushCells (s3.heap.push { cls:=.type "dict",data:=.dict #[] }) sc.names }:=by
  refine IZ (λn s'=>∃i ys σ' H',Inv (X.lc sc vars sel s3 (upd H1 s2.heap.objs.size (.lst [])) fp) [] σ' H' s'/\tn i s'.heap/\(∀b∈fp,H' b=none)/\W i n ys σ' H') (hs2 _) ?_ m0
   ⟨0,[],_,_,I4,st4,λb hb=>(f3 b hb).1,w0⟩
  rintro n s5 ⟨i,ys,σ5,H5,I5,st5,fr5,w5⟩;obtain⟨hD,⟨stop,qn⟩|⟨go,step⟩⟩:=turn i n ys σ5 H5 w5
  .refine bA (T.done (X.lc sc vars sel s3 (upd H1 s2.heap.objs.size (.lst [])) fp) rfl rfl rfl hc i [] s5 σ5 H5 _ I5 (stat fr5) st5 stop) λr s6 ⟨hr,I6⟩=>?_
   subst hr;have un:Un (cY X.stack) fp H1 H5 s2.heap s6.heap:=by
    have a:Un (cY X.stack) fp H1 (upd H1 s2.heap.objs.size (.lst [])) s2.heap s3.heap:=Un.laid kp23 (bP _) hD0;exact a.trans I6.base
   have I7:Inv X pins σ H5 s6:=I2.call' (ch:=fp) (I6.os.trans os3) un I6.hok I6.bare λb hb=>⟨(f2 b hb).2.2.2.1,(f2 b hb).2.1,(f2 b hb).2.2.2.2.1,(f2 b hb).2.2.2.2.2⟩;refine hR _ _ H5 s6 I7 qn ?_ ?_
   .obtain⟨m,hn,_⟩:=I6.loc
    exact⟨m,hn⟩
   .exact I3.fpOk (bP _) I6.free
  .refine bA (T.item (X.lc sc vars sel s3 (upd H1 s2.heap.objs.size (.lst [])) fp) rfl rfl rfl hc i [] s5 σ5 H5 _ I5 (stat fr5) st5 go) λr s6 ⟨u,hr,h6⟩=>?_
   subst hr;refine bA h6 λ_ s7 ⟨x,H7,I7,r7,y7,st7,fr7⟩=>?_;have I7':=I7.pinned (stat fr7) (T.obj _ _ st7);refine bA (hg _ _ _ _ s7 σ5 H7 x u _ I7' r7 (step x H7 y7)) λ_ s8 ⟨σ8,H8,I8,q8⟩=>?_;refine bA (hf _ _ _ _ s8 σ8 H8 _ I8 q8) λb s9 ⟨H9,I9,q9⟩=>?_;have back:∀{σ':St} {H':Hp} {s':Shared},Inv (X.lc sc vars sel s3 (upd H1 s2.heap.objs.size (.lst [])) fp) ([]++dZ fp s7.heap) σ' H' s'->tn (i+1) s'.heap/\∀b∈fp,H' b=none:=λ{σ' H' s'} I'=>by
    refine⟨T.keep _ _ _ st7 λb hb o e=>(I'.pin (b,o) (g6 _ (g6 _ (bQ hb e)))).1,λb hb=>?_⟩;obtain⟨o,e,d⟩:=T.obj _ _ st7 b hb;exact(I'.pin (b,o) (g6 _ (g6 _ (bQ hb e)))).2.1
   cases b with
   |false=>
    rw[if_neg (by decide)] at q9 ⊢;obtain⟨m',hm,w9⟩:=q9;exact⟨m',hm,i+1,ys,σ8,H9,I9.unpinned,(back I9).1,(back I9).2,w9⟩
   |true=>
    rw[if_pos rfl] at q9 ⊢;refine bA (hi2 _ _ _ _ s9 σ8 H9 _ I9 q9) λv sA hA=>bA hA λitv sB hB=>?_;obtain⟨it2,fp2,tn2,J2,HB,e2,IB,T2,stB,fB,W2,⟨k0,wB⟩,tr2⟩:=hB;subst e2;exact I0 (Y:=X.lc sc vars sel s3 (upd H1 s2.heap.objs.size (.lst [])) fp) hc rfl (hg2 _ _ _) (hf2 _ _ _) (he _ _ _) IB T2 stB fB wB tr2 λys' σ' H' s' I' ⟨m',hm,w'⟩=>⟨rfl,m',hm,i+1,ys',σ',H',I'.unpinned,(back I').1,(back I').2,w'⟩
 exact codeAny_compStart_list loop (T.self _ 0 _ _ _ st4 loop)
theorem Jb{wi:TI}(vars:List Str)(sel:List Nat)(hc:X.calm=true)(hi:PI X target iter wi)
  (ok:ji sc X.env.scope=true) (so:mX X.N sc sel=true)
  (hg:∀s H fp,PG (X.lc sc vars sel s H fp) target g) (hf:∀s H fp,PF (X.lc sc vars sel s H fp) ifs tf) (hi2:∀s H fp,PI (X.lc sc vars sel s H fp) t2 i2 wi2) (hg2:∀s H fp,PG (X.lc sc vars sel s H fp) t2 g2) (hf2:∀s H fp,PF (X.lc sc vars sel s H fp) fz tf2) (he:∀s H fp,PE (X.lc sc vars sel s H fp) elt te) (hs2:∀a x,foldedSetIterable i2 (ia sc X.env a) x=pure x)
  (hs:∀x,foldedSetIterable iter X.env x=pure x:=by intro _;rfl):PE X (.ListComp elt [⟨target,iter,ifs,0⟩,⟨t2,i2,fz,0⟩] sc pos) (Bm wi vars.length sel g tf wi2 g2 tf2 te):=by
 intro pins s σ H Q I h;rw[eval_ListComp];have ok':=ok;simp only[ji,dj,NI] at ok';refine N8 (use:=none) rfl hs (Bb (yx I ok)) ok'.1.1 (λx hx hl=>?_) ?_
 .obtain⟨n,k⟩:=x
  have hl':k=.local:=hl;subst hl';exact yw ok'.1.2 hx
 .refine bA (hi pins s σ H _ I h) λv s1 h1=>bA h1 λitv s2 h2=>?_
  obtain⟨it,fp,tn,J,H2,e,I2,T,st2,f2,q⟩:=h2;subst e;refine Ja (Q:=Q) hc hg hf hi2 hg2 hf2 he hs2 ok so I2 T st2 f2 q λD C H' s' I' q' hn fC=>?_;obtain⟨m,hn⟩:=hn;refine⟨m,hn,λh' hs'=>?_⟩;obtain⟨f0,f1,f2,f3,f4,f5⟩:=fC;exact⟨.ref D,H',I'.turned (t':=s'.toks) (λb o hb e=>(hs'.2 b hb).trans e) f0 f1 f3 f4 f5,rfl,q'⟩
end
section
def Bn:V->List V->Hp->VK->Prop:=λx vs H Q=>∃(l:Addr) (xs:List V) (b:Int) (k:Nat),x=.ref l/\vs=[.int b]/\H l=some (.lst xs)/\(∀y∈xs,∃i:Int,y=.int i)/\xs[k]? = some (.int b)/\(∀j,j<k->xs[j]?≠some (.int b))/\Q .non (upd H l (.lst (xs.eraseIdx k)))
theorem Jc:DG X "list.remove" Bn:=by
 intro pins s σ H x vs v us Q I rx rv h;obtain⟨l,xs,b,k,rfl,rfl,hH,ha,hy,hno,q⟩:=h;cases rx;obtain⟨u,rfl,ru⟩:=rv.one;obtain⟨tu,rfl⟩:=ru;obtain⟨z,its,n,r,hl,e⟩:=I.lstM hH;obtain⟨w,hw,rw'⟩:=r.get hy;obtain⟨tw,rfl⟩:=rw';have at':∀m (hm:m<its.toArray.size),∃c t,xs[m]? = some (.int c)/\its.toArray[m]=.int c t:=λm hm=>by
  have hm':m<its.length:=by simpa using hm
  have hx:xs[m]? = some (xs[m]'(by omega)):=bG (by omega);obtain⟨i,hi⟩:=ha _ (jF (l:=xs) (n:=m) (by omega));rw[hi] at hx;obtain⟨w2,hw2,r2⟩:=r.get hx;obtain⟨t2,rfl⟩:=r2;refine⟨i,t2,hx,?_⟩;rw[bG hm'] at hw2;simpa using NJ hw2
 have hkl:k<its.toArray.size:=by
  have:=(Yaq.mp hy).1;simp;omega
 refine call_meets F.slot_list_remove ⟨_,e,rfl⟩ F.entry_list_remove (F.args_list_remove_2 _ _)
  (MeetsSeq.list_remove l its.toArray n (.int b tu) (Value.isInt b) (λy hy'=>?_) k hkl ?_ (λm hm hlt=>?_) (by rw[dW];omega)) ⟨e,?_⟩
 .obtain⟨m,hm,rfl⟩:=Array.getElem_of_mem hy'
  obtain⟨c,t,_,e2⟩:=at' m hm;rw[e2];exact MeetsSeq.EqGives.int c b t tu
 .obtain⟨c,t,e1,e2⟩:=at' k hkl
  rw[hy] at e1;cases e1;rw[e2];simp[Value.isInt]
 .obtain⟨c,t,e1,e2⟩:=at' m hm
  rw[e2];refine Ybs.mpr λz=>hno m hlt ?_;simp[Value.isInt] at z;rw[e1,z]
 .refine⟨.non,_,I.lset (its':=its.eraseIdx k) hH e ?_ (r.eraseIdx k) ?_,rfl,q⟩
  .show its.toArray.eraseIdxIfInBounds k=(its.eraseIdx k).toArray
   rw[List.eraseIdxIfInBounds_toArray]
  .have:=hZ xs k
   omega
end
end L2
namespace LP
namespace Dt
abbrev R:=Nat->Int
def m2(a b:R)(p q:Nat):Int:=a p*b q-a q*b p
def m3(a b c:R)(p q r:Nat):Int:=c r*m2 a b p q-c q*m2 a b p r+c p*m2 a b q r
def m4(a b c d:R)(p q r s:Nat):Int:=d s*m3 a b c p q r-d r*m3 a b c p q s+d q*m3 a b c p r s-d p*m3 a b c q r s
def m5(a b c d e:R)(p q r s t:Nat):Int:=e t*m4 a b c d p q r s-e s*m4 a b c d p q r t+e r*m4 a b c d p q s t-e q*m4 a b c d p r s t+e p*m4 a b c d q r s t
section
variable(a b c d e:R)(p q r s t j:Nat)
def s0:m2 a b p j*1=b j*a p-b p*a j:=by unfold m2;grind
def s1:m3 a b c p q j*a p=m2 a c p j*m2 a b p q-m2 a c p q*m2 a b p j:=by unfold m3 m2;grind
def s2:m4 a b c d p q r j*m2 a b p q=m3 a b d p q j*m3 a b c p q r-m3 a b d p q r*m3 a b c p q j:=by unfold m4 m3 m2;grind
def pl:m3 a b c p q r*m3 a b c p s j=m3 a b c p q s*m3 a b c p r j-m3 a b c p q j*m3 a b c p r s:=by unfold m3 m2;grind
def Bo:m3 a b c p q r*m3 a b c q s j=m3 a b c p q s*m3 a b c q r j-m3 a b c p q j*m3 a b c q r s:=by unfold m3 m2;grind
def Jd:m3 a b c p q r*m3 a b c r s j=m3 a b c p r s*m3 a b c q r j-m3 a b c p r j*m3 a b c q r s:=by unfold m3 m2;grind
theorem s3:m5 a b c d e p q r s j*m3 a b c p q r=m4 a b c e p q r j*m4 a b c d p q r s-m4 a b c e p q r s*m4 a b c d p q r j:=by
 have h1:=pl a b c p q r s j;have h2:=Bo a b c p q r s j;have h3:=Jd a b c p q r s j;unfold m5 m4;generalize m3 a b c p q r=x1 at *;generalize m3 a b c p q s=x2 at *;generalize m3 a b c p q j=x3 at *;generalize m3 a b c p r s=x4 at *;generalize m3 a b c p r j=x5 at *;generalize m3 a b c p s j=x6 at *;generalize m3 a b c q r s=x7 at *;generalize m3 a b c q r j=x8 at *;generalize m3 a b c q s j=x9 at *;generalize m3 a b c r s j=y1 at *;generalize d p=d1;generalize d q=d2;generalize d r=d3;generalize d s=d4;generalize d j=d5;generalize e p=e1;generalize e q=e2;generalize e r=e3;generalize e s=e4;generalize e j=e5;grind
def kZ:m3 a b c p q r=a p*m2 b c q r-a q*m2 b c p r+a r*m2 b c p q:=by unfold m3 m2;grind
def k6:m3 a b c p q r=b q*m2 a c p r-b p*m2 a c q r-b r*m2 a c p q:=by unfold m3 m2;grind
theorem iQ:m4 a b c d p q r s=a p*m3 b c d q r s-a q*m3 b c d p r s+a r*m3 b c d p q s-a s*m3 b c d p q r:=by
 unfold m4;rw[kZ a b c,kZ a b c,kZ a b c,kZ a b c];unfold m3;grind
theorem jR:m4 a b c d p q r s=b q*m3 a c d p r s-b p*m3 a c d q r s-b r*m3 a c d p q s+b s*m3 a c d p q r:=by
 unfold m4;rw[k6 a b c,k6 a b c,k6 a b c,k6 a b c];unfold m3;grind
theorem lb:m5 a b c d e p q r s t=a p*m4 b c d e q r s t-a q*m4 b c d e p r s t+a r*m4 b c d e p q s t-a s*m4 b c d e p q r t+a t*m4 b c d e p q r s:=by
 unfold m5;rw[iQ a b c d,iQ a b c d,iQ a b c d,iQ a b c d,iQ a b c d];unfold m4;grind
theorem vt:m5 a b c d e p q r s t=b q*m4 a c d e p r s t-b p*m4 a c d e q r s t-b r*m4 a c d e p q s t+b s*m4 a c d e p q r t-b t*m4 a c d e p q r s:=by
 unfold m5;rw[jR a b c d,jR a b c d,jR a b c d,jR a b c d,jR a b c d];unfold m4;grind
def yF:m2 b a p q = - m2 a b p q:=by unfold m2;grind
def DU:m3 b a c p q r = - m3 a b c p q r:=by unfold m3;simp only[yF a b];grind
def Bp:m3 a c b p q r = - m3 a b c p q r:=by rw[kZ,kZ a b c];simp only[yF b c];grind
def yG:m3 c b a p q r = - m3 a b c p q r:=by rw[k6 c b a,k6 a b c];simp only[yF a c];grind
def DV:m4 b a c d p q r s = - m4 a b c d p q r s:=by unfold m4;simp only[DU a b];grind
def DW:m4 a c b d p q r s = - m4 a b c d p q r s:=by unfold m4;simp only[Bp a b];grind
def DX:m4 c b a d p q r s = - m4 a b c d p q r s:=by unfold m4;simp only[yG a b];grind
def Bq:m4 a b d c p q r s = - m4 a b c d p q r s:=by rw[iQ,iQ a b c d];simp only[Bp b c];grind
def Bt:m4 a d c b p q r s = - m4 a b c d p q r s:=by rw[iQ,iQ a b c d];simp only[yG b c];grind
def yH:m4 d b c a p q r s = - m4 a b c d p q r s:=by rw[jR d b c a,jR a b c d];simp only[yG a c];grind
def vw:m5 b a c d e p q r s t = - m5 a b c d e p q r s t:=by unfold m5;simp only[DV a b c d];grind
def vz:m5 a c b d e p q r s t = - m5 a b c d e p q r s t:=by unfold m5;simp only[DW a b c d];grind
def vA:m5 c b a d e p q r s t = - m5 a b c d e p q r s t:=by unfold m5;simp only[DX a b c d];grind
def vB:m5 a b d c e p q r s t = - m5 a b c d e p q r s t:=by unfold m5;simp only[Bq a b c d];grind
def vC:m5 a d c b e p q r s t = - m5 a b c d e p q r s t:=by unfold m5;simp only[Bt a b c d];grind
def vD:m5 d b c a e p q r s t = - m5 a b c d e p q r s t:=by unfold m5;simp only[yH a b c d];grind
def vE:m5 a b c e d p q r s t = - m5 a b c d e p q r s t:=by rw[lb,lb a b c d e];simp only[Bq b c d e];grind
def vF:m5 a b e d c p q r s t = - m5 a b c d e p q r s t:=by rw[lb,lb a b c d e];simp only[Bt b c d e];grind
def vG:m5 a e c d b p q r s t = - m5 a b c d e p q r s t:=by rw[lb,lb a b c d e];simp only[yH b c d e];grind
def vH:m5 e b c d a p q r s t = - m5 a b c d e p q r s t:=by rw[vt e b c d a,vt a b c d e];simp only[yH a c d e];grind
end
def M(A:Nat->R):Nat->Nat->R
 |0,i,j=>A i j
 |1,i,j=>m2 (A 0) (A i) 0 j
 |2,i,j=>m3 (A 0) (A 1) (A i) 0 1 j
 |3,i,j=>m4 (A 0) (A 1) (A 2) (A i) 0 1 2 j
 |4,i,j=>m5 (A 0) (A 1) (A 2) (A 3) (A i) 0 1 2 3 j
 |_,_,_=>0
def dt(A:Nat->R):Nat->Int
 |0=>1
 |k+1=>M A k k k
theorem Je(A:Nat->R){k:Nat}(hk:k<4)(i j:Nat):M A (k+1) i j*dt A k=M A k i j*M A k k k-M A k i k*M A k k j:=by
 match k,hk with
 |0,_=>exact s0 _ _ _ _
 |1,_=>exact s1 _ _ _ _ _ _
 |2,_=>exact s2 _ _ _ _ _ _ _ _
 |3,_=>exact s3 _ _ _ _ _ _ _ _ _ _
theorem DY{A B:Nat->R}{k i j:Nat}(h:∀l,l<k->A l=B l)(hi:A i=B i):M A k i j=M B k i j:=by
 match k with
 |0=>show A i j=B i j;rw[hi]
 |1=>show m2 _ _ _ _=m2 _ _ _ _;rw[hi,h 0 (by omega)]
 |2=>show m3 _ _ _ _ _ _=m3 _ _ _ _ _ _;rw[hi,h 0 (by omega),h 1 (by omega)]
 |3=>show m4 _ _ _ _ _ _ _ _=m4 _ _ _ _ _ _ _ _;rw[hi,h 0 (by omega),h 1 (by omega),h 2 (by omega)]
 |4=>show m5 _ _ _ _ _ _ _ _ _ _=m5 _ _ _ _ _ _ _ _ _ _;rw[hi,h 0 (by omega),h 1 (by omega),h 2 (by omega),h 3 (by omega)]
 |_+5=>rfl
def sw(A:Nat->R)(x y:Nat):Nat->R:=λi=>if i=x then A y else if i=y then A x else A i
theorem vI(A:Nat->R){n x y:Nat}(hn:n<=5)(hxy:x<y)(hy:y<n):dt (sw A x y) n = - dt A n:=by
 match n,hn,y,hy,x,hxy with
 |1,_,0,_,x,h=>exact NH h (Nat.not_lt_zero x)
 |2,_,1,_,0,_=>exact yF _ _ _ _
 |3,_,1,_,0,_=>exact DU _ _ _ _ _ _
 |3,_,2,_,0,_=>exact yG _ _ _ _ _ _
 |3,_,2,_,1,_=>exact Bp _ _ _ _ _ _
 |4,_,1,_,0,_=>exact DV _ _ _ _ _ _ _ _
 |4,_,2,_,0,_=>exact DX _ _ _ _ _ _ _ _
 |4,_,2,_,1,_=>exact DW _ _ _ _ _ _ _ _
 |4,_,3,_,0,_=>exact yH _ _ _ _ _ _ _ _
 |4,_,3,_,1,_=>exact Bt _ _ _ _ _ _ _ _
 |4,_,3,_,2,_=>exact Bq _ _ _ _ _ _ _ _
 |5,_,1,_,0,_=>exact vw _ _ _ _ _ _ _ _ _ _
 |5,_,2,_,0,_=>exact vA _ _ _ _ _ _ _ _ _ _
 |5,_,2,_,1,_=>exact vz _ _ _ _ _ _ _ _ _ _
 |5,_,3,_,0,_=>exact vD _ _ _ _ _ _ _ _ _ _
 |5,_,3,_,1,_=>exact vC _ _ _ _ _ _ _ _ _ _
 |5,_,3,_,2,_=>exact vB _ _ _ _ _ _ _ _ _ _
 |5,_,4,_,0,_=>exact vH _ _ _ _ _ _ _ _ _ _
 |5,_,4,_,1,_=>exact vG _ _ _ _ _ _ _ _ _ _
 |5,_,4,_,2,_=>exact vF _ _ _ _ _ _ _ _ _ _
 |5,_,4,_,3,_=>exact vE _ _ _ _ _ _ _ _ _ _
def sumI(f:Nat->Int):Nat->Int
 |0=>0
 |n+1=>sumI f n+f n
def sg(n:Nat):Int:=if n%2=0 then 1 else -1
def rep(A:Nat->R)(k:Nat)(x:R):Nat->R:=λi=>if i=k then x else A i
section
variable(a b c d e:R)(p q r s t j:Nat)
end
end Dt
end LP
namespace LP
open PySem PySem.Spec PyProof.Rows L2
variable{n b k i j n1 m h:Nat}{dx od an:Option Addr}{K:NF}{vs us:List V}{e c tg elt target iter ix:Expr}{H H1 H2 H0:Hp}{a f fa:Addr}{o:HO}{σ:L2.St}{X:Cx}{EX:XK}{pos p p2 pos' spos apos cpos np:Pos}{x qual name:Str}{op:CmpOp}{es ifs:List Expr}{fd:FuncData}{ps vars:List Str}{pins:List (Addr×Obj)}{s:List Int}{lo hi:Option Int}{st:Stmt}{sts body:List Stmt}{sc:Scope}{sel L L1:List Nat}{P rs:List (List Rat)}{mg:Str->Option Value}{q:Rat}{r l:List Rat}{A:Nat->Nat->Int}{T' U:Nat->Nat->Rat}{osl:Array (Option Value)}{v':Nat->Int}{XP:(Str->Option Value)->Heap->Prop}{YP:World->Heap->Prop}
inductive D where
 |non|bl (b:Bool)|int (i:Int)|str (x:Str)|tup (xs:List D)|lst (xs:List D)|dic|pen|cls (n:Str)|exc (n:Str)|ty (n:String)|scr (xs:List D)
variable{ds xs ys:List D}{d y:D}{xss:List (List D)}{Q:D->Prop}{Q' dom QL:List D->Prop}{val:List D->D}{rel:List D->D->Prop}
structure Wd where
 G:Hp
 Pn:Addr->Prop
variable{W' W1 W2 W0:Wd}
def KT(K:NF)(a:Addr)(vs:List V):Prop:=
 ∃(o:Obj) (its:Array Value) (n:Nat),K.lookup a=some o/\o.cls=.type "tuple" /\o.data=.seq its n/\its.size<=sizeLine/\Vals vs its.toList
def i5(K:NF)(n:Str):Option Addr:=match PySem.W.nsIn K mainGlobals n with
 |some (some (.ref a))=>some a
 |_=>none
def xtab:List (Str×Str×Str×Int):=[("NotStrong1", "NotStrong", "size",1),("NotStrong2", "NotStrong", "size",2),("NotStrong3", "NotStrong", "size",3),("NotStrong4", "NotStrong", "size",4),("NotStrong5", "NotStrong", "size",5),("NoText0", "NoText", "row",0),("NoText1", "NoText", "row",1),("NoText2", "NoText", "row",2),("NoText3", "NoText", "row",3),("NoText4", "NoText", "row",4),("NoText5", "NoText", "row",5),("NoText6", "NoText", "row",6),("NoText7", "NoText", "row",7),("NoText8", "NoText", "row",8),("NoText9", "NoText", "row",9),("NoText10", "NoText", "row",10),("NoText11", "NoText", "row",11),("NoText12", "NoText", "row",12),("NoText13", "NoText", "row",13),("NoText14", "NoText", "row",14),("NoText15", "NoText", "row",15)]
def mY(n:Str):Option (Str×Str×Int):=(xtab.find? λr=>r.1==n).map (·.2)
def mZ(n:Str):Str:=match mY n with
 |some r=>r.1
 |none=>n
def qT(C a:Addr)(dx:Option Addr):HO:=.ext λh=>∃oe,h.get? a=some oe/\oe.cls=.ref C/\PySem.W.notCls oe=true/\oe.dict=dx/\∃vs,oe.data=.fields vs
def XD(W:Wd)(n:Str)(dx:Option Addr):Prop:=∀c f k,mY n=some (c,f,k)->∃d,dx=some d/\W.G d=some (.xd [(f,.int k)])
def XD.none{W:Wd}{n:Str}(h:mY n=none):XD W n dx:=λc f k e=>by rw[h] at e;cases e
theorem XD.mono{W:Wd}{n:Str}(g:∀a o,W.G a=some o->W'.G a=some o)(h:XD W n dx):XD W' n dx:=λc f k e=>let⟨d,e1,e2⟩:=h c f k e;⟨d,e1,g _ _ e2⟩
def Jf{n:Str}(h:mY n=none):mZ n=n:=by unfold mZ;rw[h]
def KL(K:NF)(a:Addr)(vs:List V):Prop:=
 ∃(o:Obj) (its:Array Value) (n:Nat),K.lookup a=some o/\o.cls=.type "list" /\o.dict=none/\o.data=.seq its n/\its.size<=sizeLine/\Vals vs its.toList
mutual
inductive Rep (K:NF) (W:Wd):V->D->Prop
 |non:Rep K W .non .non
 |bl (b:Bool):Rep K W (.bl b) (.bl b)
 |int (i:Int):Rep K W (.int i) (.int i)
 |str (x:Str):Rep K W (.str x) (.str x)
 |tup {a:Addr} {vs:List V} {ds:List D}:W.G a=some (.tup vs)->Reps K W vs ds->Rep K W (.ref a) (.tup ds)
 |ktup {a:Addr} {vs:List V} {ds:List D}:KT K a vs->Reps K W vs ds->Rep K W (.ref a) (.tup ds)
 |lst {a:Addr} {vs:List V} {ds:List D}:W.G a=some (.lst vs)->Reps K W vs ds->Rep K W (.ref a) (.lst ds)
 |scr {a:Addr} {vs:List V} {ds:List D}:((∃o,W.G a=some (.frz o (.lst vs)))\/KL K a vs)->Reps K W vs ds->Rep K W (.ref a) (.scr ds)
 |dic {a:Addr}:W.G a=some (.dK [])->Rep K W (.ref a) .dic
 |pen {a:Addr}:W.Pn a->Rep K W (.ref a) .pen
 |cls {a:Addr} {n:Str}:i5 K n=some a->Rep K W (.ref a) (.cls n)
 |exc {a C:Addr} {n:Str} {dx:Option Addr}:W.G a=some (qT C a dx)->i5 K (mZ n)=some C->XD W n dx->Rep K W (.ref a) (.exc n)
 |ty (n:String):Rep K W (.ty n) (.ty n)
inductive Reps (K:NF) (W:Wd):List V->List D->Prop
 |nil:Reps K W [] []
 |cons {v:V} {d:D} {vs:List V} {ds:List D}:Rep K W v d->Reps K W vs ds->Reps K W (v::vs) (d::ds)
end
section
variable{W:Wd}
mutual
theorem Rep.mono(g:∀a o,W.G a=some o->W'.G a=some o)(p:∀a,W.Pn a->W'.Pn a):∀{v:V} {d:D},Rep K W v d->Rep K W' v d
 |_,_,.non=>.non
 |_,_,.bl b=>.bl b
 |_,_,.int i=>.int i
 |_,_,.str x=>.str x
 |_,_,.tup e r=>.tup (g _ _ e) (Reps.mono g p r)
 |_,_,.ktup e r=>.ktup e (Reps.mono g p r)
 |_,_,.lst e r=>.lst (g _ _ e) (Reps.mono g p r)
 |_,_,.scr e r=>.scr (e.elim (λ⟨o,z⟩=>.inl ⟨o,g _ _ z⟩) .inr) (Reps.mono g p r)
 |_,_,.dic e=>.dic (g _ _ e)
 |_,_,.pen e=>.pen (p _ e)
 |_,_,.cls e=>.cls e
 |_,_,.exc e h x=>.exc (g _ _ e) h (x.mono g)
 |_,_,.ty n=>.ty n
theorem Reps.mono(g:∀a o,W.G a=some o->W'.G a=some o)(p:∀a,W.Pn a->W'.Pn a):∀{vs:List V} {ds:List D},Reps K W vs ds->Reps K W' vs ds
 |_,_,.nil=>.nil
 |_,_,.cons r t=>.cons (Rep.mono g p r) (Reps.mono g p t)
end
def Reps.length:∀{vs:List V} {ds:List D},Reps K W vs ds->vs.length=ds.length
 |_,_,.nil=>rfl
 |_,_,.cons _ t=>by simp[Reps.length t]
theorem Reps.get:∀{vs:List V} {ds:List D} {i:Nat} {d:D},Reps K W vs ds->ds[i]? = some d->∃v,vs[i]? = some v/\Rep K W v d
 |_,_,_,_,.nil,e=>by simp at e
 |_,_,0,_,.cons r _,e=>by simp at e;subst e;exact⟨_,rfl,r⟩
 |_,_,i+1,d,.cons _ t,e=>by
  obtain⟨u,h1,h2⟩:=Reps.get (i:=i) (d:=d) t (by simpa using e);exact⟨u,by simpa using h1,h2⟩
theorem Reps.append:∀{vs us:List V} {ds es:List D},Reps K W vs ds->Reps K W us es->Reps K W (vs++us) (ds++es)
 |_,_,_,_,.nil,s=>s
 |_,_,_,_,.cons r t,s=>.cons r (Reps.append t s)
theorem Reps.take:∀{vs:List V} {ds:List D} (n:Nat),Reps K W vs ds->Reps K W (vs.take n) (ds.take n)
 |_,_,0,_=>.nil
 |_,_,_+1,.nil=>.nil
 |_,_,n+1,.cons r t=>.cons r (Reps.take n t)
theorem Reps.drop:∀{vs:List V} {ds:List D} (n:Nat),Reps K W vs ds->Reps K W (vs.drop n) (ds.drop n)
 |_,_,0,r=>r
 |_,_,_+1,.nil=>.nil
 |_,_,n+1,.cons _ t=>Reps.drop n t
theorem Reps.set{v:V}{d:D}(r:Rep K W v d):∀{vs:List V} {ds:List D} (i:Nat),Reps K W vs ds->Reps K W (vs.set i v) (ds.set i d)
 |_,_,_,.nil=>.nil
 |_,_,0,.cons _ t=>.cons r t
 |_,_,i+1,.cons q t=>.cons q (Reps.set r i t)
theorem Reps.rev(r:Reps K W vs ds):Reps K W vs.reverse ds.reverse:=by
 induction vs generalizing ds with
 |nil=>cases r;exact .nil
 |cons v vs ih=>cases r with|cons r t=>rw[tR,tR];exact(ih t).append (.cons r .nil)
def Reps.one(r:Reps K W us [d]):∃v,us=[v]/\Rep K W v d:=by
 cases r with|cons r t=>cases t;exact⟨_,rfl,r⟩
theorem Reps.two{e:D}(r:Reps K W us [d,e]):∃v u,us=[v,u]/\Rep K W v d/\Rep K W u e:=by
 cases r with|cons r t=>cases t with|cons r' t=>cases t;exact⟨_,_,rfl,r,r'⟩
end
def ZnM(H:Hp)(a:Addr):Prop:=∃i j k:Int,H a=some (.lst [.int i,.int j,.int k])
structure WOk(W:Wd)(H:Hp):Prop where
 g:∀a o,W.G a=some o->H a=some o
 p:∀a,W.Pn a->ZnM H a/\W.G a=none
structure Ext(W:Wd)(H:Hp)(W':Wd)(H':Hp):Prop where
 ok:WOk W' H'
 g:∀a o,W.G a=some o->W'.G a=some o
 p:∀a,W.Pn a->W'.Pn a
 gf:∀a,W.G a=none->W'.G a≠none->H a=none
 pf:∀a,¬W.Pn a->W'.Pn a->H a=none
 h:∀a o,H a=some o->¬W.Pn a->H' a=some o
section
variable{W:Wd}
def Ext.refl(ok:WOk W H):Ext W H W H:=⟨ok,λ_ _ e=>e,λ_ e=>e,λ_ e n=>NH e n,λ_ n e=>NH e n,λ_ _ e _=>e⟩
def ZnM.ne(p:ZnM H a):H a≠none:=by obtain⟨_,_,_,e⟩:=p;rw[e];simp
theorem Ext.isN(x:Ext W H W1 H1)(h:H1 a=none):H a=none:=by
 cases q:H a with
 |none=>rfl
 |some o=>
  by_cases hp:W.Pn a
  .exact NH h ((x.ok.p a (x.p a hp)).1.ne)
  .rw[x.h a o q hp] at h;cases h
theorem Ext.trans(x:Ext W H W1 H1)(y:Ext W1 H1 W2 H2):Ext W H W2 H2 where
 ok:=y.ok
 g:=λa o e=>y.g a o (x.g a o e)
 p:=λa e=>y.p a (x.p a e)
 gf:=λa e n=>by
  cases q:W1.G a with
  |none=>exact x.isN (y.gf a q n)
  |some o=>exact x.gf a e (by rw[q];simp)
 pf:=λa e n=>by
  by_cases q:W1.Pn a
  .exact x.pf a e q
  .exact x.isN (y.pf a q n)
 h:=λa o e n=>y.h a o (x.h a o e n) λq=>by have:=x.pf a n q;rw[e] at this;cases this
def Ext.rep(x:Ext W H W1 H1){v:V}(r:Rep K W v d):Rep K W1 v d:=r.mono x.g x.p
def Ext.reps(x:Ext W H W1 H1){v:List V}{d:List D}(r:Reps K W v d):Reps K W1 v d:=r.mono x.g x.p
def Wd.put(W:Wd)(a:Addr)(o:HO):Wd:=⟨upd W.G a o,W.Pn⟩
theorem Ext.put{a:Addr}{o:HO}(ok:WOk W H)(h:H a=none):Ext W H (W.put a o) (upd H a o) where
 ok:=⟨λb u e=>by
   unfold Wd.put at e;dsimp only at e
   by_cases hb:b=a
   .subst hb;rw[aN] at e ⊢;exact e
   .rw[aG hb] at e ⊢;exact ok.g b u e,
  λb hb=>by
   have⟨p1,p2⟩:=ok.p b hb;have hne:b≠a:=λz=>p1.ne (by rw[z];exact h);refine⟨?_,by unfold Wd.put;dsimp only;rw[aG hne];exact p2⟩;obtain⟨i,j,k,e⟩:=p1;exact⟨i,j,k,by rw[aG hne];exact e⟩⟩
 g:=λb u e=>by
  have:b≠a:=λz=>by have:=ok.g b u e;rw[z,h] at this;cases this
  unfold Wd.put;dsimp only;rw[aG this];exact e
 p:=λb e=>e
 gf:=λb e n=>by
  by_cases hb:b=a
  .rw[hb];exact h
  .unfold Wd.put at n;dsimp only at n;rw[aG hb] at n;exact NH e n
 pf:=λb n e=>NH e n
 h:=λb u e _=>by
  have:b≠a:=λz=>by rw[z,h] at e;cases e
  rw[aG this];exact e
theorem Ext.new(ok:WOk W H)(h:H a=none):Ext W H W (upd H a o) where
 ok:=⟨λb u e=>by
   have q:=ok.g b u e;have:b≠a:=λz=>by rw[z,h] at q;cases q
   rw[aG this];exact q,
  λb hb=>by
   have⟨p1,p2⟩:=ok.p b hb;have hne:b≠a:=λz=>p1.ne (by rw[z];exact h);obtain⟨i,j,k,e⟩:=p1;exact⟨⟨i,j,k,by rw[aG hne];exact e⟩,p2⟩⟩
 g:=λ_ _ e=>e
 p:=λ_ e=>e
 gf:=λ_ e n=>NH e n
 pf:=λ_ n e=>NH e n
 h:=λb u e _=>by
  have:b≠a:=λz=>by rw[z,h] at e;cases e
  rw[aG this];exact e
theorem WOk.fresh(ok:WOk W H)(h:H a=none):W.G a=none/\¬W.Pn a:=by
 refine⟨?_,λp=>(ok.p a p).1.ne h⟩;cases q:W.G a with
 |none=>rfl
 |some o=>have:=ok.g a o q;rw[h] at this;cases this
theorem Ext.pub(x:Ext W H W1 H1)(h:H a=none)(e:H1 a=some o)(n:¬W1.Pn a)(ng:W1.G a=none):Ext W H (W1.put a o) H1 where
 ok:=⟨λb u q=>by
   unfold Wd.put at q
   by_cases hb:b=a
   .subst hb;dsimp only at q;rw[aN] at q;cases q;exact e
   .dsimp only at q;rw[aG hb] at q;exact x.ok.g b u q,
  λb hb=>by
   have⟨p1,p2⟩:=x.ok.p b hb;have hne:b≠a:=λz=>n (by rw[<-z];exact hb);exact⟨p1,by unfold Wd.put;dsimp only;rw[aG hne];exact p2⟩⟩
 g:=λb u q=>by
  have q1:=x.g b u q;have:b≠a:=λz=>by rw[z,ng] at q1;cases q1
  unfold Wd.put;dsimp only;rw[aG this];exact q1
 p:=x.p
 gf:=λb q m=>by
  by_cases hb:b=a
  .rw[hb];exact h
  .unfold Wd.put at m;dsimp only at m;rw[aG hb] at m;exact x.gf b q m
 pf:=x.pf
 h:=x.h
theorem qk(ng:W.G a=none):∀b u,W.G b=some u->(W.put a o).G b=some u:=λb u q=>by
 have:b≠a:=λz=>by rw[z,ng] at q;cases q
 unfold Wd.put;dsimp only;rw[aG this];exact q
theorem Ext.chg{o':HO}(x:Ext W H W1 H1)(h:H a=none)(e:H1 a=some o)(n:¬W1.Pn a)(ng:W1.G a=none):Ext W H W1 (upd H1 a o') where
 ok:=⟨λb u q=>by
   have:b≠a:=λz=>by rw[z,ng] at q;cases q
   rw[aG this];exact x.ok.g b u q,
  λb hb=>by
   have⟨p1,p2⟩:=x.ok.p b hb;have hne:b≠a:=λz=>n (by rw[<-z];exact hb);obtain⟨i,j,k,e⟩:=p1;exact⟨⟨i,j,k,by rw[aG hne];exact e⟩,p2⟩⟩
 g:=x.g
 p:=x.p
 gf:=x.gf
 pf:=x.pf
 h:=λb u q m=>by
  have:b≠a:=λz=>by rw[z,h] at q;cases q
  rw[aG this];exact x.h b u q m
end
inductive SV where
 |un|d (x:D)|ow (xs:List D)|oo (xss:List (List D))
variable{s5 s6 s8 s9 s10 s11 s12 s13 s14:SV}
abbrev bR:=List SV
variable{ρ ρ':bR}
def Own1(K:NF)(H0:Hp)(W:Wd)(H:Hp)(b:Addr)(xs:List D):Prop:=∃vs,H b=some (HO.lst vs)/\W.G b=none/\¬W.Pn b/\H0 b=none/\Reps K W vs xs
structure OwnT(K:NF)(H0:Hp)(W:Wd)(H:Hp)(a:Addr)(bs:List Addr)(xss:List (List D)):Prop where
 a1:H a=some (HO.lst (bs.map V.ref))
 a2:W.G a=none
 a3:¬W.Pn a
 a4:H0 a=none
 nd:(a::bs).Nodup
 len:bs.length=xss.length
 row:∀(i:Nat) b,bs[i]? = some b->∃xs,xss[i]? = some xs/\Own1 K H0 W H b xs
structure OOs(K:NF)(H0:Hp)(W:Wd)(σ:L2.St)(H:Hp)(ρ:bR):Prop where
 t:∀(i:Nat) xss,ρ[i]? = some (SV.oo xss)->∃a bs,σ[i]? = some (some (V.ref a))/\OwnT K H0 W H a bs xss/\∀(j:Nat) ys c,ρ[j]? = some (SV.ow ys)->σ[j]? = some (some (V.ref c))->c∉a::bs
 u:∀(i j:Nat) xss yss,ρ[i]? = some (SV.oo xss)->ρ[j]? = some (SV.oo yss)->i=j
structure SOk(K:NF)(W0:Wd)(H0:Hp)(W:Wd)(σ:L2.St)(H:Hp)(ρ:bR):Prop where
 ext:Ext W0 H0 W H
 len:ρ.length=σ.length
 d:∀(i:Nat) x,ρ[i]? = some (SV.d x)->∃v:V,σ[i]? = some (some v)/\Rep K W v x
 o:∀(i:Nat) xs,ρ[i]? = some (SV.ow xs)->∃a vs,σ[i]? = some (some (V.ref a))/\H a=some (HO.lst vs)/\W.G a=none/\¬W.Pn a/\H0 a=none/\Reps K W vs xs
 ne:∀(i j:Nat) xs ys a,i≠j->ρ[i]? = some (SV.ow xs)->ρ[j]? = some (SV.ow ys)->σ[i]? = some (some (V.ref a))->σ[j]?≠some (some (V.ref a))
 oo:OOs K H0 W σ H ρ
section
variable{W:Wd}
def SOk.ok(s:SOk K W0 H0 W σ H ρ):WOk W H:=s.ext.ok
theorem Own1.step{b:Addr}(o:Own1 K H0 W H b xs)(x:Ext W H W1 H1):Own1 K H0 W1 H1 b xs:=by
 obtain⟨vs,e2,e3,e4,e5,r⟩:=o;refine⟨vs,x.h b _ e2 e4,?_,λq=>?_,e5,x.reps r⟩
 .cases q:W1.G b with
  |none=>rfl
  |some o=>have:=x.gf b e3 (by rw[q];simp);rw[e2] at this;cases this
 .have:=x.pf b e4 q;rw[e2] at this;cases this
theorem OwnT.step{a:Addr}{bs:List Addr}{xss:List (List D)}(o:OwnT K H0 W H a bs xss)(x:Ext W H W1 H1):OwnT K H0 W1 H1 a bs xss:=by
 refine⟨x.h a _ o.a1 o.a3,?_,λq=>?_,o.a4,o.nd,o.len,λi b e=>let⟨xs,e1,q⟩:=o.row i b e;⟨xs,e1,q.step x⟩⟩
 .cases q:W1.G a with
  |none=>rfl
  |some u=>have:=x.gf a o.a2 (by rw[q];simp);rw[o.a1] at this;cases this
 .have:=x.pf a o.a3 q;rw[o.a1] at this;cases this
theorem OwnT.here{c:Addr}{bs:List Addr}(o:OwnT K H0 W H a bs xss)(h:H c=none):c∉a::bs:=λq=>by
 rcases Yan.mp q with rfl|q
 .rw[o.a1] at h;cases h
 .obtain⟨i,hi,rfl⟩:=Ybx.mp q
  obtain⟨xs,_,vs,e,_⟩:=o.row i _ (bG hi);rw[e] at h;cases h
theorem OwnT.noPen{c:Addr}{bs:List Addr}(o:OwnT K H0 W H a bs xss)(h:W.Pn c):c∉a::bs:=λq=>by
 rcases Yan.mp q with rfl|q
 .exact o.a3 h
 .obtain⟨i,hi,rfl⟩:=Ybx.mp q
  obtain⟨xs,_,vs,_,_,e,_⟩:=o.row i _ (bG hi);exact e h
theorem OwnT.upd{a c:Addr}{o':HO}{bs:List Addr}{xss:List (List D)}(o:OwnT K H0 W H a bs xss)(h:c∉a::bs):OwnT K H0 W (upd H c o') a bs xss:=by
 have ha:a≠c:=λz=>h (by rw[z];simp);refine⟨by rw[aG ha];exact o.a1,o.a2,o.a3,o.a4,o.nd,o.len,λi b e=>?_⟩;obtain⟨xs,e1,vs,q⟩:=o.row i b e;have hb:b≠c:=λz=>h (by rw[<-z];exact gI _ (ge e));exact⟨xs,e1,vs,by rw[aG hb];exact q⟩
theorem OwnT.put{a c:Addr}{o':HO}{bs:List Addr}{xss:List (List D)}(o:OwnT K H0 W H a bs xss)(h:c∉a::bs)(hc:W.G c=none):OwnT K H0 (W.put c o') H a bs xss:=by
 have ha:a≠c:=λz=>h (by rw[z];simp);refine⟨o.a1,by unfold Wd.put;dsimp only;rw[aG ha];exact o.a2,o.a3,o.a4,o.nd,o.len,λi b e=>?_⟩;obtain⟨xs,e1,vs,q1,q2,q3,q4,q5⟩:=o.row i b e;have hb:b≠c:=λz=>h (by rw[<-z];exact gI _ (ge e));exact⟨xs,e1,vs,q1,by unfold Wd.put;dsimp only;rw[aG hb];exact q2,q3,q4,q5.mono (qk hc) λ_ z=>z⟩
def OOs.none(h:∀(i:Nat) xss,ρ[i]?≠some (SV.oo xss)):OOs K H0 W σ H ρ:=⟨λi xss e=>NH e (h i xss),λi j xss yss e=>NH e (h i xss)⟩
theorem OOs.step(o:OOs K H0 W σ H ρ)(x:Ext W H W1 H1):OOs K H0 W1 σ H1 ρ:=⟨λi xss e=>let⟨a,bs,e1,q,n⟩:=o.t i xss e;⟨a,bs,e1,q.step x,n⟩,o.u⟩
theorem OOs.set{σ':L2.St}(o:OOs K H0 W σ H ρ){i:Nat}{y:SV}(hy:∀xss,y≠.oo xss)(hσ:∀j,i≠j->σ'[j]? = σ[j]?)(hw:∀ys c,y=.ow ys->σ'[i]? = some (some (V.ref c))->∀(j:Nat) xss a bs,i≠j->ρ[j]? = some (SV.oo xss)->σ[j]? = some (some (V.ref a))->OwnT K H0 W H a bs xss->(∀(j:Nat) ys c,ρ[j]? = some (SV.ow ys)->σ[j]? = some (some (V.ref c))->c∉a::bs)->c∉a::bs):OOs K H0 W σ' H (ρ.set i y):=by
 have nt:∀{j:Nat} {xss:List (List D)},(ρ.set i y)[j]? = some (SV.oo xss)->i≠j/\ρ[j]? = some (SV.oo xss):=λ{j xss} e=>by
  by_cases h:i=j
  .subst h
   by_cases hi:i<ρ.length
   .rw[dc hi] at e;cases e;exact NH rfl (hy xss)
   .rw[eK (by rw[cL];omega)] at e;cases e
  .rw[cG h] at e;exact⟨h,e⟩
 refine⟨λj xss e=>?_,λj k xss yss e1 e2=>o.u j k xss yss (nt e1).2 (nt e2).2⟩;obtain⟨h,e'⟩:=nt e;clear e;obtain⟨a,bs,e1,q,n⟩:=o.t j xss e';refine⟨a,bs,by rw[hσ j h];exact e1,q,λk ys c ek ec=>?_⟩
 by_cases hk:i=k
 .subst hk
  by_cases hi:i<ρ.length
  .rw[dc hi] at ek;cases ek;exact hw ys c rfl ec j xss a bs h e' e1 q n
  .rw[eK (by rw[cL];omega)] at ek;cases ek
 .rw[cG hk] at ek
  rw[hσ k hk] at ec;exact n k ys c ek ec
theorem SOk.step(s:SOk K W0 H0 W σ H ρ)(x:Ext W H W1 H1):SOk K W0 H0 W1 σ H1 ρ where
 ext:=s.ext.trans x
 len:=s.len
 d:=λi y e=>let⟨v,e1,r⟩:=s.d i y e;⟨v,e1,x.rep r⟩
 o:=λi ys e=>by
  obtain⟨a,vs,e1,e2,e3,e4,e5,r⟩:=s.o i ys e;refine⟨a,vs,e1,x.h a _ e2 e4,?_,λq=>?_,e5,x.reps r⟩
  .cases q:W1.G a with
   |none=>rfl
   |some o=>have:=x.gf a e3 (by rw[q];simp);rw[e2] at this;cases this
  .have:=x.pf a e4 q;rw[e2] at this;cases this
 ne:=s.ne
 oo:=s.oo.step x
end
abbrev Ex:=Str
def yI(K:NF)(W:Wd)(_:Hp)(cls:Value)(dx:Option Addr)(ex:Ex):Prop:=∃C,i5 K (mZ ex)=some C/\cls=.ref C/\XD W ex dx
def iR(K:NF)(W0:Wd)(H0:Hp)(E:Ex->Prop)(EX:XK):Prop:=∀ex W' H' cls dx,E ex->Ext W0 H0 W' H'->yI K W' H' cls dx ex->EX cls dx H'
abbrev WE:=(Ex->Prop)->bR->(D->Prop)->Prop
variable{wa wb wc w we wv wo:WE}
abbrev WT:=(Ex->Prop)->bR->(Bool->Prop)->Prop
variable{w' wt wf:WT}
abbrev WA:=(Ex->Prop)->bR->(List D->Prop)->Prop
variable{t wi:WA}
def RQ(K:NF)(W:Wd)(H:Hp)(Q:VK)(d:D):Prop:=∀v W' H',Ext W H W' H'->Rep K W' v d->Q v H'
structure PX(X:Cx)(EX:XK)(e:Expr)(w:WE):Prop where
 t:∃t,PE X e t/\∀W0 H0 W σ H ρ E Q,SOk X.K W0 H0 W σ H ρ->iR X.K W0 H0 E EX->w E ρ (RQ X.K W H Q)->t σ H Q
 mono:∀E ρ P P',(∀d,P d->P' d)->w E ρ P->w E ρ P'
structure jk(X:Cx)(EX:XK)(e:Expr)(w:WT):Prop where
 t:∃t,PT X e t/\∀W0 H0 W σ H ρ E Q,SOk X.K W0 H0 W σ H ρ->iR X.K W0 H0 E EX->w E ρ (λb=>∀W' H',Ext W H W' H'->Q b H')->t σ H Q
 mono:∀E ρ P P',(∀d,P d->P' d)->w E ρ P->w E ρ P'
structure jm(X:Cx)(EX:XK)(es:List Expr)(w:WA):Prop where
 t:∃t,PA X es t/\∀W0 H0 W σ H ρ E Q,SOk X.K W0 H0 W σ H ρ->iR X.K W0 H0 E EX->w E ρ (λds=>∀vs W' H',Ext W H W' H'->Reps X.K W' vs ds->Q vs H')->t σ H Q
 mono:∀E ρ P P',(∀d,P d->P' d)->w E ρ P->w E ρ P'
structure PXL(X:Cx)(EX:XK)(e:Expr)(w:WA):Prop where
 t:∃t,PE X e t/\∀W0 H0 W σ H ρ E Q,SOk X.K W0 H0 W σ H ρ->iR X.K W0 H0 E EX->
  w E ρ (λds=>∀a vs W' H',Ext W H W' H'->H' a=some (.lst vs)->W'.G a=none->¬W'.Pn a->H a=none->Reps X.K W' vs ds->Q (.ref a) H')->t σ H Q
 mono:∀E ρ P P',(∀d,P d->P' d)->w E ρ P->w E ρ P'
structure Nds where
 nx:bR->Prop
 rt:D->Prop
 bk:bR->Prop:=λ_=>False
 ct:bR->Prop:=λ_=>False
variable{N:Nds}
structure Wle(F W:Wd):Prop where
 g:∀a o,F.G a=some o->W.G a=some o
 p:∀a,F.Pn a->W.Pn a
def Wle.refl(F:Wd):Wle F F:=⟨λ_ _ e=>e,λ_ e=>e⟩
def Wle.trans{F W V:Wd}(a:Wle F W)(b:Wle W V):Wle F V:=⟨λx o e=>b.g x o (a.g x o e),λx e=>b.p x (a.p x e)⟩
def Wle.ext{F W:Wd}(a:Wle F W)(x:Ext W H W1 H1):Wle F W1:=a.trans ⟨x.g,x.p⟩
structure Bu(K:NF)(W0:Wd)(H0:Hp)(F:Wd)(Dn:je)(N:Nds):Prop where
 nx:∀W σ H ρ,SOk K W0 H0 W σ H ρ->Wle F W->N.nx ρ->Dn.nx σ H
 rt:∀d v W H,Ext W0 H0 W H->Rep K W v d->N.rt d->Dn.rt v H
 bk:∀W σ H ρ,SOk K W0 H0 W σ H ρ->Wle F W->N.bk ρ->Dn.bk σ H
 ct:∀W σ H ρ,SOk K W0 H0 W σ H ρ->Wle F W->N.ct ρ->Dn.ct σ H
structure Nds.le(N N':Nds):Prop where
 nx:∀ρ,N.nx ρ->N'.nx ρ
 rt:∀d,N.rt d->N'.rt d
 bk:∀ρ,N.bk ρ->N'.bk ρ
 ct:∀ρ,N.ct ρ->N'.ct ρ
def Nds.le.refl(N:Nds):N.le N:=⟨λ_ h=>h,λ_ h=>h,λ_ h=>h,λ_ h=>h⟩
abbrev WS:=(Ex->Prop)->Nds->bR->Prop
variable{z z' zb:WS}
structure PZ(X:Cx)(EX:XK)(st:Stmt)(z:WS):Prop where
 t:∃t,PS X st t/\∀W0 H0 F W σ H ρ E Dn N,SOk X.K W0 H0 W σ H ρ->Wle F W->iR X.K W0 H0 E EX->Bu X.K W0 H0 F Dn N->z E N ρ->t Dn σ H
 mono:∀E ρ N N',N.le N'->z E N ρ->z E N' ρ
structure jn(X:Cx)(EX:XK)(st:List Stmt)(z:WS):Prop where
 t:∃t,PSs X st t/\∀W0 H0 F W σ H ρ E Dn N,SOk X.K W0 H0 W σ H ρ->Wle F W->iR X.K W0 H0 E EX->Bu X.K W0 H0 F Dn N->z E N ρ->t Dn σ H
 mono:∀E ρ N N',N.le N'->z E N ρ->z E N' ρ
section
variable{W:Wd}{Q:VK}
def RQ.ext(h:RQ K W H Q d)(x:Ext W H W1 H1):RQ K W1 H1 Q d:=λv W' H' y r=>h v W' H' (x.trans y) r
def RQ.now(h:RQ K W H Q d)(ok:WOk W H){v:V}(r:Rep K W v d):Q v H:=h v W H (.refl ok) r
theorem RQ.tup{vs:List V}{ds:List D}(h:RQ K W H Q (.tup ds))(ok:WOk W H)(r:Reps K W vs ds){p:Addr}(hp:H p=none):Q (.ref p) (upd H p (.tup vs)):=by
 have x:=Ext.put (o:=.tup vs) ok hp;exact h _ _ _ x (.tup (by unfold Wd.put;dsimp only;rw[aN]) (x.reps r))
theorem RQ.lst{vs:List V}{ds:List D}(h:RQ K W H Q (.lst ds))(ok:WOk W H)(r:Reps K W vs ds){p:Addr}(hp:H p=none):Q (.ref p) (upd H p (.lst vs)):=by
 have x:=Ext.put (o:=.lst vs) ok hp;exact h _ _ _ x (.lst (by unfold Wd.put;dsimp only;rw[aN]) (x.reps r))
theorem Rep.sqt{a:V}(r:Rep K W a (.tup ds))(ok:WOk W H):∃p vs,a=.ref p/\SqT K H p vs/\Reps K W vs ds:=by
 cases r with
 |tup e r=>exact⟨_,_,rfl,.inl (.inl (ok.g _ _ e)),r⟩
 |ktup e r=>exact⟨_,_,rfl,.inr e,r⟩
def Rd.up{u:HO}(r:Rd W.G a u)(ok:WOk W H):Rd H a u:=r.elim (λz=>.inl (ok.g _ _ z)) λ⟨o,z⟩=>.inr ⟨o,ok.g _ _ z⟩
theorem Rep.sql{a:V}(r:Rep K W a (.lst ds))(ok:WOk W H):∃p vs,a=.ref p/\SqL K H p vs/\Reps K W vs ds:=by
 cases r with
 |lst e r=>exact⟨_,_,rfl,.inl (.inl (ok.g _ _ e)),r⟩
theorem Rep.sqs{a:V}(r:Rep K W a (.scr ds))(ok:WOk W H):∃p vs,a=.ref p/\SqL K H p vs/\Reps K W vs ds:=by
 cases r with
 |scr e r=>exact⟨_,_,rfl,e.elim (λ⟨o,e⟩=>.inl (.inr ⟨o,ok.g _ _ e⟩)) .inr,r⟩
end
section
def wN(i:Nat):WE:=λ_ ρ Q=>match ρ[i]? with
 |some (.d x)=>Q x
 |_=>False
theorem aE(i:Nat)(hN:X.N[i]? = some x:=by rfl)(hv:kf X.env.scope x:=by first|exact Or.inl rfl|exact Or.inr (Or.inl rfl)|exact Or.inr (Or.inr rfl))(hd:(x==("__debug__" : Str))=false:=by decide)
  (hcd:(x==("__classdict__" : Str))=false:=by decide):PX X EX (.Name x pos) (wN i):=by
 refine⟨⟨_,c7 hN hv hd hcd,λW0 H0 W σ H ρ E Q s _ h=>?_⟩,λE ρ P P' hp h=>?_⟩
 .unfold wN at h
  split at h
  .rename_i x e
   obtain⟨v,e1,r⟩:=s.d i x e;exact⟨v,e1,h.now s.ok r⟩
  .exact h.elim
 .unfold wN at h ⊢
  split at h
  .exact hp _ h
  .exact h.elim
def wC(d:D):WE:=λ_ _ Q=>Q d
def wC.mono:∀(E:Ex->Prop) ρ P P',(∀d,P d->P' d)->wC d E ρ P->wC d E ρ P':=λ_ _ _ _ hp h=>hp _ h
def aL{i j}:PX X EX (.Constant (.int i) j pos) (wC (.int i)):=⟨⟨_,jH,λ_ _ _ _ _ _ _ _ s _ h=>RQ.now h s.ok (.int i)⟩,wC.mono⟩
def gG{b j}:PX X EX (.Constant (.bool b) j pos) (wC (.bl b)):=⟨⟨_,uI,λ_ _ _ _ _ _ _ _ s _ h=>RQ.now h s.ok (.bl b)⟩,wC.mono⟩
def m6{j}:PX X EX (.Constant .none j pos) (wC .non):=⟨⟨_,rM,λ_ _ _ _ _ _ _ _ s _ h=>RQ.now h s.ok .non⟩,wC.mono⟩
def jv{x j}:PX X EX (.Constant (.str x) j pos) (wC (.str x)):=⟨⟨_,rN,λ_ _ _ _ _ _ _ _ s _ h=>RQ.now h s.ok (.str x)⟩,wC.mono⟩
theorem Bv{v:V}{u:Value}(hm:X.mg x=some u)(r:RelV v u)(rd:∀W,Rep X.K W v d)(hg:Gl X x:=by rfl)(hd:(x==("__debug__" : Str))=false:=by decide):PX X EX (.Name x pos) (wC d):=
 ⟨⟨_,pQ hg hm r hd,λ_ _ _ _ _ _ _ _ s _ h=>RQ.now h s.ok (rd _)⟩,wC.mono⟩
theorem Jg{v:V}{u:Value}(hm:X.mg x=none)(hv:bootBuiltins x=some u)(r:RelV v u)(rd:∀W,Rep X.K W v d)(hg:Gl X x:=by rfl)(hn:x≠ "__name__" :=by decide)(hd:(x==("__debug__" : Str))=false:=by decide):PX X EX (.Name x pos) (wC d):=
 ⟨⟨_,pR hg hm hv r hn hd,λ_ _ _ _ _ _ _ _ s _ h=>RQ.now h s.ok (rd _)⟩,wC.mono⟩
end
abbrev G2:=D->D->(D->Prop)->Prop
structure gk(X:Cx)(f:Value->Value->Sem Value)(g:G2):Prop where
 t:∃r,OpR X f r/\∀W H x y dx dy Q,WOk W H->Rep X.K W x dx->Rep X.K W y dy->g dx dy (RQ X.K W H Q)->r x y H Q
 mono:∀x y P P',(∀d,P d->P' d)->g x y P->g x y P'
section
variable{a b:Expr}
def w2(g:G2)(wa wb:WE):WE:=λE ρ Q=>wa E ρ λx=>wb E ρ λy=>g x y Q
theorem w2.mono{g:G2}(ha:PX X EX a wa)(hb:PX X EX b wb)(hg:∀x y P P',(∀d,P d->P' d)->g x y P->g x y P'):∀E ρ P P',(∀d,P d->P' d)->w2 g wa wb E ρ P->w2 g wa wb E ρ P':=
 λE ρ P P' hp h=>ha.mono E ρ _ _ (λx hx=>hb.mono E ρ _ _ (λy hy=>hg x y _ _ hp hy) hx) h
theorem lg{ta tb:TE}{R:V->V->Hp->Prop}{G:D->D->Prop}{W:Wd}{E:Ex->Prop}(hma:∀E ρ P P',(∀d,P d->P' d)->wa E ρ P->wa E ρ P')(hmb:∀E ρ P P',(∀d,P d->P' d)->wb E ρ P->wb E ρ P')
  (ka:∀W0 H0 W σ H ρ E Q,SOk X.K W0 H0 W σ H ρ->iR X.K W0 H0 E EX->wa E ρ (RQ X.K W H Q)->ta σ H Q) (kb:∀W0 H0 W σ H ρ E Q,SOk X.K W0 H0 W σ H ρ->iR X.K W0 H0 E EX->wb E ρ (RQ X.K W H Q)->tb σ H Q)
  (s:SOk X.K W0 H0 W σ H ρ) (eo:iR X.K W0 H0 E EX) (h:wa E ρ λx=>wb E ρ λy=>G x y)
  (k:∀W2 H2 x y dx dy,Ext W H W2 H2->Rep X.K W2 x dx->Rep X.K W2 y dy->G dx dy->R x y H2):ta σ H λx H1=>tb σ H1 λy H2=>R x y H2:=
 ka W0 H0 W σ H ρ E _ s eo (hma E ρ _ _ (λdx hx v W1 H1 x1 r1=>kb W0 H0 W1 σ H1 ρ E _ (s.step x1) eo (hmb E ρ _ _ (λdy hy u W2 H2 x2 r2=>k W2 H2 v u dx dy (x1.trans x2) (x2.rep r1) r2 hy) hx)) h)
theorem aW{op:Operator}{g:G2}(ho:gk X (binaryOp op) g)(ha:PX X EX a wa)(hb:PX X EX b wb):PX X EX (.BinOp a op b pos) (w2 g wa wb):=by
 obtain⟨ta,pa,ka⟩:=ha.t;obtain⟨tb,pb,kb⟩:=hb.t;obtain⟨r,pr,kr⟩:=ho.t;refine⟨⟨_,mF pr pa pb,λW0 H0 W σ H ρ E Q s eo h=>?_⟩,w2.mono ha hb ho.mono⟩;exact lg ha.mono hb.mono ka kb s eo h λW2 H2 x y dx dy x2 rx ry hg=>kr W2 H2 x y dx dy Q x2.ok rx ry (ho.mono _ _ _ _ (λd hd=>RQ.ext hd x2) hg)
theorem nN{g:G2}(ho:gk X (compareOp op) g)(ha:PX X EX a wa)(hb:PX X EX b wb)(hm:behindInMarks op b=false:=by first|exact mH _|with_unfolding_all rfl):PX X EX (.Compare a [op] [b] pos) (w2 g wa wb):=by
 obtain⟨ta,pa,ka⟩:=ha.t;obtain⟨tb,pb,kb⟩:=hb.t;obtain⟨r,pr,kr⟩:=ho.t;refine⟨⟨_,qa pr pa pb hm,λW0 H0 W σ H ρ E Q s eo h=>?_⟩,w2.mono ha hb ho.mono⟩;exact lg ha.mono hb.mono ka kb s eo h λW2 H2 x y dx dy x2 rx ry hg=>kr W2 H2 x y dx dy Q x2.ok rx ry (ho.mono _ _ _ _ (λd hd=>RQ.ext hd x2) hg)
def isB(Q:Bool->Prop):D->Prop
 |.bl b=>Q b
 |_=>False
theorem isB.mono{Q Q':Bool->Prop}(h:∀b,Q b->Q' b):∀d,isB Q d->isB Q' d
 |.bl b,z=>h b z
 |.non,z=>z|.int _,z=>z|.str _,z=>z|.tup _,z=>z|.lst _,z=>z|.dic,z=>z|.pen,z=>z|.cls _,z=>z|.exc _,z=>z|.ty _,z=>z|.scr _,z=>z
def wT(w:WE):WT:=λE ρ Q=>w E ρ (isB Q)
def sO{Q:Bool->Prop}(h:isB Q d):∃b,d=.bl b/\Q b:=by
 cases d with
 |bl b=>exact⟨b,rfl,h⟩
 |_=>exact h.elim
theorem wT.mono{w:WE}(h:∀E ρ P P',(∀d,P d->P' d)->w E ρ P->w E ρ P'):∀E ρ P P',(∀d,P d->P' d)->wT w E ρ P->wT w E ρ P':=λE ρ _ _ hp z=>h E ρ _ _ (isB.mono hp) z
theorem dE{g:G2}(ho:gk X (compareOp op) g)(ha:PX X EX a wa)(hb:PX X EX b wb)(hm:behindInMarks op b=false:=by first|exact mH _|with_unfolding_all rfl):jk X EX (.Compare a [op] [b] pos) (wT (w2 g wa wb)):=by
 obtain⟨ta,pa,ka⟩:=ha.t;obtain⟨tb,pb,kb⟩:=hb.t;obtain⟨r,pr,kr⟩:=ho.t;refine⟨⟨_,qb pr pa pb hm,λW0 H0 W σ H ρ E Q s eo h=>?_⟩,wT.mono (w2.mono ha hb ho.mono)⟩;refine lg ha.mono hb.mono ka kb s eo h λW2 H2 x y dx dy x2 rx ry hg=>kr W2 H2 x y dx dy _ x2.ok rx ry (ho.mono _ _ _ _ (λd hd v W' H' x' r'=>?_) hg);obtain⟨b,rfl,q⟩:=sO hd;cases r';exact⟨b,rfl,q W' H' (x2.trans x')⟩
theorem ic(ha:PX X EX a wa)(he:∀whole,isTrue a X.env whole=(do let v <-whole;standAt a.pos;holding [v] (truthy v)):=by intro _;rfl):jk X EX a (wT wa):=by
 obtain⟨ta,pa,ka⟩:=ha.t;refine⟨⟨_,mL pa he,λW0 H0 W σ H ρ E Q s eo h=>?_⟩,wT.mono ha.mono⟩;refine ka W0 H0 W σ H ρ E _ s eo (ha.mono _ _ _ _ (λd hd v W' H' x' r'=>?_) h);obtain⟨b,rfl,q⟩:=sO hd;cases r';exact⟨b,rfl,q W' H' x'⟩
def bV(w:WT):WT:=λE ρ Q=>w E ρ λb=>Q (!b)
theorem ig{w:WT}(ha:jk X EX a w):jk X EX (.UnaryOp .Not a pos) (bV w):=by
 obtain⟨ta,pa,ka⟩:=ha.t;refine⟨⟨_,rR pa,λW0 H0 W σ H ρ E Q s eo h=>?_⟩,λE ρ P P' hp h=>ha.mono _ _ _ _ (λb hb=>hp _ hb) h⟩;exact ka W0 H0 W σ H ρ E _ s eo h
structure PXW(X:Cx)(EX:XK)(e:Expr)(w:WT):Prop where
 t:∃t,PW X e t/\∀W0 H0 W σ H ρ E Q,SOk X.K W0 H0 W σ H ρ->iR X.K W0 H0 E EX->w E ρ (λb=>∀W' H',Ext W H W' H'->Q b H')->t σ H Q
 mono:∀E ρ P P',(∀d,P d->P' d)->w E ρ P->w E ρ P'
def PXW.pxt{w:WT}(h:PXW X EX a w):jk X EX a w:=let⟨t,p,k⟩:=h.t;⟨⟨t,p.pt,k⟩,h.mono⟩
variable{rest:List Expr}
def dw(w w':WT):WT:=λE ρ Q=>w E ρ λb=>if b=true then w' E ρ Q else Q false
def fD(w w':WT):WT:=λE ρ Q=>w E ρ λb=>if b=true then Q true else w' E ρ Q
def Bw{w:WT}(ha:jk X EX a w):PXW X EX (.BoolOp .And [a] pos) w:=let⟨t,p,k⟩:=ha.t;⟨⟨t,pS p,k⟩,ha.mono⟩
def nO{w:WT}(ha:jk X EX a w):PXW X EX (.BoolOp .Or [a] pos) w:=let⟨t,p,k⟩:=ha.t;⟨⟨t,rO p,k⟩,ha.mono⟩
theorem Bx{w:WT}(ha:jk X EX a w)(hb:PXW X EX (.BoolOp .And (b::rest) pos) w'):PXW X EX (.BoolOp .And (a::b::rest) pos) (dw w w'):=by
 obtain⟨ta,pa,ka⟩:=ha.t;obtain⟨tb,pb,kb⟩:=hb.t;refine⟨⟨_,rP pa pb,λW0 H0 W σ H ρ E Q s eo h=>?_⟩,λE ρ P P' hp h=>ha.mono _ _ _ _ (λb hb'=>?_) h⟩
 .refine ka W0 H0 W σ H ρ E _ s eo (ha.mono _ _ _ _ (λb hb' W1 H1 x1=>?_) h)
  cases b with
  |true=>
   rw[if_pos rfl] at hb' ⊢;exact kb W0 H0 W1 σ H1 ρ E _ (s.step x1) eo (hb.mono _ _ _ _ (λb hq W' H' x'=>hq W' H' (x1.trans x')) hb')
  |false=>rw[if_neg (by decide)] at hb' ⊢;exact hb' W1 H1 x1
 .cases b with
  |true=>rw[if_pos rfl] at hb' ⊢;exact hb.mono _ _ _ _ hp hb'
  |false=>rw[if_neg (by decide)] at hb' ⊢;exact hp _ hb'
theorem lS{w:WT}(ha:jk X EX a w)(hb:PXW X EX (.BoolOp .Or (b::rest) pos) w'):PXW X EX (.BoolOp .Or (a::b::rest) pos) (fD w w'):=by
 obtain⟨ta,pa,ka⟩:=ha.t;obtain⟨tb,pb,kb⟩:=hb.t;refine⟨⟨_,uJ pa pb,λW0 H0 W σ H ρ E Q s eo h=>?_⟩,λE ρ P P' hp h=>ha.mono _ _ _ _ (λb hb'=>?_) h⟩
 .refine ka W0 H0 W σ H ρ E _ s eo (ha.mono _ _ _ _ (λb hb' W1 H1 x1=>?_) h)
  cases b with
  |true=>rw[if_pos rfl] at hb' ⊢;exact hb' W1 H1 x1
  |false=>
   rw[if_neg (by decide)] at hb' ⊢;exact kb W0 H0 W1 σ H1 ρ E _ (s.step x1) eo (hb.mono _ _ _ _ (λb hq W' H' x'=>hq W' H' (x1.trans x')) hb')
 .cases b with
  |true=>rw[if_pos rfl] at hb' ⊢;exact hp _ hb'
  |false=>rw[if_neg (by decide)] at hb' ⊢;exact hb.mono _ _ _ _ hp hb'
end
section
variable{a b:Expr}{rest:List Expr}
def ii(wa wb:WE):WE:=λE ρ Q=>wa E ρ (isB λb=>if b=true then wb E ρ Q else Q (.bl false))
def fM(wa wb:WE):WE:=λE ρ Q=>wa E ρ (isB λb=>if b=true then Q (.bl true) else wb E ρ Q)
def jS(wa:WE):WE:=λE ρ Q=>wa E ρ (isB λb=>Q (.bl (!b)))
def sP{op}(h:PX X EX a wa):PX X EX (.BoolOp op [a] pos) wa:=let⟨t,q,k⟩:=h.t;⟨⟨t,rS q,k⟩,h.mono⟩
theorem sQ(ha:PX X EX a wa)(hb:PX X EX (.BoolOp .And (b::rest) pos) wb):PX X EX (.BoolOp .And (a::b::rest) pos) (ii wa wb):=by
 obtain⟨ta,pa,ka⟩:=ha.t;obtain⟨tb,pb,kb⟩:=hb.t;refine⟨⟨_,rT pa pb,λW0 H0 W σ H ρ E Q s eo h=>?_⟩,λE ρ P P' hp h=>ha.mono _ _ _ _ (isB.mono λb hb'=>?_) h⟩
 .refine ka W0 H0 W σ H ρ E _ s eo (ha.mono _ _ _ _ (λd hd v W1 H1 x1 r1=>?_) h)
  obtain⟨b,rfl,q⟩:=sO hd;cases r1;refine⟨b,rfl,?_⟩;cases b with
  |true=>rw[if_pos rfl] at q ⊢;exact kb W0 H0 W1 σ H1 ρ E _ (s.step x1) eo (hb.mono _ _ _ _ (λd hd=>RQ.ext hd x1) q)
  |false=>rw[if_neg (by decide)] at q ⊢;exact q _ W1 H1 x1 (.bl false)
 .cases b with
  |true=>rw[if_pos rfl] at hb' ⊢;exact hb.mono _ _ _ _ hp hb'
  |false=>rw[if_neg (by decide)] at hb' ⊢;exact hp _ hb'
theorem DZ(ha:PX X EX a wa):PX X EX (.UnaryOp .Not a pos) (jS wa):=by
 obtain⟨ta,pa,ka⟩:=ha.t;refine⟨⟨_,rV pa,λW0 H0 W σ H ρ E Q s eo h=>?_⟩,λE ρ P P' hp h=>ha.mono _ _ _ _ (isB.mono λb hb'=>hp _ hb') h⟩;refine ka W0 H0 W σ H ρ E _ s eo (ha.mono _ _ _ _ (λd hd v W1 H1 x1 r1=>?_) h);obtain⟨b,rfl,q⟩:=sO hd;cases r1;exact⟨b,rfl,q _ W1 H1 x1 (.bl _)⟩
def jT(wt:WT)(wa wb:WE):WE:=λE ρ Q=>wt E ρ λb=>if b=true then wa E ρ Q else wb E ρ Q
theorem D0(hc:jk X EX c wt)(ha:PX X EX a wa)(hb:PX X EX b wb):PX X EX (.IfExp c a b pos) (jT wt wa wb):=by
 obtain⟨ta,pa,ka⟩:=ha.t;obtain⟨tb,pb,kb⟩:=hb.t;obtain⟨tc,pc,kc⟩:=hc.t;refine⟨⟨_,mx pc pa pb,λW0 H0 W σ H ρ E Q s eo h=>?_⟩,λE ρ P P' hp h=>hc.mono _ _ _ _ (λb hb'=>?_) h⟩
 .refine kc W0 H0 W σ H ρ E _ s eo (hc.mono _ _ _ _ (λb q W1 H1 x1=>?_) h)
  cases b with
  |true=>rw[if_pos rfl] at q ⊢;exact ka W0 H0 W1 σ H1 ρ E _ (s.step x1) eo (ha.mono _ _ _ _ (λd hd=>RQ.ext hd x1) q)
  |false=>rw[if_neg (by decide)] at q ⊢;exact kb W0 H0 W1 σ H1 ρ E _ (s.step x1) eo (hb.mono _ _ _ _ (λd hd=>RQ.ext hd x1) q)
 .cases b with
  |true=>rw[if_pos rfl] at hb' ⊢;exact ha.mono _ _ _ _ hp hb'
  |false=>rw[if_neg (by decide)] at hb' ⊢;exact hb.mono _ _ _ _ hp hb'
def Zbd(g g':G2)(wa wb wc:WE):WE:=λE ρ Q=>wa E ρ λx=>wb E ρ λy=>g x y (isB λk=>if k=true then wc E ρ λz=>g' y z Q else Q (.bl false))
theorem Zbd.mono{g g':G2}(ha:PX X EX a wa)(hb:PX X EX b wb)(hc:PX X EX c wc)(hg:∀x y P P',(∀d,P d->P' d)->g x y P->g x y P')(hg':∀x y P P',(∀d,P d->P' d)->g' x y P->g' x y P') :
  ∀E ρ P P',(∀d,P d->P' d)->Zbd g g' wa wb wc E ρ P->Zbd g g' wa wb wc E ρ P':=λE ρ P P' hp h=>
 ha.mono _ _ _ _ (λx hx=>hb.mono _ _ _ _ (λy hy=>hg x y _ _ (isB.mono λk hk=>by
  cases k with
  |true=>rw[if_pos rfl] at hk ⊢;exact hc.mono _ _ _ _ (λz hz=>hg' y z _ _ hp hz) hk
  |false=>rw[if_neg (by decide)] at hk ⊢;exact hp _ hk) hy) hx) h
theorem D1{op':CmpOp}{g g':G2}(ho:gk X (compareOp op) g)(ho':gk X (compareOp op') g')(ha:PX X EX a wa)(hb:PX X EX b wb)(hc:PX X EX c wc)
  (hm:lastMarks [op,op'] [b,c]=false:=by with_unfolding_all rfl):PX X EX (.Compare a [op,op'] [b,c] pos) (Zbd g g' wa wb wc):=by
 obtain⟨ta,pa,ka⟩:=ha.t;obtain⟨tb,pb,kb⟩:=hb.t;obtain⟨tc,pc,kc⟩:=hc.t;obtain⟨r,pr,kr⟩:=ho.t;obtain⟨r',pr',kr'⟩:=ho'.t;refine⟨⟨_,mJ pr pr' pa pb pc hm,λW0 H0 W σ H ρ E Q s eo h=>?_⟩,Zbd.mono ha hb hc ho.mono ho'.mono⟩;refine lg ha.mono hb.mono ka kb s eo h λW2 H2 x y dx dy x2 rx ry hg=>kr W2 H2 x y dx dy _ x2.ok rx ry (ho.mono _ _ _ _ (λd hd v W3 H3 x3 r3=>?_) hg);obtain⟨k,rfl,q⟩:=sO hd;cases r3;refine⟨k,rfl,?_⟩;cases k with
 |true=>
  rw[if_pos rfl] at q ⊢;refine kc W0 H0 W3 σ H3 ρ E _ (s.step (x2.trans x3)) eo (hc.mono _ _ _ _ (λdz hz w W4 H4 x4 r4=>?_) q);exact kr' W4 H4 y w dy dz Q x4.ok (x4.rep (x3.rep ry)) r4 (ho'.mono _ _ _ _ (λd hd=>RQ.ext hd (x2.trans (x3.trans x4))) hz)
 |false=>rw[if_neg (by decide)] at q ⊢;exact q _ W3 H3 (x2.trans x3) (.bl false)
theorem Jh{op':CmpOp}{g g':G2}(ho:gk X (compareOp op) g)(ho':gk X (compareOp op') g')(ha:PX X EX a wa)(hb:PX X EX b wb)(hc:PX X EX c wc)
  (hm:lastMarks [op,op'] [b,c]=false:=by with_unfolding_all rfl):jk X EX (.Compare a [op,op'] [b,c] pos) (wT (Zbd g g' wa wb wc)):=by
 obtain⟨ta,pa,ka⟩:=ha.t;obtain⟨tb,pb,kb⟩:=hb.t;obtain⟨tc,pc,kc⟩:=hc.t;obtain⟨r,pr,kr⟩:=ho.t;obtain⟨r',pr',kr'⟩:=ho'.t;refine⟨⟨_,mK pr pr' pa pb pc hm,λW0 H0 W σ H ρ E Q s eo h=>?_⟩,wT.mono (Zbd.mono ha hb hc ho.mono ho'.mono)⟩;refine lg ha.mono hb.mono ka kb s eo h λW2 H2 x y dx dy x2 rx ry hg=>kr W2 H2 x y dx dy _ x2.ok rx ry (ho.mono _ _ _ _ (λd hd v W3 H3 x3 r3=>?_) hg);obtain⟨k,rfl,q⟩:=sO hd;cases r3;refine⟨k,rfl,?_⟩;cases k with
 |true=>
  rw[if_pos rfl] at q ⊢;refine kc W0 H0 W3 σ H3 ρ E _ (s.step (x2.trans x3)) eo (hc.mono _ _ _ _ (λdz hz w W4 H4 x4 r4=>?_) q);refine kr' W4 H4 y w dy dz _ x4.ok (x4.rep (x3.rep ry)) r4 (ho'.mono _ _ _ _ (λd hd v5 W5 H5 x5 r5=>?_) hz);obtain⟨b,rfl,q'⟩:=sO hd;cases r5;exact⟨b,rfl,q' W5 H5 (x2.trans (x3.trans (x4.trans x5)))⟩
 |false=>rw[if_neg (by decide)] at q ⊢;exact⟨false,rfl,q W3 H3 (x2.trans x3)⟩
def aA:WA:=λ_ _ Q=>Q []
def aC(w:WE)(t:WA):WA:=λE ρ Q=>w E ρ λx=>t E ρ λxs=>Q (x::xs)
def aH:jm X EX [] aA:=⟨⟨_,iI,λ_ _ W _ H _ _ _ s _ h=>h [] W H (.refl s.ok) .nil⟩,λ_ _ _ _ hp h=>hp _ h⟩
theorem Za(ha:PX X EX e w)(hr:jm X EX es t)(hs:starEach (e::es) X.env=(false,eval e X.env)::starEach es X.env:=by rfl):jm X EX (e::es) (aC w t):=by
 obtain⟨ta,pa,ka⟩:=ha.t;obtain⟨tr,pr,kr⟩:=hr.t;refine⟨⟨_,gh pa pr hs,λW0 H0 W σ H ρ E Q s eo h=>?_⟩,λE ρ P P' hp h=>ha.mono _ _ _ _ (λd hd=>hr.mono _ _ _ _ (λds hds=>hp _ hds) hd) h⟩;refine ka W0 H0 W σ H ρ E _ s eo (ha.mono _ _ _ _ (λd hd v W1 H1 x1 r1=>?_) h);exact kr W0 H0 W1 σ H1 ρ E _ (s.step x1) eo (hr.mono _ _ _ _ (λds hds vs W2 H2 x2 r2=>hds _ W2 H2 (x1.trans x2) (.cons (x2.rep r1) r2)) hd)
def small:Nat:=10000
def lT(h:n<=small):n<=sizeLine:=gv h (by rw[sizeLine_eq];decide)
def aU(t:WA):WE:=λE ρ Q=>t E ρ λxs=>xs.length<=small/\Q (.tup xs)
def aX(t:WA):WA:=λE ρ Q=>t E ρ λxs=>xs.length<=small/\Q xs
theorem dP{x1}(h:jm X EX es t):PX X EX (.Tuple es x1 pos) (aU t):=by
 obtain⟨ta,pa,ka⟩:=h.t;refine⟨⟨_,sD pa,λW0 H0 W σ H ρ E Q s eo hw=>?_⟩,λE ρ P P' hp z=>h.mono _ _ _ _ (λds hds=>⟨hds.1,hp _ hds.2⟩) z⟩;refine ka W0 H0 W σ H ρ E _ s eo (h.mono _ _ _ _ (λds hds vs W1 H1 x1 r1=>?_) hw);refine⟨by rw[r1.length];exact lT hds.1,λq hq=>?_⟩;exact(RQ.ext hds.2 x1).tup x1.ok r1 hq
theorem eM(h:jm X EX es t):PXL X EX (.List es pos) (aX t):=by
 obtain⟨ta,pa,ka⟩:=h.t;refine⟨⟨_,sE pa,λW0 H0 W σ H ρ E Q s eo hw=>?_⟩,λE ρ P P' hp z=>h.mono _ _ _ _ (λds hds=>⟨hds.1,hp _ hds.2⟩) z⟩;refine ka W0 H0 W σ H ρ E _ s eo (h.mono _ _ _ _ (λds hds vs W1 H1 x1 r1=>?_) hw);refine⟨by rw[r1.length];exact lT hds.1,λq hq=>?_⟩;exact hds.2 q vs W1 _ (x1.trans (.new x1.ok hq)) aN (x1.ok.fresh hq).1 (x1.ok.fresh hq).2 (x1.isN hq) r1
def wL(t:WA):WE:=λE ρ Q=>t E ρ λds=>Q (.lst ds)
theorem PXL.px(h:PXL X EX e t):PX X EX e (wL t):=by
 obtain⟨ta,pa,ka⟩:=h.t;refine⟨⟨_,pa,λW0 H0 W σ H ρ E Q s eo hw=>?_⟩,λE ρ P P' hp z=>h.mono _ _ _ _ (λds hds=>hp _ hds) z⟩;refine ka W0 H0 W σ H ρ E _ s eo (h.mono _ _ _ _ (λds hds a vs W1 H1 x1 e1 e2 e3 e4 r1=>?_) hw);refine hds _ _ _ (x1.pub e4 e1 e3 e2) (.lst (by unfold Wd.put;dsimp only;rw[aN]) (r1.mono (qk e2) λ_ z=>z))
structure d7(X:Cx)(f:Value)(g:List D->(D->Prop)->Prop):Prop where
 t:∃r,CallR X f r/\∀W H vs ds Q,WOk W H->Reps X.K W vs ds->g ds (RQ X.K W H Q)->r vs H Q
 mono:∀ds P P',(∀d,P d->P' d)->g ds P->g ds P'
structure qU(X:Cx)(f:Value)(g:List D->(List D->Prop)->Prop):Prop where
 t:∃r,CallR X f r/\∀W H vs ds Q,WOk W H->Reps X.K W vs ds->g ds (λes=>∀a us,H a=none->Reps X.K W us es->Q (.ref a) (upd H a (.lst us)))->r vs H Q
 mono:∀ds P P',(∀d,P d->P' d)->g ds P->g ds P'
def wB(g:List D->(D->Prop)->Prop)(t:WA):WE:=λE ρ Q=>t E ρ λds=>g ds Q
def aB(g:List D->(List D->Prop)->Prop)(t:WA):WA:=λE ρ Q=>t E ρ λds=>g ds Q
variable{id T:String}
theorem cK{g:List D->(D->Prop)->Prop}(hc:d7 X (.builtin id) g)(hm:X.mg x=none)(hv:bootBuiltins x=some (.builtin id))(ha:jm X EX (e::es) t)(hg:Gl X x:=by rfl)(hn:x≠ "__name__" :=by decide)(hdb:(x==("__debug__" : Str))=false:=by decide)
  (he:starEach (e::es) X.env=(false,eval e X.env)::starEach es X.env:=by rfl) (hpl:(backTo pos (starEach es X.env)).any (·.1)=false:=by rfl):PX X EX (.Call (.Name x p) (e::es) [] pos) (wB g t):=by
 obtain⟨ta,pa,ka⟩:=ha.t;obtain⟨r,pr,kr⟩:=hc.t;refine⟨⟨_,mO pr hg hm hv pa hn hdb he hpl,λW0 H0 W σ H ρ E Q s eo h=>?_⟩,λE ρ P P' hp z=>ha.mono _ _ _ _ (λds hds=>hc.mono _ _ _ hp hds) z⟩;exact ka W0 H0 W σ H ρ E _ s eo (ha.mono _ _ _ _ (λds hds vs W1 H1 x1 r1=>kr W1 H1 vs ds Q x1.ok r1 (hc.mono _ _ _ (λd hd=>RQ.ext hd x1) hds)) h)
theorem m7{g:List D->(D->Prop)->Prop}(hc:d7 X (.type T) g)(hm:X.mg x=none)(hv:bootBuiltins x=some (.type T))(ha:jm X EX (e::es) t)(hg:Gl X x:=by rfl)(hn:x≠ "__name__" :=by decide)(hdb:(x==("__debug__" : Str))=false:=by decide)
  (he:starEach (e::es) X.env=(false,eval e X.env)::starEach es X.env:=by rfl) (hpl:(backTo pos (starEach es X.env)).any (·.1)=false:=by rfl):PX X EX (.Call (.Name x p) (e::es) [] pos) (wB g t):=by
 obtain⟨ta,pa,ka⟩:=ha.t;obtain⟨r,pr,kr⟩:=hc.t;refine⟨⟨_,eA pr hg hm hv pa hn hdb he hpl,λW0 H0 W σ H ρ E Q s eo h=>?_⟩,λE ρ P P' hp z=>ha.mono _ _ _ _ (λds hds=>hc.mono _ _ _ hp hds) z⟩;exact ka W0 H0 W σ H ρ E _ s eo (ha.mono _ _ _ _ (λds hds vs W1 H1 x1 r1=>kr W1 H1 vs ds Q x1.ok r1 (hc.mono _ _ _ (λd hd=>RQ.ext hd x1) hds)) h)
theorem yJ{g:List D->(List D->Prop)->Prop}(hc:qU X (.type T) g)(hm:X.mg x=none)(hv:bootBuiltins x=some (.type T))(ha:jm X EX (e::es) t)(hg:Gl X x:=by rfl)(hn:x≠ "__name__" :=by decide)(hdb:(x==("__debug__" : Str))=false:=by decide)
  (he:starEach (e::es) X.env=(false,eval e X.env)::starEach es X.env:=by rfl) (hpl:(backTo pos (starEach es X.env)).any (·.1)=false:=by rfl):PXL X EX (.Call (.Name x p) (e::es) [] pos) (aB g t):=by
 obtain⟨ta,pa,ka⟩:=ha.t;obtain⟨r,pr,kr⟩:=hc.t;refine⟨⟨_,eA pr hg hm hv pa hn hdb he hpl,λW0 H0 W σ H ρ E Q s eo h=>?_⟩,λE ρ P P' hp z=>ha.mono _ _ _ _ (λds hds=>hc.mono _ _ _ hp hds) z⟩;refine ka W0 H0 W σ H ρ E _ s eo (ha.mono _ _ _ _ (λds hds vs W1 H1 x1 r1=>kr W1 H1 vs ds Q x1.ok r1 (hc.mono _ _ _ (λes' hd a us hn' r2=>?_) hds)) h);exact hd a us W1 _ (x1.trans (.new x1.ok hn')) aN (x1.ok.fresh hn').1 (x1.ok.fresh hn').2 (x1.isN hn') r2
abbrev bN:=List D->(Ex->Prop)->(D->Prop)->Prop
def m8(S:bN):Prop:=∀ds E E' Q Q',(∀ex,E ex->E' ex)->(∀d,Q d->Q' d)->S ds E Q->S ds E' Q'
def fN(K:NF)(S:bN):Sp:=λvs H Q EX=>∃ds W,WOk W H/\Reps K W vs ds/\S ds (λex=>∀W' H' cls dx,Ext W H W' H'->yI K W' H' cls dx ex->EX cls dx H') (RQ K W H Q)
def wF(S:bN)(t:WA):WE:=λE ρ Q=>t E ρ λds=>S ds E Q
theorem Ji{CX:lR}{S:bN}(F:FnOk X.prog X.w X.K X.mg X.base CX k f fd ps (fN X.K S))(hS:m8 S)(hr:Room k X.A)(hm:X.mg x=some (.ref f))(hk:PySem.W.keepIn X.K (.ref f)=true)(hb:Binds X.K fd ps [])
  (hx:c8 CX X EX) (ha:jm X EX (e::es) t) (hg:Gl X x:=by rfl) (hdb:(x==("__debug__" : Str))=false:=by decide) (he:starEach (e::es) X.env=(false,eval e X.env)::starEach es X.env:=by rfl) (hpl:(backTo pos (starEach es X.env)).any (·.1)=false:=by rfl) :
  PX X EX (.Call (.Name x p) (e::es) [] pos) (wF S t):=by
 obtain⟨ta,pa,ka⟩:=ha.t;refine⟨⟨_,qc F hr hg hm hk hb .nil hx pa hdb he hpl,λW0 H0 W σ H ρ E Q s eo h=>?_⟩,λE ρ P P' hp z=>ha.mono _ _ _ _ (λds hds=>hS _ _ _ _ _ (λ_ q=>q) hp hds) z⟩;refine ka W0 H0 W σ H ρ E _ s eo (ha.mono _ _ _ _ (λds hds vs W1 H1 x1 r1=>?_) h);refine⟨ds,W1,x1.ok,by rw[pI];exact r1,hS _ _ _ _ _ (λex hex W' H' cls dx x' r'=>?_) (λd hd=>RQ.ext hd x1) hds⟩;exact eo ex W' H' cls dx hex (s.ext.trans (x1.trans x')) r'
structure By(X:Cx)(g:G2):Prop where
 t:∃r,IxR X r/\∀W H x y dx dy Q,WOk W H->Rep X.K W x dx->Rep X.K W y dy->g dx dy (RQ X.K W H Q)->r x y H Q
 mono:∀x y P P',(∀d,P d->P' d)->g x y P->g x y P'
theorem bK{g:G2}(ho:By X g)(ha:PX X EX a wa)(hb:PX X EX b wb)(hs:kx b:=by exact λ_ _=>rfl):PX X EX (.Subscript a b pos) (w2 g wa wb):=by
 obtain⟨ta,pa,ka⟩:=ha.t;obtain⟨tb,pb,kb⟩:=hb.t;obtain⟨r,pr,kr⟩:=ho.t;refine⟨⟨_,u3 pr pa pb hs,λW0 H0 W σ H ρ E Q s eo h=>?_⟩,w2.mono ha hb ho.mono⟩;exact lg ha.mono hb.mono ka kb s eo h λW2 H2 x y dx dy x2 rx ry hg=>kr W2 H2 x y dx dy Q x2.ok rx ry (ho.mono _ _ _ _ (λd hd=>RQ.ext hd x2) hg)
structure D2(X:Cx)(f:Value->Sem Value)(g:D->(D->Prop)->Prop):Prop where
 t:∃r,yq X f r/\∀W H x dx Q,WOk W H->Rep X.K W x dx->g dx (RQ X.K W H Q)->r x H Q
 mono:∀x P P',(∀d,P d->P' d)->g x P->g x P'
def w1(g:D->(D->Prop)->Prop)(wa:WE):WE:=λE ρ Q=>wa E ρ λx=>g x Q
theorem vJ{op:UnaryOp}{g:D->(D->Prop)->Prop}(ho:D2 X (unaryOp op) g)(ha:PX X EX a wa):PX X EX (.UnaryOp op a pos) (w1 g wa):=by
 obtain⟨ta,pa,ka⟩:=ha.t;obtain⟨r,pr,kr⟩:=ho.t;refine⟨⟨_,qL pr pa,λW0 H0 W σ H ρ E Q s eo h=>?_⟩,λE ρ P P' hp z=>ha.mono _ _ _ _ (λd hd=>ho.mono _ _ _ hp hd) z⟩;exact ka W0 H0 W σ H ρ E _ s eo (ha.mono _ _ _ _ (λd hd v W1 H1 x1 r1=>kr W1 H1 v d Q x1.ok r1 (ho.mono _ _ _ (λd hd=>RQ.ext hd x1) hd)) h)
structure t4(X:Cx)(EX:XK)(e:Option Expr)(w:(Ex->Prop)->bR->(Option Int->Prop)->Prop):Prop where
 t:∃t,PO X e t/\∀W0 H0 W σ H ρ E Q,SOk X.K W0 H0 W σ H ρ->iR X.K W0 H0 E EX->w E ρ (λo=>∀W' H',Ext W H W' H'->Q o H')->t σ H Q
 mono:∀E ρ P P',(∀d,P d->P' d)->w E ρ P->w E ρ P'
def isI(Q:Int->Prop):D->Prop
 |.int i=>Q i
 |_=>False
theorem isI.mono{Q Q':Int->Prop}(h:∀b,Q b->Q' b):∀d,isI Q d->isI Q' d
 |.int b,z=>h b z
 |.non,z=>z|.bl _,z=>z|.str _,z=>z|.tup _,z=>z|.lst _,z=>z|.dic,z=>z|.pen,z=>z|.cls _,z=>z|.exc _,z=>z|.ty _,z=>z|.scr _,z=>z
def lU{Q:Int->Prop}(h:isI Q d):∃b,d=.int b/\Q b:=by
 cases d with
 |int b=>exact⟨b,rfl,h⟩
 |_=>exact h.elim
def d8:(Ex->Prop)->bR->(Option Int->Prop)->Prop:=λ_ _ Q=>Q none
def dA(w:WE):(Ex->Prop)->bR->(Option Int->Prop)->Prop:=λE ρ Q=>w E ρ (isI λi=>Q (some i))
def ik:t4 X EX none d8:=⟨⟨_,qe,λ_ _ W _ H _ _ _ s _ h=>h W H (.refl s.ok)⟩,λ_ _ _ _ hp h=>hp _ h⟩
theorem fE(ha:PX X EX a wa):t4 X EX (some a) (dA wa):=by
 obtain⟨ta,pa,ka⟩:=ha.t;refine⟨⟨_,qf pa,λW0 H0 W σ H ρ E Q s eo h=>?_⟩,λE ρ P P' hp z=>ha.mono _ _ _ _ (isI.mono λi hi=>hp _ hi) z⟩;refine ka W0 H0 W σ H ρ E _ s eo (ha.mono _ _ _ _ (λd hd v W1 H1 x1 r1=>?_) h);obtain⟨i,rfl,q⟩:=lU hd;cases r1;exact⟨i,rfl,q W1 H1 x1⟩
def aY{α:Type}(xs:List α)(lo hi:Option Int):List α:=(xs.drop (HT.sIx xs.length 0 lo)).take (HT.sIx xs.length xs.length hi-HT.sIx xs.length 0 lo)
def gCut(x:D)(lo hi:Option Int)(Q:D->Prop):Prop:=match x with
 |.tup xs=>Q (.tup (aY xs lo hi))
 |.lst xs=>Q (.lst (aY xs lo hi))
 |.scr xs=>Q (.lst (aY xs lo hi))
 |_=>False
end
variable{S:bN}
def Bd(i:Int):Prop:=i.natAbs<2^8990
def Bd.log{i:Int}(h:Bd i):i.natAbs.log2<8990:=by
 by_cases h0:i.natAbs=0
 .rw[h0];decide
 .exact(Nat.log2_lt h0).mpr h
theorem Bd.bits{i:Int}(h:Bd i):Builtin.Int.intBits i<=2^20:=by
 unfold Builtin.Int.intBits;have:=h.log;have e:(2:Nat)^20=1048576:=by decide
 split<;>omega
def qV(i j:Int):Prop:=Bd i/\Bd j
def Bz(_ j:Int):Prop:=j≠0/\Bd j
section
def ZoS:OpR X (binaryOp .Mult) (rI qV λi j=>.int (i*j)):=yt λ_ _ _ _ _ _ _ hc q=>mul_int q (IntMulOk.of_bits hc.1.bits hc.2.bits)
theorem Jj:OpR X (binaryOp .FloorDiv) (rI Bz λi j=>.int (i.fdiv j)):=yt λ_ _ _ _ _ _ _ hc q=>floordiv_int hc.1 q (.inl (PyProof.noPylong_of_log2 (by have:=hc.2.log;omega)))
def gI2(C:Int->Int->Prop)(kd:Int->Int->D):G2:=λx y Q=>match x,y with
 |.int i,.int j=>C i j/\Q (kd i j)
 |_,_=>False
theorem gI2.mono{C:Int->Int->Prop}{kd:Int->Int->D}:∀x y P P',(∀d,P d->P' d)->gI2 C kd x y P->gI2 C kd x y P':=λx y P P' hp hg=>by
 unfold gI2 at hg ⊢;split at hg
 .exact⟨hg.1,hp _ hg.2⟩
 .exact hg.elim
theorem gI2.get{C:Int->Int->Prop}{kd:Int->Int->D}{x:D}(h:gI2 C kd x y Q):∃i j,x=.int i/\y=.int j/\C i j/\Q (kd i j):=by
 unfold gI2 at h;split at h
 .exact⟨_,_,rfl,rfl,h.1,h.2⟩
 .exact h.elim
theorem qW{f:Value->Value->Sem Value}{C:Int->Int->Prop}{k:Int->Int->V}{kd:Int->Int->D}(h:OpR X f (rI C k))(hk:∀W i j,Rep X.K W (k i j) (kd i j)):gk X f (gI2 C kd):=
 ⟨⟨_,h,λW H x y dx dy Q ok rx ry hg=>by
  obtain⟨i,j,rfl,rfl,hc,q⟩:=hg.get;cases rx;cases ry;exact⟨_,_,rfl,rfl,hc,q.now ok (hk _ _ _)⟩⟩,gI2.mono⟩
theorem ua{f:Value->Value->Sem Value}{k:Int->Int->V}(h:OpR X f (pX k)):OpR X f (rI (λ_ _=>True) k):=λpins s σ H x y v u Q I rx ry ⟨i,j,e1,e2,_,q⟩=>h pins s σ H x y v u Q I rx ry ⟨i,j,e1,e2,q⟩
def gp:gk X (binaryOp .Sub) (gI2 (λ_ _=>True) λi j=>.int (i-j)):=qW (ua ss) λ_ _ _=>.int _
def qX:gk X (binaryOp .Mod) (gI2 (λ_ j=>j≠0) λi j=>.int (i.fmod j)):=qW pZ λ_ _ _=>.int _
def m9:gk X (binaryOp .FloorDiv) (gI2 Bz λi j=>.int (i.fdiv j)):=qW Jj λ_ _ _=>.int _
def BA:gk X (binaryOp .Pow) (gI2 sk λi j=>.int (i^j.toNat)):=qW su λ_ _ _=>.int _
def Jk:OpR X (compareOp .Lt) (pX λi j=>.bl (decide (i<j))):=pY λ_ _ _ _ _ _ _ q=>lt_int q
def Jl:OpR X (compareOp .LtE) (pX λi j=>.bl (decide (i<=j))):=pY λ_ _ _ _ _ _ _ q=>le_int q
def Jm:OpR X (compareOp .Gt) (pX λi j=>.bl (decide (i>j))):=pY λ_ _ _ _ _ _ _ q=>gt_int q
def Jn:OpR X (compareOp .GtE) (pX λi j=>.bl (decide (i ≥ j))):=pY λ_ _ _ _ _ _ _ q=>ge_int q
def jU:gk X (compareOp .Lt) (gI2 (λ_ _=>True) λi j=>.bl (decide (i<j))):=qW (ua Jk) λ_ _ _=>.bl _
def jV:gk X (compareOp .LtE) (gI2 (λ_ _=>True) λi j=>.bl (decide (i<=j))):=qW (ua Jl) λ_ _ _=>.bl _
def vK:gk X (compareOp .Gt) (gI2 (λ_ _=>True) λi j=>.bl (decide (i>j))):=qW (ua Jm) λ_ _ _=>.bl _
def BB:gk X (compareOp .GtE) (gI2 (λ_ _=>True) λi j=>.bl (decide (i ≥ j))):=qW (ua Jn) λ_ _ _=>.bl _
theorem vL:D2 X (unaryOp .USub) (λx Q=>isI (λi=>Q (.int (-i))) x):=
 ⟨⟨_,mG,λW H x dx Q ok rx hg=>by
  obtain⟨i,rfl,q⟩:=lU hg;cases rx;exact⟨i,rfl,q.now ok (.int _)⟩⟩,λx P P' hp h=>isI.mono (λi hi=>hp _ hi) x h⟩
mutual
def gO:D->Option PyData
 |.non=>some .none
 |.bl b=>some (.bool b)
 |.int i=>some (.int i)
 |.str x=>some (.str x)
 |.tup xs=>(fo xs).map .tuple
 |.lst xs=>(fo xs).map .list
 |.dic=>none
 |.pen=>none
 |.cls _=>none
 |.exc _=>none
 |.ty _=>none
 |.scr _=>none
def fo:List D->Option (List PyData)
 |[]=>some []
 |x::r=>match gO x,fo r with
  |some a,some b=>some (a::b)
  |_,_=>none
end
variable{s:Shared}{W:Wd}
mutual
theorem ub(I:Inv X pins σ H s)(ok:WOk W H):∀{v:V} {d:D} {u:Value} {p:PyData},Rep X.K W v d->RelV v u->gO d=some p->∃as,Reads s.heap u p as
 |_,_,u,p,.non,r,e=>by cases e;cases r;exact⟨_,.none⟩
 |_,_,u,p,.bl b,r,e=>by cases e;cases r;exact⟨_,.bool b⟩
 |_,_,u,p,.int i,r,e=>by cases e;obtain⟨t,rfl⟩:=r;exact⟨_,.int i t⟩
 |_,_,u,p,.str x,r,e=>by cases e;obtain⟨t,rfl⟩:=r;exact⟨_,.str x t⟩
 |.ref a,.tup ds,u,p,.tup e0 rs,r,e=>by
  cases r;cases q:fo ds with
  |none=>rw[gO,q] at e;cases e
  |some ps=>
   rw[gO,q] at e;cases e;obtain⟨its,rv,⟨o,h1,h2,n,h3⟩,_⟩:=I.tuple (xs:=_) (SqT.of (ok.g _ _ e0));obtain⟨as,ra⟩:=yK I ok rs rv q;exact⟨_,.tuple h1 h2 h3 (by simpa using ra)⟩
 |.ref a,.tup ds,u,p,.ktup e0 rs,r,e=>by
  cases r;cases q:fo ds with
  |none=>rw[gO,q] at e;cases e
  |some ps=>
   rw[gO,q] at e;cases e;obtain⟨its,rv,⟨o,h1,h2,n,h3⟩,_⟩:=I.tuple (xs:=_) (.inr e0);obtain⟨as,ra⟩:=yK I ok rs rv q;exact⟨_,.tuple h1 h2 h3 (by simpa using ra)⟩
 |.ref a,.lst ds,u,p,.lst e0 rs,r,e=>by
  cases r;cases q:fo ds with
  |none=>rw[gO,q] at e;cases e
  |some ps=>
   rw[gO,q] at e;cases e;obtain⟨its,rv,⟨o,n,h1,h2,h3,h4⟩,_⟩:=I.list (xs:=_) (SqL.of (ok.g _ _ e0));obtain⟨as,ra⟩:=yK I ok rs rv q;exact⟨_,.list h1 h2 h4 (by simpa using ra)⟩
 |_,_,u,p,.dic _,r,e=>by rw[gO] at e;cases e
 |_,_,u,p,.pen _,r,e=>by rw[gO] at e;cases e
 |_,_,u,p,.cls _,r,e=>by rw[gO] at e;cases e
 |_,_,u,p,.exc _ _ _,r,e=>by rw[gO] at e;cases e
 |_,_,u,p,.ty _,r,e=>by rw[gO] at e;cases e
 |_,_,u,p,.scr _ _,r,e=>by rw[gO] at e;cases e
theorem yK(I:Inv X pins σ H s)(ok:WOk W H):∀{vs:List V} {ds:List D} {us:List Value} {ps:List PyData},Reps X.K W vs ds->Vals vs us->fo ds=some ps->∃as,ReadsAll s.heap us ps as
 |_,_,us,ps,.nil,r,e=>by rw[fo] at e;cases e;cases r;exact⟨_,.nil⟩
 |_,d::ds,us,ps,.cons rd rs,r,e=>by
  rw[fo] at e;cases q1:gO d with
  |none=>rw[q1] at e;cases e
  |some a=>
   cases q2:fo ds with
   |none=>rw[q1,q2] at e;cases e
   |some b=>
    rw[q1,q2] at e;cases e;cases r with
    |cons r1 r2=>
     obtain⟨as,ra⟩:=ub I ok rd r1 q1;obtain⟨bs,rb⟩:=yK I ok rs r2 q2;exact⟨_,.cons ra rb⟩
end
def gEq(neg:Bool):G2:=λx y Q=>∃p q,gO x=some p/\gO y=some q/\PySem.SeqAt.shaped p=true/\PySem.SeqAt.shaped q=true/\Q (.bl (if neg then !PyData.eqv p q else PyData.eqv p q))
theorem gEq.mono{neg:Bool}:∀x y P P',(∀d,P d->P' d)->gEq neg x y P->gEq neg x y P':=λx y P P' hp ⟨p,q,h1,h2,h3,h4,h5⟩=>⟨p,q,h1,h2,h3,h4,hp _ h5⟩
theorem eE(hu:X.A.units+64<cLine):gk X (compareOp .Eq) (gEq false):=by
 refine⟨⟨λx y H Q=>∃W dx dy,WOk W H/\Rep X.K W x dx/\Rep X.K W y dy/\gEq false dx dy (RQ X.K W H Q),?_,λW H x y dx dy Q ok rx ry hg=>⟨W,dx,dy,ok,rx,ry,hg⟩⟩,gEq.mono⟩;rintro pins s σ H x y v u Q I rx ry ⟨W,dx,dy,ok,r1,r2,p,q,h1,h2,h3,h4,h5⟩;obtain⟨as,ra⟩:=ub I ok r1 rx h1;obtain⟨bs,rb⟩:=ub I ok r2 ry h2;exact eq_dataH ra rb h3 h4 hu ⟨.bl _,H,I,rfl,h5.now ok (.bl _)⟩
theorem d9(hu:X.A.units+64<cLine):gk X (compareOp .NotEq) (gEq true):=by
 refine⟨⟨λx y H Q=>∃W dx dy,WOk W H/\Rep X.K W x dx/\Rep X.K W y dy/\gEq true dx dy (RQ X.K W H Q),?_,λW H x y dx dy Q ok rx ry hg=>⟨W,dx,dy,ok,rx,ry,hg⟩⟩,gEq.mono⟩;rintro pins s σ H x y v u Q I rx ry ⟨W,dx,dy,ok,r1,r2,p,q,h1,h2,h3,h4,h5⟩;obtain⟨as,ra⟩:=ub I ok r1 rx h1;obtain⟨bs,rb⟩:=ub I ok r2 ry h2;exact ne_dataH ra rb h3 h4 hu ⟨.bl _,H,I,rfl,h5.now ok (.bl _)⟩
end
section
variable{a:Expr}
def gAdd:G2:=λx y Q=>match x,y with
 |.int i,.int j=>Q (.int (i+j))
 |.lst xs,.lst ys=>xs.length+ys.length<=small/\Q (.lst (xs++ys))
 |.tup xs,.tup ys=>xs.length+ys.length<=small/\Q (.tup (xs++ys))
 |_,_=>False
theorem gAdd.mono:∀x y P P',(∀d,P d->P' d)->gAdd x y P->gAdd x y P':=λx y P P' hp hg=>by
 unfold gAdd at hg ⊢;split at hg
 .exact hp _ hg
 .exact⟨hg.1,hp _ hg.2⟩
 .exact⟨hg.1,hp _ hg.2⟩
 .exact hg.elim
def vM(K:NF):R2:=λx y H Q=>∃l b xs zs,x=.ref l/\y=.ref b/\SqL K H l xs/\SqL K H b zs/\xs.length+zs.length<=sizeLine/\∀p,H p=none->Q (.ref p) (upd H p (.lst (xs++zs)))
theorem Zmb:OpR X (binaryOp .Add) (vM X.K):=by
 intro pins s σ H x y v u Q I rx ry h;obtain⟨l,b,xs,zs,rfl,rfl,hH,hB,hz,q⟩:=h;cases rx;cases ry;obtain⟨its,r,pl,z⟩:=I.list hH;obtain⟨its2,r2,Bo,z2⟩:=I.list hB;have hl:=r.length;have hl2:=r2.length;obtain⟨⟨cls,dd,data,sl⟩,n,ho,hc,_,hd⟩:=pl;obtain⟨⟨cls2,dd2,data2,sl2⟩,n2,ho2,hc2,_,hd2⟩:=Bo;simp only at hc hd hc2 hd2;subst hc hd hc2 hd2;have e:its.toArray++its2.toArray=(its++its2).toArray:=by simp
 refine concat_meets ⟨_,ho,rfl⟩ ⟨_,ho2,rfl⟩ noFill_list_add seq_list_add PySem.F.slot_list_add PySem.F.entry_list_add (PySem.F.args_list_add_2 _ _) (list_addW l b its.toArray its2.toArray n n2 dd dd2 sl sl2 (by simp;omega)) ⟨ho,ho2,?_⟩;rw[e];exact⟨.ref _,_,I.lnew (t':=s.toks) (r.append r2) (by rw[dM];omega),rfl,q _ I.fresh⟩
def Jo(K:NF):R2:=λx y H Q=>∃a b xs ys,x=.ref a/\y=.ref b/\SqT K H a xs/\SqT K H b ys/\xs.length+ys.length<=sizeLine/\
 (xs=[]->Q (.ref b) H)/\(ys=[]->Q (.ref a) H)/\∀p,H p=none->Q (.ref p) (upd H p (.tup (xs++ys)))
theorem Jp:OpR X (binaryOp .Add) (Jo X.K):=by
 intro pins s σ H x y v u Q I rx ry h;obtain⟨a,b,xs,ys,rfl,rfl,ha,hb,hz,q1,q2,q3⟩:=h
 by_cases hx:xs=[]
 .cases rx
  cases ry;obtain⟨its,r1,p1,_⟩:=I.tuple ha;obtain⟨its2,r2,p2,_⟩:=I.tuple hb;have hi:its=[]:=r1.nil_iff.mpr hx;obtain⟨⟨cls,dd,data,sl⟩,ho,hc,n,hd⟩:=id p1;obtain⟨⟨cls2,dd2,data2,sl2⟩,ho2,hc2,n2,hd2⟩:=id p2;simp only at hc hd hc2 hd2;subst hc hd hc2 hd2;exact concat_meets ⟨_,ho,rfl⟩ ⟨_,ho2,rfl⟩ noFill_tuple_add seq_tuple_add PySem.F.slot_tuple_add PySem.F.entry_tuple_add (PySem.F.args_tuple_add_2 _ _)
   (tuple_addW0 a b its.toArray its2.toArray n n2 dd dd2 sl sl2 (by simp[hi])) ⟨ho,ho2,⟨.ref b,H,I,rfl,q1 hx⟩⟩
 .exact qg pins s σ H _ _ v u Q I rx ry ⟨a,b,xs,ys,rfl,rfl,ha,hb,hx,hz,q2,λ_=>q3⟩
theorem dB:gk X (binaryOp .Add) gAdd:=by
 refine⟨⟨_,(ua sr).or (Zmb.or Jp),λW H x y dx dy Q ok rx ry hg=>?_⟩,gAdd.mono⟩;unfold gAdd at hg;split at hg
 .cases rx;cases ry
  exact .inl ⟨_,_,rfl,rfl,trivial,hg.now ok (.int _)⟩
 .obtain⟨p,vs,rfl,h1,r1⟩:=rx.sql ok
  obtain⟨q,us,rfl,h2,r2⟩:=ry.sql ok;refine .inr (.inl ⟨p,q,vs,us,rfl,rfl,h1,h2,by rw[r1.length,r2.length];exact lT hg.1,λa ha=>hg.2.lst ok (r1.append r2) ha⟩)
 .obtain⟨p,vs,rfl,h1,r1⟩:=rx.sqt ok
  obtain⟨q,us,rfl,h2,r2⟩:=ry.sqt ok;rename_i xs ys;refine .inr (.inr ⟨p,q,vs,us,rfl,rfl,h1,h2,by rw[r1.length,r2.length];exact lT hg.1,λe=>?_,λe=>?_,λa ha=>hg.2.tup ok (r1.append r2) ha⟩)
  .subst e
   cases r1;exact hg.2.now ok ry
  .subst e
   cases r2;rw[pI] at hg;exact hg.2.now ok rx
 .exact hg.elim
def gMul:G2:=λx y Q=>match x,y with
 |.int i,.int j=>qV i j/\Q (.int (i*j))
 |.lst xs,.int k=>k<1000/\-1000<k/\xs.length*k.toNat<=small/\Q (.lst (List.replicate k.toNat xs).flatten)
 |_,_=>False
theorem gMul.mono:∀x y P P',(∀d,P d->P' d)->gMul x y P->gMul x y P':=λx y P P' hp hg=>by
 unfold gMul at hg ⊢;split at hg
 .exact⟨hg.1,hp _ hg.2⟩
 .exact⟨hg.1,hg.2.1,hg.2.2.1,hp _ hg.2.2.2⟩
 .exact hg.elim
theorem BC{W:Wd}(r:Reps K W vs ds)(n:Nat):Reps K W (List.replicate n vs).flatten (List.replicate n ds).flatten:=by
 induction n with
 |zero=>exact .nil
 |succ n ih=>rw[gw,gw,qC,qC];exact r.append ih
theorem fO:gk X (binaryOp .Mult) gMul:=by
 refine⟨⟨_,ZoS.or mV,λW H x y dx dy Q ok rx ry hg=>?_⟩,gMul.mono⟩;unfold gMul at hg;split at hg
 .cases rx;cases ry
  exact .inl ⟨_,_,rfl,rfl,hg.1,hg.2.now ok (.int _)⟩
 .cases ry
  cases rx with
  | @lst l vs _ e r=>
   refine .inr ⟨l,_,vs,rfl,rfl,ok.g _ _ e,by omega,by omega,?_,λp hp=>hg.2.2.2.lst ok (BC r _) hp⟩;rw[r.length];exact lT hg.2.2.1
 .exact hg.elim
theorem yL{W:Wd}(r:Reps K W vs xs){i:Int}(h:eD xs i=some d):∃v,eD vs i=some v/\Rep K W v d:=by
 unfold eD at h ⊢;rw[r.length];cases q:jh xs.length i with
 |none=>rw[q] at h;cases h
 |some k=>
  rw[q] at h;obtain⟨v,e,rv⟩:=r.get (show xs[k]? = some d from h);exact⟨v,e,rv⟩
def gIx:G2:=λx y Q=>isI (λi=>match x with
 |.tup xs=>∃d,eD xs i=some d/\Q d
 |.lst xs=>∃d,eD xs i=some d/\Q d
 |.scr xs=>∃d,eD xs i=some d/\Q d
 |_=>False) y
theorem gIx.mono:∀ x y P P',(∀ d,P d->P' d)->gIx x y P->gIx x y P':=λx y P P' hp hg=>isI.mono (λi h=>by
 split at h
 .obtain⟨d,e,q⟩:=h;exact⟨d,e,hp _ q⟩
 .obtain⟨d,e,q⟩:=h;exact⟨d,e,hp _ q⟩
 .obtain⟨d,e,q⟩:=h;exact⟨d,e,hp _ q⟩
 .exact h.elim) y hg
theorem aR:By X gIx:=by
 refine⟨⟨_,mR,λW H x y dx dy Q ok rx ry hg=>?_⟩,gIx.mono⟩;obtain⟨i,rfl,h⟩:=lU hg;cases ry;split at h
 .obtain⟨d,e,q⟩:=h
  obtain⟨p,vs,rfl,h1,r1⟩:=rx.sqt ok;obtain⟨v,e1,rv⟩:=yL r1 e;exact .inr (.inl ⟨p,vs,i,v,rfl,rfl,h1,e1,q.now ok rv⟩)
 .obtain⟨d,e,q⟩:=h
  obtain⟨p,vs,rfl,h1,r1⟩:=rx.sql ok;obtain⟨v,e1,rv⟩:=yL r1 e;exact .inl ⟨p,vs,i,v,rfl,rfl,h1,e1,q.now ok rv⟩
 .obtain⟨d,e,q⟩:=h
  obtain⟨p,vs,rfl,h1,r1⟩:=rx.sqs ok;obtain⟨v,e1,rv⟩:=yL r1 e;exact .inl ⟨p,vs,i,v,rfl,rfl,h1,e1,q.now ok rv⟩
 .exact h.elim
theorem Reps.cut{W:Wd}(r:Reps K W vs ds)(lo hi:Option Int):Reps K W (jg vs lo hi) (aY ds lo hi):=by
 unfold jg aY;rw[r.length];exact(r.drop _).take _
def Jq(h:HT.sIx xs.length 0 lo=0/\HT.sIx xs.length xs.length hi=xs.length):aY xs lo hi=xs:=by
 unfold aY;rw[h.1,h.2];simp
theorem gCut.mono:∀x P P',(∀d,P d->P' d)->gCut x lo hi P->gCut x lo hi P':=λx P P' hp hg=>by
 unfold gCut at hg ⊢;split at hg
 .exact hp _ hg
 .exact hp _ hg
 .exact hp _ hg
 .exact hg.elim
def bM(wa:WE)(wl wh:(Ex->Prop)->bR->(Option Int->Prop)->Prop):WE:=λE ρ Q=>wa E ρ λx=>wl E ρ λl=>wh E ρ λh=>gCut x l h Q
theorem gC{lo hi:Option Expr}{wl wh}(ha:PX X EX a wa)(hl:t4 X EX lo wl)(hh:t4 X EX hi wh):PX X EX (.Subscript a (.Slice lo hi none p2) pos) (bM wa wl wh):=by
 obtain⟨ta,pa,ka⟩:=ha.t;obtain⟨tl,pl,kl⟩:=hl.t;obtain⟨th,ph,kh⟩:=hh.t;refine⟨⟨_,mQ (sl_list.or (sl_tup.or HW)) pa pl ph,λW0 H0 W σ H ρ E Q s eo h=>?_⟩,λE ρ P P' hp h=>ha.mono _ _ _ _ (λx hx=>hl.mono _ _ _ _ (λl hl'=>hh.mono _ _ _ _ (λu hu=>gCut.mono x _ _ hp hu) hl') hx) h⟩;refine ka W0 H0 W σ H ρ E _ s eo (ha.mono _ _ _ _ (λdx hx v W1 H1 x1 r1=>?_) h);refine kl W0 H0 W1 σ H1 ρ E _ (s.step x1) eo (hl.mono _ _ _ _ (λl hl' W2 H2 x2=>?_) hx);refine kh W0 H0 W2 σ H2 ρ E _ ((s.step x1).step x2) eo (hh.mono _ _ _ _ (λu hu W3 H3 x3=>?_) hl');have r3:=(x2.trans x3).rep r1;have hu':=gCut.mono dx _ _ (λd hd=>RQ.ext hd (x1.trans (x2.trans x3))) hu;unfold gCut at hu';split at hu'
 .obtain⟨p,vs,rfl,h1,rr⟩:=r3.sqt x3.ok
  rename_i xs
  by_cases hw:HT.sIx vs.length 0 l=0/\HT.sIx vs.length vs.length u=vs.length
  .refine .inr (.inr ⟨p,vs,rfl,h1,hw,?_⟩)
   rw[rr.length] at hw;rw[Jq hw] at hu';exact hu'.now x3.ok r3
  .exact .inr (.inl ⟨p,vs,rfl,h1,hw,λq hq=>hu'.tup x3.ok (rr.cut l u) hq⟩)
 .obtain⟨p,vs,rfl,h1,rr⟩:=r3.sql x3.ok
  exact .inl ⟨p,vs,rfl,h1,λq hq=>hu'.lst x3.ok (rr.cut l u) hq⟩
 .obtain⟨p,vs,rfl,h1,rr⟩:=r3.sqs x3.ok
  exact .inl ⟨p,vs,rfl,h1,λq hq=>hu'.lst x3.ok (rr.cut l u) hq⟩
 .exact hu'.elim
def gRev:D->(D->Prop)->Prop:=λx Q=>match x with
 |.tup xs=>Q (.tup xs.reverse)
 |.lst xs=>Q (.lst xs.reverse)
 |_=>False
theorem gRev.mono:∀x P P',(∀d,P d->P' d)->gRev x P->gRev x P':=λx P P' hp hg=>by
 unfold gRev at hg ⊢;split at hg
 .exact hp _ hg
 .exact hp _ hg
 .exact hg.elim
theorem yM{j pos3 pos4}(ha:PX X EX a wa):PX X EX (.Subscript a (.Slice none none (some (.UnaryOp .USub (.Constant (.int 1) j pos3) pos4)) p2) pos) (w1 gRev wa):=by
 obtain⟨ta,pa,ka⟩:=ha.t;refine⟨⟨_,HY pa,λW0 H0 W σ H ρ E Q s eo h=>?_⟩,λE ρ P P' hp h=>ha.mono _ _ _ _ (λx hx=>gRev.mono x _ _ hp hx) h⟩;refine ka W0 H0 W σ H ρ E _ s eo (ha.mono _ _ _ _ (λdx hx v W1 H1 x1 r1=>?_) h);have hu':=gRev.mono dx _ _ (λd hd=>RQ.ext hd x1) hx;unfold gRev at hu';split at hu'
 .obtain⟨p,vs,rfl,h1,rr⟩:=r1.sqt x1.ok
  exact⟨p,vs,rfl,.inl ⟨h1,λq hq=>hu'.tup x1.ok rr.rev hq⟩⟩
 .obtain⟨p,vs,rfl,h1,rr⟩:=r1.sql x1.ok
  exact⟨p,vs,rfl,.inr ⟨h1,λq hq=>hu'.lst x1.ok rr.rev hq⟩⟩
 .exact hu'.elim
def bS:List D->(D->Prop)->Prop:=λds Q=>match ds with
 |[.tup xs]=>Q (.int xs.length)
 |[.lst xs]=>Q (.int xs.length)
 |[.scr xs]=>Q (.int xs.length)
 |_=>False
theorem gP:d7 X (.builtin "len") bS:=by
 refine⟨⟨_,iN,λW H vs ds Q ok r hg=>?_⟩,λds P P' hp hg=>?_⟩
 .unfold bS at hg
  split at hg
  .obtain⟨v,rfl,rv⟩:=r.one
   obtain⟨p,us,rfl,h1,rr⟩:=rv.sqt ok;exact⟨p,us,rfl,.inr h1,by rw[rr.length];exact hg.now ok (.int _)⟩
  .obtain⟨v,rfl,rv⟩:=r.one
   obtain⟨p,us,rfl,h1,rr⟩:=rv.sql ok;exact⟨p,us,rfl,.inl h1,by rw[rr.length];exact hg.now ok (.int _)⟩
  .obtain⟨v,rfl,rv⟩:=r.one
   obtain⟨p,us,rfl,h1,rr⟩:=rv.sqs ok;exact⟨p,us,rfl,.inl h1,by rw[rr.length];exact hg.now ok (.int _)⟩
  .exact hg.elim
 .unfold bS at hg ⊢
  split at hg
  .exact hp _ hg
  .exact hp _ hg
  .exact hp _ hg
  .exact hg.elim
def fP{α:Type}:List D->(List D->Prop)->Prop:=λds Q=>match ds with
 |[.tup xs]=>Q xs
 |[.lst xs]=>Q xs
 |[.scr xs]=>Q xs
 |_=>False
theorem yN:qU X (.type "list") (fP (α:=Unit)):=by
 refine⟨⟨_,iO,λW H vs ds Q ok r hg=>?_⟩,λds P P' hp hg=>?_⟩
 .unfold fP at hg
  split at hg
  .obtain⟨v,rfl,rv⟩:=r.one
   obtain⟨p,us,rfl,h1,rr⟩:=rv.sqt ok;exact⟨p,us,rfl,.inr h1,λl hl=>hg l us hl rr⟩
  .obtain⟨v,rfl,rv⟩:=r.one
   obtain⟨p,us,rfl,h1,rr⟩:=rv.sql ok;exact⟨p,us,rfl,.inl h1,λl hl=>hg l us hl rr⟩
  .obtain⟨v,rfl,rv⟩:=r.one
   obtain⟨p,us,rfl,h1,rr⟩:=rv.sqs ok;exact⟨p,us,rfl,.inl h1,λl hl=>hg l us hl rr⟩
  .exact hg.elim
 .unfold fP at hg ⊢
  split at hg
  .exact hp _ hg
  .exact hp _ hg
  .exact hp _ hg
  .exact hg.elim
def jw:List D->(D->Prop)->Prop:=λds Q=>match ds with
 |[.tup xs]=>Q (.tup xs)
 |[.lst xs]=>Q (.tup xs)
 |_=>False
theorem sR:d7 X (.type "tuple") jw:=by
 refine⟨⟨_,gL,λW H vs ds Q ok r hg=>?_⟩,λds P P' hp hg=>?_⟩
 .unfold jw at hg
  split at hg
  .obtain⟨v,rfl,rv⟩:=r.one
   obtain⟨p,us,rfl,h1,rr⟩:=rv.sqt ok;exact⟨p,us,rfl,.inr ⟨h1,hg.now ok rv⟩⟩
  .obtain⟨v,rfl,rv⟩:=r.one
   obtain⟨p,us,rfl,h1,rr⟩:=rv.sql ok;exact⟨p,us,rfl,.inl ⟨h1,λl hl=>hg.tup ok rr hl⟩⟩
  .exact hg.elim
 .unfold jw at hg ⊢
  split at hg
  .exact hp _ hg
  .exact hp _ hg
  .exact hg.elim
def iU:List D->(D->Prop)->Prop:=λds Q=>match ds with
 |[.int i]=>Q (.int (if i<0 then -i else i))
 |_=>False
theorem BD:d7 X (.builtin "abs") iU:=by
 refine⟨⟨_,mM,λW H vs ds Q ok r hg=>?_⟩,λds P P' hp hg=>?_⟩
 .unfold iU at hg
  split at hg
  .obtain⟨v,rfl,rv⟩:=r.one
   cases rv;exact⟨_,rfl,hg.now ok (.int _)⟩
  .exact hg.elim
 .unfold iU at hg ⊢
  split at hg
  .exact hp _ hg
  .exact hg.elim
def jW:List D->(D->Prop)->Prop:=λds Q=>match ds with
 |[.int i,.int j]=>Q (.int (if j>i then j else i))
 |_=>False
theorem vN(hc:X.calm=true):d7 X (.builtin "max") jW:=by
 refine⟨⟨_,kP hc,λW H vs ds Q ok r hg=>?_⟩,λds P P' hp hg=>?_⟩
 .unfold jW at hg
  split at hg
  .obtain⟨v,u,rfl,rv,ru⟩:=r.two
   cases rv;cases ru;exact⟨_,_,rfl,hg.now ok (.int _)⟩
  .exact hg.elim
 .unfold jW at hg ⊢
  split at hg
  .exact hp _ hg
  .exact hg.elim
def fQ:List D->(D->Prop)->Prop:=λds Q=>match ds with
 |[.int i]=>Q (.int i)
 |[.bl b]=>Q (.int (if b then 1 else 0))
 |_=>False
theorem yO:d7 X (.type "int") fQ:=by
 refine⟨⟨_,kQ,λW H vs ds Q ok r hg=>?_⟩,λds P P' hp hg=>?_⟩
 .unfold fQ at hg
  split at hg
  .obtain⟨v,rfl,rv⟩:=r.one
   cases rv;exact .inl ⟨_,rfl,hg.now ok (.int _)⟩
  .obtain⟨v,rfl,rv⟩:=r.one
   cases rv;exact .inr ⟨_,rfl,hg.now ok (.int _)⟩
  .exact hg.elim
 .unfold fQ at hg ⊢
  split at hg
  .exact hp _ hg
  .exact hp _ hg
  .exact hg.elim
end
section
variable{a:Expr}
def yP:D->Option String
 |.non=>some "NoneType" |.bl _=>some "bool" |.int _=>some "int" |.str _=>some "str" |.tup _=>some "tuple" |.lst _=>some "list" |.dic=>some "dict"
 |.pen=>none|.cls _=>none|.exc _=>none|.ty _=>none|.scr _=>none
def iV(t T:String):Bool:=t==T||(t == "bool" && T == "int")
def yQ:List String:=["int", "bool", "str", "tuple", "list"]
theorem Jr(K:NF){t T:String}(ht:yP d=some t)(hT:T∈yQ):PySem.W.kitOne K (.type t) (.type T)=some (iV t T):=by
 simp only[yQ,Yan,dN,or_false] at hT;cases d<;>first
  |(cases ht;done)
  |(cases ht;rcases hT with rfl|rfl|rfl|rfl|rfl<;>rfl)
def gIs:List D->(D->Prop)->Prop:=λds Q=>match ds with
 |[x,.ty T]=>∃t,yP x=some t/\T∈yQ/\Q (.bl (iV t T))
 |_=>False
theorem gIs.mono:∀ds P P',(∀d,P d->P' d)->gIs ds P->gIs ds P':=λds P P' hp hg=>by
 unfold gIs at hg ⊢;split at hg
 .obtain⟨t,h1,h2,h3⟩:=hg;exact⟨t,h1,h2,hp _ h3⟩
 .exact hg.elim
theorem nc:d7 X (.builtin "isinstance") gIs:=by
 refine⟨⟨λvs H Q=>∃W ds,WOk W H/\Reps X.K W vs ds/\gIs ds (RQ X.K W H Q),?_,λW H vs ds Q ok r hg=>⟨W,ds,ok,r,hg⟩⟩,gIs.mono⟩;rintro pins s σ H vs us Q I rv ⟨W,ds,ok,rs,hg⟩;unfold gIs at hg;split at hg
 .rename_i x T
  obtain⟨t,h1,h2,q⟩:=hg;obtain⟨v,w',rfl,r1,r2⟩:=rs.two;cases r2;obtain⟨u,u2,rfl,ru,ru2⟩:=ku rv;obtain rfl:u2=Value.type T:=ru2;have e:=Jr X.K h1 h2;have fin:∀tk,EP X pins σ Q (.bool (iV t T)) { s with toks:=tk }:=λtk=>⟨.bl _,H,I.tok tk,rfl,q.now ok (.bl _)⟩;cases r1 with
  |non=>cases h1;cases ru;exact PySem.W.kia_one PySem.W.kitx_none I.kIn True.intro e (λz=>nomatch z) fin
  |bl b=>cases h1;cases ru;exact PySem.W.kia_one PySem.W.kitx_bool I.kIn True.intro e (λz=>nomatch z) fin
  |int i=>cases h1;obtain⟨t',rfl⟩:=ru;exact PySem.W.kia_one PySem.W.kitx_int I.kIn True.intro e (λz=>nomatch z) fin
  |str i=>cases h1;obtain⟨t',rfl⟩:=ru;exact PySem.W.kia_one PySem.W.kitx_str I.kIn True.intro e (λz=>nomatch z) fin
  |tup e0 rr=>
   cases h1;cases ru;obtain⟨its,_,⟨o,h1,h2,_⟩,_⟩:=I.tuple (SqT.of (ok.g _ _ e0));exact PySem.W.kia_one PySem.W.kitx_tuple I.kIn ⟨o,h1,h2⟩ e (λz=>nomatch z) fin
  |ktup e0 rr=>
   cases h1;cases ru;obtain⟨its,_,⟨o,h1,h2,_⟩,_⟩:=I.tuple (.inr e0);exact PySem.W.kia_one PySem.W.kitx_tuple I.kIn ⟨o,h1,h2⟩ e (λz=>nomatch z) fin
  |lst e0 rr=>
   cases h1;cases ru;obtain⟨its,_,⟨o,n,h1,h2,_⟩,_⟩:=I.list (SqL.of (ok.g _ _ e0));exact PySem.W.kia_one PySem.W.kitx_list I.kIn ⟨o,h1,h2⟩ e (λz=>nomatch z) fin
  | @dic a e0=>
   cases h1;cases ru;obtain⟨_,_,vs,_,p⟩:=(show ObjOk X.prog X.w H s.heap a (.dK []) from I.hok a _ (ok.g _ _ e0))
   obtain⟨o,es,ep,h1,h2,_⟩:=p;exact PySem.W.kia_one PySem.W.kitx_dict I.kIn ⟨o,h1,h2.1⟩ e (λz=>nomatch z) fin
  |pen _=>cases h1
  |cls _=>cases h1
  |exc _ _=>cases h1
  |ty _=>cases h1
  |scr _ _=>cases h1
 .exact hg.elim
theorem Js(hc:X.calm=true):CallR X (.builtin "all") (λxs H Q=>∃(p:Addr) (bs:List Bool),xs=[.ref p]/\SqL X.K H p (bs.map V.bl)/\Q (.bl (bs.all id)) H):=by
 intro pins s σ H xs us Q I r h;obtain⟨p,bs,rfl,hq,q⟩:=h;obtain⟨u,rfl,ru⟩:=dO r;cases ru;obtain⟨its,rv,pl,hz⟩:=I.list hq;have hpl:p<s.heap.objs.size:=by obtain⟨o,n,e,_⟩:=pl;exact db e
 have hits:its=bs.map Value.bool:=by
  clear hz pl hq q
  induction bs generalizing its with
  |nil=>cases rv;rfl
  |cons b bs ih=>
   cases rv with
   |cons r1 r2=>
    obtain rfl:_=Value.bool b:=r1;rw[cV,ih _ r2]
 subst hits;refine call_all_walk (Oa pl.isList ?_);have hh:X.A.in1.handled=none:=I.ok.hd hc;refine⟨s.heap.objs.size,_,_,_,_,_,λi=>(bs[i]?).getD true,rfl,Walks.list hh _ p (fJ hpl) (bs.map Value.bool).toArray,⟨⟨_,f9 _ rfl,rfl,rfl⟩,pl.isList.at λo e=>de _ e⟩,λi v s' Q' E' hP hQ=>?_,λh' tk hk=>?_⟩
 .have hP':(bs.map Value.bool)[i]? = some v:=by simpa using hP
  rw[cI] at hP';cases e:bs[i]? with
  |none=>rw[e] at hP';cases hP'
  |some b=>
   rw[e] at hP';have:v=Value.bool b:=(NJ hP').symm;subst this;refine NW ?_;have e2:(bs[i]?).getD true=b:=by rw[e];rfl
   dsimp only at hQ;rw[e2] at hQ;exact hQ
 .have e:((List.range (bs.map Value.bool).toArray.size).all λi=>(bs[i]?).getD true)=bs.all id:=by
   rw[dW,bL,g9,Ybh,Ybh];constructor
   .intro h b hb
    obtain⟨i,hi,e⟩:=Ybx.mp hb;have:=h i (Yah.mpr hi);rw[bG hi] at this;rw[<-e];exact this
   .intro h i hi
    have hi':=Yah.mp hi;rw[bG hi'];exact h _ (jF hi')
  rw[e];refine⟨.bl (bs.all id),H,?_,rfl,q⟩;refine I.kept λb o e=>hk b o ?_ (de _ e);intro z;have:b=s.heap.objs.size:=by simpa using z
  exact NH (db e) (by rw[this];exact gZ _)
def iW:List D->(D->Prop)->Prop:=λds Q=>match ds with
 |[.lst xs]=>∃bs:List Bool,xs=bs.map D.bl/\Q (.bl (bs.all id))
 |_=>False
theorem D3{K:NF}{W:Wd}:∀{vs:List V} {bs:List Bool},Reps K W vs (bs.map D.bl)->vs=bs.map V.bl
 |_,[],.nil=>rfl
 |_,b::bs,.cons r t=>by cases r;rw[cV,D3 t]
theorem vO(hc:X.calm=true):d7 X (.builtin "all") iW:=by
 refine⟨⟨_,Js hc,λW H vs ds Q ok r hg=>?_⟩,λds P P' hp hg=>?_⟩
 .unfold iW at hg
  split at hg
  .obtain⟨bs,rfl,q⟩:=hg
   obtain⟨v,rfl,rv⟩:=r.one;obtain⟨p,us,rfl,h1,rr⟩:=rv.sql ok;rw[D3 rr] at h1;exact⟨p,bs,rfl,h1,q.now ok (.bl _)⟩
  .exact hg.elim
 .unfold iW at hg ⊢
  split at hg
  .obtain⟨bs,e,q⟩:=hg;exact⟨bs,e,hp _ q⟩
  .exact hg.elim
end
section
variable{W:Wd}
theorem SOk.set(s:SOk K W0 H0 W σ H ρ){i:Nat}{v:V}{x:D}(r:Rep K W v x):SOk K W0 H0 W (σ.set i (some v)) H (ρ.set i (.d x)) where
 ext:=s.ext
 len:=by rw[cL,cL];exact s.len
 d:=λj y e=>by
  by_cases h:i=j
  .subst h
   by_cases hi:i<ρ.length
   .rw[dc hi] at e
    cases e;exact⟨v,dc (by rw[<-s.len];exact hi),r⟩
   .rw[eK (by rw[cL];omega)] at e;cases e
  .rw[cG h] at e ⊢;exact s.d j y e
 o:=λj ys e=>by
  by_cases h:i=j
  .subst h
   by_cases hi:i<ρ.length
   .rw[dc hi] at e;cases e
   .rw[eK (by rw[cL];omega)] at e;cases e
  .rw[cG h] at e ⊢;exact s.o j ys e
 ne:=λj k xs ys a hjk e1 e2 e3=>by
  have nj:i≠j:=λh=>by
   subst h
   by_cases hi:i<ρ.length
   .rw[dc hi] at e1;cases e1
   .rw[eK (by rw[cL];omega)] at e1;cases e1
  have nk:i≠k:=λh=>by
   subst h
   by_cases hi:i<ρ.length
   .rw[dc hi] at e2;cases e2
   .rw[eK (by rw[cL];omega)] at e2;cases e2
  rw[cG nj] at e1 e3;rw[cG nk] at e2 ⊢;exact s.ne j k xs ys a hjk e1 e2 e3
 oo:=s.oo.set (λ_ h=>by cases h) (λj h=>cG h) λ_ _ h=>by cases h
theorem SOk.own(s1:SOk K W0 H0 W1 σ H1 ρ)(x:Ext W1 H1 W H)(hz:H1 a=none)(h1:H a=some (.lst vs))(h2:W.G a=none)(h3:¬W.Pn a)(r:Reps K W vs xs):SOk K W0 H0 W (σ.set i (some (.ref a))) H (ρ.set i (.ow xs)):=by
 have s:=s1.step x;have h4:H0 a=none:=s1.ext.isN hz;have hn:∀(j:Nat) ys b,j≠i->ρ[j]? = some (SV.ow ys)->σ[j]? = some (some (V.ref b))->b≠a:=λj ys b _ ej eb q=>by
  obtain⟨b',us,q1,q2,_⟩:=s1.o j ys ej;rw[eb] at q1;cases q1;rw[q,hz] at q2;cases q2
 exact{
  ext:=s.ext
  len:=by rw[cL,cL];exact s.len
  d:=λj y e=>by
    by_cases h:i=j
    · subst h
      by_cases hi:i<ρ.length
      · rw[dc hi] at e;cases e
      · rw[eK (by rw[cL];omega)] at e;cases e
    · rw[cG h] at e ⊢;exact s.d j y e
  o:=λj ys e=>by
    by_cases h:i=j
    · subst h
      by_cases hi:i<ρ.length
      · rw[dc hi] at e
        cases e;exact⟨a,vs,dc (by rw[<-s.len];exact hi),h1,h2,h3,h4,r⟩
      · rw[eK (by rw[cL];omega)] at e;cases e
    · rw[cG h] at e ⊢;exact s.o j ys e
  ne:=λj k ys zs b hjk e1 e2 e3 e4=>by
    by_cases hj:i=j
    · subst hj
      by_cases hi:i<ρ.length
      · rw[dc (by rw[<-s.len];exact hi)] at e3
        cases e3;rw[cG hjk] at e2 e4;exact hn k zs _ (NO hjk) e2 e4 rfl
      · rw[eK (by rw[cL];omega)] at e1;cases e1
    · by_cases hk:i=k
      · subst hk
        by_cases hi:i<ρ.length
        · rw[dc (by rw[<-s.len];exact hi)] at e4
          cases e4;rw[cG hj] at e1 e3;exact hn j ys _ (NO hj) e1 e3 rfl
        · rw[eK (by rw[cL];omega)] at e2;cases e2
      · rw[cG hj] at e1 e3
        rw[cG hk] at e2 e4;exact s.ne j k ys zs b hjk e1 e2 e3 e4
  oo:=by
    refine⟨λj xss e=>?_,λj k xss yss e1 e2=>?_⟩
    · have h:i≠j:=λh=>by
        subst h
        by_cases hi:i<ρ.length
        · rw[dc hi] at e;cases e
        · rw[eK (by rw[cL];omega)] at e;cases e
      rw[cG h] at e;obtain⟨a',bs,e1,q,n⟩:=s1.oo.t j xss e;refine⟨a',bs,by rw[cG h];exact e1,q.step x,λk ys c ek ec=>?_⟩
      by_cases hk:i=k
      · subst hk
        by_cases hi:i<ρ.length
        · rw[dc (by rw[<-s.len];exact hi)] at ec
          cases ec;exact q.here hz
        · rw[eK (by rw[cL];omega)] at ek;cases ek
      · rw[cG hk] at ek ec
        exact n k ys c ek ec
    · have g:∀ {j:Nat} {xss:List (List D)},(ρ.set i (.ow xs))[j]? = some (SV.oo xss)->ρ[j]? = some (SV.oo xss):=fun {j xss} e=>by
        by_cases h:i=j
        · subst h
          by_cases hi:i<ρ.length
          · rw[dc hi] at e;cases e
          · rw[eK (by rw[cL];omega)] at e;cases e
        · rw[cG h] at e;exact e
      exact s.oo.u j k xss yss (g e1) (g e2) }
def pub(i:Nat)(ρ:bR):bR:=match ρ[i]? with
 |some (.ow xs)=>ρ.set i (.d (.lst xs))
 |_=>ρ
theorem SOk.pub(s:SOk K W0 H0 W σ H ρ)(i:Nat):∃W',SOk K W0 H0 W' σ H (LP.pub i ρ)/\Wle W W':=by
 unfold LP.pub;split
 .rename_i xs e
  obtain⟨a,vs,e1,e2,e3,e4,e5,r⟩:=s.o i xs e;have hi:i<ρ.length:=(Yaq.mp e).1;refine⟨W.put a (.lst vs),⟨s.ext.pub e5 e2 e4 e3,by rw[cL];exact s.len,λj y ej=>?_,λj ys ej=>?_,λj k ys zs b hjk ej ek e6=>?_,?_⟩,⟨qk e3,λ_ z=>z⟩⟩
  .by_cases h:i=j
   .subst h
    rw[dc hi] at ej;cases ej;exact⟨_,e1,.lst (by unfold Wd.put;dsimp only;rw[aN]) (r.mono (qk e3) λ_ z=>z)⟩
   .rw[cG h] at ej
    obtain⟨v,q1,q2⟩:=s.d j y ej;exact⟨v,q1,q2.mono (qk e3) λ_ z=>z⟩
  .have h:i≠j:=λh=>by subst h;rw[dc hi] at ej;cases ej
   rw[cG h] at ej;obtain⟨b,us,q1,q2,q3,q4,q5,rr⟩:=s.o j ys ej;have hba:b≠a:=λz=>s.ne i j xs ys a h e ej e1 (by rw[<-z];exact q1);refine⟨b,us,q1,q2,?_,q4,q5,rr.mono (qk e3) λ_ z=>z⟩;unfold Wd.put;dsimp only;rw[aG hba];exact q3
  .have h:i≠j:=λh=>by subst h;rw[dc hi] at ej;cases ej
   have h':i≠k:=λh=>by subst h;rw[dc hi] at ek;cases ek
   rw[cG h] at ej;rw[cG h'] at ek;exact s.ne j k ys zs b hjk ej ek e6
  .exact OOs.set ⟨λj xss ej=>let⟨a',bs,q1,q,n⟩:=s.oo.t j xss ej;⟨a',bs,q1,q.put (n i xs a e e1) e3,n⟩,s.oo.u⟩ (λ_ h=>by cases h) (λ_ _=>rfl) λ_ _ h=>by cases h
 .exact⟨W,s,.refl W⟩
theorem SOk.chg(s:SOk K W0 H0 W σ H ρ){i:Nat}{a:Addr}{xs ys:List D}{us:List V}(e:ρ[i]? = some (.ow xs))(e1:σ[i]? = some (some (.ref a)))(r:Reps K W us ys):SOk K W0 H0 W σ (upd H a (.lst us)) (ρ.set i (.ow ys)):=by
 obtain⟨a',vs,q1,q2,q3,q4,q5,rr⟩:=s.o i xs e;rw[e1] at q1;cases q1;have hi:i<ρ.length:=(Yaq.mp e).1;refine⟨s.ext.chg q5 q2 q4 q3,by rw[cL];exact s.len,λj y ej=>?_,λj zs ej=>?_,λj k ys' zs b hjk ej ek e6=>?_,OOs.set ⟨λj xss ej=>let⟨a',bs,p1,q,n⟩:=s.oo.t j xss ej;⟨a',bs,p1,q.upd (n i xs a e e1),n⟩,s.oo.u⟩ (λ_ h=>by cases h) (λ_ _=>rfl) λys c _ ec j xss a' bs _ ej ea _ n=>n i xs c e ec⟩
 .have h:i≠j:=λh=>by subst h;rw[dc hi] at ej;cases ej
  rw[cG h] at ej;exact s.d j y ej
 .by_cases h:i=j
  .subst h
   rw[dc hi] at ej;cases ej;exact⟨a,us,e1,aN,q3,q4,q5,r⟩
  .rw[cG h] at ej
   obtain⟨b,ws,p1,p2,p3,p4,p5,pr⟩:=s.o j zs ej;have hba:b≠a:=λz=>s.ne i j xs zs a h e ej e1 (by rw[<-z];exact p1);exact⟨b,ws,p1,by rw[aG hba];exact p2,p3,p4,p5,pr⟩
 .by_cases h:i=j
  .subst h
   rw[cG hjk] at ek;exact s.ne i k xs zs b hjk e ek e6
  .rw[cG h] at ej
   by_cases h':i=k
   .subst h'
    intro z;exact s.ne i j xs ys' b h e ej z e6
   .rw[cG h'] at ek
    exact s.ne j k ys' zs b hjk ej ek e6
end
section
variable{rest:List Stmt}{a b:Expr}
def cR:WS:=λ_ N ρ=>N.nx ρ
def aI(z z':WS):WS:=λE N ρ=>z E { N with nx:=z' E N } ρ
def Nds.le_nx{N':Nds}(h:N.le N'){n n':bR->Prop}(hn:∀ρ,n ρ->n' ρ):Nds.le { N with nx:=n } { N' with nx:=n' }:=⟨hn,h.rt,h.bk,h.ct⟩
def ed:jn X EX [] cR:=⟨⟨_,pT,λ_ _ _ W σ H ρ _ Dn N s fl _ no h=>no.nx W σ H ρ s fl h⟩,λ_ _ _ _ hl h=>hl.nx _ h⟩
theorem aT(h1:PZ X EX st z)(h2:jn X EX rest z'):jn X EX (st::rest) (aI z z'):=by
 obtain⟨t1,p1,k1⟩:=h1.t;obtain⟨t2,p2,k2⟩:=h2.t;refine⟨⟨_,jf p1 p2,λW0 H0 F W σ H ρ E Dn N s fl eo no h=>?_⟩,λE ρ N N' hl h=>h1.mono _ _ _ _ (Nds.le_nx hl λρ' h'=>h2.mono _ _ _ _ hl h') h⟩;exact k1 W0 H0 F W σ H ρ E _ { N with nx:=z' E N } s fl eo ⟨λW1 σ1 H1 ρ1 s1 f1 hn=>k2 W0 H0 F W1 σ1 H1 ρ1 E Dn N s1 f1 eo no hn,no.rt,no.bk,no.ct⟩ h
def aV(h1:PZ X EX st z):jn X EX [st] z:=by
 obtain⟨t1,p1,k1⟩:=h1.t;exact⟨⟨_,iC p1,k1⟩,h1.mono⟩
def bO(i:Nat)(z:WS):WS:=λE N ρ=>z E N (pub i ρ)
theorem i6(i:Nat)(h:jn X EX sts z):jn X EX sts (bO i z):=by
 obtain⟨t,p,k⟩:=h.t;refine⟨⟨t,p,λW0 H0 F W σ H ρ E Dn N s fl eo no h=>?_⟩,λE ρ N N' hl q=>h.mono _ _ _ _ hl q⟩;obtain⟨W',s',f'⟩:=s.pub i;exact k W0 H0 F W' σ H _ E Dn N s' (fl.trans f') eo no h
def iX(w:WE):WS:=λE N ρ=>w E ρ λ_=>N.nx ρ
theorem uc(he:PX X EX e w)(hs:swapsWith e none pos.line X.env=pure false:=by rfl):PZ X EX (.Expr e pos) (iX w):=by
 obtain⟨t,p,k⟩:=he.t;refine⟨⟨_,iD p hs,λW0 H0 F W σ H ρ E Dn N s fl eo no h=>?_⟩,λE ρ N N' hl q=>he.mono _ _ _ _ (λ_=>hl.nx ρ) q⟩;exact k W0 H0 W σ H ρ E _ s eo (he.mono _ _ _ _ (λd hd v W1 H1 x1 r1=>no.nx W1 σ H1 ρ (s.step x1) (fl.ext x1) hd) h)
def aM(w:WE):WS:=λE N ρ=>w E ρ N.rt
theorem bH(he:PX X EX e w):PZ X EX (.Return (some e) pos) (aM w):=by
 obtain⟨t,p,k⟩:=he.t;refine⟨⟨_,rX p,λW0 H0 F W σ H ρ E Dn N s fl eo no h=>?_⟩,λE ρ N N' hl q=>he.mono _ _ _ _ hl.rt q⟩;exact k W0 H0 W σ H ρ E _ s eo (he.mono _ _ _ _ (λd hd v W1 H1 x1 r1=>no.rt d v W1 H1 (s.ext.trans x1) r1 hd) h)
def cS(w:WT)(z z':WS):WS:=λE N ρ=>w E ρ λb=>if b=true then z E N ρ else z' E N ρ
theorem ef{w:WT}{as bs:List Stmt}(hc:jk X EX c w)(ha:jn X EX as z)(hb:jn X EX bs z'):PZ X EX (.If c as bs pos) (cS w z z'):=by
 obtain⟨t,p,k⟩:=hc.t;obtain⟨ta,pa,ka⟩:=ha.t;obtain⟨tb,pb,kb⟩:=hb.t;refine⟨⟨_,uO p pa pb,λW0 H0 F W σ H ρ E Dn N s fl eo no h=>?_⟩,λE ρ N N' hl q=>hc.mono _ _ _ _ (λb hb'=>?_) q⟩
 .refine k W0 H0 W σ H ρ E _ s eo (hc.mono _ _ _ _ (λb hb' W1 H1 x1=>?_) h)
  cases b with
  |true=>rw[if_pos rfl] at hb' ⊢;exact ka W0 H0 F W1 σ H1 ρ E Dn N (s.step x1) (fl.ext x1) eo no hb'
  |false=>rw[if_neg (by decide)] at hb' ⊢;exact kb W0 H0 F W1 σ H1 ρ E Dn N (s.step x1) (fl.ext x1) eo no hb'
 .cases b with
  |true=>rw[if_pos rfl] at hb' ⊢;exact ha.mono _ _ _ _ hl hb'
  |false=>rw[if_neg (by decide)] at hb' ⊢;exact hb.mono _ _ _ _ hl hb'
def aQ(i:Nat)(w:WE):WS:=λE N ρ=>w E ρ λx=>N.nx (ρ.set i (.d x))
theorem cQ(i:Nat)(he:PX X EX e w)(hN:X.N.Nodup)(hi:X.N[i]? = some x:=by rfl)(hx:kj X.env.scope x:=by first|exact Or.inl rfl|exact Or.inr rfl)(hs:swapsWith e (some (.Name x pos')) pos.line X.env=pure false:=by rfl)
  (hf:X.fn x=true\/X.env.scope.names.lookup x=some .local:=by first|exact .inl rfl|exact .inr rfl|assumption):PZ X EX (.Assign [.Name x pos'] e pos) (aQ i w):=by
 obtain⟨t,p,k⟩:=he.t;refine⟨⟨_,iG hN hi hx p hs hf,λW0 H0 F W σ H ρ E Dn N s fl eo no h=>?_⟩,λE ρ N N' hl q=>he.mono _ _ _ _ (λ_=>hl.nx _) q⟩;exact k W0 H0 W σ H ρ E _ s eo (he.mono _ _ _ _ (λd hd v W1 H1 x1 r1=>no.nx W1 _ H1 _ ((s.step x1).set r1) (fl.ext x1) hd) h)
def bW(i:Nat)(t:WA):WS:=λE N ρ=>t E ρ λxs=>N.nx (ρ.set i (.ow xs))
theorem nQ(i:Nat)(he:PXL X EX e t)(hN:X.N.Nodup)(hi:X.N[i]? = some x:=by rfl)(hx:kj X.env.scope x:=by first|exact Or.inl rfl|exact Or.inr rfl)(hs:swapsWith e (some (.Name x pos')) pos.line X.env=pure false:=by rfl)
  (hf:X.fn x=true\/X.env.scope.names.lookup x=some .local:=by first|exact .inl rfl|exact .inr rfl|assumption):PZ X EX (.Assign [.Name x pos'] e pos) (bW i t):=by
 obtain⟨t,p,k⟩:=he.t;refine⟨⟨_,iG hN hi hx p hs hf,λW0 H0 F W σ H ρ E Dn N s fl eo no h=>?_⟩,λE ρ N N' hl q=>he.mono _ _ _ _ (λ_=>hl.nx _) q⟩;refine k W0 H0 W σ H ρ E _ s eo (he.mono _ _ _ _ (λxs hd a vs W1 H1 x1 e1 e2 e3 e4 r1=>no.nx W1 _ H1 _ (s.own x1 e4 e1 e2 e3 r1) (fl.ext x1) hd) h)
end
def nq(K:NF)(W:Wd)(J:It)(ds:List D):Prop:=
 ∀W2 H2 (i:Nat),(∀a o,W.G a=some o->W2.G a=some o)->(∀a,W.Pn a->W2.Pn a)->WOk W2 H2->
  (∀d,ds[i]? = some d->J.go i H2/\∀x H3,J.yld i H2 x H3->∃W3,Ext W2 H2 W3 H3/\Rep K W3 x d)/\(ds.length<=i->J.stop i H2)
structure lh(X:Cx)(EX:XK)(tg iter:Expr)(w:WA):Prop where
 t:∃t,PI X tg iter t/\∀W0 H0 W σ H ρ E R,SOk X.K W0 H0 W σ H ρ->iR X.K W0 H0 E EX->w E ρ (λds=>∀W' H' J,Ext W H W' H'->nq X.K W' J ds->R J H')->t σ H R
 mono:∀E ρ P P',(∀d,P d->P' d)->w E ρ P->w E ρ P'
section
variable{a b:Expr}
def isL(Q:List D->Prop):D->Prop
 |.lst xs=>Q xs
 |_=>False
def yR{Q:List D->Prop}(h:isL Q d):∃xs,d=.lst xs/\Q xs:=by
 cases d with
 |lst xs=>exact⟨xs,rfl,h⟩
 |_=>exact h.elim
def isL.mono{Q:List D->Prop}(h:∀b,Q b->Q' b):∀d,isL Q d->isL Q' d:=λd z=>by
 obtain⟨xs,rfl,q⟩:=yR z;exact h _ q
def isT(Q:List D->Prop):D->Prop
 |.tup xs=>Q xs
 |_=>False
def Jt{Q:List D->Prop}(h:isT Q d):∃xs,d=.tup xs/\Q xs:=by
 cases d with
 |tup xs=>exact⟨xs,rfl,h⟩
 |_=>exact h.elim
def isT.mono{Q:List D->Prop}(h:∀b,Q b->Q' b):∀d,isT Q d->isT Q' d:=λd z=>by
 obtain⟨xs,rfl,q⟩:=Jt z;exact h _ q
def iL(w:WE):WA:=λE ρ Q=>w E ρ (isL Q)
def iT(w:WE):WA:=λE ρ Q=>w E ρ (isT Q)
def rng(lo:Int)(n:Nat):List D:=(List.range n).map λ(k:Nat)=>D.int (lo+k)
theorem Ju{W:Wd}(lo:Int)(n:Nat):nq K W (yp lo n) (rng lo n):=by
 intro W2 H2 i g2 p2 ok2;refine⟨λd hd=>?_,λhi=>?_⟩
 .unfold rng at hd
  rw[cI] at hd
  by_cases hi:i<n
  .rw[jD hi] at hd
   cases hd;refine⟨hi,λx H3 y=>?_⟩;obtain⟨rfl,rfl⟩:=y;exact⟨W2,.refl ok2,.int _⟩
  .rw[eK (by simpa using hi)] at hd;cases hd
 .have:(rng lo n).length=n:=by unfold rng;simp
  rw[this] at hi;exact hi
def i1(Q:List D->Prop):List D->Prop
 |[.int j]=>-10000<=j/\j<10000/\Q (rng 0 j.toNat)
 |_=>False
def i2(Q:List D->Prop):List D->Prop
 |[.int i,.int j]=>(-10000<=i/\i<10000/\-10000<=j/\j<10000)/\Q (rng i (j-i).toNat)
 |_=>False
theorem i1.mono{Q:List D->Prop}(h:∀b,Q b->Q' b):∀d,i1 Q d->i1 Q' d:=λd z=>by
 unfold i1 at z ⊢;split at z
 .exact⟨z.1,z.2.1,h _ z.2.2⟩
 .exact z.elim
theorem i2.mono{Q:List D->Prop}(h:∀b,Q b->Q' b):∀d,i2 Q d->i2 Q' d:=λd z=>by
 unfold i2 at z ⊢;split at z
 .exact⟨z.1,h _ z.2⟩
 .exact z.elim
def eO(t:WA):WA:=λE ρ Q=>t E ρ (i1 Q)
def lV(t:WA):WA:=λE ρ Q=>t E ρ (i2 Q)
theorem lW(hm:X.mg "range" = none)(ha:jm X EX [a] t)(hg:Gl X "range" :=by rfl)(hs:starEach [a] X.env=[(false,eval a X.env)]:=by rfl):lh X EX tg (.Call (.Name "range" p) [a] [] pos) (eO t):=by
 obtain⟨t,q,k⟩:=ha.t;refine⟨⟨_,kN hg hm q hs,λW0 H0 W σ H ρ E R s eo h=>?_⟩,λE ρ P P' hp h=>ha.mono _ _ _ _ (i1.mono hp) h⟩;refine k W0 H0 W σ H ρ E _ s eo (ha.mono _ _ _ _ (λds hd vs W1 H1 x1 r1=>?_) h);unfold i1 at hd;split at hd
 .obtain⟨v,rfl,rv⟩:=r1.one
  cases rv;exact⟨_,rfl,by omega,by omega,hd.2.2 W1 H1 _ x1 (Ju _ _)⟩
 .exact hd.elim
end
abbrev WG:=D->bR->(bR->Prop)->Prop
variable{g:WG}
def ZfG(ρ:bR):Prop:=∀(i:Nat),(∀xs,ρ[i]?≠some (SV.ow xs))/\∀xss,ρ[i]?≠some (SV.oo xss)
structure lX(X:Cx)(tg:Expr)(g:WG):Prop where
 t:∃t,PG X tg t/\∀W0 H0 W σ H ρ d v Q,SOk X.K W0 H0 W σ H ρ->Rep X.K W v d->g d ρ (λρ'=>∀σ',SOk X.K W0 H0 W σ' H ρ'->Q σ' H)->t v σ H Q
 mono:∀d ρ P P',(∀r,P r->P' r)->g d ρ P->g d ρ P'
 own:∀d ρ P,ZfG ρ->g d ρ P->g d ρ (λr=>ZfG r/\P r)
section
theorem ZfG.set{ρ:bR}(h:ZfG ρ)(i:Nat)(d:D):ZfG (ρ.set i (.d d)):=λj=>by
 by_cases hj:i=j
 .subst hj
  by_cases hi:i<ρ.length
  .rw[dc hi];exact⟨λ_ e=>(by cases e),λ_ e=>(by cases e)⟩
  .rw[eK (by rw[cL];omega)];exact⟨λ_ e=>(by cases e),λ_ e=>(by cases e)⟩
 .rw[cG hj];exact h j
def gN(i:Nat):WG:=λd ρ k=>k (ρ.set i (.d d))
theorem cJ(i:Nat)(hN:X.N.Nodup)(hi:X.N[i]? = some x:=by rfl)(hx:kj X.env.scope x:=by first|exact Or.inl rfl|exact Or.inr rfl)(hf:X.fn x=true\/X.env.scope.names.lookup x=some .local:=by first|exact .inl rfl|exact .inr rfl|assumption) :
  lX X (.Name x pos) (gN i):=
 ⟨⟨_,iF hN hi hx hf,λW0 H0 W σ H ρ d v Q s r h=>h _ (s.set r)⟩,λd ρ P P' hp h=>hp _ h,λd ρ P ho h=>⟨ho.set i d,h⟩⟩
end
def Zbv(nv:Nat)(sel:List Nat)(ρ:bR):bR:=List.replicate nv .un++sel.map λj=>match ρ[j]? with
 |some (.d x)=>.d x
 |_=>.un
theorem Zbv.own(nv:Nat)(sel:List Nat)(ρ:bR):ZfG (Zbv nv sel ρ):=λi=>by
 have key:∀sv,(Zbv nv sel ρ)[i]? = some sv->sv=.un\/∃x,sv=.d x:=λsv e=>by
  unfold Zbv at e;rcases gg i nv with h|h
  .rw[j6 (by simpa using h),mo] at e
   rw[if_pos h] at e;cases e;exact .inl rfl
  .rw[jt (by simpa using h),cI] at e
   cases q:sel[i-(List.replicate nv SV.un).length]? with
   |none=>rw[q] at e;cases e
   |some j=>
    rw[q] at e;have e':=NJ e;dsimp only at e';split at e'
    .exact .inr ⟨_,e'.symm⟩
    .exact .inl e'.symm
 refine⟨λxs e=>?_,λxs e=>?_⟩
 .rcases key _ e with z|⟨x,z⟩<;>cases z
 .rcases key _ e with z|⟨x,z⟩<;>cases z
def No:Ex->Prop:=λ_=>False
def lcW(g:WG)(wf:WT)(we:WE):List D->bR->List D->(List D->Prop)->Prop
 |[],_,acc,Q=>Q acc
 |d::ds,ρ,acc,Q=>g d ρ λρ2=>wf No ρ2 λb=>if b=true then we No ρ2 λy=>acc.length<small/\lcW g wf we ds ρ2 (acc++[y]) Q else lcW g wf we ds ρ2 acc Q
structure ql(X:Cx)(EX:XK)(ifs:List Expr)(w:WT):Prop where
 t:∃t,PF X ifs t/\∀W0 H0 W σ H ρ E Q,SOk X.K W0 H0 W σ H ρ->iR X.K W0 H0 E EX->w E ρ (λb=>∀W' H',Ext W H W' H'->Q b H')->t σ H Q
 mono:∀E ρ P P',(∀d,P d->P' d)->w E ρ P->w E ρ P'
def cM:WT:=λ_ _ Q=>Q true
section
def fS:ql X EX [] cM:=⟨⟨_,HR,λ_ _ W _ H _ _ _ s _ h=>h W H (.refl s.ok)⟩,λ_ _ _ _ hp h=>hp _ h⟩
def yS(h:jk X EX c wf):ql X EX [c] wf:=let⟨t,q,k⟩:=h.t;⟨⟨t,HS q,k⟩,h.mono⟩
theorem lcW.mono(hg:∀d ρ P P',(∀r,P r->P' r)->g d ρ P->g d ρ P')(hf:∀E ρ P P',(∀d,P d->P' d)->wf E ρ P->wf E ρ P')(he:∀E ρ P P',(∀d,P d->P' d)->we E ρ P->we E ρ P') :
  ∀ds ρ acc P P',(∀xs,P xs->P' xs)->lcW g wf we ds ρ acc P->lcW g wf we ds ρ acc P'
 |[],_,acc,P,P',hp,h=>hp _ h
 | d::ds,ρ,acc,P,P',hp,h=>hg _ _ _ _ (λr hr=>hf _ _ _ _ (λb hb=>by
   cases b with
   |true=>rw[if_pos rfl] at hb ⊢;exact he _ _ _ _ (λy hy=>⟨hy.1,lcW.mono hg hf he ds r _ P P' hp hy.2⟩) hb
   |false=>rw[if_neg (by decide)] at hb ⊢;exact lcW.mono hg hf he ds r _ P P' hp hb) hr) h
def aLC(wi:WA)(nv:Nat)(sel:List Nat)(g:WG)(wf:WT)(we:WE):WA:=λE ρ Q=>wi E ρ λds=>lcW g wf we ds (Zbv nv sel ρ) [] Q
theorem aLC.mono(hi:lh X EX target iter wi)(hg:∀d ρ P P',(∀r,P r->P' r)->g d ρ P->g d ρ P')(hf:∀E ρ P P',(∀d,P d->P' d)->wf E ρ P->wf E ρ P')(he:∀E ρ P P',(∀d,P d->P' d)->we E ρ P->we E ρ P') :
  ∀E ρ P P',(∀d,P d->P' d)->aLC wi vars.length sel g wf we E ρ P->aLC wi vars.length sel g wf we E ρ P':=λE ρ P P' hp h=>hi.mono _ _ _ _ (λds hds=>lcW.mono hg hf he ds _ _ _ _ hp hds) h
theorem SOk.lc{W:Wd}(s:SOk X.K W0 H0 W σ H ρ)(nv:Nat)(sel:List Nat):SOk X.K W0 H0 W (fL nv sel σ) H (Zbv nv sel ρ) where
 ext:=s.ext
 len:=by unfold Zbv fL;simp
 d:=λi x e=>by
  unfold Zbv at e;rcases gg i nv with h|h
  .rw[j6 (by simpa using h),mo] at e
   split at e<;>cases e
  .rw[jt (by simpa using h),cI,pJ] at e
   cases q:sel[i-nv]? with
   |none=>rw[q] at e;cases e
   |some j=>
    rw[q] at e;have e':=NJ e;dsimp only at e';split at e'
    .rename_i y ey
     cases e';obtain⟨v,ev,r⟩:=s.d j x ey;refine⟨v,?_,r⟩;unfold fL;rw[jt (by simpa using h),pJ,cI,q];show some ((σ[j]?).getD none)=_;rw[ev];rfl
    .cases e'
 o:=λi xs e=>NH e ((Zbv.own nv sel ρ i).1 xs)
 ne:=λi j xs ys a _ e=>NH e ((Zbv.own nv sel ρ i).1 xs)
 oo:=.none λi=>(Zbv.own nv sel ρ i).2
theorem SOk.chgD{W:Wd}{o':HO}(s:SOk K W0 H0 W σ H ρ)(ho:ZfG ρ)(h0:H0 a=none)(h1:H a=some o)(h2:¬W.Pn a)(h3:W.G a=none):SOk K W0 H0 W σ (upd H a o') ρ:=
 ⟨s.ext.chg h0 h1 h2 h3,s.len,s.d,λi xs e=>NH e ((ho i).1 xs),λi j xs ys a _ e=>NH e ((ho i).1 xs),.none λi=>(ho i).2⟩
theorem BE(hi:lh X EX target iter wi)(hg:∀s H fp,lX (X.lc sc vars sel s H fp) target g)(hf:∀s H fp,ql (X.lc sc vars sel s H fp) E0 ifs wf)(he:∀s H fp,PX (X.lc sc vars sel s H fp) E0 elt we) :
  ∃(ti:TI) (tg:TG) (tf:TT) (te:TE),PI X target iter ti/\(∀s H fp,PG (X.lc sc vars sel s H fp) target tg)/\(∀s H fp,PF (X.lc sc vars sel s H fp) ifs tf)/\(∀s H fp,PE (X.lc sc vars sel s H fp) elt te)/\
   ∀W0 H0 W σ H ρ E Q,SOk X.K W0 H0 W σ H ρ->iR X.K W0 H0 E EX->
    aLC wi vars.length sel g wf we E ρ (λds=>∀a vs W' H',Ext W H W' H'->H' a=some (.lst vs)->W'.G a=none->¬W'.Pn a->H a=none->Reps X.K W' vs ds->Q (.ref a) H')->Bc ti vars.length sel tg tf te σ H Q:=by
 obtain⟨ti,pi,ki⟩:=hi.t;refine ⟨ti,λv σ H Q=>∃ W0 H0 W ρ d,SOk X.K W0 H0 W σ H ρ/\Rep X.K W v d/\g d ρ (λρ'=>∀ σ',SOk X.K W0 H0 W σ' H ρ'->Q σ' H),
  λσ H Q=>∃W0 H0 W ρ,SOk X.K W0 H0 W σ H ρ/\wf No ρ (λb=>∀W' H',Ext W H W' H'->Q b H'),
  λσ H Q=>∃W0 H0 W ρ,SOk X.K W0 H0 W σ H ρ/\we No ρ (RQ X.K W H Q),pi,λs1 H1 fp=>?_,λs1 H1 fp=>?_,λs1 H1 fp=>?_,?_⟩
 .obtain⟨t,q,k⟩:=(hg s1 H1 fp).t
  rintro pins s σ H v u Q I r ⟨W0,H0,W,ρ,d,s',r',h⟩;exact q pins s σ H v u Q I r (k W0 H0 W σ H ρ d v Q s' r' h)
 .obtain⟨t,q,k⟩:=(hf s1 H1 fp).t
  rintro pins s σ H Q I ⟨W0,H0,W,ρ,s',h⟩;exact q pins s σ H Q I (k W0 H0 W σ H ρ No Q s' (λ_ _ _ _ _ z=>z.elim) h)
 .obtain⟨t,q,k⟩:=(he s1 H1 fp).t
  rintro pins s σ H Q I ⟨W0,H0,W,ρ,s',h⟩;exact q pins s σ H Q I (k W0 H0 W σ H ρ No Q s' (λ_ _ _ _ _ z=>z.elim) h)
 .have gm:=(hg {} (λ_=>none) []).mono
  have go:=(hg {} (λ_=>none) []).own;have fm:=(hf {} (λ_=>none) []).mono;have em:=(he {} (λ_=>none) []).mono;intro W0 H0 W σ H ρ E Q s eo h;refine ki W0 H0 W σ H ρ E _ s eo (hi.mono _ _ _ _ (λds hds W1 H1 J x1 it D hD=>?_) h);have hDf:=x1.ok.fresh hD;have hD0:H0 D=none:=s.ext.isN (x1.isN hD);refine ⟨λi m ys σ2 H2=>m=ds.length - i/\i<=ds.length/\∃ W2 ρ2 acc,Ext W1 H1 W2 H2/\SOk X.K W0 H0 W2 σ2 H2 ρ2/\ZfG ρ2/\H2 D=some (.lst ys)/\W2.G D=none/\¬ W2.Pn D/\Reps X.K W2 ys acc/\
   lcW g wf we (ds.drop i) ρ2 acc (λds=>∀a vs W' H',Ext W H W' H'->H' a=some (.lst vs)->W'.G a=none->¬W'.Pn a->H a=none->Reps X.K W' vs ds->Q (.ref a) H'),⟨_,rfl,gJ _,W1,_,[],.new x1.ok hD,?_,Zbv.own _ _ ρ,aN,hDf.1,hDf.2,.nil,by rw[pK];exact hds⟩,?_⟩
  .exact(((s.step x1).step (.new x1.ok hD)).lc vars.length sel)
  .rintro i m ys σ2 H2 ⟨rfl,hi',W2,ρ2,acc,x2,s2,no2,hD2,g2,p2,r2,q2⟩
   refine⟨hD2,?_⟩;obtain⟨itg,its⟩:=it W2 H2 i x2.g x2.p x2.ok;rcases gg i ds.length with hlt|hge
   .have hd:ds[i]? = some ds[i]:=bG hlt
    obtain⟨go',yl⟩:=itg _ hd;refine .inr ⟨go',λx H3 y=>?_⟩;obtain⟨W3,x3,r3⟩:=yl x H3 y;rw[pL hlt] at q2;have keepD:∀{W' H'},Ext W2 H2 W' H'->H' D=some (.lst ys)/\W'.G D=none/\¬W'.Pn D:=λ{W' H'} x'=>by
     refine⟨x'.h D _ hD2 p2,?_,λz=>?_⟩
     .cases q:W'.G D with
      |none=>rfl
      |some o=>have:=x'.gf D g2 (by rw[q];simp);rw[hD2] at this;cases this
     .have:=x'.pf D p2 z;rw[hD2] at this;cases this
    refine⟨W0,H0,W3,ρ2,ds[i],s2.step x3,r3,gm _ _ _ _ (λρ4 hr σ4 s4=>?_) (go _ _ _ no2 q2)⟩;obtain⟨no4,hr⟩:=hr;refine⟨W0,H0,W3,ρ4,s4,fm _ _ _ _ (λb hb W5 H5 x5=>?_) hr⟩;cases b with
    |false=>
     rw[if_neg (by decide)] at hb ⊢;have kD:=keepD (x3.trans x5);exact⟨ds.length-(i+1),by omega,rfl,hlt,W5,ρ4,acc,x2.trans (x3.trans x5),s4.step x5,no4,kD.1,kD.2.1,kD.2.2,(x3.trans x5).reps r2,hb⟩
    |true=>
     rw[if_pos rfl] at hb ⊢;refine⟨W0,H0,W5,ρ4,s4.step x5,em _ _ _ _ (λy hy v W6 H6 x6 r6=>?_) hb⟩;have xx:=x3.trans (x5.trans x6);have kD:=keepD xx;have hl:ys.length=acc.length:=r2.length;refine⟨kD.1,by rw[hl];exact cU hy.1 (lT (bP _)),ds.length-(i+1),by omega,rfl,hlt,W6,ρ4,acc++[y],(x2.trans xx).chg hD kD.1 kD.2.2 kD.2.1,?_,no4,aN,kD.2.1,kD.2.2,(xx.reps r2).append (.cons r6 .nil),hy.2⟩;exact((s4.step x5).step x6).chgD no4 hD0 kD.1 kD.2.2 kD.2.1
   .have e:i=ds.length:=by omega
    refine .inl ⟨its hge,?_⟩;rw[tU hge] at q2;exact q2 D ys W2 H2 (x1.trans x2) hD2 g2 p2 (x1.isN hD) r2
theorem ip(vars:List Str)(sel:List Nat)(hc:X.calm=true)(hi:lh X EX target iter wi)(hg:∀s H fp,lX (X.lc sc vars sel s H fp) target g)(hf:∀s H fp,ql (X.lc sc vars sel s H fp) E0 ifs wf)(he:∀s H fp,PX (X.lc sc vars sel s H fp) E0 elt we)
  (ok:ji sc X.env.scope=true:=by rfl) (so:mX X.N sc sel=true:=by rfl) (hs:∀x,foldedSetIterable iter X.env x=pure x:=by intro _;rfl):PXL X EX (.ListComp elt [⟨target,iter,ifs,0⟩] sc pos) (aLC wi vars.length sel g wf we):=by
 obtain⟨ti,tg,tf,te,pi,pg,pf,pe,k⟩:=BE hi hg hf he;exact⟨⟨_,DK vars sel hc pi ok so pg pf pe hs,k⟩,aLC.mono hi (hg {} (λ_=>none) []).mono (hf {} (λ_=>none) []).mono (he {} (λ_=>none) []).mono⟩
theorem vP(i:Nat)(vars:List Str)(sel:List Nat)(hc:X.calm=true)(hN:X.N.Nodup)(hi:lh X EX target iter wi)(hg:∀s H fp,lX (X.lc sc vars sel s H fp) target g)(hf:∀s H fp,ql (X.lc sc vars sel s H fp) E0 ifs wf)(he:∀s H fp,PX (X.lc sc vars sel s H fp) E0 elt we)
  (hix:X.N[i]? = some x:=by rfl) (hx:kj X.env.scope x:=by first|exact Or.inl rfl|exact Or.inr rfl)
  (hsw:swapsWith (.ListComp elt [⟨target,iter,ifs,0⟩] sc pos) (some (.Name x pos')) spos.line X.env=pure true:=by rfl)
  (ok:ji sc X.env.scope=true:=by rfl) (so:mX X.N sc sel=true:=by rfl) (hs:∀x,foldedSetIterable iter X.env x=pure x:=by intro _;rfl) (hfn:X.fn x=true\/X.env.scope.names.lookup x=some .local:=by first|exact .inl rfl|exact .inr rfl|assumption) :
  PZ X EX (.Assign [.Name x pos'] (.ListComp elt [⟨target,iter,ifs,0⟩] sc pos) spos) (bW i (aLC wi vars.length sel g wf we)):=by
 obtain⟨ti,tg,tf,te,pi,pg,pf,pe,k⟩:=BE hi hg hf he;have am:=aLC.mono (vars:=vars) (sel:=sel) hi (hg {} (λ_=>none) []).mono (hf {} (λ_=>none) []).mono (he {} (λ_=>none) []).mono;refine⟨⟨_,DL vars sel hc hN hix hx pi ok so pg pf pe hsw hs hfn,λW0 H0 F W σ H ρ E Dn N s fl eo no h=>?_⟩,λE ρ N N' hl q=>am _ _ _ _ (λ_=>hl.nx _) q⟩;refine k W0 H0 W σ H ρ E _ s eo (am _ _ _ _ (λxs hd a vs W1 H1 x1 e1 e2 e3 e4 r1=>no.nx W1 _ H1 _ (s.own x1 e4 e1 e2 e3 r1) (fl.ext x1) hd) h)
def Za2(g:WG)(zb:WS)(E:Ex->Prop)(N:Nds):List D->bR->Prop
 |[],ρ=>N.nx ρ
 |d::ds,ρ=>g d ρ λρ1=>zb E { nx:=Za2 g zb E N ds,rt:=N.rt,bk:=N.nx,ct:=Za2 g zb E N ds } ρ1
def bU(wi:WA)(g:WG)(zb:WS):WS:=λE N ρ=>wi E ρ λds=>Za2 g zb E N ds ρ
theorem Za2.mono{zb:WS}(hg:∀d ρ P P',(∀r,P r->P' r)->g d ρ P->g d ρ P')(hb:∀E ρ N N',N.le N'->zb E N ρ->zb E N' ρ){E:Ex->Prop}{N N':Nds}(hl:N.le N'):∀ds ρ,Za2 g zb E N ds ρ->Za2 g zb E N' ds ρ
 |[],ρ,h=>hl.nx _ h
 |d::ds,ρ,h=>hg _ _ _ _ (λr hr=>hb E r { nx:=Za2 g zb E N ds,rt:=N.rt,bk:=N.nx,ct:=Za2 g zb E N ds } _ ⟨Za2.mono hg hb hl ds,hl.rt,hl.nx,Za2.mono hg hb hl ds⟩ hr) h
theorem lm(hp:PassesOwn (model X.prog X.w) X.A X.env X.xe)(hc:X.calm=true)(hi:lh X EX target iter wi)(hg:lX X target g)(hb:jn X EX body zb)
  (hs:∀x,foldedSetIterable iter X.env x=pure x:=by intro _;rfl):PZ X EX (.For target iter body [] pos) (bU wi g zb):=by
 obtain⟨ti,pi,ki⟩:=hi.t;obtain⟨tg,pg,kg⟩:=hg.t;obtain⟨tb,pb,kb⟩:=hb.t;refine⟨⟨_,jK hp hc pi pg pb hs,λW0 H0 F W σ H ρ E Dn N s fl eo no h=>?_⟩,λE ρ N N' hl q=>hi.mono _ _ _ _ (λds hds=>Za2.mono hg.mono hb.mono hl ds ρ hds) q⟩;refine ki W0 H0 W σ H ρ E _ s eo (hi.mono _ _ _ _ (λds hds W1 H1 J x1 it=>?_) h);refine⟨λi m σ2 H2=>m=ds.length-i/\i<=ds.length/\∃W2 ρ2,SOk X.K W0 H0 W2 σ2 H2 ρ2/\Wle W1 W2/\Za2 g zb E N (ds.drop i) ρ2,⟨_,rfl,gJ _,W1,ρ,s.step x1,.refl W1,by rw[pK];exact hds⟩,?_⟩;rintro i m σ2 H2 ⟨rfl,hi',W2,ρ2,s2,f2,q2⟩;obtain⟨itg,its⟩:=it W2 H2 i f2.g f2.p s2.ok;have fF:∀{V:Wd},Wle W1 V->Wle F V:=λf=>(fl.ext x1).trans f;rcases gg i ds.length with hlt|hge
 .have hd:ds[i]? = some ds[i]:=bG hlt
  obtain⟨go',yl⟩:=itg _ hd;rw[pL hlt] at q2;refine .inr ⟨go',λσ3 H3=>∃W3 ρ3,SOk X.K W0 H0 W3 σ3 H3 ρ3/\Wle W1 W3/\Za2 g zb E N (ds.drop (i+1)) ρ3,λσ3 H3 ⟨W3,ρ3,s3,f3,q3⟩=>⟨ds.length-(i+1),by omega,rfl,hlt,W3,ρ3,s3,f3,q3⟩,λx H3 y=>?_⟩;obtain⟨W3,x3,r3⟩:=yl x H3 y;refine kg W0 H0 W3 σ2 H3 ρ2 ds[i] x _ (s2.step x3) r3 (hg.mono _ _ _ _ (λρ4 hr σ4 s4=>?_) q2);refine kb W0 H0 W1 W3 σ4 H3 ρ4 E _ { nx:=Za2 g zb E N (ds.drop (i+1)),rt:=N.rt,bk:=N.nx,ct:=Za2 g zb E N (ds.drop (i+1)) } s4 (f2.ext x3) eo ⟨λW5 σ5 H5 ρ5 s5 f5 h5=>⟨W5,ρ5,s5,f5,h5⟩,no.rt,λW5 σ5 H5 ρ5 s5 f5 h5=>no.nx W5 σ5 H5 ρ5 s5 (fF f5) h5,λW5 σ5 H5 ρ5 s5 f5 h5=>⟨W5,ρ5,s5,f5,h5⟩⟩ hr
 .have e:i=ds.length:=by omega
  refine .inl ⟨its hge,?_⟩;rw[tU hge] at q2;exact no.nx W2 σ2 H2 ρ2 s2 (fF f2) q2
end
def eP(N:List Str)(ds:List D):bR:=ds.map .d++List.replicate (N.length-ds.length) .un
abbrev Rd(S:List D->(Ex->Prop)->(D->Prop)->Prop)(z:WS)(N:List Str):Prop:=∀ds E Q,S ds E Q->z E { nx:=λ_=>Q .non,rt:=Q } (eP N ds)
theorem D4{W:Wd}{N:List Str}(ok:WOk W H)(r:Reps K W vs ds):SOk K W H W (start N vs) H (eP N ds) where
 ext:=.refl ok
 len:=by unfold eP L2.start;simp[r.length]
 d:=λi x e=>by
  unfold eP at e;rcases gg i ds.length with h|h
  .rw[j6 (by simpa using h),cI] at e
   cases q:ds[i]? with
   |none=>rw[q] at e;cases e
   |some y=>
    rw[q] at e;cases e;obtain⟨v,ev,rv⟩:=r.get q;refine⟨v,?_,rv⟩;unfold L2.start;rw[j6 (by rw[bL,r.length];exact h),cI,ev];rfl
  .rw[jt (by simpa using h),mo] at e
   split at e<;>cases e
 o:=λi xs e=>by
  unfold eP at e;rcases gg i ds.length with h|h
  .rw[j6 (by simpa using h),cI] at e
   cases q:ds[i]? with
   |none=>rw[q] at e;cases e
   |some y=>rw[q] at e;cases e
  .rw[jt (by simpa using h),mo] at e
   split at e<;>cases e
 ne:=λi j xs ys a _ e=>by
  unfold eP at e;rcases gg i ds.length with h|h
  .rw[j6 (by simpa using h),cI] at e
   cases q:ds[i]? with
   |none=>rw[q] at e;cases e
   |some y=>rw[q] at e;cases e
  .rw[jt (by simpa using h),mo] at e
   split at e<;>cases e
 oo:=.none λi xs e=>by
  unfold eP at e;rcases gg i ds.length with h|h
  .rw[j6 (by simpa using h),cI] at e
   cases q:ds[i]? with
   |none=>rw[q] at e;cases e
   |some y=>rw[q] at e;cases e
  .rw[jt (by simpa using h),mo] at e
   split at e<;>cases e
section
variable{P:Program}{w:World}{base:Heap}
theorem vQ{N:List Str}(F:Fun K x qual st f fd)(sc:cO N ps (aK st))(len:∀ds E Q,S ds E Q->ds.length=ps.length)
  (hbody:∀ (cdv:Value) (A:Around) (outer:List Env) (s:Shared) (H:Hp) (E:XK),Room k (A.deeper (envOfC qual (aK st) s.heap.objs.size f cdv))->
   c8 (eY P w) (dQ (eY P w) P w K mg base N qual (aK st) f cdv A outer s H E) E->kY (dQ (eY P w) P w K mg base N qual (aK st) f cdv A outer s H E) E->
   jn (dQ (eY P w) P w K mg base N qual (aK st) f cdv A outer s H E) E (bF st) z)
  (h:∀ds E Q,S ds E Q->z E { nx:=λ_=>Q .non,rt:=Q } (eP N ds)):FnOk P w K mg base (eY P w) (k+1) f fd ps (fN K S):=by
 obtain⟨oc,od,kV,doc,pm,an,cdv,ct,osl,rfl,lk,hcd⟩:=F.ex;refine qO lk hcd sc (λvs H Q E hs=>?_) λA outer s H vs Q E hr hs=>?_
 .obtain⟨ds,W,_,r,hS⟩:=hs
  rw[r.length];exact len _ _ _ hS
 .obtain⟨ds,W,ok,r,hS⟩:=hs
  obtain⟨t,p,k⟩:=(hbody cdv A outer s H E hr Ib Ic).t;refine ⟨t,p,k W H W W (start N vs) H (eP N ds) (λex=>∀ W' H' cls dx,Ext W H W' H'->yI K W' H' cls dx ex->E cls dx H') _ { nx:=λ_=>RQ K W H Q .non,rt:=RQ K W H Q } (D4 ok r) (.refl W) (λex W' H' cls dx he x r=>he W' H' cls dx x r)
   ⟨λW1 σ1 H1 ρ1 s1 _ q=>q _ W1 H1 s1.ext .non,λd v W1 H1 x1 r1 q=>q v W1 H1 x1 r1,λ_ _ _ _ _ _ q=>q.elim,λ_ _ _ _ _ _ q=>q.elim⟩ (h ds _ _ hS)⟩
end
structure Fp(P:Program)(w:World)(K:NF)(mg:Str->Option Value)(base:Heap)(k:Nat)(x:Str)(ps:List Str)(S:bN):Prop where
 ok:∃f fd,FnOk P w K mg base (eY P w) k f fd ps (fN K S)/\mg x=some (.ref f)/\PySem.W.keepIn K (.ref f)=true/\Binds K fd ps []
 mono:m8 S
section
theorem aS(G:Fp X.prog X.w X.K X.mg X.base k x ps S)(hr:Room j X.A)(hx:c8 (eY X.prog X.w) X EX)(ha:jm X EX (e::es) t)(hk:k<=j:=by decide)(hg:Gl X x:=by rfl)(hdb:(x==("__debug__" : Str))=false:=by decide)(he:starEach (e::es) X.env=(false,eval e X.env)::starEach es X.env:=by rfl)(hpl:(backTo pos (starEach es X.env)).any (·.1)=false:=by rfl) :
  PX X EX (.Call (.Name x p) (e::es) [] pos) (wF S t):=by
 obtain⟨f,fd,F,hm,kp,hb⟩:=G.ok;exact Ji F G.mono (hr.mono hk) hm kp hb hx ha hg hdb he hpl
def aZ(z:WS):WS:=λ_ N ρ=>z No N ρ
theorem iq(h:PZ X.nox E0 st z):PZ X EX st (aZ z):=by
 obtain⟨t,p,k⟩:=h.t;refine⟨⟨t,λpins s σ H D I hw=>NN (p pins s σ H D (I.wish _) hw) (λ_ _ q=>q.unwish) λ_ _ z=>NT z,λW0 H0 F W σ H ρ E Dn N s fl eo no q=>k W0 H0 F W σ H ρ No Dn N s fl (λ_ _ _ _ _ z=>z.elim) no q⟩,λE ρ N N' hl q=>h.mono _ _ _ _ hl q⟩
end
section
variable{a b:Expr}
def isS(Q:List D->Prop):D->Prop
 |.lst xs=>Q xs
 |.tup xs=>Q xs
 |_=>False
def isS.mono{Q:List D->Prop}(h:∀b,Q b->Q' b):∀d,isS Q d->isS Q' d:=λd z=>by
 cases d<;>first|exact h _ z|exact z
def iS(w:WE):WA:=λE ρ Q=>w E ρ (isS Q)
theorem gH(he:PX X EX e w):lh X EX tg e (iS w):=by
 obtain⟨t,q,k⟩:=he.t;refine⟨⟨_,Id q,λW0 H0 W σ H ρ E R s eo h=>?_⟩,λE ρ P P' hp h=>he.mono _ _ _ _ (isS.mono hp) h⟩;refine k W0 H0 W σ H ρ E _ s eo (he.mono _ _ _ _ (λd hd v W1 H1 x1 r1=>?_) h);have keyT:∀{l:Addr} {vs:List V} {xs:List D},(∀W' H' J,Ext W H W' H'->nq X.K W' J xs->R J H')->(∀W2 H2,(∀a o,W1.G a=some o->W2.G a=some o)->WOk W2 H2->SqT X.K H2 l vs)->Reps X.K W1 vs xs->(∃ys,SqT X.K H1 l ys)/\R (A0 X.K l) H1:=by
  intro l vs xs hq sq rr;refine⟨⟨vs,sq W1 H1 (λ_ _ z=>z) x1.ok⟩,hq W1 H1 _ x1 λW2 H2 i g2 p2 ok2=>⟨λd hd=>?_,λhi=>⟨vs,sq W2 H2 g2 ok2,by rw[rr.length];exact hi⟩⟩⟩;obtain⟨v,ev,rv⟩:=rr.get hd;refine⟨⟨vs,v,sq W2 H2 g2 ok2,ev⟩,λx H3 y=>?_⟩;obtain⟨rfl,y⟩:=y;have:=y vs (sq W2 _ g2 ok2);rw[ev] at this;cases this;exact⟨W2,.refl ok2,rv.mono g2 p2⟩
 cases r1 with
 | @lst l vs xs e1 rr=>
  have hq:∀W' H' J,Ext W H W' H'->nq X.K W' J xs->R J H':=hd;refine⟨l,rfl,.inl ⟨⟨vs,SqL.of (x1.ok.g _ _ e1)⟩,hq W1 H1 _ x1 λW2 H2 i g2 p2 ok2=>⟨λd hd=>?_,λhi=>⟨vs,SqL.of (ok2.g _ _ (g2 _ _ e1)),by rw[rr.length];exact hi⟩⟩⟩⟩;obtain⟨v,ev,rv⟩:=rr.get hd;have sq:SqL X.K H2 l vs:=SqL.of (ok2.g _ _ (g2 _ _ e1));refine⟨⟨vs,v,sq,ev⟩,λx H3 y=>?_⟩;obtain⟨rfl,y⟩:=y;have:=y vs sq;rw[ev] at this;cases this;exact⟨W2,.refl ok2,rv.mono g2 p2⟩
 |tup e1 rr=>exact⟨_,rfl,.inr (keyT hd (λW2 H2 g2 ok2=>SqT.of (ok2.g _ _ (g2 _ _ e1))) rr)⟩
 |ktup e1 rr=>exact⟨_,rfl,.inr (keyT hd (λW2 H2 g2 ok2=>.inr e1) rr)⟩
 |non=>exact hd.elim
 |bl _=>exact hd.elim
 |int _=>exact hd.elim
 |str _=>exact hd.elim
 |dic _=>exact hd.elim
 |pen _=>exact hd.elim
 |cls _=>exact hd.elim
 |exc _ _=>exact hd.elim
 |ty _=>exact hd.elim
 |scr _ _=>exact hd.elim
theorem lY{T:String}(hm:X.mg x=none)(hv:bootBuiltins x=some (.type T))(hg:Gl X x:=by rfl)(hn:x≠ "__name__" :=by decide)(hd:(x==("__debug__" : Str))=false:=by decide):PX X EX (.Name x pos) (wC (.ty T)):=
 Jg (v:=.ty T) hm hv rfl (λ_=>.ty T) hg hn hd
theorem Jv{i:Int}{t:Tok}(hm:X.mg x=some (.int i t))(hg:Gl X x:=by rfl)(hd:(x==("__debug__" : Str))=false:=by decide):PX X EX (.Name x pos) (wC (.int i)):=
 Bv (v:=.int i) hm ⟨t,rfl⟩ (λ_=>.int i) hg hd
theorem Jw{a:Addr}(hm:X.mg x=some (.ref a))(hk:KT X.K a vs)(hr:∀W,Reps X.K W vs ds)(hg:Gl X x:=by rfl)(hd:(x==("__debug__" : Str))=false:=by decide):PX X EX (.Name x pos) (wC (.tup ds)):=
 Bv (v:=.ref a) hm rfl (λW=>.ktup hk (hr W)) hg hd
end
def detS(n:Nat)(dom:List D->Prop)(val:List D->D):bN:=λds _ Q=>ds.length=n/\dom ds/\Q (val ds)
def detS.mono:m8 (detS n dom val):=λds E E' Q Q' _ hQ h=>⟨h.1,h.2.1,hQ _ h.2.2⟩
def detS.len(hp:ps.length=n):∀ds E Q,detS n dom val ds E Q->ds.length=ps.length:=λds E Q h=>h.1.trans hp.symm
def ndS(n:Nat)(dom:List D->Prop)(rel:List D->D->Prop):bN:=λds _ Q=>ds.length=n/\dom ds/\∀d,rel ds d->Q d
def ndS.mono:m8 (ndS n dom rel):=λds E E' Q Q' _ hQ h=>⟨h.1,h.2.1,λd r=>hQ _ (h.2.2 d r)⟩
def ndS.len(hp:ps.length=n):∀ds E Q,ndS n dom rel ds E Q->ds.length=ps.length:=λds E Q h=>h.1.trans hp.symm
theorem Fp.nd{P:Program}{w:World}{base:Heap}(h:FnOk P w K mg base (eY P w) k f fd ps (fN K (ndS n dom rel)))(hm:mg x=some (.ref f))(kp:PySem.W.keepIn K (.ref f)=true)(hb:Binds K fd ps []) :
  Fp P w K mg base k x ps (ndS n dom rel):=⟨⟨f,fd,h,hm,kp,hb⟩,ndS.mono⟩
theorem D5{neg:Bool}{i j:Int}(h:Q (.bl (if neg then !(i==j) else i==j))):gEq neg (.int i) (.int j) Q:=by
 refine⟨.int i,.int j,rfl,rfl,rfl,rfl,?_⟩;exact h
theorem lZ{neg:Bool}{i j:Int}:gEq neg (.int i) (.int j) Q↔Q (.bl (if neg then !(i==j) else i==j)):=
 ⟨λ⟨p,q,h1,h2,_,_,h⟩=>by cases h1;cases h2;exact h,D5⟩
section
variable{a b:Expr}
abbrev qY:=List D->bR->(bR->Prop)->Prop
structure qm(X:Cx)(ts:List Expr)(g:qY):Prop where
 t:∃t,uP X ts t/\∀W0 H0 W σ H ρ ds vs Q,SOk X.K W0 H0 W σ H ρ->Reps X.K W vs ds->g ds ρ (λρ'=>∀σ',SOk X.K W0 H0 W σ' H ρ'->Q σ' H)->t vs σ H Q
 mono:∀d ρ P P',(∀r,P r->P' r)->g d ρ P->g d ρ P'
 own:∀d ρ P,ZfG ρ->g d ρ P->g d ρ (λr=>ZfG r/\P r)
def dC:qY:=λds ρ k=>match ds with
 |[]=>k ρ
 |_=>False
def cD(g:WG)(gs:qY):qY:=λds ρ k=>match ds with
 |d::ds=>g d ρ λρ'=>gs ds ρ' k
 |_=>False
theorem l5:qm X [] dC:=by
 refine⟨⟨_,pV,λW0 H0 W σ H ρ ds vs Q s r h=>?_⟩,λd ρ P P' hp h=>?_,λd ρ P ho h=>?_⟩
 .cases r with
  |nil=>exact⟨rfl,h σ s⟩
  |cons _ _=>exact h.elim
 .cases d with
  |nil=>exact hp _ h
  |cons _ _=>exact h.elim
 .cases d with
  |nil=>exact⟨ho,h⟩
  |cons _ _=>exact h.elim
theorem gu{gs:qY}(h1:lX X e g)(h2:qm X es gs)(hs:(assignEach (e::es) X.env).map (·.2)=assign e X.env::(assignEach es X.env).map (·.2):=by rfl):qm X (e::es) (cD g gs):=by
 obtain⟨t1,p1,k1⟩:=h1.t;obtain⟨t2,p2,k2⟩:=h2.t;refine⟨⟨_,mB p1 p2 hs,λW0 H0 W σ H ρ ds vs Q s r h=>?_⟩,λd ρ P P' hp h=>?_,λd ρ P ho h=>?_⟩
 .cases r with
  |nil=>exact h.elim
  |cons r rr=>exact⟨_,_,rfl,k1 W0 H0 W σ H ρ _ _ _ s r (h1.mono _ _ _ _ (λρ' h' σ' s'=>k2 W0 H0 W σ' H ρ' _ _ Q s' rr h') h)⟩
 .cases d with
  |nil=>exact h.elim
  |cons d ds=>exact h1.mono _ _ _ _ (λr hr=>h2.mono _ _ _ _ hp hr) h
 .cases d with
  |nil=>exact h.elim
  |cons d ds=>exact h1.mono _ _ _ _ (λr hr=>h2.own _ _ _ hr.1 hr.2) (h1.own _ _ _ ho h)
def dH(n:Nat)(gs:qY):WG:=λd ρ k=>match d with
 |.tup xs=>xs.length=n/\gs xs ρ k
 |_=>False
theorem l6{gs:qY}(hc:X.calm=true)(h:qm X es gs)(hn:(assignEach es X.env).length=n:=by rfl)(hst:(assignEach es X.env).findIdx? (·.1)=none:=by rfl):lX X (.Tuple es k pos) (dH n gs):=by
 obtain⟨t,p,kk⟩:=h.t;refine⟨⟨_,sd hc p hn hst,λW0 H0 W σ H ρ d v Q s r q=>?_⟩,λd ρ P P' hp q=>?_,λd ρ P ho q=>?_⟩
 .unfold dH at q
  split at q
  .obtain⟨a,vs,rfl,h1,rr⟩:=r.sqt s.ok
   exact⟨a,vs,rfl,h1,rr.length.trans q.1,kk W0 H0 W σ H ρ _ _ Q s rr q.2⟩
  .exact q.elim
 .unfold dH at q ⊢
  split at q
  .exact⟨q.1,h.mono _ _ _ _ hp q.2⟩
  .exact q.elim
 .unfold dH at q ⊢
  split at q
  .exact⟨q.1,h.own _ _ _ ho q.2⟩
  .exact q.elim
def dI(w:WE)(g:WG):WS:=λE N ρ=>w E ρ λd=>g d ρ N.nx
theorem yT(he:PX X EX e w)(hg:lX X tg g)(hs:swapsWithSole [tg] e pos.line X.env=pure false:=by rfl)(hw:swappedStores [tg] e X.env=pure none:=by rfl)
  (h1:(assignEach [tg] X.env).map (·.2)=[assign tg X.env]:=by rfl):PZ X EX (.Assign [tg] e pos) (dI w g):=by
 obtain⟨t,p,k⟩:=he.t;obtain⟨t2,p2,k2⟩:=hg.t;refine⟨⟨_,fg p p2 hs hw h1,λW0 H0 F W σ H ρ E Dn N s fl eo no h=>?_⟩,λE ρ N N' hl q=>he.mono _ _ _ _ (λd hd=>hg.mono _ _ _ _ hl.nx hd) q⟩;refine k W0 H0 W σ H ρ E _ s eo (he.mono _ _ _ _ (λd hd v W1 H1 x1 r1=>?_) h);exact k2 W0 H0 W1 σ H1 ρ d v _ (s.step x1) r1 (hg.mono _ _ _ _ (λρ' h' σ' s'=>no.nx W1 σ' H1 ρ' s' (fl.ext x1) h') hd)
def eF(i j:Nat)(t:WA):WS:=λE N ρ=>t E ρ λds=>match ds with
 |[x,y]=>N.nx ((ρ.set i (.d x)).set j (.d y))
 |_=>False
theorem BF(i j:Nat){y:Str}{px py pt:Pos}{kt k2 pt2}(hN:X.N.Nodup)(ha:jm X EX [a,b] t)(hc:X.calm=true:=by rfl)(hi:X.N[i]? = some x:=by rfl)(hj:X.N[j]? = some y:=by rfl)(hij:i≠j:=by decide)
  (hx:X.env.scope.names.lookup x=some .local:=by rfl) (hy:X.env.scope.names.lookup y=some .local:=by rfl)
  (hw:swappedStores [.Tuple [.Name x px,.Name y py] kt pt] (.Tuple [a,b] k2 pt2) X.env=pure (some [x,y]):=by rfl)
  (hs:swapsWithSole [.Tuple [.Name x px,.Name y py] kt pt] (.Tuple [a,b] k2 pt2) pos.line X.env=pure false:=by rfl) :
  PZ X EX (.Assign [.Tuple [.Name x px,.Name y py] kt pt] (.Tuple [a,b] k2 pt2) pos) (eF i j t):=by
 obtain⟨ta,p,k⟩:=ha.t;refine⟨⟨_,sf hc hN hi hj hij hx hy p hw hs,λW0 H0 F W σ H ρ E Dn N s fl eo no h=>?_⟩,λE ρ N N' hl q=>ha.mono _ _ _ _ (λds hd=>?_) q⟩
 .refine k W0 H0 W σ H ρ E _ s eo (ha.mono _ _ _ _ (λds hd vs W1 H1 x1 r1=>?_) h)
  split at hd
  .obtain⟨v,u,rfl,rv,ru⟩:=r1.two
   exact⟨v,u,rfl,no.nx W1 _ H1 _ (((s.step x1).set rv).set ru) (fl.ext x1) hd⟩
  .exact hd.elim
 .split at hd
  .exact hl.nx _ hd
  .exact hd.elim
def vR(c:WT)(zb:WS):WS:=λE N ρ=>∃I:Nat->bR->Prop,(∃m,I m ρ)/\∀m ρ,I m ρ->c E ρ λb=>
 if b=true then zb E { nx:=λρ'=>∃m',m'<m/\I m' ρ',rt:=N.rt,bk:=N.nx,ct:=λρ'=>∃m',m'<m/\I m' ρ' } ρ else N.nx ρ
theorem yU(hp:PassesOwn (model X.prog X.w) X.A X.env X.xe)(hc:jk X EX c wt)(hb:jn X EX body zb):PZ X EX (.While c body [] pos) (vR wt zb):=by
 obtain⟨tc,pc,kc⟩:=hc.t;obtain⟨tb,pb,kb⟩:=hb.t;refine⟨⟨_,mC hp pc pb,λW0 H0 F W σ H ρ E Dn N s fl eo no h=>?_⟩,λE ρ N N' hl q=>?_⟩
 .obtain⟨I,⟨m0,i0⟩,turn⟩:=h
  refine⟨λm σ H=>∃W ρ,SOk X.K W0 H0 W σ H ρ/\Wle F W/\I m ρ,⟨m0,W,ρ,s,fl,i0⟩,?_⟩;rintro m σ2 H2 ⟨W2,ρ2,s2,f2,i2⟩;refine kc W0 H0 W2 σ2 H2 ρ2 E _ s2 eo (hc.mono _ _ _ _ (λb hb' W3 H3 x3=>?_) (turn m ρ2 i2));cases b with
  |true=>
   rw[if_pos rfl] at hb' ⊢;refine⟨λσ4 H4=>∃m',m'<m/\∃W ρ,SOk X.K W0 H0 W σ4 H4 ρ/\Wle F W/\I m' ρ,λσ4 H4 ⟨m',hm,q⟩=>⟨m',hm,q⟩,?_⟩;exact kb W0 H0 F W3 σ2 H3 ρ2 E _ { nx:=λρ'=>∃m',m'<m/\I m' ρ',rt:=N.rt,bk:=N.nx,ct:=λρ'=>∃m',m'<m/\I m' ρ' } (s2.step x3) (f2.ext x3) eo
    ⟨λW5 σ5 H5 ρ5 s5 f5 ⟨m',hm,q⟩=>⟨m',hm,W5,ρ5,s5,f5,q⟩,no.rt,λW5 σ5 H5 ρ5 s5 f5 q=>no.nx W5 σ5 H5 ρ5 s5 f5 q,λW5 σ5 H5 ρ5 s5 f5 ⟨m',hm,q⟩=>⟨m',hm,W5,ρ5,s5,f5,q⟩⟩ hb'
  |false=>rw[if_neg (by decide)] at hb' ⊢;exact no.nx W3 σ2 H3 ρ2 (s2.step x3) (f2.ext x3) hb'
 .obtain⟨I,i0,turn⟩:=q
  refine⟨I,i0,λm ρ i=>hc.mono _ _ _ _ (λb hb'=>?_) (turn m ρ i)⟩;cases b with
  |true=>rw[if_pos rfl] at hb' ⊢;exact hb.mono E ρ { nx:=λρ'=>∃m',m'<m/\I m' ρ',rt:=N.rt,bk:=N.nx,ct:=λρ'=>∃m',m'<m/\I m' ρ' } _ ⟨λ_ z=>z,hl.rt,hl.nx,λ_ z=>z⟩ hb'
  |false=>rw[if_neg (by decide)] at hb' ⊢;exact hl.nx _ hb'
theorem Jx{tc:TT}(hc:PT X c tc)(hs:exec (.Assert c none pos) X.env=(do standAt pos;if<-isTrue c X.env (eval c X.env) then pure .next else assertFails c.pos (evalOpt none X.env)):=by rfl):PS X (.Assert c none pos) (λD σ H=>tc σ H λb H1=>b=true/\D.nx σ H1):=by
 intro pins s σ H D I h;rw[hs];refine NE (NX (NE (bA (hc pins s σ H _ I h) λb s1 ⟨H1,I1,e,q⟩=>?_)));subst e;rw[if_pos rfl];exact NG ⟨σ,H1,I1,q⟩
def ky(c:WT):WS:=λE N ρ=>c E ρ λb=>b=true/\N.nx ρ
theorem Jy(hc:jk X EX c wt)(hs:exec (.Assert c none pos) X.env=(do standAt pos;if<-isTrue c X.env (eval c X.env) then pure .next else assertFails c.pos (evalOpt none X.env)):=by rfl):PZ X EX (.Assert c none pos) (ky wt):=by
 obtain⟨tc,pc,kc⟩:=hc.t;refine⟨⟨_,Jx pc hs,λW0 H0 F W σ H ρ E Dn N s fl eo no h=>?_⟩,λE ρ N N' hl q=>hc.mono _ _ _ _ (λb hb=>⟨hb.1,hl.nx _ hb.2⟩) q⟩;exact kc W0 H0 W σ H ρ E _ s eo (hc.mono _ _ _ _ (λb hb W1 H1 x1=>⟨hb.1,no.nx W1 σ H1 ρ (s.step x1) (fl.ext x1) hb.2⟩) h)
def dg(i:Nat)(w:WE):WS:=λE N ρ=>match ρ[i]? with
 |some (.ow xs)=>w E ρ λd=>xs.length<small/\N.nx (ρ.set i (.ow (xs++[d])))
 |_=>False
theorem yV(i:Nat)(he:PX X EX e w)(hN:X.N[i]? = some x:=by rfl)(hv:kf X.env.scope x:=by first|exact Or.inl rfl|exact Or.inr (Or.inl rfl)|exact Or.inr (Or.inr rfl))(hd:(x==("__debug__" : Str))=false:=by decide)
  (hcd:(x==("__classdict__" : Str))=false:=by decide) (hbase:attributeBase (.Name x p) "append" X.env (eval (.Name x p) X.env)=eval (.Name x p) X.env:=by rfl)
  (hfew:((backTo cpos (starEach [e] X.env)).all (λx=>!x.1)&&(backToKw cpos (keywordEach [] X.env)).all (λx=>x.1.isSome)&&decide ([e].length+([]:List Keyword).length+(if([]:List Keyword).isEmpty then 0 else 1)<30))=true:=by rfl)
  (hline:(apos.endLine==cpos.line)=true:=by rfl) (hs:starEach [e] X.env=(false,eval e X.env)::starEach [] X.env:=by rfl) (hplain:(backTo cpos (starEach [] X.env)).any (·.1)=false:=by rfl)
  (hsw:swapsWith (.Call (.Attribute (.Name x p) "append" apos) [e] [] cpos) none pos.line X.env=pure false:=by rfl):PZ X EX (.Expr (.Call (.Attribute (.Name x p) "append" apos) [e] [] cpos) pos) (dg i w):=by
 obtain⟨t,pe,k⟩:=he.t;refine⟨⟨_,iD (mT PySem.F.plainAttrs_list PySem.F.slot_list_append PySem.F.type_list_append kT (c7 hN hv hd hcd) (gh pe iI hs) hbase hfew hline hs hplain) hsw,λW0 H0 F W σ H ρ E Dn N s fl eo no h=>?_⟩,λE ρ N N' hl q=>?_⟩
 .unfold dg at h
  split at h
  .rename_i xs ex
   obtain⟨a,vs,e1,e2,e3,e4,e5,r⟩:=s.o i xs ex;refine⟨_,e1,.inl ⟨rfl,vs,SqL.of e2⟩,?_⟩;refine k W0 H0 W σ H ρ E _ s eo (he.mono _ _ _ _ (λd hd v W1 H1 x1 r1=>?_) h);have e2':=x1.h a _ e2 e4;refine⟨a,vs,v,rfl,rfl,e2',by rw[r.length];exact cU hd.1 (lT (bP _)),?_⟩;exact no.nx W1 σ _ _ ((s.step x1).chg ex e1 ((x1.reps r).append (.cons r1 .nil))) (fl.ext x1) hd.2
  .exact h.elim
 .unfold dg at q ⊢
  split at q
  .exact he.mono _ _ _ _ (λd hd=>⟨hd.1,hl.nx _ hd.2⟩) q
  .exact q.elim
end
variable{gs:qY}
section
variable{ps:Pos}{a b:Expr}
theorem Rep.sq{W:Wd}{v:V}{Q:List D->Prop}(r:Rep K W v d)(h:isS Q d):∃κ l vs xs,v=.ref l/\Reps K W vs xs/\Q xs/\∀W2 H2,(∀a o,W.G a=some o->W2.G a=some o)->WOk W2 H2->Sq K κ H2 l vs:=by
 cases r with
 |lst e1 rr=>exact⟨false,_,_,_,rfl,rr,h,λW2 H2 g ok=>SqL.of (ok.g _ _ (g _ _ e1))⟩
 |tup e1 rr=>exact⟨true,_,_,_,rfl,rr,h,λW2 H2 g ok=>SqT.of (ok.g _ _ (g _ _ e1))⟩
 |ktup e1 rr=>exact⟨true,_,_,_,rfl,rr,h,λW2 H2 g ok=>.inr e1⟩
 |_=>exact h.elim
def dJ(xs ys:List D):List D:=List.zipWith (λx y=>.tup [x,y]) xs ys
def iZ(t:WA):WA:=λE ρ Q=>t E ρ λds=>match ds with
 |[x,y]=>isS (λxs=>isS (λys=>Q (dJ xs ys)) y) x
 |_=>False
theorem vS(hm:X.mg "zip" = none)(ha:jm X EX [a,b] t)(hg:Gl X "zip" :=by rfl)(hs:starEach [a,b] X.env=[(false,eval a X.env),(false,eval b X.env)]:=by rfl)(hs2:starEach [b] X.env=[(false,eval b X.env)]:=by rfl) :
  lh X EX (.Tuple es n1 ps) (.Call (.Name "zip" p) [a,b] [] pos) (iZ t):=by
 obtain⟨t,q,k⟩:=ha.t;refine⟨⟨_,Im hg hm q hs hs2,λW0 H0 W σ H ρ E R s eo h=>?_⟩,λE ρ P P' hp h=>ha.mono _ _ _ _ (λds hd=>?_) h⟩
 .refine k W0 H0 W σ H ρ E _ s eo (ha.mono _ _ _ _ (λds hd vs W1 H1 x1 r1=>?_) h)
  split at hd
  .obtain⟨v,u,rfl,rv,ru⟩:=r1.two
   obtain⟨κ,l,vs,xs,rfl,rr,hd,sq⟩:=rv.sq hd;obtain⟨κ',l',us,ys,rfl,rr',hd,sq'⟩:=ru.sq hd;refine⟨κ,κ',l,l',rfl,⟨vs,sq W1 H1 (λ_ _ z=>z) x1.ok⟩,⟨us,sq' W1 H1 (λ_ _ z=>z) x1.ok⟩,hd W1 H1 _ x1 λW2 H2 i g2 p2 ok2=>⟨λd hd=>?_,λhi=>?_⟩⟩
   .have s1:=sq W2 H2 g2 ok2
    have s2:=sq' W2 H2 g2 ok2;unfold dJ at hd;rw[List.getElem?_zipWith] at hd;cases ex:xs[i]? with
    |none=>rw[ex] at hd;cases hd
    |some x=>
     cases ey:ys[i]? with
     |none=>rw[ex,ey] at hd;cases hd
     |some y=>
      rw[ex,ey] at hd;cases hd;obtain⟨vx,evx,rvx⟩:=rr.get ex;obtain⟨vy,evy,rvy⟩:=rr'.get ey;refine⟨⟨vs,us,vx,vy,s1,s2,evx,evy⟩,λz H3 hy=>?_⟩;obtain⟨q,x',y',rfl,hq,rfl,e1,e2⟩:=hy;have e1:=e1 _ s1;have e2:=e2 _ s2;rw[evx] at e1;rw[evy] at e2;cases e1;cases e2;have xt:=Ext.put (o:=.tup [vx,vy]) ok2 hq;exact⟨_,xt,.tup (by unfold Wd.put;dsimp only;rw[aN]) (.cons (xt.rep (rvx.mono g2 p2)) (.cons (xt.rep (rvy.mono g2 p2)) .nil))⟩
   .refine⟨vs,us,sq W2 H2 g2 ok2,sq' W2 H2 g2 ok2,?_⟩
    rw[rr.length,rr'.length];unfold dJ at hi;rw[nI] at hi;omega
  .exact hd.elim
 .split at hd
  .exact isS.mono (λxs h1=>isS.mono (λys h2=>hp _ h2) _ h1) _ hd
  .exact hd.elim
def jy(i:Nat)(wi wv:WE):WS:=λE N ρ=>match ρ[i]? with
 |some (.ow xs)=>wv E ρ λd=>wi E ρ (isI λk=>∃j,jh xs.length k=some j/\N.nx (ρ.set i (.ow (xs.set j d))))
 |_=>False
theorem Jz(i:Nat){wi:WE}(hix:PX X EX ix wi)(he:PX X EX e wv)(hN:X.N[i]? = some x:=by rfl)(hv:kf X.env.scope x:=by first|exact Or.inl rfl|exact Or.inr (Or.inl rfl)|exact Or.inr (Or.inr rfl))(hd:(x==("__debug__" : Str))=false:=by decide)
  (hcd:(x==("__classdict__" : Str))=false:=by decide)
  (ha:∀ v,assign (.Subscript (.Name x p) ix spos) X.env v=(do
   let ov <-holding [v] (eval (.Name x p) X.env)
   let iv <-holding [v,ov] (eval ix X.env)
   standAt spos
   holding [v,ov,iv] (setItem ov iv v)
   release [v,ov,iv] []):=by intro _;rfl)
  (hs:swapsWithSole [.Subscript (.Name x p) ix spos] e pos.line X.env=pure false:=by rfl) (hw:swappedStores [.Subscript (.Name x p) ix spos] e X.env=pure none:=by rfl)
  (h1:(assignEach [.Subscript (.Name x p) ix spos] X.env).map (·.2)=[assign (.Subscript (.Name x p) ix spos) X.env]:=by rfl):PZ X EX (.Assign [.Subscript (.Name x p) ix spos] e pos) (jy i wi wv):=by
 obtain⟨t,pe,k⟩:=he.t;obtain⟨ti,pi,ki⟩:=hix.t;refine⟨⟨_,fg pe (gy (c7 hN hv hd hcd) pi dv ha) hs hw h1,λW0 H0 F W σ H ρ E Dn N s fl eo no h=>?_⟩,λE ρ N N' hl q=>?_⟩
 .unfold jy at h
  split at h
  .rename_i xs ex
   obtain⟨a,vs,e1,e2,e3,e4,e5,r⟩:=s.o i xs ex;refine k W0 H0 W σ H ρ E _ s eo (he.mono _ _ _ _ (λd hd v W1 H1 x1 r1=>⟨_,e1,?_⟩) h);refine ki W0 H0 W1 σ H1 ρ E _ (s.step x1) eo (hix.mono _ _ _ _ (λdi hdi vi W2 H2 x2 r2=>?_) hd);obtain⟨kk,rfl,j,hj,hn⟩:=lU hdi;cases r2;have xx:=x1.trans x2;have e2':=xx.h a _ e2 e4;refine⟨a,vs,kk,j,rfl,rfl,e2',by rw[r.length];exact hj,?_⟩;exact no.nx W2 σ _ _ ((s.step xx).chg ex e1 (Reps.set (x2.rep r1) j (xx.reps r))) (fl.ext xx) hn
  .exact h.elim
 .unfold jy at q ⊢
  split at q
  .exact he.mono _ _ _ _ (λd hd=>hix.mono _ _ _ _ (isI.mono λkk ⟨j,hj,hn⟩=>⟨j,hj,hl.nx _ hn⟩) hd) q
  .exact q.elim
end
mutual
def dR:D->Bool
 |.lst _=>false
 |.scr _=>false
 |.dic=>false
 |.tup xs=>jz xs
 |.non=>true
 |.bl _=>true
 |.int _=>true
 |.str _=>true
 |.pen=>true
 |.cls _=>true
 |.exc _=>true
 |.ty _=>true
def jz:List D->Bool
 |[]=>true
 |x::r=>dR x&&jz r
end
def Wd.rem(W:Wd)(a:Addr):Wd:=⟨λb=>if b=a then none else W.G b,W.Pn⟩
section
variable{W:Wd}
def Wd.rem_ne{b:Addr}(h:b≠a):(W.rem a).G b=W.G b:=by unfold Wd.rem;dsimp only;rw[if_neg h]
def Wd.rem_same:(W.rem a).G a=none:=by unfold Wd.rem;dsimp only;rw[if_pos rfl]
mutual
theorem Rep.rem(h:W.G a=some (.lst us)):∀{v:V} {d:D},Rep K W v d->dR d=true->Rep K (W.rem a) v d
 |_,_,.non,_=>.non
 |_,_,.bl b,_=>.bl b
 |_,_,.int i,_=>.int i
 |_,_,.str x,_=>.str x
 |_,_,.tup e r,f=>.tup (by rw[Wd.rem_ne (λz=>by rw[z,h] at e;cases e)];exact e) (Reps.rem h r (by rw[dR] at f;exact f))
 |_,_,.ktup e r,f=>.ktup e (Reps.rem h r (by rw[dR] at f;exact f))
 |_,_,.lst e r,f=>by rw[dR] at f;cases f
 |_,_,.scr e r,f=>by rw[dR] at f;cases f
 |_,_,.dic e,f=>by rw[dR] at f;cases f
 |_,_,.pen e,_=>.pen e
 |_,_,.cls e,_=>.cls e
 |_,_,.exc e n x,_=>.exc (by rw[Wd.rem_ne (λz=>by rw[z,h] at e;cases e)];exact e) n λc f k q=>let⟨d,e1,e2⟩:=x c f k q;⟨d,e1,by rw[Wd.rem_ne (λz=>by rw[z,h] at e2;cases e2)];exact e2⟩
 |_,_,.ty n,_=>.ty n
theorem Reps.rem(h:W.G a=some (.lst us)):∀{vs:List V} {ds:List D},Reps K W vs ds->jz ds=true->Reps K (W.rem a) vs ds
 |_,_,.nil,_=>.nil
 |_,_,.cons r t,f=>by
  rw[jz,dj] at f;exact .cons (Rep.rem h r f.1) (Reps.rem h t f.2)
end
theorem Ext.bor(x:Ext (W.put a (.lst us)) H W2 H2)(hg:W.G a=none):Ext W H (W2.rem a) H2 where
 ok:=⟨λb o e=>by
   by_cases hb:b=a
   .subst hb;rw[Wd.rem_same] at e;cases e
   .rw[Wd.rem_ne hb] at e;exact x.ok.g b o e,
  λb hb=>⟨(x.ok.p b hb).1,by
   by_cases hba:b=a
   .subst hba;exact Wd.rem_same
   .rw[Wd.rem_ne hba];exact(x.ok.p b hb).2⟩⟩
 g:=λb o e=>by
  have hb:b≠a:=λz=>by rw[z,hg] at e;cases e
  rw[Wd.rem_ne hb];exact x.g b o (by unfold Wd.put;dsimp only;rw[aG hb];exact e)
 p:=x.p
 gf:=λb e n=>by
  by_cases hb:b=a
  .subst hb;exact NH Wd.rem_same n
  .rw[Wd.rem_ne hb] at n
   exact x.gf b (by unfold Wd.put;dsimp only;rw[aG hb];exact e) n
 pf:=x.pf
 h:=x.h
theorem SOk.pubAt(s:SOk K W0 H0 W σ H ρ)(e:ρ[i]? = some (.ow xs))(e1:σ[i]? = some (some (V.ref a)))(e2:H a=some (.lst us))(e3:W.G a=none)(e4:¬W.Pn a)(e5:H0 a=none)(r:Reps K W us xs) :
  SOk K W0 H0 (W.put a (.lst us)) σ H (LP.pub i ρ):=by
 have ep:LP.pub i ρ=ρ.set i (.d (.lst xs)):=by unfold LP.pub;rw[e]
 rw[ep];have hi:i<ρ.length:=(Yaq.mp e).1;refine⟨s.ext.pub e5 e2 e4 e3,by rw[cL];exact s.len,λj y ej=>?_,λj ys ej=>?_,λj k ys zs b hjk ej ek e6=>?_,OOs.set ⟨λj xss ej=>let⟨a',bs,q1,q,n⟩:=s.oo.t j xss ej;⟨a',bs,q1,q.put (n i xs a e e1) e3,n⟩,s.oo.u⟩ (λ_ h=>by cases h) (λ_ _=>rfl) λ_ _ h=>by cases h⟩
 .by_cases h:i=j
  .subst h
   rw[dc hi] at ej;cases ej;exact⟨_,e1,.lst (by unfold Wd.put;dsimp only;rw[aN]) (r.mono (qk e3) λ_ z=>z)⟩
  .rw[cG h] at ej
   obtain⟨v,q1,q2⟩:=s.d j y ej;exact⟨v,q1,q2.mono (qk e3) λ_ z=>z⟩
 .have h:i≠j:=λh=>by subst h;rw[dc hi] at ej;cases ej
  rw[cG h] at ej;obtain⟨b,us',q1,q2,q3,q4,q5,rr⟩:=s.o j ys ej;have hba:b≠a:=λz=>s.ne i j xs ys a h e ej e1 (by rw[<-z];exact q1);refine⟨b,us',q1,q2,?_,q4,q5,rr.mono (qk e3) λ_ z=>z⟩;unfold Wd.put;dsimp only;rw[aG hba];exact q3
 .have h:i≠j:=λh=>by subst h;rw[dc hi] at ej;cases ej
  have h':i≠k:=λh=>by subst h;rw[dc hi] at ek;cases ek
  rw[cG h] at ej;rw[cG h'] at ek;exact s.ne j k ys zs b hjk ej ek e6
theorem SOk.lend(s:SOk K W0 H0 W σ H ρ)(i:Nat):(LP.pub i ρ=ρ)\/∃a us,SOk K W0 H0 (W.put a (.lst us)) σ H (LP.pub i ρ)/\W.G a=none/\H a=some (.lst us)/\(W.put a (.lst us)).G a=some (.lst us):=by
 cases e:ρ[i]? with
 |none=>exact .inl (by unfold LP.pub;rw[e])
 |some sv=>
  cases sv with
  |un=>exact .inl (by unfold LP.pub;rw[e])
  |d x=>exact .inl (by unfold LP.pub;rw[e])
  |oo xss=>exact .inl (by unfold LP.pub;rw[e])
  |ow xs=>
   obtain⟨a,us,e1,e2,e3,e4,e5,r⟩:=s.o i xs e;exact .inr ⟨a,us,s.pubAt e e1 e2 e3 e4 e5 r,e3,e2,by unfold Wd.put;dsimp only;rw[aN]⟩
end
section
variable{ps:Pos}{a b:Expr}
def fT(i:Nat)(w:WE):WE:=λE ρ Q=>w E (pub i ρ) λd=>dR d=true/\Q d
def eQ(i:Nat)(w:WT):WT:=λE ρ Q=>w E (pub i ρ) Q
theorem JA(i:Nat){w:WT}(he:jk X EX e w):jk X EX e (eQ i w):=by
 obtain⟨t,q,k⟩:=he.t;refine⟨⟨t,q,λW0 H0 W σ H ρ E Q s eo h=>?_⟩,λE ρ P P' hp h=>he.mono _ _ _ _ hp h⟩;unfold eQ at h;rcases s.lend i with ep|⟨a,us,s',e3,e2,e6⟩
 .rw[ep] at h
  exact k W0 H0 W σ H ρ E Q s eo h
 .exact k W0 H0 _ σ H _ E Q s' eo (he.mono _ _ _ _ (λd hd W2 H2 x2=>hd _ H2 (x2.bor e3)) h)
def aBor(i:Nat)(t:WA):WA:=λE ρ Q=>t E (pub i ρ) λds=>jz ds=true/\Q ds
theorem vT(i:Nat)(he:PXL X EX e t):PXL X EX e (aBor i t):=by
 obtain⟨t,q,k⟩:=he.t;refine⟨⟨t,q,λW0 H0 W σ H ρ E Q s eo h=>?_⟩,λE ρ P P' hp h=>he.mono _ _ _ _ (λd hd=>⟨hd.1,hp _ hd.2⟩) h⟩;unfold aBor at h;rcases s.lend i with ep|⟨a,us,s',e3,e2,e6⟩
 .rw[ep] at h
  exact k W0 H0 W σ H ρ E Q s eo (he.mono _ _ _ _ (λd hd=>hd.2) h)
 .refine k W0 H0 _ σ H _ E Q s' eo (he.mono _ _ _ _ (λd hd b vs W2 H2 x2 h1 h2 h3 h4 r2=>?_) h)
  have hb:b≠a:=λz=>by rw[z,e2] at h4;cases h4
  exact hd.2 b vs _ H2 (x2.bor e3) h1 (by rw[Wd.rem_ne hb];exact h2) h3 h4 (r2.rem (x2.g _ _ e6) hd.1)
def fU(i:Nat)(wb:WE):WE:=λE ρ Q=>match ρ[i]? with
 |some (.ow xs)=>wb E ρ (isI λk=>∃d,eD xs k=some d/\Q d)
 |_=>False
def NL(K:NF)(W:Wd)(H:Hp)(Q:VK)(ds:List D):Prop:=∀a vs W' H',Ext W H W' H'->H' a=some (.lst vs)->W'.G a=none->¬W'.Pn a->H a=none->Reps K W' vs ds->Q (.ref a) H'
theorem NL.new{K:NF}{W W1:Wd}{H H1:Hp}{Q:VK}{ds:List D}{vs:List V}(h:NL K W H Q ds)(x1:Ext W H W1 H1)(r:Reps K W1 vs ds){q:Addr}(hq:H1 q=none):Q (.ref q) (upd H1 q (.lst vs)):=
 h q vs W1 _ (x1.trans (.new x1.ok hq)) aN (x1.ok.fresh hq).1 (x1.ok.fresh hq).2 (x1.isN hq) r
def dS(wa wb:WE):WA:=λE ρ Q=>wa E ρ (isL λxs=>wb E ρ (isL λys=>xs.length+ys.length<=small/\Q (xs++ys)))
theorem yW(ha:PX X EX a wa)(hb:PX X EX b wb):PXL X EX (.BinOp a .Add b pos) (dS wa wb):=by
 obtain⟨ta,pa,ka⟩:=ha.t;obtain⟨tb,pb,kb⟩:=hb.t;refine⟨⟨_,mF Zmb pa pb,λW0 H0 W σ H ρ E Q s eo h=>?_⟩,λE ρ P P' hp h=>ha.mono _ _ _ _ (isL.mono λxs hx=>hb.mono _ _ _ _ (isL.mono λys hy=>⟨hy.1,hp _ hy.2⟩) hx) h⟩;refine ka W0 H0 W σ H ρ E _ s eo (ha.mono _ _ _ _ (λd hd v W1 H1 x1 r1=>?_) h);obtain⟨xs,rfl,hd⟩:=yR hd;refine kb W0 H0 W1 σ H1 ρ E _ (s.step x1) eo (hb.mono _ _ _ _ (λd hd u W2 H2 x2 r2=>?_) hd);obtain⟨ys,rfl,hd⟩:=yR hd;obtain⟨p,vs,rfl,h1,q1⟩:=(x2.rep r1).sql x2.ok;obtain⟨q,us,rfl,h2,q2⟩:=r2.sql x2.ok;exact⟨p,q,vs,us,rfl,rfl,h1,h2,by rw[q1.length,q2.length];exact lT hd.1,λa ha=>NL.new hd.2 (x1.trans x2) (q1.append q2) ha⟩
def eZ(wa wb:WE):WA:=λE ρ Q=>wa E ρ (isL λxs=>wb E ρ (isI λk=>k<1000/\-1000<k/\xs.length*k.toNat<=small/\Q (List.replicate k.toNat xs).flatten))
theorem JB(ha:PX X EX a wa)(hb:PX X EX b wb):PXL X EX (.BinOp a .Mult b pos) (eZ wa wb):=by
 obtain⟨ta,pa,ka⟩:=ha.t;obtain⟨tb,pb,kb⟩:=hb.t;refine⟨⟨_,mF mV pa pb,λW0 H0 W σ H ρ E Q s eo h=>?_⟩,λE ρ P P' hp h=>ha.mono _ _ _ _ (isL.mono λxs hx=>hb.mono _ _ _ _ (isI.mono λys hy=>⟨hy.1,hy.2.1,hy.2.2.1,hp _ hy.2.2.2⟩) hx) h⟩;refine ka W0 H0 W σ H ρ E _ s eo (ha.mono _ _ _ _ (λd hd v W1 H1 x1 r1=>?_) h);obtain⟨xs,rfl,hd⟩:=yR hd;refine kb W0 H0 W1 σ H1 ρ E _ (s.step x1) eo (hb.mono _ _ _ _ (λd hd u W2 H2 x2 r2=>?_) hd);obtain⟨kk,rfl,hd⟩:=lU hd;cases r2;cases x2.rep r1 with
 | @lst l vs _ e r=>
  refine⟨l,kk,vs,rfl,rfl,x2.ok.g _ _ e,by omega,by omega,?_,λq hq=>NL.new hd.2.2.2 (x1.trans x2) (BC r _) hq⟩;rw[r.length];exact lT hd.2.2.1
def aCut(wa:WE)(wl wh:(Ex->Prop)->bR->(Option Int->Prop)->Prop):WA:=λE ρ Q=>wa E ρ λx=>wl E ρ λl=>wh E ρ λh=>match x with
 |.lst xs=>Q (aY xs l h)
 |.scr xs=>Q (aY xs l h)
 |_=>False
theorem aCut.mono{wl wh}{lo hi:Option Expr}(ha:PX X EX a wa)(hl:t4 X EX lo wl)(hh:t4 X EX hi wh):∀E ρ P P',(∀d,P d->P' d)->aCut wa wl wh E ρ P->aCut wa wl wh E ρ P':=
 λE ρ P P' hp h=>ha.mono _ _ _ _ (λx hx=>hl.mono _ _ _ _ (λl hl'=>hh.mono _ _ _ _ (λu hu=>by
  split at hu
  .exact hp _ hu
  .exact hp _ hu
  .exact hu.elim) hl') hx) h
end
section
variable{W:Wd}{i j k:Int}
def Wd.pen(W:Wd)(a:Addr):Wd:=⟨W.G,λb=>b=a\/W.Pn b⟩
theorem Ext.pen(x:Ext W H W1 H1)(h:H a=none)(e:H1 a=some (.lst [.int i,.int j,.int k]))(ng:W1.G a=none):Ext W H (W1.pen a) H1 where
 ok:=⟨x.ok.g,λb hb=>by
  rcases hb with rfl|hb
  .exact⟨⟨i,j,k,e⟩,ng⟩
  .exact x.ok.p b hb⟩
 g:=x.g
 p:=λb hb=>.inr (x.p b hb)
 gf:=x.gf
 pf:=λb n hb=>by
  rcases hb with rfl|hb
  .exact h
  .exact x.pf b n hb
 h:=x.h
theorem Ext.ink(x:Ext W H W1 H1)(hp:W1.Pn a):Ext W H W1 (upd H1 a (.lst [.int i,.int j,.int k])) where
 ok:=⟨λb o e=>by
   have hb:b≠a:=λz=>by rw[z,(x.ok.p a hp).2] at e;cases e
   rw[aG hb];exact x.ok.g b o e,
  λb hb=>by
   by_cases hba:b=a
   .subst hba;exact⟨⟨i,j,k,aN⟩,(x.ok.p b hb).2⟩
   .obtain⟨⟨i',j',k',e⟩,n⟩:=x.ok.p b hb
    exact⟨⟨i',j',k',by rw[aG hba];exact e⟩,n⟩⟩
 g:=x.g
 p:=x.p
 gf:=x.gf
 pf:=x.pf
 h:=λb o e n=>by
  have q:=x.h b o e n;have hb:b≠a:=λz=>by subst z;have:=x.pf b n hp;rw[e] at this;cases this
  rw[aG hb];exact q
theorem SOk.ink(s:SOk K W0 H0 W σ H ρ)(hp:W.Pn a):SOk K W0 H0 W σ (upd H a (.lst [.int i,.int j,.int k])) ρ where
 ext:=s.ext.ink hp
 len:=s.len
 d:=s.d
 o:=λn ys e=>by
  obtain⟨b,vs,e1,e2,e3,e4,e5,r⟩:=s.o n ys e;exact⟨b,vs,e1,by rw[aG (λz=>e4 (by rw[z];exact hp))];exact e2,e3,e4,e5,r⟩
 ne:=s.ne
 oo:=⟨λn xss e=>let⟨a',bs,e1,q,m⟩:=s.oo.t n xss e;⟨a',bs,e1,q.upd (q.noPen hp),m⟩,s.oo.u⟩
end
section
variable{ps:Pos}{a b:Expr}
def e7(t:WA):WE:=λE ρ Q=>t E ρ λds=>(∃i j k,ds=[.int i,.int j,.int k])/\Q .pen
theorem JC(he:PXL X EX e t):PX X EX e (e7 t):=by
 obtain⟨t,q,k⟩:=he.t;refine⟨⟨t,q,λW0 H0 W σ H ρ E Q s eo h=>?_⟩,λE ρ P P' hp h=>he.mono _ _ _ _ (λd hd=>⟨hd.1,hp _ hd.2⟩) h⟩;refine k W0 H0 W σ H ρ E Q s eo (he.mono _ _ _ _ (λds hd a vs W1 H1 x1 e1 e2 e3 e4 r1=>?_) h);obtain⟨⟨i,j,k,rfl⟩,hd⟩:=hd;have ev:vs=[.int i,.int j,.int k]:=by
  cases r1 with|cons r t=>cases r;cases t with|cons r t=>cases r;cases t with|cons r t=>cases r;cases t;rfl
 subst ev;exact hd _ _ _ (x1.pen e4 e1 e2) (.pen (.inl rfl))
def dU:G2:=λx y Q=>x=.pen/\(y=.int 0\/y=.int 1\/y=.int 2)/\∀n,Q (.int n)
theorem vU:By X dU:=by
 refine⟨⟨_,mR,λW H x y dx dy Q ok rx ry hg=>?_⟩,λx y P P' hp h=>⟨h.1,h.2.1,λn=>hp _ (h.2.2 n)⟩⟩;obtain⟨rfl,hy,hq⟩:=hg;cases rx with
 | @pen a hp=>
  obtain⟨⟨i,j,k,e⟩,ng⟩:=ok.p a hp;have key:∀(m:Int) (v:V),eD [V.int i,.int j,.int k] m=some v->(∃n,v=.int n)->DD X.K (.ref a) (.int m) H Q:=λm v hv ⟨n,hn⟩=>by
   subst hn;exact .inl ⟨a,_,m,_,rfl,rfl,SqL.of e,hv,(hq n).now ok (.int n)⟩
  rcases hy with rfl|rfl|rfl
  .cases ry;exact key 0 (.int i) rfl ⟨i,rfl⟩
  .cases ry;exact key 1 (.int j) rfl ⟨j,rfl⟩
  .cases ry;exact key 2 (.int k) rfl ⟨k,rfl⟩
def eR(i:Nat)(wv:WE):WS:=λE N ρ=>ρ[i]? = some (.d .pen)/\wv E ρ (isI λ_=>N.nx ρ)
theorem D6(i:Nat)(m:Int){j}{ipos:Pos}(he:PX X EX e wv)(hm:m=0\/m=1\/m=2:=by decide)(hN:X.N[i]? = some x:=by rfl)(hv:kf X.env.scope x:=by first|exact Or.inl rfl|exact Or.inr (Or.inl rfl)|exact Or.inr (Or.inr rfl))(hd:(x==("__debug__" : Str))=false:=by decide)
  (hcd:(x==("__classdict__" : Str))=false:=by decide)
  (ha:∀ v,assign (.Subscript (.Name x p) (.Constant (.int m) j ipos) spos) X.env v=(do
   let ov <-holding [v] (eval (.Name x p) X.env)
   let iv <-holding [v,ov] (eval (.Constant (.int m) j ipos) X.env)
   standAt spos
   holding [v,ov,iv] (setItem ov iv v)
   release [v,ov,iv] []):=by intro _;rfl)
  (hs:swapsWithSole [.Subscript (.Name x p) (.Constant (.int m) j ipos) spos] e pos.line X.env=pure false:=by rfl) (hw:swappedStores [.Subscript (.Name x p) (.Constant (.int m) j ipos) spos] e X.env=pure none:=by rfl)
  (h1:(assignEach [.Subscript (.Name x p) (.Constant (.int m) j ipos) spos] X.env).map (·.2)=[assign (.Subscript (.Name x p) (.Constant (.int m) j ipos) spos) X.env]:=by rfl):PZ X EX (.Assign [.Subscript (.Name x p) (.Constant (.int m) j ipos) spos] e pos) (eR i wv):=by
 obtain⟨t,pe,k⟩:=he.t;refine⟨⟨_,fg pe (gy (c7 hN hv hd hcd) jH dv ha) hs hw h1,λW0 H0 F W σ H ρ E Dn N s fl eo no h=>?_⟩,λE ρ N N' hl q=>⟨q.1,he.mono _ _ _ _ (isI.mono λ_ hn=>hl.nx _ hn) q.2⟩⟩;obtain⟨hpen,h⟩:=h;obtain⟨v0,e0,r0⟩:=s.d i .pen hpen;cases r0 with
 | @pen a hp=>
  refine k W0 H0 W σ H ρ E _ s eo (he.mono _ _ _ _ (λd hd v W1 H1 x1 r1=>⟨_,e0,?_⟩) h);obtain⟨n,rfl,hn⟩:=lU hd;cases r1;have hp1:=x1.p a hp;obtain⟨⟨i',j',k',e'⟩,ng⟩:=x1.ok.p a hp1;rcases hm with rfl|rfl|rfl
  .exact⟨a,_,0,0,rfl,rfl,e',rfl,no.nx W1 σ _ ρ ((s.step x1).ink hp1) (fl.ext x1) hn⟩
  .exact⟨a,_,1,1,rfl,rfl,e',rfl,no.nx W1 σ _ ρ ((s.step x1).ink hp1) (fl.ext x1) hn⟩
  .exact⟨a,_,2,2,rfl,rfl,e',rfl,no.nx W1 σ _ ρ ((s.step x1).ink hp1) (fl.ext x1) hn⟩
end
abbrev eS:G2:=gI2 (λ_ _=>True) λi j=>.int (i-j)
abbrev qZ:G2:=gI2 (λ_ j=>j≠0) λi j=>.int (i.fmod j)
abbrev fV:G2:=gI2 Bz λi j=>.int (i.fdiv j)
abbrev BG:G2:=gI2 sk λi j=>.int (i^j.toNat)
abbrev fW:G2:=gI2 (λ_ _=>True) λi j=>.bl (decide (i<j))
abbrev jX:G2:=gI2 (λ_ _=>True) λi j=>.bl (decide (i<=j))
abbrev sS:G2:=gI2 (λ_ _=>True) λi j=>.bl (decide (i>j))
abbrev BH:G2:=gI2 (λ_ _=>True) λi j=>.bl (decide (i ≥ j))
abbrev nr:D->(D->Prop)->Prop:=λx Q=>isI (λi=>Q (.int (-i))) x
abbrev l7:WS:=λ_ _ _=>False
def fnS{α:Type}(enc:α->List D)(dom:α->Prop)(val:α->D):bN:=λds _ Q=>∃a,ds=enc a/\dom a/\Q (val a)
def fnS.mono{α:Type}{enc:α->List D}{dom:α->Prop}{val:α->D}:m8 (fnS enc dom val):=λds E E' Q Q' _ hQ ⟨a,h1,h2,h3⟩=>⟨a,h1,h2,hQ _ h3⟩
theorem fnS.len{α:Type}{enc:α->List D}{dom:α->Prop}{val:α->D}(hp:∀a,(enc a).length=ps.length):∀ds E Q,fnS enc dom val ds E Q->ds.length=ps.length:=λds E Q ⟨a,h1,_⟩=>by rw[h1];exact hp a
def exQ(E:Ex->Prop)(Q:D->Prop):Except Str D->Prop
 |.ok v=>Q v
 |.error e=>E e
def exQ.mono{E E':Ex->Prop}{Q':D->Prop}(hE:∀e,E e->E' e)(hQ:∀d,Q d->Q' d):∀r,exQ E Q r->exQ E' Q' r
 |.ok v,h=>hQ v h
 |.error e,h=>hE e h
def xS{α:Type}(enc:α->List D)(dom:α->Prop)(res:α->Except Str D):bN:=λds E Q=>∃a,ds=enc a/\dom a/\exQ E Q (res a)
theorem xS.mono{α:Type}{enc:α->List D}{dom:α->Prop}{res:α->Except Str D}:m8 (xS enc dom res):=λds E E' Q Q' hE hQ ⟨a,h1,h2,h3⟩=>⟨a,h1,h2,exQ.mono hE hQ _ h3⟩
theorem xS.ok{α:Type}{enc:α->List D}{dom:α->Prop}{res:α->Except Str D}{E:Ex->Prop}{v:D}(a:α)(h:ds=enc a)(hd:dom a)(e:res a=.ok v)(q:Q v):xS enc dom res ds E Q:=⟨a,h,hd,by rw[e];exact q⟩
theorem xS.err{α:Type}{enc:α->List D}{dom:α->Prop}{res:α->Except Str D}{E:Ex->Prop}{n:Str}(a:α)(h:ds=enc a)(hd:dom a)(e:res a=.error n)(q:E n):xS enc dom res ds E Q:=⟨a,h,hd,by rw[e];exact q⟩
theorem xS.len{α:Type}{enc:α->List D}{dom:α->Prop}{res:α->Except Str D}(hp:∀a,(enc a).length=ps.length):∀ds E Q,xS enc dom res ds E Q->ds.length=ps.length:=λds E Q ⟨a,h1,_⟩=>by rw[h1];exact hp a
def rlS{α:Type}(enc:α->List D)(dom:α->Prop)(rel:α->D->Prop):bN:=λds _ Q=>∃a,ds=enc a/\dom a/\∀d,rel a d->Q d
theorem rlS.mono{α:Type}{enc:α->List D}{dom:α->Prop}{rel:α->D->Prop}:m8 (rlS enc dom rel):=λds E E' Q Q' _ hQ ⟨a,h1,h2,h3⟩=>⟨a,h1,h2,λd r=>hQ _ (h3 d r)⟩
theorem rlS.len{α:Type}{enc:α->List D}{dom:α->Prop}{rel:α->D->Prop}(hp:∀a,(enc a).length=ps.length):∀ds E Q,rlS enc dom rel ds E Q->ds.length=ps.length:=λds E Q ⟨a,h1,_⟩=>by rw[h1];exact hp a
theorem Fp.of{P:Program}{w:World}{base:Heap}(h:FnOk P w K mg base (eY P w) k f fd ps (fN K S))(m:m8 S)(hm:mg x=some (.ref f))(kp:PySem.W.keepIn K (.ref f)=true)(hb:Binds K fd ps []) :
  Fp P w K mg base k x ps S:=⟨⟨f,fd,h,hm,kp,hb⟩,m⟩
section
variable{tail:bR}{Q:List D->Prop}
theorem ud{f:D->D}(h:∀d∈ds,∀Q:D->Prop,Q (f d)->we No (.d d::tail) Q):∀(sv:SV) (acc:List D),acc.length+ds.length<=small->Q (acc++ds.map f)->lcW (gN 0) cM we ds (sv::tail) acc Q:=by
 induction ds with
 |nil=>intro sv acc _ hq;simpa[lcW] using hq
 |cons d ds ih=>
  intro sv acc hl hq;rw[lcW];show we No (SV.d d::tail) _;refine h d (j5 ..) _ ⟨?_,?_⟩
  .rw[dY] at hl;omega
  .refine ih (λd hd=>h d (gI _ hd)) (.d d) _ ?_ ?_
   .rw[dM,j7];rw[dY] at hl;omega
   .rw[lN];exact hq
theorem JD{R:D->D->Prop}(h:∀d∈ds,∀Q:D->Prop,(∀y,R d y->Q y)->we No (.d d::tail) Q):∀(sv:SV) (acc:List D),acc.length+ds.length<=small->(∀ys,ys.length=ds.length->(∀y∈ys,∃d,d∈ds/\R d y)->Q (acc++ys))->lcW (gN 0) cM we ds (sv::tail) acc Q:=by
 induction ds with
 |nil=>intro sv acc _ hq;simpa[lcW] using hq [] rfl (by simp)
 |cons d ds ih=>
  intro sv acc hl hq;rw[lcW];show we No (SV.d d::tail) _;refine h d (j5 ..) _ λy hy=>⟨?_,?_⟩
  .rw[dY] at hl;omega
  .refine ih (λd hd=>h d (gI _ hd)) (.d d) _ ?_ λys hl' hys=>?_
   .rw[dM,j7];rw[dY] at hl;omega
   .rw[lN]
    refine hq (y::ys) (by rw[dY,dY,hl']) λz hz=>?_;rcases Yan.mp hz with rfl|hz
    .exact⟨d,j5 ..,hy⟩
    .obtain⟨d',h1,h2⟩:=hys z hz;exact⟨d',gI _ h1,h2⟩
end
mutual
def cX:D->Nat->Bool
 |.non,_=>true
 |.bl _,_=>true
 |.int _,_=>true
 |.str x,_=>PyData.canLay0 (.str x)
 |.tup xs,n=>decide (0<n)&&fX xs (n-1)
 |.lst xs,n=>decide (0<n)&&fX xs (n-1)
 |.dic,_=>false
 |.pen,_=>false
 |.cls _,_=>false
 |.exc _,_=>false
 |.ty _,_=>false
 |.scr _,_=>false
def fX:List D->Nat->Bool
 |[],_=>true
 |x::r,n=>cX x n&&fX r n
end
mutual
def pd:D->PyData
 |.non=>.none
 |.bl b=>.bool b
 |.int i=>.int i
 |.str x=>.str x
 |.tup xs=>.tuple (fG xs)
 |.lst xs=>.list (fG xs)
 |.dic=>.none
 |.pen=>.none
 |.cls _=>.none
 |.exc _=>.none
 |.ty _=>.none
 |.scr _=>.none
def fG:List D->List PyData
 |[]=>[]
 |x::r=>pd x::fG r
end
mutual
theorem vV:∀(x:D) (n:Nat),cX x n=true->gO x=some (pd x)/\(pd x).canLay0=true/\(pd x).depth<=n
 |.non,n,_=>⟨rfl,rfl,by rw[pd,PyData.depth];exact gJ _⟩
 |.bl _,n,_=>⟨rfl,rfl,by rw[pd,PyData.depth];exact gJ _⟩
 |.int _,n,_=>⟨rfl,rfl,by rw[pd,PyData.depth];exact gJ _⟩
 |.str x,n,h=>⟨rfl,by rw[cX] at h;exact h,by rw[pd,PyData.depth];exact gJ _⟩
 |.tup xs,n,h=>by
  rw[cX,dj,NI] at h;obtain⟨h1,h2,h3⟩:=BI xs (n-1) h.2;refine⟨by rw[gO,h1,pd];rfl,by rw[pd,PyData.canLay0];exact h2,by rw[pd,PyData.depth];omega⟩
 |.lst xs,n,h=>by
  rw[cX,dj,NI] at h;obtain⟨h1,h2,h3⟩:=BI xs (n-1) h.2;refine⟨by rw[gO,h1,pd];rfl,by rw[pd,PyData.canLay0];exact h2,by rw[pd,PyData.depth];omega⟩
 |.dic,n,h=>by rw[cX] at h;cases h
 |.pen,n,h=>by rw[cX] at h;cases h
 |.cls _,n,h=>by rw[cX] at h;cases h
 |.exc _,n,h=>by rw[cX] at h;cases h
 |.ty _,n,h=>by rw[cX] at h;cases h
 |.scr _,n,h=>by rw[cX] at h;cases h
theorem BI:∀(xs:List D) (n:Nat),fX xs n=true->fo xs=some (fG xs)/\PyData.canLayAll0 (fG xs)=true/\PyData.depthAll (fG xs)<=n
 |[],n,_=>⟨by rw[fo,fG],by rw[fG,PyData.canLayAll0],by rw[fG,PyData.depthAll];exact gJ _⟩
 |x::r,n,h=>by
  rw[fX,dj] at h;obtain⟨h1,h2,h3⟩:=vV x n h.1;obtain⟨q1,q2,q3⟩:=BI r n h.2;exact⟨by rw[fo,h1,q1,fG],by rw[fG,PyData.canLayAll0,h2,q2];rfl,by rw[fG,PyData.depthAll];omega⟩
end
def jA(x y:D):Bool:=PyData.eqv (pd x) (pd y)
theorem rc{x:D}{neg:Bool}(hx:cX x 60=true)(hy:cX y 60=true)(h:Q (.bl (if neg then !jA x y else jA x y))):gEq neg x y Q:=by
 obtain⟨a1,a2,a3⟩:=vV x 60 hx;obtain⟨b1,b2,b3⟩:=vV y 60 hy;refine⟨pd x,pd y,a1,b1,?_,?_,h⟩
 .unfold PySem.SeqAt.shaped;rw[a2,NK (by omega)];rfl
 .unfold PySem.SeqAt.shaped;rw[b2,NK (by omega)];rfl
mutual
theorem D7:∀p:PyData,p.canLay0=true->PyData.eqv p p=true
 |.none,_=>by rw[PyData.eqv]
 |.bool b,_=>by rw[PyData.eqv];exact NV b
 |.int i,_=>by rw[PyData.eqv];exact NV i
 |.str x,_=>by rw[PyData.eqv];exact NV x
 |.list xs,h=>by rw[PyData.eqv];exact BJ xs (by rw[PyData.canLay0] at h;exact h)
 |.tuple xs,h=>by rw[PyData.eqv];exact BJ xs (by rw[PyData.canLay0] at h;exact h)
 |.dict _,h=>by rw[PyData.canLay0] at h;cases h
theorem BJ:∀ps:List PyData,PyData.canLayAll0 ps=true->PyData.eqvAll ps ps=true
 |[],_=>by rw[PyData.eqvAll]
 |p::ps,h=>by
  rw[PyData.canLayAll0,dj] at h;rw[PyData.eqvAll,D7 p h.1,BJ ps h.2];rfl
end
def D8{x:D}(h:cX x n=true):jA x x=true:=D7 _ (vV x n h).2.1
def JE{x:D}{neg:Bool}(hx:cX x 60=true)(h:Q (.bl (!neg))):gEq neg x x Q:=by
 refine rc hx hx ?_;rw[D8 hx];cases neg<;>exact h
def yX(i:Int)(n:Nat):cX (.int i) n=true:=by rw[cX]
theorem D9(h:∀x∈xs,cX x n=true):fX xs n=true:=by
 induction xs with
 |nil=>rw[fX]
 |cons x xs ih=>rw[fX,h x (j5 ..),ih λy hy=>h y (gI _ hy)];rfl
def vW(h:∀x∈xs,cX x n=true):cX (.tup xs) (n+1)=true:=by rw[cX,D9 (n:=n+1-1) h];simp
def BK(h:∀x∈xs,cX x n=true):cX (.lst xs) (n+1)=true:=by rw[cX,D9 (n:=n+1-1) h];simp
mutual
theorem BL:∀(x:D) {n m:Nat},n<=m->cX x n=true->cX x m=true
 |.non,_,_,_,_=>by rw[cX]
 |.bl _,_,_,_,_=>by rw[cX]
 |.int _,_,_,_,_=>by rw[cX]
 |.str x,_,_,_,h=>by rw[cX] at h ⊢;exact h
 |.tup xs,n,m,l,h=>by
  rw[cX,dj,NI] at h ⊢;exact⟨by omega,BM xs (by omega) h.2⟩
 |.lst xs,n,m,l,h=>by
  rw[cX,dj,NI] at h ⊢;exact⟨by omega,BM xs (by omega) h.2⟩
 |.dic,_,_,_,h=>by rw[cX] at h;cases h
 |.pen,_,_,_,h=>by rw[cX] at h;cases h
 |.cls _,_,_,_,h=>by rw[cX] at h;cases h
 |.exc _,_,_,_,h=>by rw[cX] at h;cases h
 |.ty _,_,_,_,h=>by rw[cX] at h;cases h
 |.scr _,_,_,_,h=>by rw[cX] at h;cases h
theorem BM:∀(xs:List D) {n m:Nat},n<=m->fX xs n=true->fX xs m=true
 |[],_,_,_,_=>by rw[fX]
 |x::r,n,m,l,h=>by
  rw[fX,dj] at h ⊢;exact⟨BL x l h.1,BM r l h.2⟩
end
def aO(q:Rat):D:=.tup [.int q.num,.int (q.den:Int)]
def aF(r:List Rat):D:=.tup (r.map aO)
def Sz(n:Nat)(q:Rat):Prop:=q.num.natAbs<2^n/\q.den<2^n
def Sz.mono(l:n<=m)(h:Sz n q):Sz m q:=
 have:=j8 (n:=2) (by decide) l
 ⟨cU h.1 this,cU h.2 this⟩
theorem Ea{a:Int}{g:Nat}(hg:g≠0)(h:(g:Int)∣a):(a/(g:Int)).natAbs<=a.natAbs:=by
 obtain⟨c,rfl⟩:=h;have hg':(g:Int)≠0:=by exact_mod_cast hg
 rw[Ay _ hg',eu,kJ];exact Nat.le_mul_of_pos_left _ (by omega)
theorem Eb(a:Int)(hb:b≠0):(mkRat a b).num.natAbs<=a.natAbs/\(mkRat a b).den<=b:=by
 rw[Rat.num_mkRat,Rat.den_mkRat,if_neg hb,if_neg hb];refine⟨Ea (λz=>?_) (Int.ofNat_dvd_left.mpr (Nat.gcd_dvd_right ..)),Nat.div_le_self _ _⟩;rw[Nat.gcd_eq_zero_iff] at z;exact hb z.1
theorem ls{a:Nat}(h:a<2^n)(h':b<2^m):a*b<2^(n+m):=by
 rw[kK];rcases Nat.eq_zero_or_pos a with rfl|ha
 .rw[Nat.zero_mul];exact Nat.mul_pos (xP (by decide)) (xP (by decide))
 .exact cU (Nat.mul_lt_mul_of_pos_left h' ha) (mq _ (jC h))
theorem Sz.add{p:Rat}(h:Sz n p)(h':Sz m q):Sz (n+m+1) (p+q):=by
 rw[Rat.add_def'];have z:p.den*q.den≠0:=Az p.den_nz q.den_nz;have:=Eb (p.num*q.den+q.num*p.den) z;have a1:=ls h.1 h'.2;have a2:=ls h'.1 h.2;have a3:=ls h.2 h'.2;rw[Nat.add_comm m n] at a2;have e:2^(n+m+1)=2^(n+m)+2^(n+m):=by rw[rD];omega
 have t:=qD (p.num*q.den) (q.num*p.den);rw[eu,eu,kJ,kJ] at t;exact⟨by omega,by omega⟩
def Sz.neg{p:Rat}(h:Sz n p):Sz n (-p):=⟨by rw[Rat.neg_num,Int.natAbs_neg];exact h.1,h.2⟩
def Sz.sub{p:Rat}(h:Sz n p)(h':Sz m q):Sz (n+m+1) (p-q):=by rw[Rat.sub_eq_add_neg];exact h.add h'.neg
theorem Sz.mul{p:Rat}(h:Sz n p)(h':Sz m q):Sz (n+m) (p*q):=by
 rw[Rat.mul_def'];have z:p.den*q.den≠0:=Az p.den_nz q.den_nz;have:=Eb (p.num*q.num) z;have a1:=ls h.1 h'.1;have a3:=ls h.2 h'.2;rw[eu] at this;exact⟨by omega,by omega⟩
theorem Sz.inv{p:Rat}(h:Sz n p):Sz n p⁻¹:=by
 unfold Sz;rw[Rat.num_inv,Rat.den_inv,eu,kJ];have:=p.den_pos;have h1:=h.1;have h2:=h.2;constructor
 .rcases Int.lt_trichotomy p.num 0 with z|z|z
  .rw[Dx z];simpa using h2
  .rw[z];simp;omega
  .rw[Int.sign_eq_one_of_pos z];simpa using h2
 .split
  .omega
  .exact h1
def Sz.div{p:Rat}(h:Sz n p)(h':Sz m q):Sz (n+m) (p/q):=by rw[hU];exact h.mul h'.inv
def Sz.int(i:Int)(hn:0<n)(h:i.natAbs<2^n):Sz n (i:Rat):=⟨by rw[xQ];exact h,by rw[xR];exact xT (by omega)⟩
def Sz.zero(hn:0<n):Sz n (0:Rat):=⟨by rw[Rat.zero_num];exact Nat.two_pow_pos n,by rw[Rat.zero_den];exact xT (by omega)⟩
def Sz.bd(h:Sz n q)(l:n<=8990):Bd q.num/\Bd (q.den:Int):=by
 have:=h.mono l;exact⟨this.1,by unfold Bd;rw[kJ];exact this.2⟩
def B2(p q:Rat):Prop:=∃n m,Sz n p/\Sz m q/\n+m<8990
def B2.of{p:Rat}(h:Sz n p)(h':Sz m q)(l:n+m<8990):B2 p q:=⟨n,m,h,h',l⟩
theorem B2.mul{p:Rat}(h:B2 p q):qV p.num q.den/\qV q.num p.den/\qV p.den q.den/\qV p.num q.num/\Bd ((p.den:Int)*q.den)/\(p.den:Int)*q.den≠0/\qV p.den q.num/\(Bd ((p.den:Int)*q.num)):=by
 obtain⟨n,m,h1,h2,l⟩:=h;have b1:=h1.bd (by omega);have b2:=h2.bd (by omega);refine⟨⟨b1.1,b2.2⟩,⟨b2.1,b1.2⟩,⟨b1.2,b2.2⟩,⟨b1.1,b2.1⟩,?_,?_,⟨b1.2,b2.1⟩,?_⟩
 .have:=ls h1.2 h2.2
  unfold Bd;rw[eu,kJ,kJ];exact cU this (j8 (by decide) (by omega))
 .have:=Az p.den_nz q.den_nz
  exact_mod_cast this
 .have:=ls h1.2 h2.1
  unfold Bd;rw[eu,kJ];exact cU this (j8 (by decide) (by omega))
def cE:List Rat->List Rat->Rat
 |[],_=>0
 |_::_,[]=>0
 |x::xs,y::ys=>x*y+cE xs ys
def Ed(q:Rat)(n:Nat):cX (aO q) (n+1)=true:=vW (by simp[cX])
def aP(xs:List Int):D:=.tup (xs.map .int)
def gQ(xs:List Int):D:=.lst (xs.map .int)
def sT(xs:List Int)(n:Nat):cX (aP xs) (n+1)=true:=vW λx hx=>by
 obtain⟨i,_,rfl⟩:=YbS.mp hx;rw[cX]
theorem Ee{t b:Int}(hb:b≠0):(t.fdiv (if b<0 then -(Int.gcd t b:Int) else(Int.gcd t b:Int))=(Rat.divInt t b).num)/\(b.fdiv (if b<0 then -(Int.gcd t b:Int) else(Int.gcd t b:Int))=((Rat.divInt t b).den:Int)):=by
 have hg:0<Int.gcd t b:=AA _ hb;have hg':(0:Int)<(Int.gcd t b:Int):=by exact_mod_cast hg
 obtain⟨c,hc⟩:=Int.gcd_dvd_left (a:=t) (b:=b);obtain⟨d,hd⟩:=Int.gcd_dvd_right (a:=t) (b:=b);rw[Rat.num_divInt,Rat.den_divInt,if_neg hb,Int.gcd_comm b t];generalize Int.gcd t b=g at *;subst hc hd;have gne:(g:Int)≠0:=by omega
 split
 .rename_i h
  have hd:d<0:=by
   rcases Int.lt_or_le d 0 with z|z
   .exact z
   .have:=Int.mul_nonneg (Int.le_of_lt hg') z;omega
  rw[Dx h];constructor
  .rw[show(g:Int)*c=(-(g:Int))*(-c) by rw[xW],xX _ (by omega),xW,show(-1:Int)*((g:Int)*c)=(g:Int)*(-c) by rw[Int.neg_mul,Int.one_mul,Int.mul_neg],Ay _ gne]
  .rw[show(g:Int)*d=(-(g:Int))*(-d) by rw[xW],xX _ (by omega),xW,eu,kJ,Nat.mul_div_cancel_left _ hg]
   omega
 .rename_i h
  have hd:0<d:=by
   rcases Int.lt_or_le 0 d with z|z
   .exact z
   .exfalso
    have h1:(g:Int)*d<=0:=by
     have:=Int.mul_le_mul_of_nonneg_left z (Int.le_of_lt hg')
     rwa [Int.mul_zero] at this
    omega
  have hp:0<(g:Int)*d:=Int.mul_pos hg' hd;rw[Int.sign_eq_one_of_pos hp,Int.one_mul];constructor
  .rw[xX _ gne,Ay _ gne]
  .rw[xX _ gne,eu,kJ,Nat.mul_div_cancel_left _ hg]
   omega
mutual
def kd:D->Bool
 |.tup xs=>decide (xs.length<=5000)&&re xs
 |.lst xs=>decide (xs.length<=5000)&&re xs
 |.non=>true
 |.bl _=>true
 |.int _=>true
 |.str _=>true
 |.dic=>true
 |.pen=>false
 |.cls _=>false
 |.exc _=>false
 |.ty _=>false
 |.scr _=>false
def re:List D->Bool
 |[]=>true
 |x::r=>kd x&&re r
end
theorem Ef:∀{xs:List D},re xs=true->∀x∈xs,kd x=true
 |x::r,h,y,hy=>by
  rw[re,dj] at h;rcases Yan.mp hy with rfl|hy
  .exact h.1
  .exact Ef h.2 y hy
def BN:∀{xs:List D},(∀x∈xs,kd x=true)->re xs=true
 |[],_=>by rw[re]
 |x::r,h=>by rw[re,h x (j5 ..),BN λy hy=>h y (gI _ hy)];rfl
def qo(h:kd (.tup xs)=true):xs.length<=5000/\∀x∈xs,kd x=true:=by
 rw[kd,dj,NI] at h;exact⟨h.1,Ef h.2⟩
def lu(h1:xs.length<=5000)(h2:∀x∈xs,kd x=true):kd (.tup xs)=true:=by rw[kd,NK h1,BN h2];rfl
def Eg(h1:xs.length<=5000)(h2:∀x∈xs,kd x=true):kd (.lst xs)=true:=by rw[kd,NK h1,BN h2];rfl
def vX{x:D}(h:kd x=true):∃t,yP x=some t:=by
 cases x<;>first
  |exact⟨_,rfl⟩
  |(rw[kd] at h;cases h)
def Ei(q:Rat):kd (aO q)=true:=lu (by simp) (by simp[kd])
def sU(h:r.length<=5000):kd (aF r)=true:=lu (by simpa using h) λx hx=>by
 obtain⟨q,_,rfl⟩:=YbS.mp hx;exact Ei q
def Ej{r:List Int}(h:r.length<=5000):kd (aP r)=true:=lu (by simpa using h) λx hx=>by
 obtain⟨q,_,rfl⟩:=YbS.mp hx;rw[kd]
def l8:D->Bool
 |.int _=>true
 |_=>false
def jY(l m:Int):D->Bool
 |.int i=>decide (l<=i)&&decide (i<=m)
 |_=>false
def lv(l m:Int):D->Bool
 |.tup xs=>xs.all (jY l m)
 |_=>false
def cN:D->Bool
 |.tup [.int t,.int b]=>decide (0<b)&&(Int.gcd t b==1)
 |_=>false
def fY(n:Int):D->Bool
 |.tup xs=>((xs.length:Int)==n)&&xs.all cN
 |_=>false
def vY(l m:Int):D->Bool
 |.tup xs=>decide (l<=(xs.length:Int))&&decide ((xs.length:Int)<=m)&&xs.all cN
 |_=>false
def ue:bN:=fnS (λx:D=>[x]) (λx=>kd x=true) λx=>.bl (l8 x)
def BO:bN:=fnS (λx:D×Int×Int=>[x.1,.int x.2.1,.int x.2.2]) (λx=>kd x.1=true) λx=>.bl (jY x.2.1 x.2.2 x.1)
def yY:bN:=fnS (λx:D×Int×Int=>[x.1,.int x.2.1,.int x.2.2]) (λx=>kd x.1=true) λx=>.bl (lv x.2.1 x.2.2 x.1)
def yZ:bN:=fnS (λx:Int×Int=>[.int x.1,.int x.2]) (λ_=>True) λx=>.int (Int.gcd x.1 x.2)
def BP:bN:=fnS (λx:D=>[x]) (λx=>kd x=true) λx=>.bl (cN x)
def y0:bN:=fnS (λx:D×Int×Int=>[x.1,.int x.2.1,.int x.2.2]) (λx=>kd x.1=true) λx=>.bl (vY x.2.1 x.2.2 x.1)
def y2:bN:=fnS (λx:D×Int=>[x.1,.int x.2]) (λx=>kd x.1=true) λx=>.bl (fY x.2 x.1)
def sV:bN:=fnS (λx:Int×Int=>[.int x.1,.int x.2]) (λx=>x.2≠0/\Bd x.2) λx=>aO (Rat.divInt x.1 x.2)
def vZ:bN:=fnS (λx:Rat×Rat=>[aO x.1,aO x.2]) (λx=>B2 x.1 x.2) λx=>aO (x.1+x.2)
def uf:bN:=fnS (λx:Rat×Rat=>[aO x.1,aO x.2]) (λx=>B2 x.1 x.2) λx=>aO (x.1-x.2)
def sW:bN:=fnS (λx:Rat×Rat=>[aO x.1,aO x.2]) (λx=>B2 x.1 x.2) λx=>aO (x.1*x.2)
def nu:bN:=fnS (λx:Rat×Rat=>[aO x.1,aO x.2]) (λx=>B2 x.1 x.2/\x.2≠0) λx=>aO (x.1/x.2)
def ly(b:Bool)(xs:List D):D:=if b then .tup xs else .lst xs
def v3:bN:=fnS (λx:Bool×List Int=>[ly x.1 (x.2.map .int)]) (λx=>x.2.length<=5000) λx=>aF (x.2.map λ(i:Int)=>(i:Rat))
def BR(p q:List Rat):Prop:=∃n m,(∀x∈p,Sz n x)/\(∀x∈q,Sz m x)/\p.length*(n+m+1)+(n+m)+1<8990
def v4:bN:=fnS (λx:(Bool×Bool)×List Rat×List Rat=>[ly x.1.1 (x.2.1.map aO),ly x.1.2 (x.2.2.map aO)]) (λx=>BR x.2.1 x.2.2) λx=>aO (cE x.2.1 x.2.2)
structure IsSl(s:List Int)(n:Nat):Prop where
 len:s.length+1=2*n
 n1:1<=n
 n5:n<=5
 b:∀x∈s,-50<=x/\x<=50
def tbl(s:List Int)(n:Nat):List (List Int):=(List.range n).map λi=>(s.drop (n-1-i)).take n
def iY(s:List Int)(n:Nat):D:=.lst ((tbl s n).map gQ)
def fZ:D->Bool
 |.tup xs=>xs.all (jY (-50) 50)&&decide (xs.length%2=1)&&decide (xs.length<=9)
 |_=>false
abbrev SL:=List Int×Nat
def qp:bN:=fnS (λx:List D=>[.tup x]) (λx=>x.length<=5000) λx=>.int (((x.length:Int)+1)/2)
def v6:bN:=fnS (λx:D=>[x]) (λx=>kd x=true) λx=>.bl (fZ x)
def y3:D->Int
 |.int i=>i
 |_=>0
def sI:D->List Int
 |.tup xs=>xs.map y3
 |_=>[]
def sN(x:D):Nat:=((sI x).length+1)/2
def ir(x:D)(v:Except Str D):Except Str D:=if fZ x=true then v else .error "NoSlants"
def rf:bN:=xS (λx:D=>[x]) (λx=>kd x=true) λx=>ir x (.ok .non)
def y4:bN:=xS (λx:D=>[x]) (λx=>kd x=true) λx=>ir x (.ok (iY (sI x) (sN x)))
def BQ(n:Int):D->Bool
 |.lst xs=>((xs.length:Int)==n)&&xs.all l8
 |_=>false
def sX:D->Bool
 |.lst xs=>!(xs.length==0)&&xs.all (BQ xs.length)
 |_=>false
def hd(r:List Int):Int:=r.headD 0
def y6:bN:=xS (λx:D=>[x]) (λx=>kd x=true) λx=>ir x (.ok (aP (sI x).reverse))
def cor(s:List Int)(n k:Nat):List Int:=(s.drop (n-k)).take (2*k-1)
def sY:bN:=xS (λx:D×D=>[x.1,x.2]) (λx=>kd x.1=true/\kd x.2=true) λx=>ir x.1 (.ok (.bl (fY (sN x.1) x.2)))
def dF(r:List Int):List Rat:=r.map λ(i:Int)=>(i:Rat)
def y8:bN:=fnS (λx:SL=>[aP x.1]) (λx=>IsSl x.1 x.2) λx=>.lst ((tbl x.1 x.2).map λr=>aF (dF r))
def cT(s:List Int)(n:Nat)(r:List Rat):List Rat:=(tbl s n).map λline=>cE (dF line) r
def BS(r:List Rat):Prop:=∃m,(∀x∈r,Sz m x)/\m<=1400
def y9:D->Rat
 |.tup [.int t,.int b]=>Rat.divInt t b
 |_=>0
def rQ:D->List Rat
 |.tup xs=>xs.map y9
 |_=>[]
def za:bN:=xS (λx:D×D=>[x.1,x.2]) (λx=>kd x.1=true/\kd x.2=true/\∀r,x.2=aF r->BS r) λx=>ir x.1 (if fY (sN x.1) x.2=true then .ok (aF (cT (sI x.1) (sN x.1) (rQ x.2))) else .error "NoRow")
section
variable{E:Ex->Prop}{x:D}{l m a b:Int}{p:Rat}
def JF(h:kd x=true)(q:Q (.bl (lv l m x))):yY [x,.int l,.int m] E Q:=⟨(x,l,m),rfl,h,q⟩
def JG(h:kd x=true)(q:Q (.bl (vY l m x))):y0 [x,.int l,.int m] E Q:=⟨(x,l,m),rfl,h,q⟩
def JH(h:kd x=true)(q:Q (.bl (fY a x))):y2 [x,.int a] E Q:=⟨(x,a),rfl,h,q⟩
def Ek(h:B2 p q)(z:Q (aO (p-q))):uf [aO p,aO q] E Q:=⟨(p,q),rfl,h,z⟩
def JI(h:B2 p q)(z:Q (aO (p*q))):sW [aO p,aO q] E Q:=⟨(p,q),rfl,h,z⟩
def v7(h:B2 p q)(h':q≠0)(z:Q (aO (p/q))):nu [aO p,aO q] E Q:=⟨(p,q),rfl,⟨h,h'⟩,z⟩
def El{xs:List Int}(h:xs.length<=5000)(q:Q (aF (dF xs))):v3 [gQ xs] E Q:=⟨(false,xs),rfl,h,q⟩
def Em{p q:List Rat}(h:BR p q)(z:Q (aO (cE p q))):v4 [aF p,aF q] E Q:=⟨((true,true),p,q),rfl,h,z⟩
def IsSl.l9(h:IsSl s n):s.length<=9:=by have:=h.len;have:=h.n5;omega
def En(h:xs.length<=5000)(q:Q (.int (((xs.length:Int)+1)/2))):qp [.tup xs] E Q:=⟨xs,rfl,h,q⟩
theorem zd(h:IsSl s n)(q:Q (.int n)):qp [aP s] E Q:=by
 have:=h.l9;have:=h.len;refine En (by simp;omega) ?_;have e:(((s.map D.int).length:Int)+1)/2=n:=by rw[bL];omega
 rw[e];exact q
def JJ(h:kd x=true)(q:Q (.bl (fZ x))):v6 [x] E Q:=⟨x,rfl,h,q⟩
theorem JK(h:IsSl s n):fZ (aP s)=true:=by
 unfold fZ aP;simp only[bL];have hl:=h.len;have h5:=h.n5;have h1:=h.n1;rw[NK (by omega:s.length%2=1),NK (by omega:s.length<=9),uD,uD,Ybh];intro x hx;obtain⟨i,hi,rfl⟩:=YbS.mp hx;have:=h.b i hi;simp[jY,this.1,this.2]
def IsSl.kd{s:List Int}{n:Nat}(h:IsSl s n):kd (aP s)=true:=Ej (by have:=h.l9;omega)
theorem Eo(q:Rat):cN (aO q)=true:=by
 unfold cN aO;have h1:(0:Int)<(q.den:Int):=by exact_mod_cast q.den_pos
 have h2:Int.gcd q.num (q.den:Int)=1:=q.reduced;simp[h2,q.den_pos]
def v8(r:List Rat):fY r.length (aF r)=true:=by
 unfold fY aF;simp[Eo]
def gR(s:List Int):sI (aP s)=s:=by show(s.map D.int).map y3=s;rw[dk];exact(ja λ_ _=>rfl).trans (List.map_id _)
def IsSl.sN(h:IsSl s n):sN (aP s)=n:=by unfold LP.sN;rw[gR];have:=h.len;omega
def iu(h:IsSl s n){v:Except Str D}:ir (aP s) v=v:=by unfold ir;rw[JK h,if_pos rfl]
def nR{v:Except Str D}(h:fZ x=false):ir x v=.error "NoSlants" :=by unfold ir;rw[h,if_neg (by decide)]
theorem sZ(h:fZ x=true):∃s n,x=aP s/\IsSl s n:=by
 cases x<;>try (cases h;done)
 rename_i xs;simp only[fZ,dj,NI,Ybh] at h;obtain⟨⟨h1,h2⟩,h3⟩:=h;have e:xs=(xs.map y3).map D.int:=by
  rw[dk];refine((ja λx hx=>?_).trans (List.map_id _)).symm;have:=h1 x hx;cases x<;>first|rfl|cases this
 refine⟨xs.map y3,(xs.length+1)/2,by unfold aP;rw[<-e],⟨by rw[bL];omega,by omega,by omega,λi hi=>?_⟩⟩;obtain⟨x,hx,rfl⟩:=YbS.mp hi;have:=h1 x hx;cases x<;>first|(cases this;done)|skip
 simp only[jY,dj,NI] at this;exact this
def JL(q:Rat):y9 (aO q)=q:=by unfold y9 aO;exact tV q
def rg(r:List Rat):rQ (aF r)=r:=by show(r.map aO).map y9=r;rw[dk];exact(ja λq _=>JL q).trans (List.map_id _)
def JM{r':List Rat}(h:aF r=aF r'):r=r':=by rw[<-rg r,h,rg]
theorem Ep(h:cN d=true):∃q,d=aO q:=by
 unfold cN at h;split at h
 .rename_i t b
  simp only[dj,NI,N5] at h;have hb:((b.toNat:Nat):Int)=b:=xO (by omega);refine⟨⟨t,b.toNat,by omega,?_⟩,?_⟩
  .have:b.natAbs=b.toNat:=by omega
   have h2:=h.2;unfold Int.gcd at h2;rw[this] at h2;exact h2
  .unfold aO
   rw[hb]
 .cases h
theorem Er:∀{xs:List D},xs.all cN=true->∃r:List Rat,xs=r.map aO
 |[],_=>⟨[],rfl⟩
 |x::xs,h=>by
  rw[tQ,dj] at h;obtain⟨q,rfl⟩:=Ep h.1;obtain⟨r,rfl⟩:=Er h.2;exact⟨q::r,rfl⟩
theorem ze{a:Int}(h:fY a x=true):∃r,x=aF r/\(r.length:Int)=a:=by
 cases x<;>try (cases h;done)
 rename_i xs;simp only[fY,dj,N5] at h;obtain⟨r,rfl⟩:=Er h.2;exact⟨r,rfl,by simpa using h.1⟩
def JN(h:IsSl s n)(q:Q .non):rf [aP s] E Q:=xS.ok (aP s) rfl h.kd (iu h) q
def JO(h:kd x=true)(hb:fZ x=false)(e:E "NoSlants"):rf [x] E Q:=xS.err x rfl h (nR hb) e
def JP(h:IsSl s n)(q:Q (iY s n)):y4 [aP s] E Q:=xS.ok (aP s) rfl h.kd (by(try dsimp only);rw[iu h,gR,h.sN]) q
def JQ(h:IsSl s n)(q:Q (aP s.reverse)):y6 [aP s] E Q:=xS.ok (aP s) rfl h.kd (by(try dsimp only);rw[iu h,gR]) q
def BT(h:IsSl s n)(hk:kd x=true)(q:Q (.bl (fY n x))):sY [aP s,x] E Q:=xS.ok (aP s,x) rfl ⟨h.kd,hk⟩ (by(try dsimp only);rw[iu h,h.sN]) q
def JR(h:kd x=true)(hk:kd y=true)(hb:fZ x=false)(e:E "NoSlants"):sY [x,y] E Q:=xS.err (x,y) rfl ⟨h,hk⟩ (nR hb) e
def JS(h:IsSl s n)(q:Q (.lst ((tbl s n).map λr=>aF (dF r)))):y8 [aP s] E Q:=⟨(s,n),rfl,h,q⟩
theorem JT(h:IsSl s n)(hl:r.length=n)(hb:BS r)(q:Q (aF (cT s n r))):za [aP s,aF r] E Q:=xS.ok (aP s,aF r) rfl ⟨h.kd,sU (by have:=h.n5;omega),λr' e=>by rw [<- JM e];exact hb⟩ (by
 have er:fY n (aF r)=true:=by rw[<-hl];exact v8 r
 dsimp only;rw[iu h,h.sN,gR,er,if_pos rfl,rg]) q
end
def td{C:Addr}(h:PySem.W.nsIn K mainGlobals x=some (some (.ref C))):i5 K x=some C:=by unfold i5;rw[h]
section
variable{C:Addr}{newId initId:String}{bmB:List Value}
def i7(x:Str):WS:=λE _ _=>E x
structure XC(K:NF)(mg:Str->Option Value)(x:Str):Prop where
 h:∃(C:Addr) (newId initId:String) (bmB:List Value),i5 K x=some C/\mg x=some (.ref C)/\PySem.W.excIn K C bmB newId=true/\ExcBaseFacts "ValueError" newId initId bmB
theorem v9(hr:kY X EX)(hx:XC X.K X.mg x)(hc:X.calm=true:=by rfl)(hxn:mY x=none:=by decide)(hg:Gl X x:=by rfl)(hd:(x==("__debug__" : Str))=false:=by decide) :
  PZ X EX (.Raise (some (.Call (.Name x np) [] [] cpos)) none pos) (i7 x):=by
 obtain⟨C,newId,initId,bmB,h1,h2,h3,h4⟩:=hx.h;exact⟨⟨_,Io hr hc h2 h3 h4 hg hd,λW0 H0 F W σ H ρ E Dn N s fl eo no q=>eo x W H (.ref C) none q s.ext ⟨C,by rw[Jf hxn];exact h1,rfl,.none hxn⟩⟩,λE ρ N N' hl q=>q⟩
end
def ug(n i:Nat)(ex:Str):bR:=(List.replicate n SV.un).set i (.d (.exc ex))
structure XT(K:NF)(mg:Str->Option Value)(x:Str)(L:List Str):Prop where
 h:∃(C:Addr) (newId:String) (bmB:List Value),mg x=some (.ref C)/\PySem.W.excIn K C bmB newId=true/\bmB.contains (.type "BaseException")=true/\∀n∈L,∀D,i5 K (mZ n)=some D->PySem.W.mroIn K D (.ref C)=some true
section
def fq(L:List Str)(n i:Nat)(zb zh:WS):WS:=λ_ N ρ=>∃E':Ex->Prop,(∀ex,E' ex->ex∈L/\zh No { nx:=λ_=>False,rt:=N.rt } (ug n i ex))/\zb E' N ρ
theorem JU(L:List Str)(i:Nat){n cx:Str}{suite:List Stmt}{b0:Stmt}{zh:WS}{hpos:Pos}(hcx:XT X.K X.mg cx L)(hN:X.N.Nodup)
  (hb:∀xe pins EX',c8 (eY X.prog X.w) (X.tr xe pins) EX'->jn (X.tr xe pins) EX' body zb) (hh:∀e xe,jn (X.hnd e xe) E0 (b0::suite) zh)
  (hstk:X.stack=X.env::X.outer/\X.env.frame=some X.env.locals:=by exact⟨rfl,rfl⟩) (hi:X.N[i]? = some n:=by rfl) (hx:X.env.scope.names.lookup n=some .local:=by rfl)
  (hg:Gl X cx:=by rfl) (hd:(cx==("__debug__" : Str))=false:=by decide) (hkf:X.env.scope.kind=.function:=by rfl) (hex:X.ex=[]:=by rfl) :
  PZ X EX (.Try body [.ExceptHandler (some (.Name cx np)) (some n) (b0::suite) hpos] [] [] pos) (fq L X.N.length i zb zh):=by
 have hbm:=(hb (λ_ _=>False) [] E0 cF).mono;refine⟨⟨λD σ H=>∃W0 H0 F W ρ N,SOk X.K W0 H0 W σ H ρ/\Wle F W/\Bu X.K W0 H0 F D N/\fq L X.N.length i zb zh No N ρ,?_,λW0 H0 F W σ H ρ E Dn N s fl eo no h=>⟨W0,H0,F,W,ρ,N,s,fl,no,h⟩⟩,λE ρ N N' hl ⟨E',h1,h2⟩=>⟨E',λex he=>⟨(h1 ex he).1,(hh 0 λ_ _=>False).mono _ _ { nx:=λ_=>False,rt:=N.rt } { nx:=λ_=>False,rt:=N'.rt } ⟨λ_ z=>z,hl.rt,λ_ z=>z,λ_ z=>z⟩ (h1 ex he).2⟩,hbm _ _ _ _ hl h2⟩⟩;rintro pins s σ H D I ⟨W0,H0,F,W,ρ,N,so,fl,no,E',hE',hz⟩;obtain⟨Cs,newId,bmB,hm,hexc,hbase,hsub⟩:=hcx.h;have hcalm:=I.ok.hd
 let Eh:Value->Shared->Prop:=λe s1=>wpAny (model X.prog X.w) X.A (noteFrame e X.env) (λ_ s2=>wpAny (model X.prog X.w) X.A (setFlight e none) (λ_ s3=>wpAny (model X.prog X.w) X.A (handleBy e X.env [.ExceptHandler (some (.Name cx np)) (some n) (b0::suite) hpos]) (SP X pins D) X.xe s3) X.xe s2) X.xe s1
 have pass:c8 (eY X.prog X.w) (X.tr Eh pins) (λcls dx H'=>∃W' ex,Ext W0 H0 W' H'/\yI X.K W' H' cls dx ex/\E' ex):=by
  rintro pins' σ1 H1 s1 _ s' I1 ⟨ea,cls,dx,H',B,rfl,fly,hos,hbare,un,hok,hB,hT,W',ex,x',⟨C,hcl,rfl,hxd⟩,he⟩;have J:Inv X pins σ1 H1 s1:=I1.untr;obtain⟨hL,hw⟩:=hE' ex he;have fly':Fl.Up (Fl.Is (.ref C) dx) B (X.env::X.outer) ea .none s'.heap:=by rw[<-hstk.1];exact fly
  have frm:∀b∈cY X.stack,∃o,s'.heap.get? b=some o/\∀vs,o.data≠.fields vs:=λb hb=>(fly.fr.mem hb).2;show wpAny (model X.prog X.w) X.A (noteFrame (.ref ea) X.env) _ _ s';refine Fl.note Fl.Is.firm (by rw[J.ok.frames,hstk.1]) hstk.2 fly' λh4 held4 up4=>?_;refine Fl.lands (s:={ s' with heap:=h4 }) held4 λh5 fl5 up5=>?_;have up45:=up4.trans up5;have J5:Inv X pins σ1 H' { s' with heap:=h5 }:=J.fly hos hbare un hok hB hT fly.st fl5.st up45 frm;refine wpAny_handleBy_cons (codeAny_handlers_test ?_) (by intro q;cases q);refine eW (X:=X.hnd ea X.xe) J5.hnd hg hm ?_ hd;refine Ip J5.kIn hexc hbase (let⟨ob,z1,z2,_⟩:=fl5.there;⟨ob,z1,z2.1⟩) (hsub ex hL C hcl) ?_;refine codeAny_handlers_suite_as ?_;refine Fl.lands (s:={ s' with heap:=h5 }) fl5 λh6 fl6 up6=>?_;have J6:Inv X pins σ1 H' { s' with heap:=h6 }:=J.fly hos hbare un hok hB hT fly.st fl6.st (up45.trans up6) frm
  -- the exception's own object
  obtain⟨oe0,g1,g2,vs0,g3⟩:=fly.there;have nofr:ea∉cY X.stack:=λhm=>by
   obtain⟨o,e,nf⟩:=frm ea hm;rw[g1] at e;cases e;exact nf _ g3
  have nB:B.get? ea=none:=fly.new;have noS:s1.heap.get? ea=none:=by
   cases q:s1.heap.get? ea with
   |none=>rfl
   |some o=>obtain⟨o',e⟩:=hB ea o q nofr;rw[nB] at e;cases e
  have hn':H' ea=none:=by
   cases q:H' ea with
   |none=>rfl
   |some u=>obtain⟨o,e⟩:=hT ea u q;rw[nB] at e;cases e
  have no0:X.s₀.heap.get? ea=none:=by
   cases q:X.s₀.heap.get? ea with
   |none=>rfl
   |some o=>
    obtain⟨o',e⟩:=J.base.there ea o q (by rw[hex];simp);rw[noS] at e;cases e
  have nL:ea≠X.env.locals:=λz=>by
   obtain⟨m,⟨o,es,ep,ho,_⟩,_⟩:=J.loc;rw[<-z,noS] at ho;cases ho
  have nC:∀x c,X.env.cells.lookup x=some c->c≠ea:=λx c e z=>by
   obtain⟨v,o,ho,_⟩:=J.cell x c e;rw[z,noS] at ho;cases ho
  have nP:∀p∈X.pn++pins,p.1≠ea:=λp hp z=>by
   have:=(J.pin p hp).1;rw[z,noS] at this;cases this
  obtain⟨oe,q1,q2,vs,q3⟩:=fl6.there;refine fc (X:=X.hnd ea X.xe) (v:=.ref ea) J6.hnd hN hi (Or.inl hx) rfl (λs7 J7 sb=>?_) (.inr hx);have hat:∃oe,s7.heap.get? ea=some oe/\oe.cls=.ref C/\PySem.W.notCls oe=true/\oe.dict=dx/\∃vs,oe.data=.fields vs:=by
   obtain⟨a,hs,ha⟩:=sb;have hne:ea≠a:=λz=>by
    rcases ha with ha|ha
    .exact nL (z.trans ha)
    .exact nC _ _ ha z.symm
   refine⟨oe,(hs.2 ea hne).trans q1,q2.1,?_,q2.2,vs,q3⟩;unfold PySem.W.notCls;rw[q3]
  have J8:Inv (X.hnd ea λ_ _=>False) pins (σ1.set i (some (.ref ea))) (upd H' ea (qT C ea dx)) s7:=by
   refine((J7.unhnd hcalm).hnd).track hn' no0 nL nC nP ⟨hat,?_,?_⟩ (λ_ z=>by first|cases z|(unfold qT at z;cases z))
   .obtain⟨o,e,_⟩:=hat;exact⟨o,e⟩
   .rintro g1 g2 ⟨o,e,r⟩ k
    exact⟨o,k o e,r⟩
  have xt:Ext W' H' (W'.put ea (qT C ea dx)) (upd H' ea (qT C ea dx)):=Ext.put x'.ok hn';have hil:i<X.N.length:=(Yaq.mp hi).1;have so2:SOk X.K W0 H0 (W'.put ea (qT C ea dx)) (σ1.set i (some (.ref ea))) (upd H' ea (qT C ea dx)) (ug X.N.length i ex):=by
   have hlen:σ1.length=X.N.length:=J.len;have slot:∀(j:Nat) sv,(ug X.N.length i ex)[j]? = some sv->sv=.un\/(j=i/\sv=.d (.exc ex)):=λj sv e=>by
    unfold ug at e
    by_cases h:i=j
    .subst h
     rw[dc (by simpa using hil)] at e;cases e;exact .inr ⟨rfl,rfl⟩
    .rw[cG h,mo] at e
     split at e
     .cases e;exact .inl rfl
     .cases e
   refine⟨x'.trans xt,by unfold ug;rw[cL,cL,pJ,hlen],λj y e=>?_,λj ys e=>?_,λj k ys zs b _ e=>?_,.none λj xss e=>?_⟩
   .rcases slot j _ e with z|⟨rfl,z⟩
    .cases z
    .cases z
     exact⟨.ref ea,dc (by rw[hlen];exact hil),.exc (by unfold Wd.put;dsimp only;rw[aN]) hcl (hxd.mono xt.g)⟩
   .rcases slot j _ e with z|⟨_,z⟩<;>cases z
   .rcases slot j _ e with z|⟨_,z⟩<;>cases z
   .rcases slot j _ e with z|⟨_,z⟩<;>cases z
  obtain⟨th,ph,kh⟩:=(hh ea λ_ _=>False).t;refine NN (ph pins s7 _ _ { nx:=λ_ _=>False,rt:=D.rt } J8 (kh W0 H0 _ _ _ _ _ No _ { nx:=λ_=>False,rt:=N.rt } so2 (.refl _) (λ_ _ _ _ _ z=>z.elim)
   ⟨λ_ _ _ _ _ _ z=>z.elim,no.rt,λ_ _ _ _ _ _ z=>z.elim,λ_ _ _ _ _ _ z=>z.elim⟩ hw)) (λf s9 q=>?_) λ_ _ z=>z.elim
  cases f with
  |next=>obtain⟨_,_,_,z⟩:=q;exact z.elim
  |brk=>obtain⟨_,_,_,z⟩:=q;exact z.elim
  |cont=>obtain⟨_,_,_,z⟩:=q;exact z.elim
  |ret u=>
   obtain⟨v,σ9,H9,J9,r9,q9⟩:=q;have K9:=J9.unhnd hcalm;obtain⟨m,hns,_⟩:=K9.loc;exact wpAny_nameGoes hx hns (by rw[hkf];rfl) λh' m' hn2 hs2=>⟨v,_,H9,K9.names hn2 hs2,r9,q9⟩
 obtain⟨tb,pb,kb⟩:=(hb Eh pins _ pass).t;refine wpAny_Try_except (NN (pb [] s σ H D I.tr (kb W0 H0 F W σ H ρ E' D N so fl (λex W' H' cls dx he x r=>⟨W',ex,x,r,he⟩) no hz)) (λf s1 q=>?_) λe s1 q=>q);cases f with
 |next=>exact N6 q.untr
 |brk=>exact q.untr
 |cont=>exact q.untr
 |ret u=>exact q.untr
end
section
variable{P:Program}{w:World}{base:Heap}
theorem BU{N:List Str}(F:Fun K x qual st f fd)(sc:cO N ps (aK st))(len:∀ds E Q,S ds E Q->ds.length=ps.length)
  (hbody:∀ (cdv:Value) (A:Around) (outer:List Env) (s:Shared) (H:Hp),RoomU k (A.deeper (envOfC qual (aK st) s.heap.objs.size f cdv))->
   jn (sM P w K mg base N qual (aK st) f cdv A outer s H) E0 (bF st) z)
  (h:∀ds E Q,S ds E Q->z No { nx:=λ_=>Q .non,rt:=Q } (eP N ds)):yD P w K mg base (k+1) f fd ps (fN K S):=by
 refine F.okU sc (λvs H Q E hs=>?_) λcdv A outer s H vs Q E hr hs=>?_
 .obtain⟨ds,W,_,r,hS⟩:=hs
  rw[r.length];exact len _ _ _ hS
 .obtain⟨ds,W,ok,r,hS⟩:=hs
  obtain⟨t,p,k⟩:=(hbody cdv A outer s H hr).t;exact ⟨t,p,k W H W W (start N vs) H (eP N ds) No _ { nx:=λ_=>RQ K W H Q .non,rt:=RQ K W H Q } (D4 ok r) (.refl W) (λ_ _ _ _ _ z=>z.elim)
   ⟨λW1 σ1 H1 ρ1 s1 _ q=>q _ W1 H1 s1.ext .non,λd v W1 H1 x1 r1 q=>q v W1 H1 x1 r1,λ_ _ _ _ _ _ q=>q.elim,λ_ _ _ _ _ _ q=>q.elim⟩ (h ds _ _ hS)⟩
structure BV(P:Program)(w:World)(K:NF)(mg:Str->Option Value)(base:Heap)(k:Nat)(x:Str)(ps:List Str)(S:bN):Prop where
 ok:∃f fd,yD P w K mg base k f fd ps (fN K S)/\mg x=some (.ref f)/\PySem.W.keepIn K (.ref f)=true/\Binds K fd ps []
 mono:m8 S
end
section
theorem JV(G:BV X.prog X.w X.K X.mg X.base k x ps S)(hr:RoomU j X.A)(ha:jm X EX (e::es) t)(hk:k<=j:=by decide)(hg:Gl X x:=by rfl)(hdb:(x==("__debug__" : Str))=false:=by decide)(he:starEach (e::es) X.env=(false,eval e X.env)::starEach es X.env:=by rfl)(hpl:(backTo pos (starEach es X.env)).any (·.1)=false:=by rfl) :
  PX X EX (.Call (.Name x p) (e::es) [] pos) (wF S t):=by
 obtain⟨f,fd,F,hm,kp,hb⟩:=G.ok;obtain⟨ta,pa,ka⟩:=ha.t;have hS:=G.mono;refine⟨⟨_,Ir (E:=EX) F (hr.mono hk) hg hm kp hb pa hdb he hpl,λW0 H0 W σ H ρ E Q s eo h=>?_⟩,λE ρ P P' hp z=>ha.mono _ _ _ _ (λds hds=>hS _ _ _ _ _ (λ_ q=>q) hp hds) z⟩;refine ka W0 H0 W σ H ρ E _ s eo (ha.mono _ _ _ _ (λds hds vs W1 H1 x1 r1=>?_) h);refine⟨ds,W1,x1.ok,by rw[pI];exact r1,hS _ _ _ _ _ (λex hex W' H' cls dx x' r'=>?_) (λd hd=>RQ.ext hd x1) hds⟩;exact eo ex W' H' cls dx hex (s.ext.trans (x1.trans x')) r'
end
structure XI(K:NF)(L M:List Str):Prop where
 c:∀n∈L,∃D,i5 K (mZ n)=some D/\gM K D/\PySem.W.kitOne K (.ref D) (.type "ValueError")=some true/\∀m∈M,∃C,i5 K m=some C/\PySem.W.kitOne K (.ref D) (.ref C)=some (mZ n==m)
section
variable{a:Expr}{L M:List Str}
def gIsX(L M:List Str):List D->(D->Prop)->Prop:=λds Q=>match ds with
 |[.exc n,.cls m]=>n∈L/\m∈M/\Q (.bl (mZ n==m))
 |[.exc n,.ty T]=>n∈L/\T = "ValueError" /\Q (.bl true)
 |_=>False
theorem gIsX.mono:∀ds P P',(∀d,P d->P' d)->gIsX L M ds P->gIsX L M ds P':=λds P P' hp hg=>by
 unfold gIsX at hg ⊢;split at hg
 .exact⟨hg.1,hg.2.1,hp _ hg.2.2⟩
 .exact⟨hg.1,hg.2.1,hp _ hg.2.2⟩
 .exact hg.elim
theorem nS(hx:XI X.K L M):d7 X (.builtin "isinstance") (gIsX L M):=by
 refine⟨⟨λvs H Q=>∃W ds,WOk W H/\Reps X.K W vs ds/\gIsX L M ds (RQ X.K W H Q),?_,λW H vs ds Q ok r hg=>⟨W,ds,ok,r,hg⟩⟩,gIsX.mono⟩;rintro pins s σ H vs us Q I rv ⟨W,ds,ok,rs,hg⟩;have fin:∀{b:Bool},RQ X.K W H Q (.bl b)->∀tk,EP X pins σ Q (.bool b) { s with toks:=tk }:=λq tk=>⟨.bl _,H,I.tok tk,rfl,q.now ok (.bl _)⟩;have look:∀{x:V} {u:Value} {n:Str},n∈L->Rep X.K W x (.exc n)->RelV x u->∃a D,u=.ref a/\i5 X.K (mZ n)=some D/\XAt s.heap a D:=λ{x u n} hn r ru=>by
  cases r with
  | @exc a C n dx e0 e1 _=>
   cases ru;obtain⟨hx,_⟩:=(show ObjOk X.prog X.w H s.heap a (qT C a dx) from I.hok a _ (ok.g _ _ e0))
   exact⟨a,C,rfl,e1,let⟨oe,z1,z2,z3,_⟩:=hx;⟨oe,z1,z2,z3⟩⟩
 unfold gIsX at hg;split at hg
 .rename_i n m
  obtain⟨h1,h2,q⟩:=hg;obtain⟨v,w',rfl,r1,r2⟩:=rs.two;obtain⟨u,u2,rfl,ru,ru2⟩:=ku rv;obtain⟨a,D,rfl,hD,hat⟩:=look h1 r1 ru;obtain⟨D',e1,cx,_,hm⟩:=hx.c n h1;rw[hD] at e1;cases e1;obtain⟨C,e2,hk⟩:=hm m h2;cases r2 with
  |cls e3=>
   rw[e3] at e2;cases e2;cases ru2;exact PySem.W.kia_one (DO cx) I.kIn hat hk (λz=>nomatch z) (fin q)
 .rename_i n T
  obtain⟨h1,rfl,q⟩:=hg;obtain⟨v,w',rfl,r1,r2⟩:=rs.two;obtain⟨u,u2,rfl,ru,ru2⟩:=ku rv;obtain⟨a,D,rfl,hD,hat⟩:=look h1 r1 ru;obtain⟨D',e1,cx,hk,_⟩:=hx.c n h1;rw[hD] at e1;cases e1;cases r2;obtain rfl:u2=Value.type "ValueError" :=ru2;exact PySem.W.kia_one (DO cx) I.kIn hat hk (λz=>nomatch z) (fin q)
 .exact hg.elim
theorem JW{a:Addr}(hm:X.mg x=some (.ref a))(hc:i5 X.K x=some a)(hg:Gl X x:=by rfl)(hd:(x==("__debug__" : Str))=false:=by decide):PX X EX (.Name x pos) (wC (.cls x)):=
 Bv (v:=.ref a) hm rfl (λW=>.cls hc) hg hd
end
structure BW(X:Cx)(id:String)(g:D->List D->(D->Prop)->Prop):Prop where
 t:∃r,MtR X id r/\∀W H x vs dx ds Q,WOk W H->Rep X.K W x dx->Reps X.K W vs ds->g dx ds (RQ X.K W H Q)->r x vs H Q
 ty:∀dx ds P,g dx ds P->∃xs,dx=.lst xs
 mono:∀x ds P P',(∀d,P d->P' d)->g x ds P->g x ds P'
def wM(g:D->List D->(D->Prop)->Prop)(wo:WE)(t:WA):WE:=λE ρ Q=>wo E ρ λx=>(∃xs,x=.lst xs)/\t E ρ λds=>g x ds Q
section
variable{o:Expr}{id:String}{g:D->List D->(D->Prop)->Prop}
theorem Es(slot:Slot "list" name id)(hty:typeOf (.builtin id)=pure (.type "method_descriptor"))(hm:BW X id g)(ho:PX X EX o wo)(ha:jm X EX (e::es) t)
  (hbase:attributeBase o name X.env (eval o X.env)=eval o X.env:=by rfl)
  (hfew:((backTo cpos (starEach (e::es) X.env)).all (λx=>!x.1) && (backToKw cpos (keywordEach [] X.env)).all (λx=>x.1.isSome)
   && decide ((e::es).length+([]:List Keyword).length+(if([]:List Keyword).isEmpty then 0 else 1)<30))=true:=by rfl)
  (hline:(apos.endLine==cpos.line)=true:=by rfl) (hs:starEach (e::es) X.env=(false,eval e X.env)::starEach es X.env:=by rfl) (hplain:(backTo cpos (starEach es X.env)).any (·.1)=false:=by rfl) :
  PX X EX (.Call (.Attribute o name apos) (e::es) [] cpos) (wM g wo t):=by
 obtain⟨to,po,ko⟩:=ho.t;obtain⟨ta,pa,ka⟩:=ha.t;obtain⟨r,pr,kr⟩:=hm.t;refine⟨⟨_,mT PySem.F.plainAttrs_list slot hty pr po pa hbase hfew hline hs hplain,λW0 H0 W σ H ρ E Q s eo h=>?_⟩,λE ρ P P' hp z=>ho.mono _ _ _ _ (λx ⟨h1,h2⟩=>⟨h1,ha.mono _ _ _ _ (λds hds=>hm.mono _ _ _ _ hp hds) h2⟩) z⟩;refine ko W0 H0 W σ H ρ E _ s eo (ho.mono _ _ _ _ (λd hd v W1 H1 x1 r1=>?_) h);obtain⟨⟨xs,rfl⟩,h2⟩:=hd;cases r1 with
 | @lst a vs ds e1 rr=>
  refine⟨.inl ⟨rfl,vs,SqL.of (x1.ok.g _ _ e1)⟩,?_⟩;refine ka W0 H0 W1 σ H1 ρ E _ (s.step x1) eo (ha.mono _ _ _ _ (λds hds us W2 H2 x2 r2=>?_) h2);exact kr W2 H2 _ us _ ds Q x2.ok (.lst (x2.g _ _ e1) (rr.mono x2.g x2.p)) r2 (hm.mono _ _ _ _ (λd hd=>RQ.ext hd (x1.trans x2)) hds)
end
def zf(bs:List Bool):List D:=bs.map .bl
def BX:D->List D->(D->Prop)->Prop:=λx ds Q=>∃bs b,x=.lst (zf bs)/\ds=[.bl b]/\Q (.int (bs.countP (· == b):Nat))
def BY:D->List D->(D->Prop)->Prop:=λx ds Q=>∃bs b j,x=.lst (zf bs)/\ds=[.bl b]/\bs[j]? = some b/\(∀i<j,bs[i]?≠some b)/\Q (.int (j:Nat))
theorem BZ{K:NF}{W:Wd}:∀{bs:List Bool} {vs:List V} {its:List Value},Reps K W vs (zf bs)->Vals vs its->its=bs.map Value.bool
 |[],_,_,.nil,.nil=>rfl
 |b::bs,_,_,.cons r1 r2,.cons v1 v2=>by
  cases r1;obtain rfl:_=Value.bool b:=v1;rw[BZ r2 v2];rfl
theorem Et(k:Bool):∀(bs:List Bool),(bs.map Value.bool).countP (isBoolOf k)=bs.countP (· == k)
 |[]=>rfl
 |b::bs=>by rw[cV,List.countP_cons,List.countP_cons,Et k bs];rfl
section
theorem JX:BW X "list.count" BX:=by
 refine⟨⟨λx vs H Q=>∃W dx ds,WOk W H/\Rep X.K W x dx/\Reps X.K W vs ds/\BX dx ds (RQ X.K W H Q),?_,λW H x vs dx ds Q ok r rs hg=>⟨W,dx,ds,ok,r,rs,hg⟩⟩,λdx ds P ⟨bs,b,h,_⟩=>⟨_,h⟩,λx ds P P' hp ⟨bs,b,h1,h2,h3⟩=>⟨bs,b,h1,h2,hp _ h3⟩⟩;rintro pins s σ H x vs v us Q I rx rv ⟨W,dx,ds,ok,r,rs,bs,b,rfl,rfl,q⟩;obtain⟨y,rfl,ry⟩:=rs.one;cases ry;obtain⟨u,rfl,ru⟩:=dO rv;obtain rfl:u=Value.bool b:=ru;cases r with
 | @lst a xs ds e1 rr=>
  cases rx;obtain⟨its,rvs,pl,hz⟩:=I.list (SqL.of (ok.g _ _ e1));have hits:=BZ rr rvs;subst hits;obtain⟨⟨cls,dd,data,sl⟩,ho,hc,n,hd⟩:=pl.isList;simp only at hc hd;subst hc hd;refine call_meets PySem.F.slot_list_count ⟨_,ho,rfl⟩ PySem.F.entry_list_count (PySem.F.args_list_count_2 _ _) (SeqAt.list_countAt a _ n dd sl (.bool b) (isBoolOf b)) ⟨ho,λy hy=>?_,?_⟩
  .have hy':y∈bs.map Value.bool:=by simpa using hy
   obtain⟨c,_,rfl⟩:=YbS.mp hy';exact PySem.SeqAt.EqAt.bool_bool c b
  .rw[show((bs.map Value.bool).toArray.toList)=bs.map Value.bool from rfl,Et]
   exact⟨.int _,H,I.tok _,⟨_,rfl⟩,q.now ok (.int _)⟩
theorem JY:BW X "list.index" BY:=by
 refine⟨⟨λx vs H Q=>∃W dx ds,WOk W H/\Rep X.K W x dx/\Reps X.K W vs ds/\BY dx ds (RQ X.K W H Q),?_,λW H x vs dx ds Q ok r rs hg=>⟨W,dx,ds,ok,r,rs,hg⟩⟩,λdx ds P ⟨bs,b,j,h,_⟩=>⟨_,h⟩,λx ds P P' hp ⟨bs,b,j,h1,h2,h3,h4,h5⟩=>⟨bs,b,j,h1,h2,h3,h4,hp _ h5⟩⟩;rintro pins s σ H x vs v us Q I rx rv ⟨W,dx,ds,ok,r,rs,bs,b,j,rfl,rfl,hj,hno,q⟩;obtain⟨y,rfl,ry⟩:=rs.one;cases ry;obtain⟨u,rfl,ru⟩:=dO rv;obtain rfl:u=Value.bool b:=ru;cases r with
 | @lst a xs ds e1 rr=>
  cases rx;obtain⟨its,rvs,pl,hz⟩:=I.list (SqL.of (ok.g _ _ e1));have hits:=BZ rr rvs;subst hits;have hlen:xs.length=bs.length:=by rw[rr.length];unfold zf;rw[bL]
  obtain⟨⟨cls,dd,data,sl⟩,ho,hc,n,hd⟩:=pl.isList;simp only at hc hd;subst hc hd;have hjl:j<bs.length:=(Yaq.mp hj).1;have hsz:((bs.map Value.bool).toArray).size=bs.length:=by simp
  refine call_meets PySem.F.slot_list_index ⟨_,ho,rfl⟩ PySem.F.entry_list_index (PySem.F.args_list_index_2 _ _) (SeqAt.list_indexAt a _ n dd sl (.bool b) (isBoolOf b) j (by rw[hsz];exact hjl) ?_ ?_ ?_) ⟨ho,λy hy=>?_,?_⟩
  .rw[sizeLine_eq] at hz
   have:bs.length<=2^62:=by first|(have:=hz;simp at this;omega)|omega
   have:=hjl;omega
  .have:=(Yaq.mp hj).2
   simp only[List.getElem_toArray,xY,isBoolOf];rw[this];simp
  .intro m hm hlt
   have hm':m<bs.length:=by rw[hsz] at hm;exact hm
   have:=hno m hlt;rw[bG hm'] at this;simp only[List.getElem_toArray,xY,isBoolOf];exact Ybs.mpr λz=>this (by rw[beq_iff_eq.mp z])
  .have hy':y∈bs.map Value.bool:=by simpa using hy
   obtain⟨c,_,rfl⟩:=YbS.mp hy';exact PySem.SeqAt.EqAt.bool_bool c b
  .exact⟨.int _,H,I.tok _,⟨_,rfl⟩,q.now ok (.int _)⟩
end
section
def Zdd:G2:=λx y Q=>match x,y with
 |.tup xs,.int k=>k<1000/\-1000<k/\xs.length*k.toNat<=small/\Q (.tup (List.replicate k.toNat xs).flatten)
 |_,_=>False
theorem Zdd.mono:∀x y P P',(∀d,P d->P' d)->Zdd x y P->Zdd x y P':=λx y P P' hp hg=>by
 unfold Zdd at hg ⊢;split at hg
 .exact⟨hg.1,hg.2.1,hg.2.2.1,hp _ hg.2.2.2⟩
 .exact hg.elim
theorem B0:gk X (binaryOp .Mult) Zdd:=by
 refine⟨⟨_,IH,λW H x y dx dy Q ok rx ry hg=>?_⟩,Zdd.mono⟩;unfold Zdd at hg;split at hg
 .obtain⟨p,vs,rfl,h1,r1⟩:=rx.sqt ok
  cases ry;rename_i xs k;refine⟨p,k,vs,rfl,rfl,h1,by omega,by omega,by rw[r1.length];exact lT hg.2.2.1,λe=>?_,λa ha=>hg.2.2.2.tup ok (BC r1 _) ha⟩;have e':(List.replicate k.toNat xs).flatten=xs:=by
   rcases e with e|e
   .subst e;cases r1;simp
   .subst e;simp
  have q:=hg.2.2.2;rw[e'] at q;exact q.now ok rx
 .exact hg.elim
end
section
theorem Eu:PX X EX (.Dict [] [] pos) (wC .dic):=by
 refine⟨⟨_,IJ,λW0 H0 W σ H ρ E Q s eo h p hp=>?_⟩,λE ρ P P' hp h=>hp _ h⟩;exact h (.ref p) (W.put p (.dK [])) _ (Ext.put s.ok hp) (.dic (by unfold Wd.put;dsimp only;rw[aN]))
def its(js:List Int):List D:=js.map .int
def gIn(neg:Bool):G2:=λx y Q=>∃i js,x=.int i/\(y=.lst (its js)\/y=.tup (its js))/\Q (.bl (if neg then !js.contains i else js.contains i))
def gIn.mono{neg:Bool}:∀x y P P',(∀d,P d->P' d)->gIn neg x y P->gIn neg x y P':=λx y P P' hp ⟨i,js,h1,h2,h3⟩=>⟨i,js,h1,h2,hp _ h3⟩
theorem B1{K:NF}{W:Wd}:∀{js:List Int} {vs:List V},Reps K W vs (its js)->vs=js.map V.int
 |[],_,.nil=>rfl
 |j::js,_,.cons r t=>by cases r;rw[B1 t];rfl
theorem B3(i:Int):∀js:List Int,yu (.int i) (js.map V.int)=js.contains i
 |[]=>rfl
 |j::js=>by
  have ih:=B3 i js;unfold yu at ih ⊢;rw[cV,xK,ih,List.contains_cons];congr 1;show(j==i)=(i==j)
  rw[g9,N5,N5];exact⟨Eq.symm,Eq.symm⟩
def B4:∀js:List Int,(js.map V.int).all eX=true
 |[]=>rfl
 |j::js=>by rw[cV,tQ,B4 js];rfl
theorem wg{neg:Bool}{W:Wd}{x y:V}{dx dy:D}{Q:VK}(ok:WOk W H)(rx:Rep X.K W x dx)(ry:Rep X.K W y dy)(hg:gIn neg dx dy (RQ X.K W H Q)):DE X.K neg x y H Q:=by
 obtain⟨i,js,rfl,h,q⟩:=hg;cases rx;rcases h with rfl|rfl
 .obtain⟨p,vs,rfl,h1,r1⟩:=ry.sql ok
  obtain rfl:=B1 r1;exact⟨p,_,rfl,.inl h1,rfl,B4 js,by rw[B3];exact q.now ok (.bl _)⟩
 .obtain⟨p,vs,rfl,h1,r1⟩:=ry.sqt ok
  obtain rfl:=B1 r1;exact⟨p,_,rfl,.inr h1,rfl,B4 js,by rw[B3];exact q.now ok (.bl _)⟩
def wj:gk X (compareOp .NotIn) (gIn true):=⟨⟨_,iM,λW H x y dx dy Q ok rx ry hg=>wg ok rx ry hg⟩,gIn.mono⟩
def Zek:List D->(D->Prop)->Prop:=λds Q=>∃x p,ds=[x]/\gO x=some p/\p.showable=true/\p.hasDict=false/\p.depth<=32/\p.shown.length<=sizeLine/\Q (.str p.shown)
def Zek.mono:∀ds P P',(∀d,P d->P' d)->Zek ds P->Zek ds P':=λds P P' hp ⟨x,p,h1,h2,h3,h4,h5,h6,h7⟩=>⟨x,p,h1,h2,h3,h4,h5,h6,hp _ h7⟩
theorem uh(hg:X.A.guards=some [])(hu:X.A.units+64<cLine):d7 X (.builtin "repr") Zek:=by
 refine⟨⟨λvs H Q=>∃W ds,WOk W H/\Reps X.K W vs ds/\Zek ds (RQ X.K W H Q),?_,λW H vs ds Q ok r hg=>⟨W,ds,ok,r,hg⟩⟩,Zek.mono⟩;rintro pins s σ H vs us Q I rv ⟨W,ds,ok,rs,x,p,rfl,h1,h2,h3,h4,h5,q⟩;obtain⟨v,rfl,r⟩:=rs.one;obtain⟨u,rfl,ru⟩:=dO rv;obtain⟨as,ra⟩:=ub I ok r ru h1;have fin:∀{s':Shared} {tk:Tok},Inv X pins σ H s'->EP X pins σ Q (.str p.shown tk) s':=λI'=>⟨.str _,H,I',⟨_,rfl⟩,q.now ok (.str _)⟩;cases u with
 |ref a=>exact repr_of_reads' ra h2 (λz=>by rw[h3] at z;cases z) hg (by omega) (λ_ _ e=>e) (λh' u tk hk=>fin (I.kept hk)) h5
 |none=>cases ra;exact PySem.P.repr_of_none (fin (I.tok _))
 |bool b=>cases ra;exact PySem.P.repr_of_bool (fin (I.tok _))
 |int i t=>cases ra;exact PySem.P.repr_of_int (by simpa[PyData.showable] using h2) (fin (I.tok _))
 |str y t=>cases ra;exact PySem.P.repr_of_str (fin (I.tok _)) h5
 |_=>cases ra
end
abbrev Zh8:List Str:=["thing"]
def Ev:WS:=(aM (ii (wB gIs (aC (wN 0) (aC (wC (.ty "int")) aA))) (jS (wB gIs (aC (wN 0) (aC (wC (.ty "bool")) aA))))))
abbrev Zhm:List Str:=["thing", "least", "most"]
def Ew:WS:=(aM (ii (wF ue (aC (wN 0) aA)) (Zbd jX jX (wN 1) (wN 0) (wN 2))))
abbrev Zf5:List Str:=["thing", "least", "most"]
def Ey:WS:=(aM (ii (wB gIs (aC (wN 0) (aC (wC (.ty "tuple")) aA))) (wB iW (aC (wL (aLC (iS (wN 0)) 1 [1,2] (gN 0) cM (wF BO (aC (wN 0) (aC (wN 1) (aC (wN 2) aA)))))) aA))))
abbrev ZdG:List Str:=["one", "other"]
def Ez:WS:=(aI (aZ (vR (wT (w2 (gEq true) (wN 1) (wC (D.int (0))))) (eF 0 1 (aC (wN 1) (aC (w2 qZ (wN 0) (wN 1)) aA))))) (aM (wB iU (aC (wN 0) aA))))
abbrev Zh9:List Str:=["thing", "top", "bottom"]
def EA:WS:=(aI (cS (fD (bV (wT (wB gIs (aC (wN 0) (aC (wC (.ty "tuple")) aA))))) (wT (w2 (gEq true) (wB bS (aC (wN 0) aA)) (wC (D.int (2)))))) (aM (wC (D.bl false))) cR) (aI (dI (wN 0) (dH 2 (cD (gN 1) (cD (gN 2) dC)))) (aI (cS (fD (bV (wT (wF ue (aC (wN 1) aA)))) (bV (wT (wF ue (aC (wN 2) aA))))) (aM (wC (D.bl false))) cR) (aM (ii (w2 sS (wN 2) (wC (D.int (0)))) (w2 (gEq false) (wF yZ (aC (wN 1) (aC (wN 2) aA))) (wC (D.int (1)))))))))
abbrev Zd9:List Str:=["thing", "least", "most"]
def EB:WS:=(aI (cS (fD (bV (wT (wB gIs (aC (wN 0) (aC (wC (.ty "tuple")) aA))))) (bV (wT (Zbd jX jX (wN 1) (wB bS (aC (wN 0) aA)) (wN 2))))) (aM (wC (D.bl false))) cR) (aM (wB iW (aC (wL (aLC (iS (wN 0)) 1 [] (gN 0) cM (wF BP (aC (wN 0) aA)))) aA))))
abbrev Zlh:List Str:=["thing", "many"]
def EC:WS:=(aM (wF y0 (aC (wN 0) (aC (wN 1) (aC (wN 1) aA)))))
abbrev Zh5:List Str:=["top", "bottom", "divisor"]
def ED:WS:=(aI (ky (wT (w2 (gEq true) (wN 1) (wC (D.int (0)))))) (aI (aQ 2 (wF yZ (aC (wN 0) (aC (wN 1) aA)))) (aI (cS (wT (w2 fW (wN 1) (wC (D.int (0))))) (aQ 2 (w1 nr (wN 2))) cR) (aM (aU (aC (w2 fV (wN 0) (wN 2)) (aC (w2 fV (wN 1) (wN 2)) aA)))))))
abbrev Zok:List Str:=["one", "other"]
def EE:WS:=(aM (wF sV (aC (w2 gAdd (w2 gMul (w2 gIx (wN 0) (wC (D.int (0)))) (w2 gIx (wN 1) (wC (D.int (1))))) (w2 gMul (w2 gIx (wN 1) (wC (D.int (0)))) (w2 gIx (wN 0) (wC (D.int (1)))))) (aC (w2 gMul (w2 gIx (wN 0) (wC (D.int (1)))) (w2 gIx (wN 1) (wC (D.int (1))))) aA))))
abbrev Zm2:List Str:=["one", "other"]
def EF:WS:=(aM (wF sV (aC (w2 gMul (w2 gIx (wN 0) (wC (D.int (0)))) (w2 gIx (wN 1) (wC (D.int (0))))) (aC (w2 gMul (w2 gIx (wN 0) (wC (D.int (1)))) (w2 gIx (wN 1) (wC (D.int (1))))) aA))))
abbrev Zle:List Str:=["numbers"]
def EG:WS:=(aM (wB jw (aC (wL (aLC (iS (wN 0)) 1 [] (gN 0) cM (aU (aC (wN 0) (aC (wC (D.int (1))) aA))))) aA)))
abbrev Zdg:List Str:=["one", "other", "total", "left", "right"]
def EH:WS:=(aI (aQ 2 (wC (D.tup [(D.int (0)),(D.int (1))]))) (aI (aZ (bU (iZ (aC (wN 0) (aC (wN 1) aA))) (dH 2 (cD (gN 3) (cD (gN 4) dC))) (aQ 2 (wF vZ (aC (wN 2) (aC (wF sW (aC (wN 3) (aC (wN 4) aA))) aA)))))) (aM (wN 2))))
abbrev ZjH:List Str:=["slants"]
def EI:WS:=(aM (w2 fV (w2 gAdd (wB bS (aC (wN 0) aA)) (wC (D.int (1)))) (wC (D.int (2)))))
abbrev Zfp:List Str:=["thing"]
def EJ:WS:=(aI (cS (fD (bV (wT (wF yY (aC (wN 0) (aC (wC (.int (-50))) (aC (wC (.int (50))) aA)))))) (wT (w2 (gEq false) (w2 qZ (wB bS (aC (wN 0) aA)) (wC (D.int (2)))) (wC (D.int (0)))))) (aM (wC (D.bl false))) cR) (aM (w2 jX (wF qp (aC (wN 0) aA)) (wC (.int (5))))))
abbrev Zfq:List Str:=["thing"]
def EK:WS:=(cS (bV (wT (wF v6 (aC (wN 0) aA)))) (i7 (PySem.Str.ofString "NoSlants")) cR)
abbrev Zh2:List Str:=["slants", "size"]
def EL:WS:=(aI (iX (wF rf (aC (wN 0) aA))) (aI (aQ 1 (wF qp (aC (wN 0) aA))) (aM (wL (aLC (eO (aC (wN 1) aA)) 1 [0,1] (gN 0) cM (wL (aB (fP (α:=Unit)) (aC (bM (wN 1) (dA (w2 eS (w2 eS (wN 2) (wC (D.int (1)))) (wN 0))) (dA (w2 eS (w2 eS (w2 gMul (wC (D.int (2))) (wN 2)) (wC (D.int (1)))) (wN 0)))) aA))))))))
abbrev Zd8:List Str:=["slants"]
def EM:WS:=(aI (iX (wF rf (aC (wN 0) aA))) (aM (w1 gRev (wN 0))))
abbrev Zh7:List Str:=["slants", "thing"]
def EN:WS:=(aI (iX (wF rf (aC (wN 0) aA))) (aM (wF y2 (aC (wN 1) (aC (wF qp (aC (wN 0) aA)) aA)))))
abbrev Zf2:List Str:=["slants"]
def EO:WS:=(aM (wL (aLC (iS (wF y4 (aC (wN 0) aA))) 1 [] (gN 0) cM (wF v3 (aC (wN 0) aA)))))
abbrev Zhk:List Str:=["slants", "row"]
def EQ:WS:=(aI (cS (bV (wT (wF sY (aC (wN 0) (aC (wN 1) aA))))) (i7 (PySem.Str.ofString "NoRow")) cR) (aM (wB jw (aC (wL (aLC (iS (wF y8 (aC (wN 0) aA))) 1 [1] (gN 0) cM (wF v4 (aC (wN 0) (aC (wN 1) aA))))) aA))))
local macro_rules | `(tactic| walk_at "wp")=>`(tactic| simp only[aM,aI,cS,aQ,cR,iX,bO,bW,bU,ky,eF,dI,dg,jy,eR,l7,aZ,i7,ii,fM,jS,dw,fD,bV,wT,jT,w1,w2,wB,wF,wL,aU,bM,Zbd,aB,aX,aC,aA,aLC,Zbv,cM,iS,iL,iT,eO,lV,iZ,i1,i2,isS,isL,isT,isB,isI,d8,dA,wN,wC,gN,dH,cD,dC,gI2,gAdd,gMul,gIx,dU,gCut,gRev,bS,fP,jw,iU,jW,fQ,lZ,e7,fT,eQ,aBor,fU,dS,eZ,aCut,eP,pub,cV,gx,dY,j9,iz,et,List.replicate,cZ,df,eT,eU,Nat.reduceSub,Nat.reduceAdd,gw,lO,true_and,dX,if_true,if_false,ite_true,ite_false])
local macro_rules | `(tactic| walk_at "go")=>`(tactic| ((try dsimp only at *);(try walk_at "wp");(try dsimp only)))
theorem rh{x:D}{T:String}(h:kd x=true)(hT:T∈yQ)(q:∀t,yP x=some t->Q (.bl (iV t T))):gIs [x,.ty T] Q:=by
 obtain⟨t,ht⟩:=vX h;exact⟨t,ht,hT,q t ht⟩
theorem ER:Rd ue Ev Zh8:=by
 rintro _ E Q ⟨x,rfl,hk,q⟩;unfold Ev;walk_at "wp";refine rh hk (by decide) λt ht=>?_;cases x<;>cases ht<;>first
  |exact q
  |exact rh hk (by decide) λt ht=>by cases ht;exact q
theorem JZ:Rd BO Ew Zhm:=by
 rintro _ E Q ⟨⟨x,l,m⟩,rfl,hk,q⟩;unfold Ew;walk_at "go";refine⟨x,rfl,hk,?_⟩;cases x<;>try exact q
 rename_i i;simp only[l8,isB,if_true,gI2,true_and]
 by_cases h:l<=i
 .simp only[h,decide_true,if_true]
  simpa[jY,h] using q
 .simp only[h,decide_false,if_false,dX]
  simpa[jY,h] using q
theorem J0:Rd yY Ey Zf5:=by
 rintro _ E Q ⟨⟨x,l,m⟩,rfl,hk,q⟩;unfold Ey;walk_at "go";refine rh hk (by decide) λt ht=>?_;cases x<;>cases ht<;>try exact q
 rename_i xs;obtain⟨hl,hx⟩:=qo hk;show lcW _ _ _ xs _ _ _;refine ud (f:=λd=>.bl (jY l m d)) (λd hd Q hq=>?_) .un [] (by simp[small];omega) ?_
 .walk_at "go"
  exact⟨(d,l,m),rfl,hx d hd,hq⟩
 .refine⟨xs.map (jY l m),by simp,?_⟩
  simpa[List.all_map,Function.comp_def,lv] using q
theorem ES(a b:Int):Int.gcd b (a.fmod b)=Int.gcd a b:=by
 have e:a.fmod b=a-b*a.fdiv b:=by have:=Int.mul_fdiv_add_fmod a b;omega
 rw[e,Int.gcd_sub_mul_left_right,Int.gcd_comm]
theorem ET(a:Int){b:Int}(h:b≠0):(a.fmod b).natAbs<b.natAbs:=by
 have key:∀a b:Int,0<b->0<=a.fmod b/\a.fmod b<b:=λa b z=>by
  rw[Dy _ (Int.le_of_lt z)];exact⟨Int.emod_nonneg _ (by omega),Int.emod_lt_of_pos _ z⟩
 rcases Int.lt_or_lt_of_ne h with z|z
 .have h1:=key (-a) (-b) (by omega)
  rw[Int.neg_fmod_neg] at h1;omega
 .have h1:=key a b z
  omega
theorem J1:Rd yZ Ez ZdG:=by
 rintro _ E Q ⟨⟨a,b⟩,rfl,_,q⟩;unfold Ez;walk_at "go";refine⟨λm ρ=>∃x y:Int,m=y.natAbs/\ρ=[.d (.int x),.d (.int y)]/\Int.gcd x y=Int.gcd a b,⟨_,a,b,rfl,rfl,rfl⟩,?_⟩;rintro m _ ⟨x,y,rfl,rfl,hg⟩;walk_at "go"
 by_cases hy:y=0
 .subst hy
  simp only[NV,fb,dX,if_false];rw[Int.gcd_zero_right] at hg;rw[<-hg] at q;have:(if x<0 then -x else x)=((x.natAbs:Nat):Int):=by split<;>omega
  rw[this];exact q
 .rw[if_pos (by simpa using hy)]
  exact⟨hy,_,ET x hy,_,_,rfl,rfl,by rw[ES];exact hg⟩
def EU(h:xs.length≠2):cN (.tup xs)=false:=by
 unfold cN;split
 .rename_i e
  cases e;exact NH rfl h
 .rfl
def EV{a b:D}(h:l8 a=false):cN (.tup [a,b])=false:=by
 unfold cN;split
 .rename_i e
  cases e;cases h
 .rfl
def EW{a b:D}(h:l8 b=false):cN (.tup [a,b])=false:=by
 unfold cN;split
 .rename_i e
  cases e;cases h
 .rfl
def wk{a:D}(h:l8 a=true):∃i,a=.int i:=by
 cases a<;>first
  |exact⟨_,rfl⟩
  |cases h
theorem J3:Rd BP EA Zh9:=by
 rintro _ E Q ⟨x,rfl,hk,q⟩;unfold EA;walk_at "go";refine rh hk (by decide) λt ht=>?_;cases x<;>cases ht<;>try exact q
 rename_i xs;obtain⟨hl,hx⟩:=qo hk;walk_at "go";simp only[show iV "tuple" "tuple" = true from rfl,fb,dX,if_false]
 by_cases h2:xs.length=2
 .match xs,h2,hx,q with
  |[a,b],_,hx,q=>
  rw[if_neg (by simp)];walk_at "go";refine⟨a,rfl,hx a (by simp),?_⟩;walk_at "go";cases ha:l8 a with
  |false=>rw[EV ha] at q;exact q
  |true=>
   obtain⟨i,rfl⟩:=wk ha;simp only[fb,dX,if_false];refine⟨b,rfl,hx b (by simp),?_⟩;walk_at "go";cases hb:l8 b with
   |false=>rw[EW hb] at q;exact q
   |true=>
    obtain⟨j,rfl⟩:=wk hb;simp only[fb,dX,if_false];walk_at "go"
    by_cases h:0<j
    .simp only[show j>0 from h,decide_true,if_true]
     refine⟨(i,j),rfl,trivial,?_⟩;walk_at "go";have:cN (.tup [.int i,.int j])=(((Int.gcd i j:Nat):Int)==1):=by
      simp only[cN,h,decide_true,tW];rw[g9];simp;omega
     rw[this] at q;simpa using q
    .have h':¬j>0:=h
     simp only[h',decide_false,if_false,dX];simpa[cN,h] using q
 .rw[EU h2] at q
  rw[if_pos (by simpa using λz=>h2 (by exact_mod_cast z))];exact q
theorem J4:Rd y0 EB Zd9:=by
 rintro _ E Q ⟨⟨x,l,m⟩,rfl,hk,q⟩;unfold EB;walk_at "go";refine rh hk (by decide) λt ht=>?_;cases x<;>cases ht<;>try exact q
 rename_i xs;obtain⟨hl,hx⟩:=qo hk;walk_at "go";simp only[show iV "tuple" "tuple" = true from rfl,fb,dX,if_false];simp only[vY] at q;cases h1:decide (l<=(xs.length:Int)) with
 |false=>rw[h1] at q;simpa using q
 |true=>
  cases h2:decide ((xs.length:Int)<=m) with
  |false=>rw[h1,h2] at q;simpa using q
  |true=>
   simp only[if_true,fb,dX,if_false];walk_at "go";refine ud (f:=λd=>.bl (cN d)) (λd hd Q hq=>?_) .un [] (by simp[small];omega) ?_
   .walk_at "go"
    exact⟨d,rfl,hx d hd,hq⟩
   .refine⟨xs.map cN,by simp,?_⟩
    rw[h1,h2] at q;simpa[List.all_map,Function.comp_def] using q
def Ka(n:Int)(x:D):vY n n x=fY n x:=by
 cases x<;>try rfl
 rename_i xs;simp only[vY,fY];congr 1;rw[g9];simp;omega
def Kb:Rd y2 EC Zlh:=by
 rintro _ E Q ⟨⟨x,n⟩,rfl,hk,q⟩;unfold EC;walk_at "go";refine JG hk ?_;rw[Ka];exact q
def Bd.le{i j:Int}(h:i.natAbs<=j.natAbs)(b:Bd j):Bd i:=lP h b
theorem Kc:Rd sV ED Zh5:=by
 rintro _ E Q ⟨⟨t,b⟩,rfl,⟨hb,hd⟩,q⟩;unfold ED;walk_at "go";refine⟨by simpa using hb,(t,b),rfl,trivial,?_⟩;walk_at "go";have hg:0<Int.gcd t b:=AA _ hb;have hle:Int.gcd t b<=b.natAbs:=Nat.le_of_dvd (by omega) (Int.gcd_dvd_natAbs_right ..);obtain⟨e1,e2⟩:=Ee (t:=t) hb;unfold aO at q;rw[<-e1,<-e2] at q
 by_cases h:b<0
 .simp only[h,decide_true,if_true] at q ⊢
  refine⟨⟨by omega,Bd.le (by omega) hd⟩,⟨by omega,Bd.le (by omega) hd⟩,by simp[small],q⟩
 .simp only[h,decide_false,if_false,dX] at q ⊢
  refine⟨⟨by omega,Bd.le (by omega) hd⟩,⟨by omega,Bd.le (by omega) hd⟩,by simp[small],q⟩
def rj(h:Q (.int q.num)):gIx (aO q) (.int 0) Q:=⟨_,rfl,h⟩
def ma(h:Q (.int q.den)):gIx (aO q) (.int 1) Q:=⟨_,rfl,h⟩
theorem EY:Rd vZ EE Zok:=by
 rintro _ E Q ⟨⟨p,q⟩,rfl,hb,h⟩;obtain⟨b1,b2,b3,b4,b5,b6,b7,b8⟩:=hb.mul;unfold EE;simp only[aM,wF,aC,w2,wN,wC,eP,cV,iz,cZ,df];refine rj (ma ⟨b1,rj (ma ⟨b2,ma (ma ⟨b3,?_⟩)⟩)⟩);refine⟨(_,_),rfl,⟨b6,b5⟩,?_⟩;dsimp only at h ⊢;have e:Rat.divInt (p.num*q.den+q.num*p.den) ((p.den:Int)*q.den)=p+q:=by
  rw[Rat.add_def',<-AB];rfl
 rw[e];exact h
theorem EZ:Rd sW EF Zm2:=by
 rintro _ E Q ⟨⟨p,q⟩,rfl,hb,h⟩;obtain⟨b1,b2,b3,b4,b5,b6,b7,b8⟩:=hb.mul;unfold EF;simp only[aM,wF,aC,w2,wN,wC,eP,cV,iz,cZ,df];refine rj (rj ⟨b4,ma (ma ⟨b3,?_⟩)⟩);refine⟨(_,_),rfl,⟨b6,b5⟩,?_⟩;dsimp only at h ⊢;have e:Rat.divInt (p.num*q.num) ((p.den:Int)*q.den)=p*q:=by
  rw[Rat.mul_def',<-AB];rfl
 rw[e];exact h
def Zp{b:Bool}{Q:List D->Prop}(h:Q xs):isS Q (ly b xs):=by cases b<;>exact h
def zg(i:Int):aO (i:Rat)=.tup [.int i,.int 1]:=by unfold aO;rw[xQ,xR];rfl
theorem Kd:Rd v3 EG Zle:=by
 rintro _ E Q ⟨⟨b,xs⟩,rfl,hl,q⟩;dsimp only at hl q;unfold EG;simp only[aM,wB,aC,aA,wL,aLC,iS,wN,eP,Zbv,List.replicate,cV,gx,iz,et,cZ];refine Zp (ud (f:=λd=>.tup [d,.int 1]) (λd hd Q hq=>?_) .un [] (by simp[small];omega) ?_)
 .walk_at "go"
  exact⟨by simp[small],hq⟩
 .have e:(xs.map D.int).map (λd=>D.tup [d,.int 1])=(xs.map λ(i:Int)=>(i:Rat)).map aO:=by
   rw[dk,dk];exact ja λi _=>(zg i).symm
  rw[et,e];exact q
theorem B5{n m:Nat}:∀(p q:List Rat) {k:Nat},(∀x∈p,Sz n x)->(∀x∈q,Sz m x)->p.length<=k->Sz (k*(n+m+1)+1) (cE p q)
 |[],_,k,_,_,_=>by rw[cE];exact Sz.zero (by omega)
 |_::_,[],k,_,_,_=>by rw[cE];exact Sz.zero (by omega)
 |x::p,y::q,0,_,_,h=>by simp at h
 |x::p,y::q,k+1,h1,h2,hk=>by
  rw[cE];have a:=(h1 x (by simp)).mul (h2 y (by simp));have b:=B5 p q (k:=k) (λz hz=>h1 z (by simp[hz])) (λz hz=>h2 z (by simp[hz])) (by simpa using hk);refine(a.add b).mono ?_;rw[nF];omega
theorem Ke:Rd v4 EH Zdg:=by
 rintro _ E Q ⟨⟨⟨b1,b2⟩,p,q⟩,rfl,⟨n,m,hp,hq,hb⟩,h⟩;dsimp only at hp hq hb h;unfold EH;simp only[aI,aQ,wC,eP,cV,gx,dY,j9,iz,et,List.replicate,eU,eT,aZ,bU,iZ,aC,aA,wN,cZ,df,Nat.reduceSub,Nat.reduceAdd];have key:∀(p' q':List Rat) (s:Rat) (sv sv':SV) (j:Nat),(∀x∈p',Sz n x)->(∀x∈q',Sz m x)->Sz (j*(n+m+1)+1) s->j+p'.length<=p.length->s+cE p' q'=cE p q->
   Za2 (dH 2 (cD (gN 3) (cD (gN 4) dC))) (aQ 2 (wF vZ (aC (wN 2) (aC (wF sW (aC (wN 3) (aC (wN 4) aA))) aA)))) No { nx:=aM (wN 2) E { nx:=λ_=>Q .non,rt:=Q },rt:=Q,bk:=λ_=>False,ct:=λ_=>False }
    (dJ (p'.map aO) (q'.map aO)) [.d (ly b1 (p.map aO)),.d (ly b2 (q.map aO)),.d (aO s),sv,sv']:=by
  intro p'
  induction p' with
  |nil=>
   intro q' s sv sv' j _ _ _ _ he;rw[cE,nJ] at he;simp only[dJ,gx,List.zipWith_nil_left,Za2];show Q (aO s);rw[he];exact h
  |cons x p' ih=>
   intro q' s sv sv' j h1 h2 h3 h4 he;cases q' with
   |nil=>
    rw[cE,nJ] at he;simp only[dJ,gx,List.zipWith_nil_right,Za2];show Q (aO s);rw[he];exact h
   |cons y q'=>
    have hx:=h1 x (by simp);have hy:=h2 y (by simp);rw[dY] at h4;have hj:j*(n+m+1)<=p.length*(n+m+1):=mq _ (by omega);have hj':(j+1)*(n+m+1)<=p.length*(n+m+1):=mq _ (by omega);rw[nF] at hj';simp only[dJ,cV,AC,Za2];refine⟨rfl,?_⟩;simp only[cD,dC,gN,aQ,wF,aC,aA,wN,cZ,df,eU,eT];refine⟨(x,y),rfl,B2.of hx hy (by omega),?_⟩;refine⟨(s,x*y),rfl,B2.of h3 (hx.mul hy) (by omega),?_⟩;refine ih q' (s+x*y) _ _ (j+1) (λz hz=>h1 z (by simp[hz])) (λz hz=>h2 z (by simp[hz])) ?_ (by omega) ?_
    .refine(h3.add (hx.mul hy)).mono ?_
     rw[nF];omega
    .rw[cE] at he
     rw[Rat.add_assoc];exact he
 have e0:D.tup [D.int 0,D.int 1]=aO 0:=rfl;rw[e0];have k:=key p q 0 .un .un 0 hp hq (Sz.zero (by omega)) (by omega) (Rat.zero_add _);cases b1<;>cases b2<;>exact k
theorem md{α:Type}{we:WE}{tail:bR}{Q:List D->Prop}{g f:α->D}:∀(L:List α),(∀a∈L,∀Q:D->Prop,Q (f a)->we No (.d (g a)::tail) Q)->∀(sv:SV) (acc:List D),acc.length+L.length<=small->Q (acc++L.map f)->lcW (gN 0) cM we (L.map g) (sv::tail) acc Q
 |[],_,sv,acc,_,hq=>by simpa[lcW] using hq
 |a::L,h,sv,acc,hl,hq=>by
  rw[cV,lcW];show we No (SV.d (g a)::tail) _;rw[dY] at hl;refine h a (j5 ..) _ ⟨by omega,md L (λd hd=>h d (gI _ hd)) _ _ ?_ ?_⟩
  .rw[dM,j7];omega
  .rw[lN];exact hq
def B6{α:Type}{xs:List α}{i:Int}{x:α}(hi:i=k)(h:xs[k]? = some x):eD xs i=some x:=by rw[hi];exact cC h
theorem Kf{α:Type}{xs:List α}{a:Nat}(h:a<=b)(hb:b<=xs.length):aY xs (some (a:Int)) (some (b:Int))=(xs.drop a).take (b-a):=by
 unfold aY;rw[HT.sIx_nat,HT.sIx_nat,xZ hb,xZ (gv h hb)]
theorem E2{α:Type}{xs:List α}{i j:Int}{a:Nat}(hi:i=a)(hj:j=b)(h:a<=b)(hb:b<=xs.length):aY xs (some i) (some j)=(xs.drop a).take (b-a):=by
 rw[hi,hj];exact Kf h hb
theorem zj{α:Type}{xs:List α}{a:Nat}(h:a<=xs.length):aY xs (some (a:Int)) none=xs.drop a:=by
 unfold aY;rw[HT.sIx_nat,HT.sIx_none,xZ h,<-kI,List.take_length]
theorem tm{α:Type}{xs:List α}{i:Int}(hi:i=b):aY xs none (some i)=xs.take b:=by
 unfold aY;rw[hi,HT.sIx_nat,HT.sIx_none,pK,Nat.sub_zero];rcases Nat.le_total b xs.length with h|h
 .rw[xZ h]
 .rw[Nat.min_eq_right h,List.take_length,List.take_of_length_le h]
def i8{i:Int}(h:i.natAbs<2^n)(l:n<=8990):Bd i:=cU h (j8 (by decide) l)
theorem Kg:Rd qp EI ZjH:=by
 rintro _ E Q ⟨x,rfl,hl,q⟩;unfold EI;walk_at "go";refine⟨⟨by decide,i8 (n:=2) (by decide) (by omega)⟩,?_⟩;rw[AD _ (by decide)];exact q
theorem Kh:Rd v6 EJ Zfp:=by
 rintro _ E Q ⟨x,rfl,hk,q⟩;unfold EJ;walk_at "go";refine JF hk ?_;walk_at "go";cases ha:lv (-50) 50 x with
 |false=>
  have:fZ x=false:=by
   cases x<;>try rfl
   simp only[lv] at ha;simp only[fZ,ha,tP]
  rw[this] at q;simpa using q
 |true=>
  cases x<;>try (cases ha;done)
  rename_i xs;obtain⟨hl,hx⟩:=qo hk;walk_at "go";simp only[fb,dX,if_false];refine⟨by decide,?_⟩;simp only[lv] at ha;simp only[fZ,ha,tW] at q;rw[Dy _ (by decide)]
  by_cases h:xs.length%2=1
  .rw[if_neg (by simp;omega)]
   walk_at "go";refine En hl ?_;walk_at "go";rw[NK h,tW] at q;have e:decide (((xs.length:Int)+1)/2<=5)=decide (xs.length<=9):=by
    rw[decide_eq_decide];omega
   rw[e];exact q
  .rw[if_pos (by simp;omega)]
   rw[NS h,tP] at q;exact q
theorem Ki:Rd rf EK Zfq:=by
 rintro _ E Q ⟨x,rfl,h,q⟩;unfold EK;walk_at "go";refine JJ h ?_;walk_at "go";unfold ir at q;cases e:fZ x with
 |false=>rw[e] at q;exact q
 |true=>rw[e] at q;exact q
theorem B7{x:D}{E:Ex->Prop}(h:kd x=true)(hb:fZ x=false->E "NoSlants")(hg:∀s n,x=aP s->IsSl s n->Q .non):rf [x] E Q:=by
 cases e:fZ x with
 |false=>exact JO h e (hb e)
 |true=>
  obtain⟨s,n,rfl,hs⟩:=sZ e;exact JN hs (hg s n rfl hs)
def qq{x:D}{v:Except Str D}{E:Ex->Prop}(e:fZ x=false)(q:exQ E Q (ir x v)):E "NoSlants" :=by
 rw[nR e] at q;exact q
def qr{v:Except Str D}{E:Ex->Prop}(h:IsSl s n)(q:exQ E Q (ir (aP s) v)):exQ E Q v:=by
 rw[iu h] at q;exact q
theorem Kj:Rd y4 EL Zh2:=by
 rintro _ E Q ⟨x,rfl,hk,q⟩;unfold EL;walk_at "go";refine B7 hk (λe=>qq e q) λs n e h=>?_;subst e;replace q:Q (iY s n):=by have:=qr h q;rw[gR,h.sN] at this;exact this
 refine zd h ?_;walk_at "go";have h5:=h.n5;have hl:=h.len;refine⟨by omega,by omega,?_⟩;rw[hJ];refine ud (f:=λd=>match d with|.int i=>gQ ((s.drop (n-1-i.toNat)).take n)|_=>.non) (λd hd Q hq=>?_) .un [] (by simp[rng,small];omega) ?_
 .obtain⟨i,hi,rfl⟩:=YbS.mp hd
  rw[Yah] at hi;walk_at "go";refine⟨⟨i8 (n:=2) (by decide) (by omega),i8 (n:=10) (by omega) (by omega)⟩,?_⟩;have e:aY (s.map D.int) (some ((n:Int)-1-(0+(i:Int)))) (some (2*(n:Int)-1-(0+(i:Int))))=((s.drop (n-1-i)).take n).map D.int:=by
   rw[E2 (a:=n-1-i) (b:=2*n-1-i) (by omega) (by omega) (by omega) (by rw[bL];omega),show 2*n-1-i-(n-1-i)=n by omega,<-qE,<-nK]
  show Q (D.lst (aY (s.map D.int) _ _));rw[e];have e2:(0+(i:Int)).toNat=i:=by omega
  rw[e2] at hq;exact hq
 .have e:(rng 0 n).map (λd=>match d with|.int i=>gQ ((s.drop (n-1-i.toNat)).take n)|_=>.non)=(tbl s n).map gQ:=by
   unfold rng tbl;rw[dk,dk];refine ja λi _=>?_;simp
  rw[et,e];exact q
def tx(s:List Int)(n:Nat):(tbl s n).length=n:=by simp[tbl]
theorem tz(h:IsSl s n):∀r∈tbl s n,r.length=n/\∀x∈r,-50<=x/\x<=50:=by
 intro r hr;unfold tbl at hr;obtain⟨i,hi,rfl⟩:=YbS.mp hr;rw[Yah] at hi;have hl:=h.len;refine⟨by rw[jr,kI];omega,λx hx=>h.b x (mr (qF hx))⟩
theorem Kk:Rd y6 EM Zd8:=by
 rintro _ E Q ⟨x,rfl,hk,q⟩;unfold EM;walk_at "go";refine B7 hk (λe=>qq e q) λs n e h=>?_;subst e;replace q:Q (aP s.reverse):=by have:=qr h q;rw[gR] at this;exact this
 unfold aP;walk_at "go";rw[<-rE];exact q
theorem Kl:Rd sY EN Zh7:=by
 rintro _ E Q ⟨⟨x,y⟩,rfl,⟨hk,hk2⟩,q⟩;dsimp only at hk hk2 q;unfold EN;walk_at "go";refine B7 hk (λe=>qq e q) λs n e h=>?_;subst e;replace q:=qr h q;rw[h.sN] at q;exact zd h (JH hk2 q)
theorem Km:Rd y8 EO Zf2:=by
 rintro _ E Q ⟨⟨s,n⟩,rfl,h,q⟩;have h5:=h.n5;unfold EO;walk_at "go";refine JP h ?_;unfold iY;walk_at "go";refine ud (f:=λd=>match d with|.lst xs=>.tup (xs.map λx=>.tup [x,.int 1])|_=>.non) (λd hd Q hq=>?_) .un [] (by simp[tx,small];omega) ?_
 .obtain⟨r,hr,rfl⟩:=YbS.mp hd
  walk_at "go";have:=(tz h r hr).1;refine El (by omega) ?_;have e:aF (dF r)=.tup ((r.map D.int).map λx=>.tup [x,.int 1]):=by
   unfold aF dF;rw[dk,dk];exact congrArg D.tup (ja λi _=>zg i)
  rw[e];exact hq
 .have e:((tbl s n).map gQ).map (λd=>match d with|.lst xs=>.tup (xs.map λx=>.tup [x,.int 1])|_=>.non)=(tbl s n).map λr=>aF (dF r):=by
   rw[dk];refine ja λr _=>?_;unfold aF dF;simp only[Function.comp_apply,gQ];rw[dk,dk];exact congrArg D.tup (ja λi _=>(zg i).symm)
  rw[et,e];exact q
def wm{x:Int}(h:-50<=x/\x<=50):Sz 6 (x:Rat):=Sz.int x (by omega) (by omega)
theorem Kn:Rd za EQ Zhk:=by
 rintro _ E Q ⟨⟨x,y⟩,rfl,⟨hk,hk2,hbs⟩,q⟩;dsimp only at hk hk2 hbs q;unfold EQ;walk_at "go";cases e:fZ x with
 |false=>exact JR hk hk2 e (qq e q)
 |true=>
 obtain⟨s,n,rfl,h⟩:=sZ e;have h5:=h.n5;refine BT h hk2 ?_;replace q:=qr h q;rw[h.sN,gR] at q;walk_at "go";cases er:fY n y with
 |false=>rw[er] at q;exact q
 |true=>
 rw[er] at q;obtain⟨r,rfl,hl'⟩:=ze er;have hl:r.length=n:=by omega
 have q:Q (aF (cT s n (rQ (aF r)))):=q;rw[rg] at q;obtain⟨m,hm,hb⟩:=hbs r rfl;simp only[fb,dX,if_false];refine JS h ?_;walk_at "go";have key:∀line∈tbl s n,BR (dF line) r:=λline hline=>by
  obtain⟨h1,h2⟩:=tz h line hline;refine⟨6,m,λx hx=>?_,hm,?_⟩
  .obtain⟨i,hi,rfl⟩:=YbS.mp hx
   exact wm (h2 i hi)
  .have:(dF line).length=n:=by unfold dF;rw[bL];exact h1
   rw[this];have:n*(6+m+1)<=5*(6+m+1):=mq _ h5;omega
 refine md (g:=λline=>aF (dF line)) (f:=λline=>aO (cE (dF line) r)) (tbl s n) (λline hl' Q hq=>?_) .un [] (by simp[tx,small];omega) ?_
 .walk_at "go"
  exact Em (key line hl') hq
 .have e:(tbl s n).map (λline=>aO (cE (dF line) r))=(cT s n r).map aO:=by
   unfold cT;rw[dk];rfl
  rw[et,e];exact q
def zk:bN:=fnS (λx:List Int×Nat=>[.scr (x.1.map .int),.int x.2]) (λ_=>True) λx=>.int (x.1.getD x.2 0)
def wn:bN:=rlS (λx:Int=>[.int x]) (λ_=>True) λ_ d=>∃j:Int,d=.int j
def zm:bN:=fnS (λx:Int=>[.int x]) (λ_=>True) λ_=>.pen
def i9:bN:=rlS (λm:Nat=>[.pen,.int m]) (λm=>0<m/\m<2^30) λm d=>∃k:Nat,d=.int k/\k<m
def nU:bN:=sV
def lA:bN:=vZ
def me:bN:=sW
def wq:bN:=rlS (λ_:Unit=>[.pen]) (λ_=>True) λ_ d=>∃s n,IsSl s n/\d=aP s
def zn:bN:=rlS (λn:Nat=>[.pen,.int n]) (λn=>n<=5) λn d=>∃r:List Rat,r.length=n/\(∀x∈r,Sz 72 x)/\d=aF r
section
variable{E:Ex->Prop}{x:D}{l m a b:Int}{p:Rat}
def Ko{xs:List Int}(q:Q (.int (xs.getD i 0))):zk [.scr (xs.map .int),.int i] E Q:=⟨(xs,i),rfl,trivial,q⟩
def E3(q:∀j:Int,Q (.int j)):wn [.int a] E Q:=⟨a,rfl,trivial,λd ⟨j,hd⟩=>by rw[hd];exact q j⟩
def Kp(q:Q .pen):zm [.int a] E Q:=⟨a,rfl,trivial,q⟩
def lB(h:0<n)(h':n<2^30)(q:∀k:Nat,k<n->Q (.int k)):i9 [.pen,.int n] E Q:=⟨n,rfl,⟨h,h'⟩,λd ⟨k,hd,hk⟩=>by rw[hd];exact q k hk⟩
def B8(h:b≠0)(h':Bd b)(q:Q (aO (Rat.divInt a b))):nU [.int a,.int b] E Q:=⟨(a,b),rfl,⟨h,h'⟩,q⟩
def zp(h:B2 p q)(z:Q (aO (p+q))):lA [aO p,aO q] E Q:=⟨(p,q),rfl,h,z⟩
def B9(h:B2 p q)(z:Q (aO (p*q))):me [aO p,aO q] E Q:=⟨(p,q),rfl,h,z⟩
def E4(q:∀s n,IsSl s n->Q (aP s)):wq [.pen] E Q:=⟨(),rfl,trivial,λd ⟨s,n,h,hd⟩=>by rw[hd];exact q s n h⟩
theorem Kq(h:n<=5)(q:∀r:List Rat,r.length=n->(∀x∈r,Sz 72 x)->Q (aF r)):zn [.pen,.int n] E Q:=⟨n,rfl,h,λd ⟨r,h1,h2,hd⟩=>by rw[hd];exact q r h1 h2⟩
end
abbrev ZeG:List Str:=["_law_script", "_law_k"]
def E5:WS:=(aI (cS (wT (w2 fW (wN 1) (wB bS (aC (wN 0) aA)))) (aM (w2 gIx (wN 0) (wN 1))) cR) (aM (wC (D.int (0)))))
abbrev Zhp:List Str:=["_law_seed"]
def E6:WS:=(aI (aQ 0 (w2 qZ (w2 gAdd (wN 0) (wC (D.int (7919)))) (wC (D.int (2147483647))))) (aM (w2 qZ (w2 gAdd (w2 gAdd (w2 gMul (wN 0) (wN 0)) (w2 gMul (wC (D.int (48271))) (wN 0))) (wC (D.int (12345)))) (wC (D.int (2147483629))))))
abbrev Zfs:List Str:=["_law_cell", "_law_left"]
def E7:WS:=(aI (aQ 1 (wB jW (aC (wN 0) (aC (w2 eS (wC (D.int (0))) (wN 0)) aA)))) (aM (e7 (aX (aC (wN 1) (aC (wB fQ (aC (w2 BH (wN 1) (w2 BG (wC (D.int (10))) (wC (D.int (18))))) aA)) (aC (w2 qZ (wN 1) (wC (D.int (1000003)))) aA)))))))
abbrev Zhs:List Str:=["_law_pen", "_law_many", "_law_found"]
def E9:WS:=(aI (cS (wT (w2 (gEq false) (w2 dU (wN 0) (wC (D.int (1)))) (wC (D.int (1))))) (aI (aQ 2 (w2 qZ (w2 dU (wN 0) (wC (D.int (0)))) (wN 1))) (aI (eR 0 (w2 fV (w2 dU (wN 0) (wC (D.int (0)))) (wN 1))) (aM (wN 2)))) cR) (aI (eR 0 (wF wn (aC (w2 gAdd (wF wn (aC (w2 dU (wN 0) (wC (D.int (2)))) aA)) (wC (D.int (7)))) aA))) (aM (w2 qZ (w2 fV (w2 dU (wN 0) (wC (D.int (2)))) (wC (D.int (64)))) (wN 1)))))
abbrev Zga:List Str:=["_law_top", "_law_bottom", "_law_one", "_law_other"]
def Fa:WS:=(aI (eF 2 3 (aC (wB iU (aC (wN 0) aA)) (aC (wB iU (aC (wN 1) aA)) aA))) (aI (aZ (vR (wT (w2 (gEq true) (wN 3) (wC (D.int (0))))) (eF 2 3 (aC (wN 3) (aC (w2 qZ (wN 2) (wN 3)) aA))))) (aI (cS (wT (w2 fW (wN 1) (wC (D.int (0))))) (aQ 2 (w2 eS (wC (D.int (0))) (wN 2))) cR) (aM (aU (aC (w2 fV (wN 0) (wN 2)) (aC (w2 fV (wN 1) (wN 2)) aA)))))))
abbrev Zi:List Str:=["_law_one", "_law_other"]
def Kr:WS:=(aM (wF nU (aC (w2 gAdd (w2 gMul (w2 gIx (wN 0) (wC (D.int (0)))) (w2 gIx (wN 1) (wC (D.int (1))))) (w2 gMul (w2 gIx (wN 1) (wC (D.int (0)))) (w2 gIx (wN 0) (wC (D.int (1)))))) (aC (w2 gMul (w2 gIx (wN 0) (wC (D.int (1)))) (w2 gIx (wN 1) (wC (D.int (1))))) aA))))
abbrev Zf9:List Str:=["_law_one", "_law_other"]
def Ks:WS:=(aM (wF nU (aC (w2 gMul (w2 gIx (wN 0) (wC (D.int (0)))) (w2 gIx (wN 1) (wC (D.int (0))))) (aC (w2 gMul (w2 gIx (wN 0) (wC (D.int (1)))) (w2 gIx (wN 1) (wC (D.int (1))))) aA))))
abbrev ZdH:List Str:=["_law_pen", "_law_size", "_law_way", "_law_span", "_law_some"]
def Fb:WS:=(aI (aQ 1 (w2 gAdd (wC (D.int (1))) (wF i9 (aC (wN 0) (aC (wC (D.int (5))) aA))))) (aI (aQ 2 (wF i9 (aC (wN 0) (aC (wC (D.int (7))) aA)))) (aI (aQ 3 (w2 gIx (wL (aX (aC (wC (D.int (1))) (aC (wC (D.int (2))) (aC (wC (D.int (3))) (aC (wC (D.int (50))) aA)))))) (wF i9 (aC (wN 0) (aC (wC (D.int (4))) aA))))) (aI (bW 4 (aLC (eO (aC (w2 eS (w2 gMul (wC (D.int (2))) (wN 1)) (wC (D.int (1)))) aA)) 1 [0,3] (gN 0) cM (w2 eS (wF i9 (aC (wN 1) (aC (w2 gAdd (w2 gMul (wC (D.int (2))) (wN 2)) (wC (D.int (1)))) aA))) (wN 2)))) (aI (cS (wT (w2 (gEq false) (wN 2) (wC (D.int (0))))) (bW 4 (aBor 4 (dS (bM (wN 4) d8 (dA (wN 1))) (w1 gRev (bM (wN 4) d8 (dA (w2 eS (wN 1) (wC (D.int (1)))))))))) cR) (aI (cS (wT (w2 (gEq false) (wN 2) (wC (D.int (1))))) (bW 4 (aBor 4 (dS (bM (wN 4) (dA (wC (D.int (1)))) (dA (wN 1))) (bM (wN 4) d8 (dA (wN 1)))))) cR) (aI (cS (wT (w2 (gEq false) (wN 2) (wC (D.int (2))))) (bW 4 (aBor 4 (dS (bM (wN 4) d8 (dA (wN 1))) (w2 gMul (wL (aX (aC (wC (D.int (0))) aA))) (w2 eS (wN 1) (wC (D.int (1)))))))) cR) (aI (cS (wT (w2 (gEq false) (wN 2) (wC (D.int (3))))) (jy 4 (w2 eS (wN 1) (wC (D.int (1)))) (wC (D.int (0)))) cR) (aI (cS (wT (w2 (gEq false) (wN 2) (wC (D.int (4))))) (bW 4 (aBor 4 (eZ (bM (wN 4) d8 (dA (wC (D.int (1))))) (w2 eS (w2 gMul (wC (D.int (2))) (wN 1)) (wC (D.int (1))))))) cR) (bO 4 (aM (wB jw (aC (wN 4) aA)))))))))))))
abbrev Zfr:List Str:=["_law_pen", "_law_size", "_law_great", "_law_found", "_law_place"]
def Fc:WS:=(aI (aQ 2 (w2 gIx (wL (aX (aC (wC (D.int (1))) (aC (wC (D.int (1))) (aC (wC (D.int (1))) (aC (wC (D.int (1))) (aC (wC (D.int (1))) (aC (wC (D.int (1))) (aC (wC (D.int (1))) (aC (w2 BG (wC (D.int (10))) (wC (D.int (20)))) aA)))))))))) (wF i9 (aC (wN 0) (aC (wC (D.int (8))) aA))))) (aI (bW 3 (aX aA)) (aI (aZ (bU (eO (aC (wN 1) aA)) (gN 4) (dg 3 (wF nU (aC (w2 gMul (w2 eS (wF i9 (aC (wN 0) (aC (wC (D.int (11))) aA))) (wC (D.int (5)))) (wN 2)) (aC (w2 gAdd (wC (D.int (1))) (wF i9 (aC (wN 0) (aC (wC (D.int (4))) aA)))) aA)))))) (bO 3 (aM (wB jw (aC (wN 3) aA)))))))
theorem Kt:Rd zk E5 ZeG:=by
 rintro _ E Q ⟨⟨xs,i⟩,rfl,_,q⟩;unfold E5;walk_at "go"
 by_cases h:i<xs.length
 .rw[if_pos (by simp[h])]
  refine⟨.int (xs.getD i 0),B6 rfl ?_,q⟩;rw[cI,bD,bG h];rfl
 .rw[if_neg (by simp;omega)]
  rw[bD,eK (by omega)] at q;exact q
theorem Ku:Rd wn E6 Zhp:=by
 rintro _ E Q ⟨x,rfl,_,q⟩;unfold E6;walk_at "go";have h1:=AE (x+7919) (show(0:Int)<2147483647 by decide);have h2:=Int.fmod_lt_of_pos (x+7919) (show(0:Int)<2147483647 by decide);have b:Bd ((x+7919).fmod 2147483647):=i8 (n:=32) (by omega) (by omega);exact⟨by decide,⟨b,b⟩,⟨i8 (n:=32) (by decide) (by omega),b⟩,by decide,q _ ⟨_,rfl⟩⟩
theorem Kv:Rd zm E7 Zfs:=by
 rintro _ E Q ⟨x,rfl,_,q⟩;unfold E7;walk_at "go";exact⟨⟨by decide,by decide,by decide⟩,by decide,by decide,⟨_,_,_,rfl⟩,q⟩
theorem Kw:Rd i9 E9 Zhs:=by
 rintro _ E Q ⟨m,rfl,⟨h0,h1⟩,q⟩;have hb:Bd (m:Int):=i8 (n:=30) (by omega) (by omega);have fin:∀x:Int,Q (.int (x.fmod m)):=λx=>by
  have h1:=AE x (show(0:Int)<m by omega);have h2:=Int.fmod_lt_of_pos x (show(0:Int)<m by omega);exact q _ ⟨(x.fmod m).toNat,by rw[xO h1],by omega⟩
 unfold E9;walk_at "go";refine⟨by simp,λj=>?_⟩;walk_at "go";split
 .refine⟨by simp,λi=>⟨by omega,?_⟩⟩
  walk_at "go";exact⟨by simp,λi'=>⟨⟨by omega,hb⟩,fin i⟩⟩
 .refine⟨by simp,λk=>E3 λk1=>?_⟩
  walk_at "go";refine E3 λk2=>?_;walk_at "go";exact⟨by simp,λk3=>⟨⟨by decide,i8 (n:=7) (by decide) (by omega)⟩,by omega,fin _⟩⟩
def Fd(x:Int):(if x<0 then -x else x)=((x.natAbs:Nat):Int):=by split<;>omega
theorem Kx:Rd nU Fa Zga:=by
 rintro _ E Q ⟨⟨t,b⟩,rfl,⟨hb,hd⟩,q⟩;have hg:0<Int.gcd t b:=AA _ hb;have hle:Int.gcd t b<=b.natAbs:=Nat.le_of_dvd (by omega) (Int.gcd_dvd_natAbs_right ..);obtain⟨e1,e2⟩:=Ee (t:=t) hb;unfold aO at q;dsimp only at q e1 e2;rw[<-e1,<-e2] at q;unfold Fa;walk_at "go";refine⟨λm ρ=>∃x y:Int,m=y.natAbs/\ρ=[.d (.int t),.d (.int b),.d (.int x),.d (.int y)]/\0<=x/\0<=y/\Int.gcd x y=Int.gcd t b,⟨_,_,_,rfl,rfl,by omega,by omega,?_⟩,?_⟩
 .rw[Fd,Fd]
  simp[Int.gcd]
 rintro m _ ⟨x,y,rfl,rfl,hx,hy,hg'⟩;walk_at "go"
 by_cases hy0:y=0
 .subst hy0
  simp only[NV,fb,dX,if_false];rw[Int.gcd_zero_right] at hg';have hx':x=((Int.gcd t b:Nat):Int):=by omega
  by_cases h:b<0
  .simp only[h,decide_true,if_true] at q ⊢
   have ez:0-x = -((Int.gcd t b:Nat):Int):=by omega
   rw[ez];refine⟨⟨by omega,Bd.le (by omega) hd⟩,⟨by omega,Bd.le (by omega) hd⟩,by simp[small],q⟩
  .simp only[h,decide_false,if_false,dX] at q ⊢
   rw[hx'];refine⟨⟨by omega,Bd.le (by omega) hd⟩,⟨by omega,Bd.le (by omega) hd⟩,by simp[small],q⟩
 .rw[if_pos (by simpa using hy0)]
  refine⟨hy0,_,ET x hy0,_,_,rfl,rfl,hy,AE _ (by omega),by rw[ES];exact hg'⟩
def Ky:Rd lA Kr Zi:=EY
def Kz:Rd me Ks Zf9:=EZ
theorem uj{t b:Int}(hb:b≠0)(h1:t.natAbs<2^n)(h2:b.natAbs<2^n):Sz n (Rat.divInt t b):=by
 unfold Sz;rw[Rat.num_divInt,Rat.den_divInt,if_neg hb];have hg:Int.gcd b t≠0:=by
  have:=Int.gcd_pos_of_ne_zero_left t hb;omega
 refine⟨lP (Ea hg ?_) ?_,lP (Nat.div_le_self _ _) h2⟩
 .exact Int.dvd_mul_of_dvd_right (Int.gcd_dvd_right ..)
 .rw[eu,Int.natAbs_sign_of_ne_zero hb,Nat.one_mul];exact h1
theorem KA:Rd zn Fc Zfr:=by
 rintro _ E Q ⟨n,rfl,hn,q⟩;unfold Fc;walk_at "go";refine⟨⟨by decide,by decide,by decide⟩,by decide,?_⟩;refine lB (n:=8) (by decide) (by decide) λk hk=>?_;walk_at "go";have hgr:∃g:Int,(0<=g/\g<=10^20)/\eD [D.int 1,D.int 1,D.int 1,D.int 1,D.int 1,D.int 1,D.int 1,D.int (10^Int.toNat 20)] (k:Int)=some (.int g):=by
  have:k=0\/k=1\/k=2\/k=3\/k=4\/k=5\/k=6\/k=7:=by omega
  rcases this with rfl|rfl|rfl|rfl|rfl|rfl|rfl|rfl
  .exact⟨1,by decide,rfl⟩
  .exact⟨1,by decide,rfl⟩
  .exact⟨1,by decide,rfl⟩
  .exact⟨1,by decide,rfl⟩
  .exact⟨1,by decide,rfl⟩
  .exact⟨1,by decide,rfl⟩
  .exact⟨1,by decide,rfl⟩
  .exact⟨10^20,by decide,rfl⟩
 obtain⟨g,hg,hat⟩:=hgr;refine⟨_,hat,by decide,?_⟩;refine⟨by omega,by omega,?_⟩;rw[hJ];have key:∀(ds:List D) (r:List Rat) (sv:SV),r.length+ds.length=n->(∀x∈r,Sz 72 x)->
   Za2 (gN 4) (dg 3 (wF nU (aC (w2 gMul (w2 eS (wF i9 (aC (wN 0) (aC (wC (D.int (11))) aA))) (wC (D.int (5)))) (wN 2)) (aC (w2 gAdd (wC (D.int (1))) (wF i9 (aC (wN 0) (aC (wC (D.int (4))) aA)))) aA))))
    No { nx:=bO 3 (aM (wB jw (aC (wN 3) aA))) No { nx:=λ_=>Q .non,rt:=Q },rt:=Q,bk:=λ_=>False,ct:=λ_=>False } ds [.d .pen,.d (.int n),.d (.int g),.ow (r.map aO),sv]:=by
  intro ds
  induction ds with
  |nil=>
   intro r sv hl hr;unfold Za2;walk_at "go";exact q _ ⟨r,by simpa using hl,hr,rfl⟩
  |cons d ds ih=>
   intro r sv hl hr;unfold Za2;walk_at "go";refine lB (n:=11) (by decide) (by decide) λk1 hk1=>?_;walk_at "go";have hg1:((k1:Int)-5).natAbs<=5:=by omega
   have hg2:g.natAbs<=10^20:=by omega
   have hm:(((k1:Int)-5)*g).natAbs<2^72:=by
    rw[eu];exact lP (ke hg1 hg2) (by decide)
   refine⟨⟨i8 (n:=10) (by omega) (by omega),i8 (n:=72) (lP hg2 (by decide)) (by omega)⟩,?_⟩;refine lB (n:=4) (by decide) (by decide) λk2 hk2=>?_;walk_at "go";refine B8 (by omega) (i8 (n:=10) (by omega) (by omega)) ⟨?_,?_⟩
   .rw[bL];rw[dY] at hl;unfold small;omega
   .have:=ih (r++[Rat.divInt (((k1:Int) - 5)*g) (1+(k2:Int))]) (.d d) (by simp at hl ⊢;omega) (λx hx=>by
     rcases Yao.mp hx with hx|hx
     .exact hr x hx
     .rw[Yco.mp hx]
      exact uj (by omega) hm (lP (show(1+(k2:Int)).natAbs<=4 by omega) (by decide)))
    rw[jb] at this;exact this
 exact key (rng 0 n) [] .un (by simp[rng]) (by simp)
local macro_rules | `(tactic| walk_at "w1")=>`(tactic| simp only[aM,cS,aQ,cR,iX,bO,bW,bU,ky,eF,dI,dg,jy,eR,l7,aZ,i7,ii,fM,jS,dw,fD,bV,wT,jT,w1,w2,wB,wF,wL,aU,bM,Zbd,aB,aX,aC,aA,aLC,Zbv,cM,iS,iL,iT,eO,lV,iZ,i1,i2,isS,isL,isT,isB,isI,d8,dA,wN,wC,gN,dH,cD,dC,gI2,gAdd,gMul,gIx,dU,gCut,gRev,bS,fP,jw,iU,jW,fQ,lZ,e7,fT,eQ,aBor,fU,dS,eZ,aCut,eP,pub,cV,gx,dY,j9,iz,et,List.replicate,cZ,df,eT,eU,Nat.reduceSub,Nat.reduceAdd,gw,lO,true_and,dX,if_true,if_false,ite_true,ite_false])
local macro_rules | `(tactic| walk_at "st")=>`(tactic| ((try dsimp only at *);(try walk_at "w1");(try dsimp only)))
def bY{E:Ex->Prop}(h:z E { N with nx:=z' E N } ρ):aI z z' E N ρ:=h
theorem wu{E:Ex->Prop}(I:bR->Prop)(hz:∀nx:bR->Prop,(∀ρ,I ρ->nx ρ)->z E { N with nx:=nx } ρ)(hr:∀ρ,I ρ->z' E N ρ):aI z z' E N ρ:=hz _ hr
theorem jo{c:WT}{E:Ex->Prop}{b:Bool}(hc:∀Q:Bool->Prop,Q b->c E ρ Q)(h1:b=true->zb E N ρ)(h2:b=false->N.nx ρ):cS c zb cR E N ρ:=by
 refine hc _ ?_;cases b with
 |true=>rw[if_pos rfl];exact h1 rfl
 |false=>rw[if_neg (by decide)];exact h2 rfl
def zq(xs:List Int):jz (xs.map D.int)=true:=by
 induction xs with
 |nil=>rfl
 |cons x xs ih=>rw[cV,jz,ih];rfl
theorem KB(h:∀y∈ys,∃i:Int,y=.int i/\-50<=i/\i<=50):∃s:List Int,ys=s.map D.int/\∀x∈s,-50<=x/\x<=50:=by
 induction ys with
 |nil=>exact⟨[],rfl,by simp⟩
 |cons y ys ih=>
  obtain⟨s,rfl,hs⟩:=ih λz hz=>h z (by simp[hz]);obtain⟨i,rfl,h1,h2⟩:=h y (by simp);exact ⟨i::s,rfl,λx hx=>by
   rcases Yan.mp hx with rfl|hx
   .exact⟨h1,h2⟩
   .exact hs x hx⟩
theorem KC:Rd wq Fb ZdH:=by
 rintro _ E Q ⟨_,rfl,_,q⟩;have fin:∀(s:List Int) (n:Nat),s.length+1=2*n->1<=n->n<=5->(∀x∈s,-50<=x/\x<=50)->Q (D.tup (s.map D.int)):=λs n h1 h2 h3 h4=>q _ ⟨s,n,⟨h1,h2,h3,h4⟩,rfl⟩;unfold Fb;refine bY ?_;walk_at "st";refine lB (n:=5) (by decide) (by decide) λk hk=>?_;walk_at "st";refine bY ?_;walk_at "st";refine lB (n:=7) (by decide) (by decide) λway hw=>?_;walk_at "st";refine bY ?_;walk_at "st";refine⟨by decide,lB (n:=4) (by decide) (by decide) λsp hsp=>?_⟩;have hgr:∃g:Nat,(1<=g/\g<=50)/\eD [D.int 1,D.int 2,D.int 3,D.int 50] (sp:Int)=some (.int g):=by
  have:sp=0\/sp=1\/sp=2\/sp=3:=by omega
  rcases this with rfl|rfl|rfl|rfl
  .exact⟨1,by decide,rfl⟩
  .exact⟨2,by decide,rfl⟩
  .exact⟨3,by decide,rfl⟩
  .exact⟨50,by decide,rfl⟩
 obtain⟨g,hg,hat⟩:=hgr;walk_at "st";refine⟨_,hat,bY ?_⟩;walk_at "st";refine⟨⟨i8 (n:=2) (by decide) (by omega),i8 (n:=10) (by omega) (by omega)⟩,by omega,by omega,?_⟩;refine JD (R:=λ_ y=>∃i:Int,y=.int i/\-50<=i/\i<=50) (λd hd Q hq=>?_) .un [] (by simp[rng,small];omega) λys hl hys=>?_
 .walk_at "go"
  refine⟨⟨i8 (n:=2) (by decide) (by omega),i8 (n:=10) (by omega) (by omega)⟩,?_⟩;have e:(2:Int)*(g:Int)+1=((2*g+1:Nat):Int):=by omega
  rw[e];refine lB (by omega) (by omega) λj hj=>?_;walk_at "go";exact hq _ ⟨_,rfl,by omega,by omega⟩
 .obtain⟨s,rfl,hs⟩:=KB λy hy=>let⟨_,_,h⟩:=hys y hy;h
  simp only[rng,bL,jE] at hl;rw[et];have hm:∀x∈s,-50<=x/\x<=50:=hs;have hsl:s.length+1=2*(1+k):=by omega
  have hn:(1:Int)+(k:Int)=((1+k:Nat):Int):=by omega
  generalize 1+k=n at hn hsl;have n1:1<=n:=by omega
  have n5:n<=5:=by omega
  rw[hn];clear hl hys hat hsp hk q hn;have c1:∀{s:List Int},s.length+1=2*n->aY (s.map D.int) none (some (n:Int))=(s.take n).map D.int:=λ_=>by rw[tm rfl,nK]
  have c2:∀{s:List Int},s.length+1=2*n->aY (s.map D.int) none (some ((n:Int)-1))=(s.take (n-1)).map D.int:=λ_=>by rw[tm (b:=n-1) (by omega),nK]
  have c3:∀{s:List Int},s.length+1=2*n->aY (s.map D.int) (some 1) (some (n:Int))=((s.drop 1).take (n-1)).map D.int:=λh=>by
   rw[E2 (i:=1) (a:=1) (b:=n) (by decide) rfl n1 (by rw[bL];omega),nK,qE]
  have mt:∀{s:List Int} {j:Nat},(∀x∈s,-50<=x/\x<=50)->∀x∈s.take j,-50<=x/\x<=50:=λh x hx=>h x (qF hx);refine wu (λρ=>∃s:List Int,ρ=[.d .pen,.d (.int n),.d (.int way),.d (.int g),.ow (s.map .int)]/\s.length+1=2*n/\∀x∈s,-50<=x/\x<=50) (λnx hnx=>?_) ?_
  .walk_at "st"
   split
   .rw[c1 hsl,c2 hsl,<-rE,<-jb]
    refine⟨?_,zq _,hnx _ ⟨_,rfl,?_,λx hx=>?_⟩⟩
    .simp[small];omega
    .simp only[dM,xN,jr];omega
    .rcases Yao.mp hx with hx|hx
     .exact mt hm x hx
     .exact mt hm x (Ycq.mp hx)
   .exact hnx _ ⟨s,rfl,hsl,hm⟩
  clear hs hm hsl s;rintro _ ⟨s,rfl,hsl,hm⟩;refine wu (λρ=>∃s:List Int,ρ=[.d .pen,.d (.int n),.d (.int way),.d (.int g),.ow (s.map .int)]/\s.length+1=2*n/\∀x∈s,-50<=x/\x<=50) (λnx hnx=>?_) ?_
  .walk_at "st"
   split
   .rw[c1 hsl,c3 hsl,<-jb]
    refine⟨?_,zq _,hnx _ ⟨_,rfl,?_,λx hx=>?_⟩⟩
    .simp[small];omega
    .simp only[dM,kI,jr];omega
    .rcases Yao.mp hx with hx|hx
     .exact hm x (mr (qF hx))
     .exact mt hm x hx
   .exact hnx _ ⟨s,rfl,hsl,hm⟩
  clear hm hsl s;rintro _ ⟨s,rfl,hsl,hm⟩;refine wu (λρ=>∃s:List Int,ρ=[.d .pen,.d (.int n),.d (.int way),.d (.int g),.ow (s.map .int)]/\s.length+1=2*n/\∀x∈s,-50<=x/\x<=50) (λnx hnx=>?_) ?_
  .walk_at "st"
   split
   .have e:(List.replicate ((n:Int)-1).toNat [D.int 0]).flatten=(List.replicate (n-1) (0:Int)).map D.int:=by
     rw[show((n:Int)-1).toNat=n-1 by omega,List.map_replicate];generalize n-1=j
     induction j with
     |zero=>rfl
     |succ j ih=>rw[gw,qC,ih,gw];rfl
    rw[c1 hsl,e,<-jb];refine⟨by decide,by omega,by omega,by unfold small;omega,?_,zq _,hnx _ ⟨_,rfl,?_,λx hx=>?_⟩⟩
    .simp[small];omega
    .simp only[dM,pJ,jr];omega
    .rcases Yao.mp hx with hx|hx
     .exact mt hm x hx
     .rw[(Ycr.mp hx).2];omega
   .exact hnx _ ⟨s,rfl,hsl,hm⟩
  clear hm hsl s;rintro _ ⟨s,rfl,hsl,hm⟩;refine wu (λρ=>∃s:List Int,ρ=[.d .pen,.d (.int n),.d (.int way),.d (.int g),.ow (s.map .int)]/\s.length+1=2*n/\∀x∈s,-50<=x/\x<=50) (λnx hnx=>?_) ?_
  .walk_at "st"
   split
   .refine⟨n-1,?_,hnx _ ⟨s.set (n-1) 0,by rw[tX],by rw[cL];exact hsl,λx hx=>?_⟩⟩
    .unfold jh
     rw[if_pos (by omega),if_pos (by rw[bL];omega),show((n:Int)-1).toNat=n-1 by omega]
    .rcases pM hx with hx|rfl
     .exact hm x hx
     .omega
   .exact hnx _ ⟨s,rfl,hsl,hm⟩
  clear hm hsl s;rintro _ ⟨s,rfl,hsl,hm⟩;refine wu (λρ=>∃s:List Int,ρ=[.d .pen,.d (.int n),.d (.int way),.d (.int g),.ow (s.map .int)]/\s.length+1=2*n/\∀x∈s,-50<=x/\x<=50) (λnx hnx=>?_) ?_
  .walk_at "st"
   split
   .obtain⟨x0,s',rfl⟩:∃x0 s',s=x0::s':=by
     cases s with
     |nil=>simp at hsl;omega
     |cons x0 s'=>exact⟨x0,s',rfl⟩
    have e1:aY ((x0::s').map D.int) none (some 1)=[D.int x0]:=by rw[tm (i:=1) (b:=1) (by decide)];simp
    have e2:(List.replicate (2*(n:Int)-1).toNat [D.int x0]).flatten=(List.replicate (2*n-1) x0).map D.int:=by
     rw[show(2*(n:Int)-1).toNat=2*n-1 by omega,List.map_replicate];generalize 2*n-1=j
     induction j with
     |zero=>rfl
     |succ j ih=>rw[gw,qC,ih,gw];rfl
    rw[e1,e2];refine⟨⟨i8 (n:=2) (by decide) (by omega),i8 (n:=10) (by omega) (by omega)⟩,by omega,by omega,?_,zq _,hnx _ ⟨_,rfl,?_,λx hx=>?_⟩⟩
    .simp[small];omega
    .rw[pJ];omega
    .rw[(Ycr.mp hx).2];exact hm x0 (by simp)
   .exact hnx _ ⟨s,rfl,hsl,hm⟩
  clear hm hsl s;rintro _ ⟨s,rfl,hsl,hm⟩;walk_at "st";exact fin s n hsl n1 n5 hm
abbrev LX:List Str:=["NoSlants", "NoRow", "NoNumber", "NoLine", "NotEven", "NotFull"]
abbrev MX:List Str:=["NoSlants", "NoRow", "NoNumber", "NoLine", "NotEven", "NotFull", "NotStrong", "NoText", "TooGreat"]
def uk(n:Str):Str:=if n == "NoSlants" then "slants" else if n == "NoRow" then "row" else if n == "NoNumber" then "number" else if n == "NoLine" then "line" else if n == "NotEven" then "even" else "full"
mutual
def dG(m:Nat):D->Bool
 |.int i=>decide (i.natAbs<2^m)
 |.tup xs=>ft m xs
 |.lst xs=>ft m xs
 |_=>true
def ft(m:Nat):List D->Bool
 |[]=>true
 |x::r=>dG m x&&ft m r
end
def tB{m:Nat}:∀{xs:List D},ft m xs=true↔∀x∈xs,dG m x=true
 |[]=>by simp[ft]
 |x::r=>by rw[ft,dj,tB];simp
def ZjT:dG m (aO q)=true↔Sz m q:=by
 unfold aO Sz;rw[dG,ft,ft,ft,dG,dG];simp
theorem ZbZ:dG m (aF r)=true↔∀x∈r,Sz m x:=by
 unfold aF;rw[dG,tB];constructor
 .intro h x hx
  exact ZjT.mp (h _ (rF hx))
 .intro h x hx
  obtain⟨q,hq,rfl⟩:=YbS.mp hx;exact ZjT.mpr (h q hq)
def ul:bN:=ue
def zt:bN:=fnS (λn:Str=>[.exc n]) (λn=>n∈LX) λn=>.str (uk n)
def zw:bN:=fnS (λx:SL×List Rat=>[aP x.1.1,aF x.2]) (λx=>IsSl x.1.1 x.1.2/\x.2.length=x.1.2/\∀y∈x.2,Sz 72 y) λx=>aF (cT x.1.1 x.1.2 x.2)
def zy:bN:=rlS (λx:SL=>[.pen,aP x.1]) (λx=>IsSl x.1 x.2) λ_ d=>kd d=true/\sX d=false
def zA:bN:=v6
def tD:bN:=rlS (λr:List Rat=>[.pen,aF r]) (λr=>1<=r.length/\r.length<=5/\∀y∈r,Sz 72 y) λ_ d=>kd d=true/\dG 72 d=true
def zB:bN:=fnS (λx:Nat×D=>[.int x.1,x.2]) (λx=>kd x.2=true/\dG 72 x.2=true) λx=>.bl (fY x.1 x.2)
section
variable{E:Ex->Prop}{x:D}
def Ca(h:kd x=true)(q:Q (.bl (l8 x))):ul [x] E Q:=⟨x,rfl,h,q⟩
def KD{n:Str}(h:n∈LX)(q:Q (.str (uk n))):zt [.exc n] E Q:=⟨n,rfl,h,q⟩
def KG(h:IsSl s n)(h1:r.length=n)(h2:∀y∈r,Sz 72 y)(q:Q (aF (cT s n r))):zw [aP s,aF r] E Q:=⟨((s,n),r),rfl,⟨h,h1,h2⟩,q⟩
def KH(h:IsSl s n)(q:∀d,kd d=true->Q d):zy [.pen,aP s] E Q:=⟨(s,n),rfl,h,λd h1=>q d h1.1⟩
def KI(h:kd x=true)(q:Q (.bl (fZ x))):zA [x] E Q:=⟨x,rfl,h,q⟩
theorem Fe(h:1<=r.length)(h':r.length<=5)(h2:∀y∈r,Sz 72 y)(q:∀d,kd d=true->dG 72 d=true->Q d):tD [.pen,aF r] E Q:=⟨r,rfl,⟨h,h',h2⟩,λd ⟨h1,h2⟩=>q d h1 h2⟩
def Ff(h:kd x=true)(h':dG 72 x=true)(q:Q (.bl (fY n x))):zB [.int n,x] E Q:=⟨(n,x),rfl,⟨h,h'⟩,q⟩
end
abbrev Zf8:List Str:=["_law_found"]
def KJ:WS:=(aM (ii (wB gIs (aC (wN 0) (aC (wC (.ty "int")) aA))) (jS (wB gIs (aC (wN 0) (aC (wC (.ty "bool")) aA))))))
abbrev Zc0:List Str:=["_law_e", "_law_marks"]
def Cb:WS:=(aI (aQ 1 (wL (aX (aC (wB (gIsX LX MX) (aC (wN 0) (aC (wC (.cls (PySem.Str.ofString "NoSlants"))) aA))) (aC (wB (gIsX LX MX) (aC (wN 0) (aC (wC (.cls (PySem.Str.ofString "NoRow"))) aA))) (aC (wB (gIsX LX MX) (aC (wN 0) (aC (wC (.cls (PySem.Str.ofString "NoNumber"))) aA))) (aC (wB (gIsX LX MX) (aC (wN 0) (aC (wC (.cls (PySem.Str.ofString "NoLine"))) aA))) aA))))))) (aI (aQ 1 (w2 gAdd (wN 1) (wL (aX (aC (wB (gIsX LX MX) (aC (wN 0) (aC (wC (.cls (PySem.Str.ofString "NotEven"))) aA))) (aC (wB (gIsX LX MX) (aC (wN 0) (aC (wC (.cls (PySem.Str.ofString "NotFull"))) aA))) (aC (wB (gIsX LX MX) (aC (wN 0) (aC (wC (.cls (PySem.Str.ofString "NotStrong"))) aA))) aA))))))) (aI (aQ 1 (w2 gAdd (wN 1) (wL (aX (aC (wB (gIsX LX MX) (aC (wN 0) (aC (wC (.cls (PySem.Str.ofString "NoText"))) aA))) (aC (wB (gIsX LX MX) (aC (wN 0) (aC (wC (.cls (PySem.Str.ofString "TooGreat"))) aA))) aA)))))) (aI (cS (fD (bV (wT (wB (gIsX LX MX) (aC (wN 0) (aC (wC (.ty "ValueError")) aA))))) (wT (w2 (gEq true) (wM BX (wN 1) (aC (wC (D.bl true)) aA)) (wC (D.int (1)))))) (aM (wC (D.str (PySem.Str.ofString "other")))) cR) (aM (w2 gIx (wL (aX (aC (wC (D.str (PySem.Str.ofString "slants"))) (aC (wC (D.str (PySem.Str.ofString "row"))) (aC (wC (D.str (PySem.Str.ofString "number"))) (aC (wC (D.str (PySem.Str.ofString "line"))) (aC (wC (D.str (PySem.Str.ofString "even"))) (aC (wC (D.str (PySem.Str.ofString "full"))) (aC (wC (D.str (PySem.Str.ofString "strong"))) (aC (wC (D.str (PySem.Str.ofString "text"))) (aC (wC (D.str (PySem.Str.ofString "great"))) aA))))))))))) (wM BY (wN 1) (aC (wC (D.bl true)) aA))))))))
abbrev Zhq:List Str:=["_law_slants", "_law_row", "_law_size", "_law_found", "_law_i", "_law_amount", "_law_j"]
def Fg:WS:=(aI (aQ 2 (w2 fV (w2 gAdd (wB bS (aC (wN 0) aA)) (wC (D.int (1)))) (wC (D.int (2))))) (aI (bW 3 (aX aA)) (aI (aZ (bU (eO (aC (wN 2) aA)) (gN 4) (aI (aQ 5 (aU (aC (wC (D.int (0))) (aC (wC (D.int (1))) aA)))) (aI (aZ (bU (eO (aC (wN 2) aA)) (gN 6) (aQ 5 (wF lA (aC (wN 5) (aC (wF me (aC (aU (aC (w2 gIx (wN 0) (w2 eS (w2 gAdd (w2 eS (wN 6) (wN 4)) (wN 2)) (wC (D.int (1))))) (aC (wC (D.int (1))) aA))) (aC (w2 gIx (wN 1) (wN 6)) aA))) aA)))))) (dg 3 (wN 5)))))) (bO 3 (aM (wB jw (aC (wN 3) aA)))))))
abbrev ZdI:List Str:=["_law_pen", "_law_slants", "_law_spot", "_law_odd", "_law_some"]
def Fh:WS:=(aI (aQ 2 (wF i9 (aC (wN 0) (aC (w2 gAdd (wB bS (aC (wN 1) aA)) (wC (D.int (1)))) aA)))) (aI (aQ 3 (w2 gIx (wL (aX (aC (wC (D.int (51))) (aC (w1 nr (wC (D.int (51)))) (aC (wC (D.bl true)) (aC (wC D.non) (aC (wC (D.str (PySem.Str.ofString "0"))) (aC (aU (aC (wC (D.int (0))) aA)) (aC (w2 BG (wC (D.int (10))) (wC (D.int (30)))) aA))))))))) (wF i9 (aC (wN 0) (aC (wC (D.int (7))) aA))))) (aI (aQ 4 (wL (aX (aC (w2 gAdd (w2 gAdd (w2 gAdd (bM (wN 1) d8 (dA (wN 2))) (aU (aC (wN 3) aA))) (bM (wN 1) (dA (w2 gAdd (wN 2) (wC (D.int (1))))) d8)) (w2 Zdd (aU (aC (wN 3) aA)) (wB fQ (aC (w2 (gEq false) (wN 2) (wB bS (aC (wN 1) aA))) aA)))) (aC (w2 gAdd (wN 1) (aU (aC (wC (D.int (0))) aA))) (aC (wL (aB (fP (α:=Unit)) (aC (wN 1) aA))) aA)))))) (aI (aQ 4 (w2 gAdd (wN 4) (wL (aX (aC (aU aA) (aC (w2 Zdd (aU (aC (wC (D.int (1))) aA)) (wC (D.int (11)))) (aC (w2 Zdd (aU (aC (wC (D.int (0))) aA)) (wC (D.int (2)))) (aC (wC D.non) (aC (wC (D.int (5))) (aC (wC .dic) (aC (wC (D.str (PySem.Str.ofString "0"))) (aC (aU (aC (wN 1) aA)) (aC (bM (wN 1) (dA (wC (D.int (1)))) d8) aA))))))))))))) (aM (w2 gIx (wN 4) (wF i9 (aC (wN 0) (aC (wC (D.int (12))) aA)))))))))
abbrev Zco:List Str:=["_law_thing"]
def Fi:WS:=(aI (cS (fD (bV (wT (wB gIs (aC (wN 0) (aC (wC (.ty "tuple")) aA))))) (wT (w2 (gIn true) (wB bS (aC (wN 0) aA)) (aU (aC (wC (D.int (1))) (aC (wC (D.int (3))) (aC (wC (D.int (5))) (aC (wC (D.int (7))) (aC (wC (D.int (9))) aA))))))))) (aM (wC (D.bl false))) cR) (aM (wB iW (aC (wL (aLC (iS (wN 0)) 1 [] (gN 0) cM (ii (wF ul (aC (wN 0) aA)) (Zbd jX jX (w1 nr (wC (D.int (50)))) (wN 0) (wC (D.int (50))))))) aA))))
abbrev Zft:List Str:=["_law_pen", "_law_row", "_law_spot", "_law_odd", "_law_some"]
def Fj:WS:=(aI (aQ 2 (wF i9 (aC (wN 0) (aC (wB bS (aC (wN 1) aA)) aA)))) (aI (aQ 3 (wL (aX (aC (aU (aC (wC (D.int (2))) (aC (wC (D.int (4))) aA))) (aC (aU (aC (wC (D.int (1))) (aC (wC (D.int (0))) aA))) (aC (aU (aC (wC (D.int (1))) (aC (w1 nr (wC (D.int (2)))) aA))) (aC (aU (aC (wC (D.int (0))) (aC (wC (D.int (2))) aA))) (aC (aU (aC (wC (D.bl true)) (aC (wC (D.int (1))) aA))) (aC (aU (aC (wC (D.int (1))) (aC (wC (D.bl true)) aA))) (aC (wC (D.int (1))) (aC (wC D.non) (aC (wL (aX (aC (wC (D.int (1))) (aC (wC (D.int (2))) aA)))) (aC (wC (D.str (PySem.Str.ofString "1"))) (aC (aU (aC (wC (D.int (1))) aA)) (aC (aU (aC (wC (D.int (1))) (aC (wC (D.int (2))) (aC (wC (D.int (3))) aA)))) aA))))))))))))))) (aI (aQ 3 (w2 gIx (wN 3) (wF i9 (aC (wN 0) (aC (wC (D.int (12))) aA))))) (aI (aQ 4 (wL (aX (aC (w2 gAdd (w2 gAdd (bM (wN 1) d8 (dA (wN 2))) (aU (aC (wN 3) aA))) (bM (wN 1) (dA (w2 gAdd (wN 2) (wC (D.int (1))))) d8)) (aC (w2 gAdd (wN 1) (aU (aC (wN 3) aA))) (aC (bM (wN 1) (dA (wC (D.int (1)))) d8) (aC (w2 gAdd (wN 1) (bM (wN 1) d8 (dA (wC (D.int (1)))))) (aC (wL (aB (fP (α:=Unit)) (aC (wN 1) aA))) (aC (wC D.non) (aC (wC (D.int (0))) (aC (wC .dic) (aC (aU (aC (wN 1) aA)) aA)))))))))))) (aM (w2 gIx (wN 4) (wF i9 (aC (wN 0) (aC (wC (D.int (9))) aA)))))))))
abbrev Ze:List Str:=["_law_size", "_law_thing", "_law_one"]
def Fk:WS:=(aI (cS (fD (bV (wT (wB gIs (aC (wN 1) (aC (wC (.ty "tuple")) aA))))) (wT (w2 (gEq true) (wB bS (aC (wN 1) aA)) (wN 0)))) (aM (wC (D.bl false))) cR) (aI (aZ (bU (iS (wN 1)) (gN 2) (aI (cS (fD (bV (wT (wB gIs (aC (wN 2) (aC (wC (.ty "tuple")) aA))))) (fD (wT (w2 (gEq true) (wB bS (aC (wN 2) aA)) (wC (D.int (2))))) (fD (bV (wT (wF ul (aC (w2 gIx (wN 2) (wC (D.int (0)))) aA)))) (bV (wT (wF ul (aC (w2 gIx (wN 2) (wC (D.int (1)))) aA))))))) (aM (wC (D.bl false))) cR) (cS (fD (wT (w2 fW (w2 gIx (wN 2) (wC (D.int (1)))) (wC (D.int (1))))) (wT (w2 (gEq true) (wF nU (aC (w2 gIx (wN 2) (wC (D.int (0)))) (aC (w2 gIx (wN 2) (wC (D.int (1)))) aA))) (wN 2)))) (aM (wC (D.bl false))) cR)))) (aM (wC (D.bl true)))))
def sm:Nat->(Nat->Rat)->Rat
 |0,_=>0
 |n+1,f=>f 0+sm n λi=>f (i+1)
theorem zC:∀{n:Nat} {f g:Nat->Rat},(∀i,i<n->f i=g i)->sm n f=sm n g
 |0,_,_,_=>rfl
 |n+1,f,g,h=>by rw[sm,sm,h 0 (by omega),zC λi hi=>h (i+1) (by omega)]
theorem Fm:∀(n:Nat) (f g:Nat->Rat),sm n (λi=>f i+g i)=sm n f+sm n g
 |0,_,_=>by rw[sm,sm,sm,nJ]
 |n+1,f,g=>by rw[sm,sm,sm,Fm n (λi=>f (i+1)) λi=>g (i+1)];grind
def Cc:∀(n:Nat) (c:Rat) (f:Nat->Rat),c*sm n f=sm n λi=>c*f i
 |0,c,_=>by rw[sm,sm,jG]
 |n+1,c,f=>by rw[sm,sm,<-Cc n c λi=>f (i+1)];grind
def Fn:∀{n:Nat} {f:Nat->Rat},(∀i,i<n->f i=0)->sm n f=0
 |0,_,_=>rfl
 |n+1,f,h=>by rw[sm,h 0 (by omega),Fn λi hi=>h (i+1) (by omega),nJ]
theorem Fo(m:Nat):∀(n:Nat) (f:Nat->Nat->Rat),(sm n λi=>sm m λj=>f i j)=sm m λj=>sm n λi=>f i j
 |0,f=>by rw[sm];exact(Fn λ_ _=>rfl).symm
 |n+1,f=>by
  rw[sm,Fo m n λi j=>f (i+1) j,<-Fm];rfl
theorem zD:∀(n:Nat) (f g:Nat->Rat),cE ((List.range n).map f) ((List.range n).map g)=sm n λi=>f i*g i
 |0,_,_=>rfl
 |n+1,f,g=>by
  rw[List.range_succ_eq_map,cV,cV,dk,dk,cE,sm,<-zD n (λi=>f (i+1)) λi=>g (i+1)];rfl
theorem Cd{α:Type}(r:List α)(d:α):r=(List.range r.length).map λi=>r.getD i d:=by
 refine tT λi=>?_;rcases gg i r.length with h|h
 .rw[cI,jD h,uC,bD,bG h];rfl
 .rw[eK h,eK (by simpa using h)]
def Fq{α:Type}{f g:Nat->α}(h:∀i,i<n->f i=g i):(List.range n).map f=(List.range n).map g:=
 ja λi hi=>h i (Yah.mp hi)
def ent(s:List Int)(n i j:Nat):Int:=s.getD (n-1-i+j) 0
theorem Ce(h:IsSl s n):tbl s n=(List.range n).map λi=>(List.range n).map λj=>ent s n i j:=by
 unfold tbl;refine Fq λi hi=>tT λj=>?_;have hl:=h.len;rcases gg j n with hj|hj
 .rw[Av hj,List.getElem?_drop,cI,jD hj,bG (by omega)]
  unfold ent;rw[uC,bD,bG (by omega)];rfl
 .rw[eK (by rw[jr];omega),eK (by simpa using hj)]
def IsSl.rev(h:IsSl s n):IsSl s.reverse n:=⟨by rw[xN];exact h.len,h.n1,h.n5,λx hx=>h.b x (Ycq.mp hx)⟩
theorem KK(h:IsSl s n)(hi:i<n)(hj:j<n):ent s.reverse n i j=ent s n j i:=by
 have hl:=h.len;unfold ent;rw[bD,bD,List.getElem?_reverse (by omega)];congr 2;omega
theorem Cf(h:IsSl s n)(hr:r.length=n):cT s n r=(List.range n).map λi=>sm n λj=>(ent s n i j:Rat)*r.getD j 0:=by
 unfold cT;rw[Ce h,dk];refine Fq λi hi=>?_;show cE (dF ((List.range n).map λj=>ent s n i j)) r=_;unfold dF;rw[dk]
 conv=>lhs;rw[Cd r 0,hr]
 exact zD n _ _
theorem Fs{o:List Rat}(h:IsSl s n)(hr:r.length=n)(ho:o.length=n):cE o (cT s n r)=cE r (cT s.reverse n o):=by
 rw[Cf h hr,Cf h.rev ho]
 conv=>lhs;rw[Cd o 0,ho]
 conv=>rhs;rw[Cd r 0,hr]
 rw[zD,zD];have e1:(sm n λi=>o.getD i 0*sm n λj=>(ent s n i j:Rat)*r.getD j 0)=sm n λi=>sm n λj=>o.getD i 0*((ent s n i j:Rat)*r.getD j 0):=zC λi _=>Cc _ _ _;rw[e1,Fo];refine zC λj hj=>?_;rw[Cc];refine zC λi hi=>?_;rw[KK h hj hi];grind
def bC(n p:Nat):List Rat:=(List.range n).map λj=>if j=p then 1 else 0
theorem zE{g:WG}{zb:WS}{E:Ex->Prop}{N:Nds}(I:bR->Prop):∀(ds:List D),(∀d∈ds,∀ρ,I ρ->∀nx:bR->Prop,(∀ρ,I ρ->nx ρ)->g d ρ λρ1=>zb E { nx:=nx,rt:=N.rt,bk:=N.nx,ct:=nx } ρ1)->(∀ρ,I ρ->N.nx ρ)->∀ρ,I ρ->Za2 g zb E N ds ρ
 |[],_,hn,ρ,i=>hn ρ i
 |d::ds,h,hn,ρ,i=>h d (j5 ..) ρ i _ (zE I ds (λd hd=>h d (gI _ hd)) hn)
theorem Cg{g:WG}{zb:WS}{E:Ex->Prop}{N:Nds}(I:List D->bR->Prop)(h:∀d ds ρ,I (d::ds) ρ->∀nx:bR->Prop,(∀ρ,I ds ρ->nx ρ)->g d ρ λρ1=>zb E { nx:=nx,rt:=N.rt,bk:=N.nx,ct:=nx } ρ1)(hn:∀ρ,I [] ρ->N.nx ρ):∀(ds:List D) ρ,I ds ρ->Za2 g zb E N ds ρ
 |[],ρ,i=>hn ρ i
 |d::ds,ρ,i=>h d ds ρ i _ (Cg I h hn ds)
def lC(n:Nat):rng 0 n=(List.range n).map λ(k:Nat)=>D.int (k:Int):=by
 unfold rng;exact ja λk _=>by rw[Int.zero_add]
section
variable{QI:Int->Prop}{QB:Bool->Prop}{i j:Int}{b:Bool}{o o':Option Int}
def kz:isB QB (.bl b)=QB b:=rfl
def mf:isI QI (.int i)=QI i:=rfl
def nV:isL QL (.lst xs)=QL xs:=rfl
def nW:isL QL (gQ s)=QL (s.map .int):=rfl
def nX:isL QL (iY s n)=QL ((tbl s n).map gQ):=rfl
def nY:isT QL (.tup xs)=QL xs:=rfl
def nZ:isS QL (.lst xs)=QL xs:=rfl
def n4:isS QL (.tup xs)=QL xs:=rfl
def n6:isS QL (aF r)=QL (r.map aO):=rfl
def n8:isS QL (aP s)=QL (s.map .int):=rfl
def n9:isS QL (gQ s)=QL (s.map .int):=rfl
def oa:isS QL (iY s n)=QL ((tbl s n).map gQ):=rfl
def oh:bS [.tup xs] Q=Q (.int xs.length):=rfl
def oj:bS [.lst xs] Q=Q (.int xs.length):=rfl
def ol:bS [.scr xs] Q=Q (.int xs.length):=rfl
def om:bS [aF r] Q=Q (.int r.length):=by show Q (.int ((r.map aO).length:Int))=_;rw[bL]
def oq:bS [aP s] Q=Q (.int s.length):=by show Q (.int ((s.map D.int).length:Int))=_;rw[bL]
def ot:bS [gQ s] Q=Q (.int s.length):=by show Q (.int ((s.map D.int).length:Int))=_;rw[bL]
def ou:bS [iY s n] Q=Q (.int n):=by show Q (.int (((tbl s n).map gQ).length:Int))=_;rw[bL,tx]
def oy:gIx (.tup xs) (.int i) Q = ∃d,eD xs i=some d/\Q d:=rfl
def oA:gIx (.lst xs) (.int i) Q = ∃d,eD xs i=some d/\Q d:=rfl
def oB:gIx (.scr xs) (.int i) Q = ∃d,eD xs i=some d/\Q d:=rfl
def oC:gIx (aF r) (.int i) Q = ∃d,eD (r.map aO) i=some d/\Q d:=rfl
def oD:gIx (aP s) (.int i) Q = ∃d,eD (s.map .int) i=some d/\Q d:=rfl
def oE:gIx (gQ s) (.int i) Q = ∃d,eD (s.map .int) i=some d/\Q d:=rfl
def oF:gIx (iY s n) (.int i) Q = ∃d,eD ((tbl s n).map gQ) i=some d/\Q d:=rfl
def oG:gCut (.tup xs) o o' Q=Q (.tup (aY xs o o')):=rfl
def oH:gCut (.lst xs) o o' Q=Q (.lst (aY xs o o')):=rfl
def oJ:gCut (.scr xs) o o' Q=Q (.lst (aY xs o o')):=rfl
def oK:gCut (aF r) o o' Q=Q (.tup (aY (r.map aO) o o')):=rfl
def oM:gCut (aP s) o o' Q=Q (.tup (aY (s.map .int) o o')):=rfl
def oN:gCut (gQ s) o o' Q=Q (.lst (aY (s.map .int) o o')):=rfl
def oO:gCut (iY s n) o o' Q=Q (.lst (aY ((tbl s n).map gQ) o o')):=rfl
def oP:gRev (.tup xs) Q=Q (.tup xs.reverse):=rfl
def oQ:gRev (.lst xs) Q=Q (.lst xs.reverse):=rfl
def oR:gRev (aF r) Q=Q (aF r.reverse):=by show Q (.tup (r.map aO).reverse)=_;rw[<-rE];rfl
def oS:gRev (aP s) Q=Q (aP s.reverse):=by show Q (.tup (s.map D.int).reverse)=_;rw[<-rE];rfl
def oU:gRev (gQ s) Q=Q (gQ s.reverse):=by show Q (.lst (s.map D.int).reverse)=_;rw[<-rE];rfl
def oV{α:Type}:fP (α:=α) [.tup xs] QL=QL xs:=rfl
def oW{α:Type}:fP (α:=α) [.lst xs] QL=QL xs:=rfl
def oX{α:Type}:fP (α:=α) [aP s] QL=QL (s.map .int):=rfl
def oY:jw [.tup xs] Q=Q (.tup xs):=rfl
def oZ:jw [.lst xs] Q=Q (.tup xs):=rfl
def o1:jw [gQ s] Q=Q (aP s):=rfl
def o4:gAdd (.int i) (.int j) Q=Q (.int (i+j)):=rfl
def o7:gAdd (.lst xs) (.lst ys) Q=(xs.length+ys.length<=small/\Q (.lst (xs++ys))):=rfl
def o8:gAdd (.tup xs) (.tup ys) Q=(xs.length+ys.length<=small/\Q (.tup (xs++ys))):=rfl
def o9:gMul (.int i) (.int j) Q=(qV i j/\Q (.int (i*j))):=rfl
def pj:gMul (.lst xs) (.int j) Q=(j<1000/\-1000<j/\xs.length*j.toNat<=small/\Q (.lst (List.replicate j.toNat xs).flatten)):=rfl
def e8{C:Int->Int->Prop}{kd:Int->Int->D}:gI2 C kd (.int i) (.int j) Q=(C i j/\Q (kd i j)):=rfl
def pk:iU [.int i] Q=Q (.int (if i<0 then -i else i)):=rfl
def pp:jW [.int i,.int j] Q=Q (.int (if j>i then j else i)):=rfl
def nw:fQ [.bl b] Q=Q (.int (if b then 1 else 0)):=rfl
def pq:fQ [.int i] Q=Q (.int i):=rfl
def pv:iW [.lst xs] Q = ∃bs:List Bool,xs=bs.map D.bl/\Q (.bl (bs.all id)):=rfl
def gS:i1 QL [.int j]=(-10000<=j/\j<10000/\QL (rng 0 j.toNat)):=rfl
def gT:i2 QL [.int i,.int j]=((-10000<=i/\i<10000/\-10000<=j/\j<10000)/\QL (rng i (j-i).toNat)):=rfl
end
local macro_rules | `(tactic| walk_at "w1")=>`(tactic| simp only [aM,cS,aQ,cR,iX,bO,bW,bU,ky,eF,dI,dg,jy,eR,l7,aZ,i7,fq,wM,Zdd,ii,fM,jS,dw,fD,bV,wT,jT,w1,w2,wB,wF,wL,aU,bM,Zbd,aB,aX,aC,aA,aLC,Zbv,cM,iS,iL,iT,eO,lV,iZ,d8,dA,wN,wC,gN,dH,cD,dC,dU,lZ,e7,fT,eQ,aBor,fU,dS,eZ,aCut,eP,pub,cV,gx,dY,j9,iz,et,List.replicate,cZ,df,eT,eU,Nat.reduceSub,Nat.reduceAdd,gw,lO,true_and,dX,if_true,if_false,ite_true,ite_false,hJ,fb,lQ,
 kz,mf,nV,nW,nX,nY,nZ,n4,n6,n8,n9,oa,oh,oj,ol,om,oq,ot,ou,oy,oA,oB,oC,oD,oE,oF,oG,oH,oJ,oK,oM,oN,oO,oP,oQ,oR,oS,oU,oV,oW,oX,oY,oZ,o1,o4,o7,o8,o9,pj,e8,pk,pp,nw,pq,pv,gS,gT])
local macro_rules | `(tactic| walk_at "nx")=>`(tactic| ((try dsimp only);(refine bY ?_);walk_at "st"))
def KM:Rd ul KJ Zf8:=ER
def ww:∀n∈LX,mZ n=n:=by decide +kernel
def qs{n m:Str}(h:n∈LX)(hm:m∈MX)(q:Q (.bl (n==m))):gIsX LX MX [.exc n,.cls m] Q:=⟨h,hm,by rw[ww n h];exact q⟩
theorem KN:∀ds E Q,zt ds E Q->Cb No { nx:=λ_=>Q .non,rt:=Q } (eP Zc0 ds):=by
 rintro _ E Q ⟨n,rfl,hn,q⟩;unfold Cb;walk_at "nx";refine qs hn (by simp) (qs hn (by simp) (qs hn (by simp) (qs hn (by simp) ⟨by decide,?_⟩)));walk_at "nx";refine qs hn (by simp) (qs hn (by simp) (qs hn (by simp) ⟨by decide,?_⟩));walk_at "st";refine⟨by decide,?_⟩;walk_at "nx";refine qs hn (by simp) (qs hn (by simp) ⟨by decide,?_⟩);walk_at "st";refine⟨by decide,?_⟩;have key:(MX.map (n == ·)).countP (· == true)=1/\∃j:Nat,(MX.map (n == ·))[j]? = some true/\(∀i<j,(MX.map (n == ·))[i]?≠some true)/\[D.str "slants",.str "row",.str "number",.str "line",.str "even",.str "full",.str "strong",.str "text",.str "great"][j]? = some (.str (uk n)):=by
  simp only[LX,Yan,dN,or_false] at hn;rcases hn with rfl|rfl|rfl|rfl|rfl|rfl
  .exact⟨by decide +kernel,0,by decide +kernel,by decide +kernel,rfl⟩
  .exact⟨by decide +kernel,1,by decide +kernel,by decide +kernel,rfl⟩
  .exact⟨by decide +kernel,2,by decide +kernel,by decide +kernel,rfl⟩
  .exact⟨by decide +kernel,3,by decide +kernel,by decide +kernel,rfl⟩
  .exact⟨by decide +kernel,4,by decide +kernel,by decide +kernel,rfl⟩
  .exact⟨by decide +kernel,5,by decide +kernel,by decide +kernel,rfl⟩
 obtain⟨k1,j,k2,k3,k4⟩:=key;walk_at "nx";refine⟨hn,rfl,?_⟩;walk_at "st";refine⟨⟨_,rfl⟩,⟨MX.map (n == ·),true,rfl,rfl,?_⟩⟩;rw[k1];walk_at "st";refine⟨by decide,⟨_,rfl⟩,MX.map (n == ·),true,j,rfl,rfl,k2,k3,?_⟩;exact⟨_,cC k4,q⟩
theorem KO:Rd zA Fi Zco:=by
 rintro _ E Q ⟨x,rfl,hk,q⟩;unfold Fi;walk_at "nx";refine rh hk (by decide) λt ht=>?_;cases x<;>cases ht<;>try exact q
 rename_i xs;obtain⟨hl,hx⟩:=qo hk;walk_at "st";simp only[show iV "tuple" "tuple" = true from rfl,fb,dX,if_false];refine⟨by decide,xs.length,[1,3,5,7,9],rfl,.inr rfl,?_⟩;walk_at "st";have e1:([1,3,5,7,9]:List Int).contains (xs.length:Int)=(decide (xs.length%2=1)&&decide (xs.length<=9)):=by
  rw[g9,dj,NI,NI,List.contains_iff_mem];simp only[Yan,dN,or_false];omega
 rw[e1];replace q:Q (.bl (xs.all (jY (-50) 50)&&decide (xs.length%2=1)&&decide (xs.length<=9))):=q;rw[Bool.and_assoc] at q;cases e2:(decide (xs.length%2=1)&&decide (xs.length<=9)) with
 |false=>
  rw[e2,Bool.and_false] at q;exact q
 |true=>
  rw[e2,uD] at q;simp only[fb,dX,if_false];walk_at "st";refine ud (f:=λd=>.bl (jY (-50) 50 d)) (λd hd Q hq=>?_) .un [] (by simp[small];omega) ?_
  .walk_at "st"
   refine Ca (hx d hd) ?_;cases hw:l8 d with
   |false=>
    have:jY (-50) 50 d=false:=by cases d<;>first|rfl|cases hw
    rw[this] at hq;exact hq
   |true=>
    obtain⟨i,rfl⟩:=wk hw;simp only[isB,if_true,gI2,true_and]
    by_cases h:-50<=i
    .simp only[h,decide_true,if_true]
     simpa[jY,h] using hq
    .simp only[h,decide_false,if_false,dX]
     simpa[jY,h] using hq
  .refine⟨xs.map (jY (-50) 50),by simp,?_⟩
   simpa[List.all_map,Function.comp_def] using q
def Zl(a b c d:Int):jA (.tup [.int a,.int b]) (.tup [.int c,.int d])=(a==c&&b==d):=by
 simp[jA,pd,fG,PyData.eqv,PyData.eqvAll]
theorem KP{i j:Int}(h:0<j):jA (aO (Rat.divInt i j)) (.tup [.int i,.int j])=cN (.tup [.int i,.int j]):=by
 cases e:cN (.tup [.int i,.int j]) with
 |true=>
  obtain⟨q,hq⟩:=Ep e;have hq':=hq;unfold aO at hq';injection hq' with h1
  injection h1 with h2 h3
  injection h3 with h4 _
  injection h2 with h2
  injection h4 with h4
  have:Rat.divInt i j=q:=by rw[h2,h4];exact tV q
  rw[this,hq];exact D8 (n:=60) (BL _ (by decide) (vW (n:=1) λx hx=>by
   simp only[Yan,dN,or_false] at hx;rcases hx with rfl|rfl<;>exact yX _ _))
 |false=>
  cases e2:jA (aO (Rat.divInt i j)) (.tup [.int i,.int j]) with
  |false=>rfl
  |true=>
   unfold aO at e2;rw[Zl,dj,N5,N5] at e2;have:=Eo (Rat.divInt i j);unfold aO at this;rw[e2.1,e2.2,e] at this;cases this
theorem Ft(a b:Int):cX (.tup [.int a,.int b]) 60=true:=BL _ (by decide) (vW (n:=1) λx hx=>by
 simp only[Yan,dN,or_false] at hx;rcases hx with rfl|rfl<;>exact yX _ _)
theorem KQ:Rd zB Fk Ze:=by
 rintro _ E Q ⟨⟨n,x⟩,rfl,⟨hk,hs⟩,q⟩;dsimp only at hk hs q;unfold Fk;walk_at "nx";refine rh hk (by decide) λt ht=>?_;cases x<;>cases ht<;>try exact q
 rename_i xs;obtain⟨hl,hx⟩:=qo hk;rw[dG,tB] at hs;walk_at "st";simp only[show iV "tuple" "tuple" = true from rfl,fb,dX,if_false]
 by_cases h:(xs.length:Int)=n
 .rw[if_neg (by simp[h])]
  replace q:Q (.bl (xs.all cN)):=by simpa[fY,h] using q
  walk_at "nx";refine Cg (λds ρ=>(∃sv,ρ=[.d (.int n),.d (.tup xs),sv])/\(∀y∈ds,kd y=true/\dG 72 y=true)/\Q (.bl (ds.all cN))) ?_ ?_ xs _ ⟨⟨_,rfl⟩,λy hy=>⟨hx y hy,hs y hy⟩,q⟩
  rotate_left
  .rintro _ ⟨⟨sv,rfl⟩,h1,h2⟩
   exact h2
  .rintro d ds _ ⟨⟨sv,rfl⟩,h1,h2⟩ nx hnx
   obtain⟨hkd,hsd⟩:=h1 d (by simp);have hbad:cN d=false->Q (.bl false):=λe=>by rw[tQ,e,tP] at h2;exact h2
   have hgood:cN d=true->nx [.d (.int n),.d (.tup xs),.d d]:=λe=>by
    rw[tQ,e,tW] at h2;exact hnx _ ⟨⟨_,rfl⟩,λy hy=>h1 y (by simp[hy]),h2⟩
   clear h2 hnx q hs hx h1;walk_at "st";walk_at "nx";refine rh hkd (by decide) λt ht=>?_;cases d<;>cases ht<;>try exact hbad rfl
   rename_i ys;obtain⟨hyl,hy⟩:=qo hkd;rw[dG,tB] at hsd;walk_at "st";simp only[show iV "tuple" "tuple" = true from rfl,fb,dX,if_false]
   by_cases h2:ys.length=2
   .match ys,h2,hy,hsd,hbad,hgood with
    |[a,b],_,hy,hsd,hbad,hgood=>
    rw[if_neg (by simp)];walk_at "st";refine⟨a,rfl,Ca (hy a (by simp)) ?_⟩;walk_at "st";cases ha:l8 a with
    |false=>exact hbad (EV ha)
    |true=>
    obtain⟨i,rfl⟩:=wk ha;simp only[fb,dX,if_false];refine⟨b,rfl,Ca (hy b (by simp)) ?_⟩;walk_at "st";cases hb:l8 b with
    |false=>exact hbad (EW hb)
    |true=>
    obtain⟨j,rfl⟩:=wk hb;simp only[fb,dX,if_false];refine⟨_,rfl,?_⟩;walk_at "st"
    by_cases h0:j<1
    .rw[if_pos (by simpa using h0)]
     exact hbad (by simp[cN];intro z;omega)
    .rw[if_neg (by simpa using h0)]
     have hj:dG 72 (.int j)=true:=hsd _ (by simp);rw[dG,NI] at hj;refine⟨_,rfl,_,rfl,B8 (by omega) (i8 hj (by decide)) (rc (Ft _ _) (Ft _ _) ?_)⟩;rw[KP (by omega)];cases e:cN (.tup [.int i,.int j]) with
     |false=>exact hbad e
     |true=>exact hgood e
   .rw[if_pos (by simpa using λz=>h2 (by exact_mod_cast z))]
    exact hbad (EU h2)
 .rw[if_pos (by simpa using h)]
  have e:((xs.length:Int)==(n:Int))=false:=by simpa using h
  simpa[fY,e] using q
def zF{P:D->Prop}(h:k<xs.length)(hp:∀x∈xs,P x):∃d,eD xs (k:Int)=some d/\P d:=⟨xs[k],cC (bG h),hp _ (jF h)⟩
def Ch{a b:Option Int}(h:∀x∈xs,kd x=true):∀x∈aY xs a b,kd x=true:=λx hx=>h x (by unfold aY at hx;exact mr (qF hx))
def zG{a b:Option Int}:(aY xs a b).length<=xs.length:=by unfold aY;rw[jr,kI];omega
def zH(h:xs.length+ys.length<=small)(q:Q (.tup (xs++ys))):gAdd (.tup xs) (.tup ys) Q:=⟨h,q⟩
def eG(h:n<=5000):n<=small:=by unfold small;omega
theorem KR:Rd zy Fh ZdI:=by
 rintro _ E Q ⟨⟨s,n⟩,rfl,h,q⟩;dsimp only at h q;have h9:=h.l9;unfold Fh;walk_at "nx";refine lB (n:=s.length+1) (by omega) (by omega) λk hk=>?_;walk_at "st";walk_at "nx";refine⟨by decide,⟨by decide,by decide,by decide⟩,by decide,lB (n:=7) (by decide) (by decide) λk7 hk7=>?_⟩;obtain ⟨odd,hat,hodd⟩:=zF (P:=λd=>kd d=true) (xs:=[D.int 51,D.int (-51),D.bl true,D.non,D.str "0",D.tup [D.int 0],D.int (10 ^ Int.toNat 30)]) (k:=k7) (by simpa using hk7) (by
  intro x hx;simp only[Yan,dN,or_false] at hx;rcases hx with rfl|rfl|rfl|rfl|rfl|rfl|rfl<;>first|(rw[kd];done)|exact lu (by decide) (by simp[kd]))
 refine⟨_,hat,?_⟩;walk_at "nx";have hc1:(aY (s.map D.int) none (some (k:Int))).length<=9:=by have:=zG (xs:=s.map D.int) (a:=none) (b:=some (k:Int));rw[bL] at this;omega
 have hc2:(aY (s.map D.int) (some ((k:Int)+1)) none).length<=9:=by have:=zG (xs:=s.map D.int) (a:=some ((k:Int)+1)) (b:=none);rw[bL] at this;omega
 have hks:∀x∈s.map D.int,kd x=true:=λx hx=>by obtain⟨i,_,rfl⟩:=YbS.mp hx;rw[kd]
 have hk1:=Ch (a:=none) (b:=some (k:Int)) hks;have hk2:=Ch (a:=some ((k:Int)+1)) (b:=none) hks;generalize aY (s.map D.int) none (some (k:Int))=c1 at hc1 hk1 ⊢;generalize aY (s.map D.int) (some ((k:Int)+1)) none=c2 at hc2 hk2 ⊢;obtain⟨m,hm,hm1⟩:∃m:Nat,(if((k:Int)==(s.length:Int))=true then(1:Int) else 0)=m/\m<=1:=by
  split
  .exact⟨1,rfl,by omega⟩
  .exact⟨0,rfl,by omega⟩
 rw[hm,hJ];have hrep:(List.replicate m [odd]).flatten=List.replicate m odd:=by
  rcases(show m=0\/m=1 by omega) with rfl|rfl<;>rfl
 rw[hrep];refine⟨by decide,eG (by omega),eG (by simp;omega),by decide,by omega,by omega,eG (by omega),eG (by simp;omega),by decide,zH (eG (by simp;omega)) ⟨by decide,?_⟩⟩;walk_at "nx";refine⟨by decide,by decide,by decide,by decide,by decide,by decide,by decide,by decide,by decide,by decide,by decide,by decide,lB (n:=12) (by decide) (by decide) λk12 hk12=>?_⟩;obtain ⟨d,hd,hkd⟩:=zF (P:=λd=>kd d=true/\sX d=false) (xs:=[D.tup (c1++[odd]++c2++List.replicate m odd),D.tup (List.map D.int s++[D.int 0]),D.lst (List.map D.int s),D.tup [],D.tup (List.replicate (Int.toNat 11) [D.int 1]).flatten,
   D.tup (List.replicate (Int.toNat 2) [D.int 0]).flatten,D.non,D.int 5,D.dic,D.str "0",D.tup [aP s],D.tup (aY (List.map D.int s) (some 1) none)]) (k:=k12) (by simpa using hk12) (by
  intro x hx;simp only[Yan,dN,or_false] at hx;have nt:∀ys,sX (.tup ys)=false:=λ_=>rfl;rcases hx with rfl|rfl|rfl|rfl|rfl|rfl|rfl|rfl|rfl|rfl|rfl|rfl
  all_goals refine⟨?_,by first|rfl|exact nt _|(cases s<;>rfl)⟩
  .refine lu (by simp;omega) λx hx=>?_
   simp only[Yao,Yan,dN,or_false,Ycr] at hx;rcases hx with((hx|rfl)|hx)|⟨_,rfl⟩
   .exact hk1 x hx
   .exact hodd
   .exact hk2 x hx
   .exact hodd
  .refine lu (by simp;omega) λx hx=>?_
   simp only[Yao,Yan,dN,or_false] at hx;rcases hx with hx|rfl
   .exact hks x hx
   .rw[kd]
  .exact Eg (by simp;omega) hks
  .exact lu (by simp) (by simp)
  .exact lu (by decide) (by simp[List.replicate,kd])
  .exact lu (by decide) (by simp[List.replicate,kd])
  .rw[kd]
  .rw[kd]
  .rw[kd]
  .rw[kd]
  .exact lu (by simp) λx hx=>by rw[Yco.mp hx];exact Ej (by omega)
  .exact lu (by have:=zG (xs:=s.map D.int) (a:=some 1) (b:=none);rw[bL] at this;omega) (Ch hks))
 exact⟨d,hd,q d hkd⟩
def gd(d:D):Prop:=kd d=true/\dG 72 d=true
def qt(h:xs.length<=5000)(h':∀x∈xs,gd x):gd (.tup xs):=⟨lu h λx hx=>(h' x hx).1,by rw[dG,tB];exact λx hx=>(h' x hx).2⟩
def Fu(h:xs.length<=5000)(h':∀x∈xs,gd x):gd (.lst xs):=⟨Eg h λx hx=>(h' x hx).1,by rw[dG,tB];exact λx hx=>(h' x hx).2⟩
def jZ{i:Int}(h:i.natAbs<2^72):gd (.int i):=⟨by rw[kd],by rw[dG];exact NK h⟩
def Fv(b:Bool):gd (.bl b):=⟨by rw[kd],by simp[dG]⟩
def Fw:gd .non:=⟨by rw[kd],by simp[dG]⟩
def KS:gd .dic:=⟨by rw[kd],by simp[dG]⟩
def KU(x:Str):gd (.str x):=⟨by rw[kd],by simp[dG]⟩
theorem um{a b:D}(h1:gd a)(h2:gd b):gd (.tup [a,b]):=qt (by simp) λx hx=>by
 simp only[Yan,dN,or_false] at hx;rcases hx with rfl|rfl
 .exact h1
 .exact h2
def KW{a b:Option Int}(h:∀x∈xs,gd x):∀x∈aY xs a b,gd x:=λx hx=>h x (by unfold aY at hx;exact mr (qF hx))
theorem KY:Rd tD Fj Zft:=by
 rintro _ E Q ⟨r,rfl,⟨hr1,hr5,hsz⟩,q⟩;dsimp only at hr1 hr5 hsz q;replace q:∀d,gd d->Q d:=q;unfold Fj;walk_at "nx";refine lB (n:=r.length) (by omega) (by omega) λk hk=>?_;walk_at "st";walk_at "nx";refine⟨by decide,by decide,by decide,by decide,by decide,by decide,by decide,by decide,by decide,by decide,?_⟩;walk_at "nx";refine lB (n:=12) (by decide) (by decide) λk12 hk12=>?_;obtain ⟨odd,hat,hodd⟩:=zF (P:=gd) (xs:=[D.tup [D.int 2,D.int 4],D.tup [D.int 1,D.int 0],D.tup [D.int 1,D.int (-2)],D.tup [D.int 0,D.int 2],D.tup [D.bl true,D.int 1],D.tup [D.int 1,D.bl true],D.int 1,D.non,D.lst [D.int 1,D.int 2],D.str "1",D.tup [D.int 1],D.tup [D.int 1,D.int 2,D.int 3]]) (k:=k12) (by simpa using hk12) (by
  intro x hx;simp only[Yan,dN,or_false] at hx;rcases hx with rfl|rfl|rfl|rfl|rfl|rfl|rfl|rfl|rfl|rfl|rfl|rfl
  .exact um (jZ (by decide)) (jZ (by decide))
  .exact um (jZ (by decide)) (jZ (by decide))
  .exact um (jZ (by decide)) (jZ (by decide))
  .exact um (jZ (by decide)) (jZ (by decide))
  .exact um (Fv _) (jZ (by decide))
  .exact um (jZ (by decide)) (Fv _)
  .exact jZ (by decide)
  .exact Fw
  .exact Fu (by decide) λx hx=>by
    simp only[Yan,dN,or_false] at hx;rcases hx with rfl|rfl<;>exact jZ (by decide)
  .exact KU _
  .exact qt (by decide) λx hx=>by
    simp only[Yan,dN,or_false] at hx;subst hx;exact jZ (by decide)
  .exact qt (by decide) λx hx=>by
    simp only[Yan,dN,or_false] at hx;rcases hx with rfl|rfl|rfl<;>exact jZ (by decide))
 refine⟨_,hat,?_⟩;walk_at "nx";have hlen:∀a b,(aY (r.map aO) a b).length<=5:=λa b=>by have:=zG (xs:=r.map aO) (a:=a) (b:=b);rw[bL] at this;omega
 have hgr:∀x∈r.map aO,gd x:=λx hx=>by
  obtain⟨y,hy,rfl⟩:=YbS.mp hx;exact⟨Ei y,ZjT.mpr (hsz y hy)⟩
 have hgc:∀a b,∀x∈aY (r.map aO) a b,gd x:=λa b=>KW hgr;have l1:=hlen none (some (k:Int));have l2:=hlen (some ((k:Int)+1)) none;have l3:=hlen none (some 1);have l4:=hlen (some 1) none;refine⟨by decide,eG (by omega),eG (by simp;omega),by decide,zH (eG (by simp;omega)) (zH (eG (by simp;omega)) ?_)⟩;show 1<=small/\_;refine⟨by decide,by decide,lB (n:=9) (by decide) (by decide) λk9 hk9=>?_⟩;obtain ⟨d,hd,hkd⟩:=zF (P:=gd) (xs:=[D.tup (aY (List.map aO r) none (some (k:Int))++[odd]++aY (List.map aO r) (some ((k:Int)+1)) none),D.tup (r.map aO++[odd]),D.tup (aY (List.map aO r) (some 1) none),D.tup (r.map aO++aY (List.map aO r) none (some 1)),D.lst (r.map aO),D.non,D.int 0,D.dic,D.tup [aF r]]) (k:=k9) (by simpa using hk9) (by
  intro x hx;simp only[Yan,dN,or_false] at hx;rcases hx with rfl|rfl|rfl|rfl|rfl|rfl|rfl|rfl|rfl
  .refine qt (by simp;omega) λx hx=>?_
   simp only[Yao,Yan,dN,or_false] at hx;rcases hx with(hx|rfl)|hx
   .exact hgc _ _ x hx
   .exact hodd
   .exact hgc _ _ x hx
  .refine qt (by simp;omega) λx hx=>?_
   rcases Yao.mp hx with hx|hx
   .exact hgr x hx
   .rw[Yco.mp hx];exact hodd
  .exact qt (by omega) (hgc _ _)
  .refine qt (by simp;omega) λx hx=>?_
   rcases Yao.mp hx with hx|hx
   .exact hgr x hx
   .exact hgc _ _ x hx
  .exact Fu (by simp;omega) hgr
  .exact Fw
  .exact jZ (by decide)
  .exact KS
  .exact qt (by simp) λx hx=>by rw[Yco.mp hx];exact qt (by simp;omega) hgr)
 exact⟨d,hd,q d hkd⟩
def Ci:∀(n:Nat) (f:Nat->Rat),sm (n+1) f=sm n f+f n
 |0,f=>by rw[sm,sm,sm];grind
 |n+1,f=>by rw[sm,Ci n λi=>f (i+1),sm];grind
theorem Fx{m:Nat}:∀{n:Nat} {f:Nat->Rat},(∀i,i<n->Sz m (f i))->Sz (n*(m+1)+1) (sm n f)
 |0,f,_=>by rw[sm];exact Sz.zero (by omega)
 |n+1,f,h=>by
  rw[Ci];refine((Fx λi hi=>h i (by omega)).add (h n (by omega))).mono ?_;rw[nF];omega
theorem Cj{E:Ex->Prop}(I:Nat->bR->Prop)(n:Nat)(h:∀k,k<n->∀ρ,I k ρ->∀nx:bR->Prop,(∀ρ,I (k+1) ρ->nx ρ)->g (.int k) ρ λρ1=>zb E { nx:=nx,rt:=N.rt,bk:=N.nx,ct:=nx } ρ1)(hn:∀ρ,I n ρ->N.nx ρ)(ρ:bR)(h0:I 0 ρ):Za2 g zb E N (rng 0 n) ρ:=by
 refine Cg (λds ρ=>∃k,k<=n/\ds=(rng 0 n).drop k/\I k ρ) ?_ ?_ _ ρ ⟨0,gJ _,by rw[pK],h0⟩
 .rintro d ds ρ ⟨k,hk,e,i⟩ nx hnx
  have hlen:(rng 0 n).length=n:=by unfold rng;simp
  have hkn:k<n:=by
   rcases gg k n with z|z
   .exact z
   .rw[List.drop_eq_nil_of_le (by omega)] at e;cases e
  rw[pL (by omega)] at e;injection e with e1 e2
  have e3:(rng 0 n)[k]'(by omega)=.int k:=by unfold rng;simp
  rw[e1,e3];exact h k hkn ρ i nx λρ' i'=>hnx ρ' ⟨k+1,hkn,e2,i'⟩
 .rintro ρ ⟨k,hk,e,i⟩
  have hlen:(rng 0 n).length=n:=by unfold rng;simp
  have hkn:k=n:=by
   rcases gg k n with z|z
   .rw[pL (by omega)] at e;cases e
   .omega
  subst hkn;exact hn ρ i
theorem KZ:Rd zw Fg Zhq:=by
 rintro _ E Q ⟨⟨⟨s,n⟩,r⟩,rfl,⟨h,hl,hsz⟩,q⟩;dsimp only at h hl hsz q;have h5:=h.n5;have hsl:=h.len;unfold Fg;walk_at "nx";refine⟨⟨by decide,i8 (n:=2) (by decide) (by omega)⟩,?_⟩;rw[AD _ (by decide),show((s.length:Int)+1)/2=n by omega];walk_at "nx";refine⟨by decide,?_⟩;walk_at "nx";refine⟨by omega,by omega,?_⟩;refine Cj (λi ρ=>∃a b c,ρ=[.d (aP s),.d (aF r),.d (.int n),.ow (((List.range i).map λi=>aO (sm n λj=>(ent s n i j:Rat)*r.getD j 0))),a,b,c]) n ?_ ?_ _ ⟨_,_,_,rfl⟩
 rotate_left
 .rintro _ ⟨a,b,c,rfl⟩
  walk_at "st";rw[Cf h hl] at q;unfold aF at q;rw[dk] at q;exact q
 .rintro i hi _ ⟨a,b,c,rfl⟩ nx hnx
  walk_at "st";walk_at "nx";refine⟨by decide,?_⟩;refine bY ?_;simp only[aZ,bU];walk_at "st";refine⟨by omega,by omega,?_⟩;have hent:∀j,j<n->-50<=ent s n i j/\ent s n i j<=50:=λj hj=>by
   unfold ent;rw[bD,bG (by omega),Option.getD_some];exact h.b _ (jF _)
  have hrj:∀j,j<n->Sz 72 (r.getD j 0):=λj hj=>by
   rw[bD,bG (by omega),Option.getD_some];exact hsz _ (jF _)
  have hterm:∀j,j<n->Sz (6+72) ((ent s n i j:Rat)*r.getD j 0):=λj hj=>(wm (hent j hj)).mul (hrj j hj);refine Cj (λj ρ=>∃c,ρ=[.d (aP s),.d (aF r),.d (.int n),.ow (((List.range i).map λi=>aO (sm n λj=>(ent s n i j:Rat)*r.getD j 0))),.d (.int i),.d (aO (sm j λj=>(ent s n i j:Rat)*r.getD j 0)),c]) n ?_ ?_ _ ⟨_,rfl⟩
  rotate_left
  .rintro _ ⟨c,rfl⟩
   walk_at "st";refine⟨by rw[bL,jE];unfold small;omega,?_⟩;have e:List.map (λi=>aO (sm n λj=>(ent s n i j:Rat)*r.getD j 0)) (List.range i)++[aO (sm n λj=>(ent s n i j:Rat)*r.getD j 0)]=List.map (λi=>aO (sm n λj=>(ent s n i j:Rat)*r.getD j 0)) (List.range (i+1)):=by
    rw[List.range_succ,jb];rfl
   rw[e];exact hnx _ ⟨_,_,_,rfl⟩
  .rintro j hj _ ⟨c,rfl⟩ nx2 hnx2
   walk_at "st";have e1:(s.map D.int)[n-1-i+j]? = some (.int (ent s n i j)):=by
    unfold ent;rw[cI,bD,bG (by omega)];rfl
   have e2:(r.map aO)[j]? = some (aO (r.getD j 0)):=by
    rw[cI,bD,bG (by omega)];rfl
   refine⟨_,B6 (k:=n-1-i+j) (by omega) e1,by decide,_,B6 rfl e2,?_⟩;rw[<-zg];refine B9 (B2.of (wm (hent j hj)) (hrj j hj) (by omega)) (zp (B2.of (Fx λk hk=>hterm k (by omega)) (hterm j hj) ?_) ?_)
   .have:j*(6+72+1)<=5*(6+72+1):=mq _ (by omega)
    omega
   .rw[<-Ci j λj=>(ent s n i j:Rat)*r.getD j 0]
    exact hnx2 _ ⟨_,rfl⟩
def uo:bootBuiltins "repr" = some (.builtin "repr"):=by decide +kernel
def K0:bootBuiltins "ValueError" = some (.type "ValueError"):=by decide +kernel
theorem clsX_of{D:Addr}(g:PySem.W.findIn K (.ref D) "__getattribute__" = some (some (.builtin "BaseException.__getattribute__")))(gn:PySem.W.findIn K (.ref D) "__getattr__" = some none)(be:PySem.W.mroIn K D (.type "BaseException")=some true)(h:PySem.W.hasDictIn K D=true)(a:PySem.W.findIn K (.ref D) "__class__" = some (some (.builtin "object.__class__")))(gt:PySem.W.specialIn K (.builtin "object.__class__") "__get__" = some (some (.builtin "getset_descriptor.__get__")))(tk:PySem.W.takesIn K (.builtin "object.__class__")=some true)(ob:PySem.W.mroIn K D (.type "object")=some true):gM K D:=
 ⟨g,gn,be,by obtain⟨cd,hc,_⟩:=PySem.W.any_some h;rw[hc];rfl,a,gt,tk,ob⟩
section
def gNeS:G2:=λx y Q=>∃a b,x=.str a/\y=.str b/\Q (.bl (!(a==b)))
def gNeS.mono:∀x y P P',(∀d,P d->P' d)->gNeS x y P->gNeS x y P':=λx y P P' hp ⟨a,b,h1,h2,h3⟩=>⟨a,b,h1,h2,hp _ h3⟩
theorem Ck:gk X (compareOp .NotEq) gNeS:=by
 refine⟨⟨_,uW,λW H x y dx dy Q ok rx ry hg=>?_⟩,gNeS.mono⟩;obtain⟨a,b,rfl,rfl,q⟩:=hg;cases rx;cases ry;have e:decide (V.str a=V.str b)=(a==b):=by rw[g9];simp
 rw[<-e] at q;exact⟨rfl,q.now ok (.bl _)⟩
end
def K1{i:Int}(hk:0<k)(h:i.natAbs<2^k):i.natAbs.log2<k:=by
 by_cases z:i.natAbs=0
 .rw[z];simpa using hk
 .exact(Nat.log2_lt z).mpr h
theorem Fy(h:(reprText x).length<=sizeLine)(q:Q (.str (PyData.shown (.str x)))):Zek [.str x] Q:=⟨.str x,.str x,rfl,rfl,rfl,rfl,by rw[PyData.depth];omega,by rw[PyData.shown];exact h,q⟩
def zI(q:Q (.bl false)):gNeS (.str x) (.str x) Q:=⟨x,x,rfl,rfl,by rw[NV];exact q⟩
section
theorem K2{T:TE}(k:∀W0 H0 W σ H ρ E Q,SOk X.K W0 H0 W σ H ρ->iR X.K W0 H0 E EX->t E ρ (λds=>∀a vs W' H',Ext W H W' H'->H' a=some (.lst vs)->W'.G a=none->¬W'.Pn a->H a=none->Reps X.K W' vs ds->Q (.ref a) H')->T σ H Q)
  (m:∀E ρ P P',(∀d,P d->P' d)->t E ρ P->t E ρ P') (i:Nat):∀W0 H0 W σ H ρ E Q,SOk X.K W0 H0 W σ H ρ->iR X.K W0 H0 E EX->aBor i t E ρ (λds=>∀a vs W' H',Ext W H W' H'->H' a=some (.lst vs)->W'.G a=none->¬W'.Pn a->H a=none->Reps X.K W' vs ds->Q (.ref a) H')->T σ H Q:=by
 intro W0 H0 W σ H ρ E Q s eo h;unfold aBor at h;rcases s.lend i with ep|⟨a,us,s',e3,e2,e6⟩
 .rw[ep] at h
  exact k W0 H0 W σ H ρ E Q s eo (m _ _ _ _ (λd hd=>hd.2) h)
 .refine k W0 H0 _ σ H _ E Q s' eo (m _ _ _ _ (λd hd b vs W2 H2 x2 h1 h2 h3 h4 r2=>?_) h)
  have hb:b≠a:=λz=>by rw[z,e2] at h4;cases h4
  exact hd.2 b vs _ H2 (x2.bor e3) h1 (by rw[Wd.rem_ne hb];exact h2) h3 h4 (r2.rem (x2.g _ _ e6) hd.1)
def Fz:D->Bool
 |.non=>true
 |.bl _=>true
 |_=>false
def Cm:D->D->Bool
 |.non,.non=>true
 |.bl a,.bl b=>a==b
 |_,_=>false
def gIsC(neg:Bool):G2:=λx y Q=>Fz y=true/\Q (.bl (if neg then !Cm x y else Cm x y))
def gIsC.mono{neg:Bool}:∀x y P P',(∀d,P d->P' d)->gIsC neg x y P->gIsC neg x y P':=λ_ _ _ _ hp h=>⟨h.1,hp _ h.2⟩
theorem K3{W:Wd}{x y:V}{v u:Value}{dx dy:D}(r1:Rep K W x dx)(r2:Rep K W y dy)(rx:RelV x v)(ry:RelV y u)(h:Fz dy=true):plainIs v u=true/\(v==u)=Cm dx dy:=by
  cases r2<;>first
    |(cases h;done)
    | (cases ry;cases r1<;>first
        |(cases rx;first|exact⟨rfl,rfl⟩|(rename_i a b;cases a<;>cases b<;>exact⟨rfl,rfl⟩))
        |(obtain⟨t,rfl⟩:=rx;exact⟨rfl,rfl⟩))
theorem FA:gk X (compareOp .IsNot) (gIsC true):=by
 refine⟨⟨λx y H Q=>∃W dx dy,WOk W H/\Rep X.K W x dx/\Rep X.K W y dy/\gIsC true dx dy (RQ X.K W H Q),?_,λW H x y dx dy Q ok rx ry hg=>⟨W,dx,dy,ok,rx,ry,hg⟩⟩,gIsC.mono⟩;rintro pins s σ H x y v u Q I rx ry ⟨W,dx,dy,ok,r1,r2,h1,h2⟩;obtain⟨p,e⟩:=K3 r1 r2 rx ry h1;exact wpAny_isNot_plain p (bX I (h2.now ok (.bl _)) (by rw[e];rfl))
end
mutual
def FC:D->Option PyData
 |.non=>some .none
 |.bl b=>some (.bool b)
 |.int i=>some (.int i)
 |.str x=>some (.str x)
 |.tup xs=>(tE xs).map .tuple
 |.lst xs=>(tE xs).map .list
 |.dic=>some (.dict [])
 |_=>none
def tE:List D->Option (List PyData)
 |[]=>some []
 |x::r=>match FC x,tE r with
  |some a,some b=>some (a::b)
  |_,_=>none
end
mutual
def lD:D->Bool
 |.lst _=>false
 |.tup xs=>ny xs
 |_=>true
def ny:List D->Bool
 |[]=>true
 |x::r=>lD x&&ny r
end
section
variable{s:Shared}{W:Wd}
def Zpd:List D->(D->Prop)->Prop:=λds Q=>∃x p,ds=[x]/\FC x=some p/\p.showable=true/\(p.hasDict=true->lD x=true)/\p.depth<=32/\p.shown.length<=sizeLine/\Q (.str p.shown)
def Zpd.mono:∀ds P P',(∀d,P d->P' d)->Zpd ds P->Zpd ds P':=λds P P' hp ⟨x,p,h1,h2,h3,h4,h5,h6,h7⟩=>⟨x,p,h1,h2,h3,h4,h5,h6,hp _ h7⟩
end
mutual
def bx(b:Nat):D->Nat->Bool
 |.non,_=>true
 |.bl _,_=>true
 |.int i,_=>decide (i.natAbs<2^90)
 |.str x,_=>decide (x.cps.size<=4)&&x.cps.toList.all λc=>decide (c<16^8)
 |.dic,_=>true
 |.tup xs,n=>decide (0<n)&&decide (xs.length<=b)&&kC b xs (n-1)
 |.lst xs,n=>decide (0<n)&&decide (xs.length<=b)&&kC b xs (n-1)
 |.pen,_=>false
 |.cls _,_=>false
 |.exc _,_=>false
 |.ty _,_=>false
 |.scr _,_=>false
def kC(b:Nat):List D->Nat->Bool
 |[],_=>true
 |x::r,n=>bx b x n&&kC b r n
end
mutual
def mj:D->Bool
 |.dic=>false
 |.tup xs=>lE xs
 |.lst xs=>lE xs
 |_=>true
def lE:List D->Bool
 |[]=>true
 |x::r=>mj x&&lE r
end
def zJ:∀{xs:List D},ny xs=true↔∀x∈xs,lD x=true
 |[]=>by simp[ny]
 |x::r=>by rw[ny,dj,zJ];simp
def zK:∀{xs:List D},lE xs=true↔∀x∈xs,mj x=true
 |[]=>by simp[lE]
 |x::r=>by rw[lE,dj,zK];simp
def dl(x:D):Bool:=lD x||mj x
def K4(q:Rat):lD (aO q)=true:=rfl
def K6(q:Rat):mj (aO q)=true:=rfl
def Cn(r:List Rat):lD (aF r)=true:=by
 unfold aF;rw[lD,zJ];intro x hx;obtain⟨q,_,rfl⟩:=YbS.mp hx;exact K4 q
def FD(r:List Rat):mj (aF r)=true:=by
 unfold aF;rw[mj,zK];intro x hx;obtain⟨q,_,rfl⟩:=YbS.mp hx;exact K6 q
def tF(T:List (List Rat)):D:=.tup (T.map aF)
def wx:D->Bool
 |.tup xs=>decide (1<=xs.length)&&decide (xs.length<=5)&&xs.all (fY xs.length)
 |_=>false
structure IsT(T:List (List Rat))(n:Nat):Prop where
 len:T.length=n
 row:∀r∈T,r.length=n
 n1:1<=n
 n5:n<=5
def SzT(m:Nat)(T:List (List Rat)):Prop:=∀r∈T,∀x∈r,Sz m x
section
variable{E:Ex->Prop}{x:D}
theorem IsT.tb{T:List (List Rat)}(h:IsT T n):wx (tF T)=true:=by
 have h1:=h.n1;have h5:=h.n5;have hl:=h.len;unfold wx tF;simp only[bL];rw[NK (by omega),NK (by omega)];simp only[tW,Ybh];intro x hx;obtain⟨r,hr,rfl⟩:=YbS.mp hx;rw[hl,<-h.row r hr];exact v8 r
theorem IsT.kd{T:List (List Rat)}{n:Nat}(h:IsT T n):kd (tF T)=true:=by
 have h5:=h.n5;have hl:=h.len;refine lu (by simp;omega) λx hx=>?_;obtain⟨r,hr,rfl⟩:=YbS.mp hx;exact sU (by have:=h.row r hr;omega)
end
namespace B
section
variable{E:Ex->Prop}{x:D}{a b:Int}
end
end B
def SzT.mono{m m':Nat}{T:List (List Rat)}(h:SzT m T)(l:m<=m'):SzT m' T:=λr hr x hx=>(h r hr x hx).mono l
namespace B
def FE(h:(∀x∈xs,lD x=true)\/∀x∈xs,mj x=true):dl (.tup xs)=true:=by
 unfold dl;rw[lD,mj,xM,zJ,zK];exact h
def nm_at{E:Ex->Prop}(h:ρ[i]? = some (.d d)):∀P:D->Prop,P d->wN i E ρ P:=λP q=>by unfold wN;rw[h];exact q
end B
section
variable{ps:Pos}{a b:Expr}
def eH:Nat->List D->List D
 |_,[]=>[]
 |i,x::xs=>.tup [.int i,x]::eH (i+1) xs
def FF:∀(i:Nat) (xs:List D),(eH i xs).length=xs.length
 |_,[]=>rfl
 |i,x::xs=>by rw[eH,dY,dY,FF]
theorem FG:∀(i j:Nat) (xs:List D) (d:D),(eH i xs)[j]? = some d->∃x,xs[j]? = some x/\d=.tup [.int ((i+j:Nat):Int),x]
 |_,_,[],_,h=>by simp[eH] at h
 |i,0,x::xs,d,h=>by
  rw[eH,cZ] at h;exact⟨x,rfl,(NJ h).symm⟩
 |i,j+1,x::xs,d,h=>by
  rw[eH,df] at h;obtain⟨y,e1,e2⟩:=FG (i+1) j xs d h;exact⟨y,by rw[df];exact e1,by rw[e2,show i+1+j=i+(j+1) by omega]⟩
def iE(t:WA):WA:=λE ρ Q=>t E ρ λds=>match ds with
 |[x]=>isS (λxs=>Q (eH 0 xs)) x
 |_=>False
theorem Co(hm:X.mg "enumerate" = none)(ha:jm X EX [a] t)(hg:Gl X "enumerate" :=by rfl)(hs:starEach [a] X.env=[(false,eval a X.env)]:=by rfl) :
  lh X EX (.Tuple es n1 ps) (.Call (.Name "enumerate" p) [a] [] pos) (iE t):=by
 obtain⟨t,q,k⟩:=ha.t;refine⟨⟨_,IQ hg hm q hs,λW0 H0 W σ H ρ E R s eo h=>?_⟩,λE ρ P P' hp h=>ha.mono _ _ _ _ (λds hd=>?_) h⟩
 .refine k W0 H0 W σ H ρ E _ s eo (ha.mono _ _ _ _ (λds hd vs W1 H1 x1 r1=>?_) h)
  split at hd
  .obtain⟨v,rfl,rv⟩:=r1.one
   obtain⟨κ,l,vs,xs,rfl,rr,hd,sq⟩:=rv.sq hd;refine⟨κ,l,rfl,⟨vs,sq W1 H1 (λ_ _ z=>z) x1.ok⟩,hd W1 H1 _ x1 λW2 H2 i g2 p2 ok2=>⟨λd hd=>?_,λhi=>?_⟩⟩
   .have s1:=sq W2 H2 g2 ok2
    obtain⟨x,ex,rfl⟩:=FG 0 i xs d hd;obtain⟨vx,evx,rvx⟩:=rr.get ex;refine⟨⟨vs,vx,s1,evx⟩,λz H3 hy=>?_⟩;obtain⟨q,x',rfl,hq,rfl,e1⟩:=hy;have e1:=e1 _ s1;rw[evx] at e1;cases e1;have xt:=Ext.put (o:=.tup [.int i,vx]) ok2 hq;rw[Nat.zero_add];exact⟨_,xt,.tup (by unfold Wd.put;dsimp only;rw[aN]) (.cons (.int _) (.cons (xt.rep (rvx.mono g2 p2)) .nil))⟩
   .refine⟨vs,sq W2 H2 g2 ok2,?_⟩
    rw[rr.length];rw[FF] at hi;omega
  .exact hd.elim
 .split at hd
  .exact isS.mono (λxs h1=>hp _ h1) _ hd
  .exact hd.elim
def uq(i:Nat)(wi wv:WE):WS:=λE N ρ=>match ρ[i]? with
 |some (.ow xs)=>wi E ρ (isI λk=>∃c j,eD xs k=some (.int c)/\jh xs.length k=some j/\wv E ρ (isI λd=>N.nx (ρ.set i (.ow (xs.set j (.int (c+d)))))))
 |_=>False
theorem K7(i:Nat){wi:WE}(hix:PX X EX ix wi)(he:PX X EX e wv)(hN:X.N[i]? = some x:=by rfl)(hv:kf X.env.scope x:=by first|exact Or.inl rfl|exact Or.inr (Or.inl rfl)|exact Or.inr (Or.inr rfl))(hd:(x==("__debug__" : Str))=false:=by decide)
  (hcd:(x==("__classdict__" : Str))=false:=by decide)
  (ha:∀ov iv new,augStore ix ov iv new=(do holding [new,ov,iv] (setItem ov iv new);release [new,ov,iv] [];pure .next):=by intros;rfl):PZ X EX (.AugAssign (.Subscript (.Name x p) ix spos) .Add e pos) (uq i wi wv):=by
 obtain⟨t,pe,k⟩:=he.t;obtain⟨ti,pi,ki⟩:=hix.t;refine⟨⟨_,pW (c7 hN hv hd hcd) pi IR pe sh dv ha,λW0 H0 F W σ H ρ E Dn N s fl eo no h=>?_⟩,λE ρ N N' hl q=>?_⟩
 .unfold uq at h
  split at h
  .rename_i xs ex
   obtain⟨a,vs,e1,e2,e3,e4,e5,r⟩:=s.o i xs ex;refine⟨_,e1,ki W0 H0 W σ H ρ E _ s eo (hix.mono _ _ _ _ (λdi hdi vi W1 H1 x1 r1=>?_) h)⟩;obtain⟨kk,rfl,c,j,hat,hj,hw⟩:=lU hdi;cases r1;obtain⟨v,hav,rv⟩:=yL (x1.reps r) hat;cases rv;refine⟨a,vs,kk,_,rfl,rfl,x1.h a _ e2 e4,hav,?_⟩;refine k W0 H0 W1 σ H1 ρ E _ (s.step x1) eo (he.mono _ _ _ _ (λdd hdd vd W2 H2 x2 r2=>?_) hw);obtain⟨dn,rfl,hn⟩:=lU hdd;cases r2;have xx:=x1.trans x2;have e2':=xx.h a _ e2 e4;refine⟨c,dn,rfl,rfl,a,vs,kk,j,rfl,rfl,e2',by rw[r.length];exact hj,?_⟩;exact no.nx W2 σ _ _ ((s.step xx).chg ex e1 (Reps.set (.int _) j (xx.reps r))) (fl.ext xx) hn
  .exact h.elim
 .unfold uq at q ⊢
  split at q
  .exact hix.mono _ _ _ _ (isI.mono λkk ⟨c,j,h1,h2,h3⟩=>⟨c,j,h1,h2,he.mono _ _ _ _ (isI.mono λd hd=>hl.nx _ hd) h3⟩) q
  .exact q.elim
end
section
variable{p1 ps sp1 sp2:Pos}{a b:Expr}
def is2(Q:D->D->Prop):D->Prop
 |.tup [x,y]=>Q x y
 |_=>False
theorem is2.mono{Q Q':D->D->Prop}(h:∀x y,Q x y->Q' x y):∀d,is2 Q d->is2 Q' d:=λd z=>by
 unfold is2 at z ⊢;split at z
 .exact h _ _ z
 .exact z.elim
def FH(t:WA):WA:=λE ρ Q=>t E ρ λds=>match ds with
 |[.int n]=>0<=n/\n<=10000/\Q (rng 0 n.toNat)
 |_=>False
theorem La{W:Wd}(n:Nat):Reps K W ((List.range n).map λ(k:Nat)=>V.int (k:Int)) (rng 0 n):=by
 unfold rng;generalize List.range n=l
 induction l with
 |nil=>exact .nil
 |cons x l ih=>exact .cons (by dsimp only;rw[Int.zero_add];exact .int _) ih
theorem Lc(hml:X.mg "list" = none)(hmr:X.mg "range" = none)(ha:jm X EX [a] t)(hc:X.calm=true:=by rfl)(hgl:Gl X "list" :=by rfl)(hgr:Gl X "range" :=by rfl)
  (he:starEach [a] X.env=(false,eval a X.env)::starEach [] X.env:=by rfl) (hpl:(backTo p2 (starEach [] X.env)).any (·.1)=false:=by rfl)
  (he2:starEach [.Call (.Name "range" p1) [a] [] p2] X.env=(false,eval (.Call (.Name "range" p1) [a] [] p2) X.env)::starEach [] X.env:=by rfl) (hpl2:(backTo pos (starEach [] X.env)).any (·.1)=false:=by rfl) :
  PXL X EX (.Call (.Name "list" p) [.Call (.Name "range" p1) [a] [] p2] [] pos) (FH t):=by
 obtain⟨ta,pa,ka⟩:=ha.t;refine⟨⟨_,eA (IU hc) hgl hml Oc (gh (eA IS hgr hmr boot_range pa (by decide) (by decide) he hpl) iI he2) (by decide) (by decide) he2 hpl2,λW0 H0 W σ H ρ E Q s eo h=>?_⟩,λE ρ P P' hp z=>ha.mono _ _ _ _ (λds hds=>?_) z⟩
 .refine ka W0 H0 W σ H ρ E _ s eo (ha.mono _ _ _ _ (λds hds vs W1 H1 x1 r1=>?_) h)
  split at hds
  .rename_i n
   obtain⟨v,rfl,rv⟩:=r1.one;cases rv;obtain⟨h0,h1,hq⟩:=hds;refine⟨n,rfl,λq hq1=>?_⟩;have xr:=Ext.new (o:=.rng 0 n) x1.ok hq1;refine⟨q,n.toNat,rfl,by rw[aN,xO h0],by omega,λl hl=>?_⟩;have x2:=x1.trans xr;exact hq l _ W1 _ (x2.trans (.new x2.ok hl)) aN (x2.ok.fresh hl).1 (x2.ok.fresh hl).2 (x2.isN hl) (La _)
  .exact hds.elim
 .split at hds
  .exact⟨hds.1,hds.2.1,hp _ hds.2.2⟩
  .exact hds.elim
end
section
variable{p1:Pos}{a:Expr}
end
def FI(f l:List Rat)(i j k:Nat):Rat:=f.getD (i-k) 0*l.getD (f.length-1-j+k) 0
def Le(f l:List Rat)(i j k:Nat):Rat:=l.getD (i-k-1) 0*f.getD (f.length-j+k) 0
def sp(f l:List Rat)(i j:Nat):Nat->Rat
 |0=>0
 |k+1=>if k<min i j then sp f l i j k+FI f l i j k-Le f l i j k else sp f l i j k+FI f l i j k
section
variable{E:Ex->Prop}{f:List Rat}
end
abbrev Zm3:List Str:=["one", "other"]
def FJ:WS:=(aM (wF sV (aC (w2 eS (w2 gMul (w2 gIx (wN 0) (wC (D.int (0)))) (w2 gIx (wN 1) (wC (D.int (1))))) (w2 gMul (w2 gIx (wN 1) (wC (D.int (0)))) (w2 gIx (wN 0) (wC (D.int (1)))))) (aC (w2 gMul (w2 gIx (wN 0) (wC (D.int (1)))) (w2 gIx (wN 1) (wC (D.int (1))))) aA))))
abbrev N_by:List Str:=["one", "other"]
def wy:WS:=(aM (wF sV (aC (w2 gMul (w2 gIx (wN 0) (wC (D.int (0)))) (w2 gIx (wN 1) (wC (D.int (1))))) (aC (w2 gMul (w2 gIx (wN 0) (wC (D.int (1)))) (w2 gIx (wN 1) (wC (D.int (0))))) aA))))
theorem Lg:Rd uf FJ Zm3:=by
 rintro _ E Q ⟨⟨p,q⟩,rfl,hb,h⟩;obtain⟨b1,b2,b3,b4,b5,b6,b7,b8⟩:=hb.mul;unfold FJ;simp only[aM,wF,aC,w2,wN,wC,eP,cV,iz,cZ,df];refine rj (ma ⟨b1,rj (ma ⟨b2,?_⟩)⟩);dsimp only;simp only[e8,true_and];refine ma (ma ⟨b3,?_⟩);refine⟨(_,_),rfl,⟨b6,b5⟩,?_⟩;dsimp only at h ⊢;have e:Rat.divInt (p.num*q.den-q.num*p.den) ((p.den:Int)*q.den)=p-q:=by
  rw[Rat.sub_def',<-AB];rfl
 rw[e];exact h
theorem wz:Rd nu wy N_by:=by
 rintro _ E Q ⟨⟨p,q⟩,rfl,⟨hb,h0⟩,h⟩;dsimp only at hb h0 h;obtain⟨b1,b2,b3,b4,b5,b6,b7,b8⟩:=hb.mul;unfold wy;simp only[aM,wF,aC,w2,wN,wC,eP,cV,iz,cZ,df];refine rj (ma ⟨b1,ma (rj ⟨b7,?_⟩)⟩);have hq:q.num≠0:=λz=>h0 (Ycx.mp z);refine⟨(_,_),rfl,⟨pN (by exact_mod_cast p.den_nz) hq,b8⟩,?_⟩;dsimp only at h ⊢;have e:Rat.divInt (p.num*q.den) ((p.den:Int)*q.num)=p/q:=by
  rw[hU,Rat.inv_def];have:p*Rat.divInt (q.den:Int) q.num=Rat.divInt p.num p.den*Rat.divInt (q.den:Int) q.num:=by rw[tV]
  rw[this,ya]
 rw[e];exact h
theorem FK(p q:Rat):jA (aO p) (aO q)=decide (p=q):=by
 unfold aO;rw[Zl,g9];simp only[dj,N5,NI];constructor
 .rintro⟨h1,h2⟩
  exact Rat.ext h1 (by exact_mod_cast h2)
 .rintro rfl
  exact⟨rfl,rfl⟩
def FL:aO 0=.tup [.int 0,.int 1]:=rfl
namespace B.C
def ga(r:List Int)(k:Nat):Int:=r.getD k 0
def gr(t:List (List Int))(k:Nat):List Int:=t.getD k []
def jp(row here:List Int)(a:Nat)(last:Int):List Int:=(List.range row.length).map λj=>(ga row j*ga here a-ga row a*ga here j).fdiv last
def tG(t:List (List Int))(a:Nat):List Nat:=((List.range (t.length-a)).map (a + ·)).filter λk=>ga (gr t k) a != 0
def eh(t:List (List Int))(a g:Nat):List (List Int):=(t.set a (gr t g)).set g (gr t a)
def c9(t:List (List Int))(a k:Nat)(last:Int):List (List Int):=(List.range t.length).map λi=>if a<i/\i<k then jp (gr t i) (gr t a) a last else gr t i
structure zL where
 t:List (List Int)
 s:Int
 l:Int
def wD(a:Nat)(x:zL):Option zL:=match tG x.t a with
 |[]=>none
 |g::_=>let t1:=eh x.t a g
  let t2:=c9 t1 a t1.length x.l
  some ⟨t2,x.s*(1-2*(if g=a then 0 else 1)),ga (gr t2 a) a⟩
def FM(c:Nat):Nat->Nat
 |0=>c
 |a+1=>2*FM c a+1
abbrev bt:Nat->Nat:=FM 6
structure Sm(b n:Nat)(t:List (List Int)):Prop where
 len:t.length=n
 row:∀r∈t,r.length=n
 sm:∀r∈t,∀x∈r,x.natAbs<2^b
def Sm.up{c:Nat}{t:List (List Int)}(h:Sm b n t)(l:b<=c):Sm c n t:=⟨h.len,h.row,λr hr x hx=>cU (h.sm r hr x hx) (j8 (by decide) l)⟩
def Lh{a b:Int}(h:b≠0):(a.fdiv b).natAbs<=a.natAbs:=Int.natAbs_fdiv_le_natAbs a b
theorem Sm.gr{b n k:Nat}{t:List (List Int)}(h:Sm b n t)(hk:k<n):t[k]? = some (gr t k)/\(C.gr t k).length=n/\∀x∈C.gr t k,x.natAbs<2^b:=by
 have e:=h.len;have:t[k]? = some (C.gr t k):=by unfold C.gr;rw[bD,bG (by omega)];rfl
 have hm:=ge this;exact⟨this,h.row _ hm,h.sm _ hm⟩
theorem zM{r:List Int}(h:∀x∈r,x.natAbs<2^b):(ga r k).natAbs<2^b:=by
 unfold ga;rw[bD];cases e:r[k]? with
 |none=>exact Nat.two_pow_pos b
 |some v=>exact h _ (ge e)
theorem Li{w x y z:Int}(h1:w.natAbs<2^b)(h2:x.natAbs<2^b)(h3:y.natAbs<2^b)(h4:z.natAbs<2^b):(w*x-y*z).natAbs<2^(2*b+1):=by
 have m1:(w*x).natAbs<2^b*2^b:=by rw[eu];exact qG h1 h2
 have m2:(y*z).natAbs<2^b*2^b:=by rw[eu];exact qG h3 h4
 have:=yb (w*x) (y*z);rw[rD,show 2*b=b+b by omega,kK];omega
theorem Lj{a:Nat}{row here:List Int}{last:Int}(h1:row.length=n)(h2:∀x∈row,x.natAbs<2^b)(h3:∀x∈here,x.natAbs<2^b)(hl:last≠0):(jp row here a last).length=n/\∀x∈jp row here a last,x.natAbs<2^(2*b+1):=by
 refine⟨by unfold jp;rw[bL,jE];exact h1,λx hx=>?_⟩;obtain⟨j,_,rfl⟩:=YbS.mp hx;exact lP (Lh hl) (Li (zM h2) (zM h3) (zM h2) (zM h3))
theorem zN{t:List (List Int)}{r:List Int}(h:i<t.length):gr (t.set i r) k=if k=i then r else gr t k:=by
 unfold gr;rw[bD,AF,bD]
 by_cases e:i=k
 .subst e
  rw[if_pos rfl,if_pos rfl,if_pos h];rfl
 .rw[if_neg e,if_neg (NO e)]
theorem Lk{a g:Nat}{t:List (List Int)}(h:Sm b n t)(ha:a<n)(hg:g<n):Sm b n (eh t a g):=by
 have e:=h.len;have m:∀r∈eh t a g,r∈t:=λr hr=>by
  unfold eh at hr;rcases pM hr with hr|rfl
  .rcases pM hr with hr|rfl
   .exact hr
   .exact ge (h.gr hg).1
  .exact ge (h.gr ha).1
 exact⟨by unfold eh;rw[cL,cL];exact e,λr hr=>h.row r (m r hr),λr hr=>h.sm r (m r hr)⟩
theorem FN{a g:Nat}{t:List (List Int)}(h:Sm b n t)(ha:a<n)(hg:g<n):gr (eh t a g) a=gr t g:=by
 have e:=h.len;unfold eh;rw[zN (by rw[cL];omega)]
 by_cases z:a=g
 .subst z;rw[if_pos rfl]
 .rw[if_neg z,zN (by omega),if_pos rfl]
theorem Ll{a g:Nat}{t:List (List Int)}(h:Sm b n t)(hg:g∈tG t a):a<=g/\g<n/\ga (gr t g) a≠0:=by
 have e:=h.len;unfold tG at hg;obtain⟨h1,h2⟩:=Yag.mp hg;obtain⟨k,hk,rfl⟩:=YbS.mp h1;rw[Yah] at hk;exact⟨by omega,by omega,by simpa using h2⟩
theorem Cp{t:List (List Int)}{a:Nat}{l:Int}(hi:i<t.length):gr (c9 t a k l) i=if a<i/\i<k then jp (gr t i) (gr t a) a l else gr t i:=by
 show(c9 t a k l).getD i []=_;unfold c9;rw[bD,cI,jD hi];rfl
theorem Lm{a:Nat}{t:List (List Int)}{l:Int}(h:Sm b n t)(ha:a<n)(hl:l≠0):Sm (2*b+1) n (c9 t a k l):=by
 have e:=h.len;have key:∀r∈c9 t a k l,r.length=n/\∀x∈r,x.natAbs<2^(2*b+1):=λr hr=>by
  unfold c9 at hr;obtain⟨i,hi,rfl⟩:=YbS.mp hr;have hi':i<n:=by rw[<-e];simpa using hi
  split
  .exact Lj (h.gr hi').2.1 (h.gr hi').2.2 (h.gr ha).2.2 hl
  .exact⟨(h.gr hi').2.1,λx hx=>cU ((h.gr hi').2.2 x hx) (j8 (by decide) (by omega))⟩
 exact⟨by unfold c9;rw[bL,jE];exact e,λr hr=>(key r hr).1,λr hr=>(key r hr).2⟩
end B.C
namespace Dt
open B.C
def tA(t:List (List Int)):Nat->R:=λi j=>ga (gr t i) j
def nv(P:Nat->R)(a:Nat):Nat->Int:=λj=>match a,j with
 |0,0=>1
 |1,0=>- P 0 1
 |1,1=>P 0 0
 |2,0=>m2 (P 0) (P 1) 1 2
 |2,1=>- m2 (P 0) (P 1) 0 2
 |2,2=>m2 (P 0) (P 1) 0 1
 |3,0=>- m3 (P 0) (P 1) (P 2) 1 2 3
 |3,1=>m3 (P 0) (P 1) (P 2) 0 2 3
 |3,2=>- m3 (P 0) (P 1) (P 2) 0 1 3
 |3,3=>m3 (P 0) (P 1) (P 2) 0 1 2
 |4,0=>m4 (P 0) (P 1) (P 2) (P 3) 1 2 3 4
 |4,1=>- m4 (P 0) (P 1) (P 2) (P 3) 0 2 3 4
 |4,2=>m4 (P 0) (P 1) (P 2) (P 3) 0 1 3 4
 |4,3=>- m4 (P 0) (P 1) (P 2) (P 3) 0 1 2 4
 |4,4=>m4 (P 0) (P 1) (P 2) (P 3) 0 1 2 3
 |_,_=>0
structure Br(A:Nat->R)(n a:Nat)(x:zL)(P:Nat->R):Prop where
 sm:∃b,Sm b n x.t
 l0:x.l≠0
 sgn:dt A n=x.s*dt P n
 last:x.l=dt P a
 ent:∀i,a<=i->i<n->∀j,j<n->ga (gr x.t i) j=M P a i j
 row:∀i,i<n->∃i',i'<n/\A i=P i'
def Ln{A B:Nat->R}(h:∀l,l<k->A l=B l):dt A k=dt B k:=by
 cases k with
 |zero=>rfl
 |succ k=>exact DY (λl hl=>h l (by omega)) (h k (by omega))
theorem Lo{row here:List Int}{a:Nat}{l:Int}(hj:j<row.length):ga (jp row here a l) j=(ga row j*ga here a-ga row a*ga here j).fdiv l:=by
 show(jp row here a l).getD j 0=_;unfold jp;rw[bD,cI,jD hj];rfl
theorem Br.step{A:Nat->R}{a:Nat}{x y:zL}{P:Nat->R}(h:Br A n a x P)(hn:n<=5)(ha:a<n)(e:wD a x=some y):∃P',Br A n (a+1) y P':=by
 obtain⟨b,sm⟩:=h.sm;have xl:=sm.len;unfold wD at e;split at e
 .cases e
 rename_i g gs eg;cases e;obtain⟨g1,g2,g3⟩:=Ll sm (g:=g) (by rw[eg];simp);have w:=Lk sm ha g2;have wl:=w.len;have swr:∀k,k<n->gr (eh x.t a g) k=if k=g then gr x.t a else if k=a then gr x.t g else gr x.t k:=λk hk=>by
  unfold eh;rw[zN (by rw[cL];omega),zN (by omega)]
 refine⟨sw P a g,⟨_,Lm (k:=(eh x.t a g).length) w ha h.l0⟩,?_,?_,?_,λi hi hin j hj=>?_,λi hi=>?_⟩
 .show ga (gr (c9 (eh x.t a g) a (eh x.t a g).length x.l) a) a≠0
  rw[Cp (by omega),if_neg (by omega),FN sm ha g2];exact g3
 .show dt A n=x.s*(1-2*(if g=a then 0 else 1))*dt (sw P a g) n
  rw[h.sgn]
  by_cases e:g=a
  .subst e
   rw[if_pos rfl,show sw P g g=P from by funext i;unfold sw;split<;>simp_all];grind
  .rw[if_neg e,vI P hn (by omega:a<g) g2]
   grind
 .show ga (gr (c9 (eh x.t a g) a (eh x.t a g).length x.l) a) a=M (sw P a g) a a a
  rw[Cp (by omega),if_neg (by omega),FN sm ha g2,h.ent g g1 g2 a ha];have:M (sw P a g) a a a=M (λl=>if l=g then sw P a g a else sw P a g l) a g a:=by
   have h1:∀(B:Nat->R) (k:Nat),M B k k k=M (λl=>if l=g then B k else B l) k g k->True:=λ_ _ _=>trivial
   match a,ha,g1 with
   |0,_,_=>simp[M]
   |1,_,_=>simp only[M];rw[if_neg (by omega)];simp
   |2,_,_=>simp only[M];rw[if_neg (by omega),if_neg (by omega)];simp
   |3,_,_=>simp only[M];rw[if_neg (by omega),if_neg (by omega),if_neg (by omega)];simp
   |4,_,_=>simp only[M];rw[if_neg (by omega),if_neg (by omega),if_neg (by omega),if_neg (by omega)];simp
   |_+5,h,_=>omega
  rw[this];refine DY (λl hl=>?_) ?_
  .show P l=if l=g then _ else sw P a g l
   unfold sw;rw[if_neg (by omega),if_neg (by omega),if_neg (by omega)]
  .show P g=if g=g then sw P a g a else _
   unfold sw;rw[if_pos rfl,if_pos rfl]
 .have hai:a<i:=by omega
  have hA:∀k,a<=k->k<n->∀j,j<n->ga (gr (eh x.t a g) k) j=M (sw P a g) a k j:=λk hk hkn j hj=>by
   have low:∀l,l<a->P l=sw P a g l:=λl hl=>by unfold sw;rw[if_neg (by omega),if_neg (by omega)]
   have mv:∀k',a<=k'->k'<n->P k'=sw P a g k->M P a k' j=M (sw P a g) a k j:=λk' h1 h2 h3=>by
    have hh:∀(B C:Nat->R) (i i':Nat),(∀l,l<a->B l=C l)->B i=C i'->M B a i j=M C a i' j:=λB C i i' q1 q2=>by
     match a,q1 with
     |0,_=>show B i j=C i' j;rw[q2]
     |1,q1=>simp only[M];rw[q2,q1 0 (by omega)]
     |2,q1=>simp only[M];rw[q2,q1 0 (by omega),q1 1 (by omega)]
     |3,q1=>simp only[M];rw[q2,q1 0 (by omega),q1 1 (by omega),q1 2 (by omega)]
     |4,q1=>simp only[M];rw[q2,q1 0 (by omega),q1 1 (by omega),q1 2 (by omega),q1 3 (by omega)]
     |_+5,_=>simp only[M]
    exact hh _ _ _ _ low h3
   rw[swr k hkn]
   by_cases e1:k=g
   .subst e1
    rw[if_pos rfl,h.ent a (bP _) ha j hj];refine mv a (bP _) ha ?_;unfold sw
    by_cases e2:k=a
    .subst e2;rw[if_pos rfl]
    .rw[if_neg e2,if_pos rfl]
   .rw[if_neg e1]
    by_cases e2:k=a
    .subst e2
     rw[if_pos rfl,h.ent g g1 g2 j hj];refine mv g g1 g2 ?_;unfold sw;rw[if_pos rfl]
    .rw[if_neg e2,h.ent k hk hkn j hj]
     refine mv k hk hkn ?_;unfold sw;rw[if_neg e2,if_neg e1]
  show ga (gr (c9 (eh x.t a g) a (eh x.t a g).length x.l) i) j=M (sw P a g) (a+1) i j;rw[Cp (by omega),if_pos ⟨hai,by omega⟩,Lo (by rw[(w.gr hin).2.1];exact hj),hA i (by omega) hin j hj,hA a (bP _) ha a ha,hA i (by omega) hin a ha,hA a (bP _) ha j hj,<-Je (sw P a g) (k:=a) (by omega) i j];have el:dt (sw P a g) a=x.l:=by
   rw[h.last];exact Ln λl hl=>by unfold sw;rw[if_neg (by omega),if_neg (by omega)]
  rw[el];exact Int.mul_fdiv_cancel _ h.l0
 .obtain⟨i',h1,h2⟩:=h.row i hi
  by_cases e1:i'=a
  .subst e1
   refine⟨g,g2,?_⟩;rw[h2];unfold sw
   by_cases e2:g=i'
   .subst e2;rw[if_pos rfl]
   .rw[if_neg e2,if_pos rfl]
  .by_cases e2:i'=g
   .subst e2
    refine⟨a,ha,?_⟩;rw[h2];unfold sw;rw[if_pos rfl]
   .refine⟨i',h1,?_⟩
    rw[h2];unfold sw;rw[if_neg e1,if_neg e2]
end Dt
namespace B.C
def bd_of{x:Int}(h:x.natAbs<2^b)(hb:b<=8990):Bd x:=cU h (j8 (by decide) hb)
def own_by{E:Ex->Prop}(e:ρ.set i (.ow xs)=ρ')(ht:∀P:List D->Prop,P xs->t E ρ P)(h:N.nx ρ'):bW i t E N ρ:=ht _ (by rw[e];exact h)
def pub_by{E:Ex->Prop}(e:pub i ρ=ρ')(h:z E N ρ'):bO i z E N ρ:=by unfold bO;rw[e];exact h
def ixN_nat(h:k<n):jh n (k:Int)=some k:=by
 unfold jh;rw[if_pos (by omega),if_pos (by omega),hJ]
section
variable{E:Ex->Prop}{f:List Rat}{a x y:Rat}
end
mutual
def bx(b:Nat):D->Nat->Bool
 |.non,_=>true
 |.bl _,_=>true
 |.int i,_=>decide (i.natAbs<2^300)
 |.str x,_=>decide (x.cps.size<=4)&&x.cps.toList.all λc=>decide (c<16^8)
 |.dic,_=>true
 |.tup xs,n=>decide (0<n)&&decide (xs.length<=b)&&kC b xs (n-1)
 |.lst xs,n=>decide (0<n)&&decide (xs.length<=b)&&kC b xs (n-1)
 |.pen,_=>false
 |.cls _,_=>false
 |.exc _,_=>false
 |.ty _,_=>false
 |.scr _,_=>false
def kC(b:Nat):List D->Nat->Bool
 |[],_=>true
 |x::r,n=>bx b x n&&kC b r n
end
def ZmT{b:Nat}:∀{xs:List D} {n:Nat},kC b xs n=true↔∀x∈xs,bx b x n=true
 |[],_=>by simp[kC]
 |x::r,n=>by rw[kC,dj,ZmT];simp
mutual
theorem Cq{b:Nat}:∀(x:D) {n m:Nat},n<=m->bx b x n=true->bx b x m=true
 |.non,_,_,_,h=>h
 |.bl _,_,_,_,h=>h
 |.int _,_,_,_,h=>h
 |.str _,_,_,_,h=>h
 |.dic,_,_,_,h=>h
 |.tup xs,n,m,l,h=>by
  rw[bx,dj,dj,NI,NI] at h ⊢;exact⟨⟨by omega,h.1.2⟩,Cr xs (by omega) h.2⟩
 |.lst xs,n,m,l,h=>by
  rw[bx,dj,dj,NI,NI] at h ⊢;exact⟨⟨by omega,h.1.2⟩,Cr xs (by omega) h.2⟩
 |.pen,n,_,_,h=>by rw[bx] at h;cases h
 |.cls _,n,_,_,h=>by rw[bx] at h;cases h
 |.exc _,n,_,_,h=>by rw[bx] at h;cases h
 |.ty _,n,_,_,h=>by rw[bx] at h;cases h
 |.scr _,n,_,_,h=>by rw[bx] at h;cases h
theorem Cr{b:Nat}:∀(xs:List D) {n m:Nat},n<=m->kC b xs n=true->kC b xs m=true
 |[],_,_,_,_=>by rw[kC]
 |x::r,n,m,l,h=>by
  rw[kC,dj] at h ⊢;exact⟨Cq x l h.1,Cr r l h.2⟩
end
theorem Ct(hl:xs.length<=b)(h:∀x∈xs,bx b x n=true):bx b (.tup xs) (n+1)=true:=by
 rw[bx,NK hl,NK (Nat.succ_pos n),ZmT.mpr (by simpa using h)];rfl
theorem Lp(hb:2<=b)(h:Sz 223 q):bx b (aO q) (n+1)=true:=by
 unfold aO;refine Ct hb λx hx=>?_;simp only[Yan,dN,or_false] at hx;have h1:q.num.natAbs<2^300:=tO h.1 (by decide);have h2:(q.den:Int).natAbs<2^300:=tO (by simpa using h.2) (by decide:2^223<2^300);rcases hx with rfl|rfl
 .rw[bx,NK h1]
 .rw[bx,NK h2]
theorem FO(hb:2<=b)(hl:r.length<=b)(h:∀x∈r,Sz 223 x):bx b (aF r) (n+2)=true:=by
 unfold aF;refine Ct (by simpa using hl) λx hx=>?_;obtain⟨q,hq,rfl⟩:=YbS.mp hx;exact Lp hb (h q hq)
end B.C
def iw(x:D):Bool:=decide ((sI x).reverse=sI x)
def Lq(x:D):Except Str D:=ir x (.ok (.bl (iw x)))
def wE(s:List Int)(n:Nat)(y z:D):Except Str D:=if fY n y=true/\fY n z=true then .ok (aO (cE (rQ y) (cT s n (rQ z)))) else .error "NoRow"
def pz(x y z:D):Except Str D:=ir x (if iw x=true then wE (sI x) (sN x) y z else .error "NotEven")
def Cu:bN:=xS (λx:D=>[x]) (λx=>kd x=true) Lq
def ur:bN:=xS (λx:D=>[x]) (λx=>kd x=true) λx=>ir x (if iw x=true then .ok .non else .error "NotEven")
def Zb:bN:=xS (λx:D×D×D=>[x.1,x.2.1,x.2.2]) (λx=>kd x.1=true/\kd x.2.1=true/\kd x.2.2=true/\dG 170 x.2.1=true/\dG 170 x.2.2=true) λx=>pz x.1 x.2.1 x.2.2
namespace B
section
variable{E:Ex->Prop}{x z:D}{p:List Rat}
end
end B
abbrev ZjJ:List Str:=["slants"]
def FP:WS:=(aM (w2 (gEq false) (wF y6 (aC (wN 0) aA)) (wN 0)))
abbrev Zhl:List Str:=["slants"]
def FQ:WS:=(cS (bV (wT (wF Cu (aC (wN 0) aA)))) (i7 (PySem.Str.ofString "NotEven")) cR)
abbrev ZjI:List Str:=["slants", "one", "other"]
def FR:WS:=(aI (iX (wF ur (aC (wN 0) aA))) (aI (cS (bV (wT (wF sY (aC (wN 0) (aC (wN 1) aA))))) (i7 (PySem.Str.ofString "NoRow")) cR) (aM (wF v4 (aC (wN 1) (aC (wF za (aC (wN 0) (aC (wN 2) aA))) aA))))))
theorem Cv(a b:List Int):jA (aP a) (aP b)=decide (a=b):=by
 unfold jA aP;rw[pd,pd,PyData.eqv]
 induction a generalizing b with
 |nil=>cases b<;>simp[fG,PyData.eqvAll]
 |cons x a ih=>
  cases b with
  |nil=>simp[fG,PyData.eqvAll]
  |cons y b=>
   rw[cV,cV,fG,fG,PyData.eqvAll,ih b,pd,pd,PyData.eqv,g9];simp
theorem Lr(h:IsSl s n)(hm:∀x∈r,Sz m x):∀x∈cT s n r,Sz (5*(6+m+1)+1) x:=by
 intro x hx;unfold cT at hx;obtain⟨line,hl,rfl⟩:=YbS.mp hx;obtain⟨h1,h2⟩:=tz h line hl;refine B5 _ _ (λx hx=>?_) hm (by unfold dF;rw[bL,h1];exact h.n5);obtain⟨i,hi,rfl⟩:=YbS.mp hx;exact wm (h2 i hi)
theorem Cw{p:List Rat}(h:IsSl s n)(hp:p.length=n)(h1:∀x∈p,Sz 170 x)(h2:∀x∈r,Sz 170 x):BR p (cT s n r):=by
 refine⟨170,_,h1,Lr h h2,?_⟩;rw[hp];have h5:=h.n5;have:n*(170+(5*(6+170+1)+1)+1)<=5*(170+(5*(6+170+1)+1)+1):=mq _ h5;omega
mutual
theorem FS{m m':Nat}(l:m<=m'):∀d:D,dG m d=true->dG m' d=true
 |.int i,h=>by
  rw[dG,NI] at h ⊢;exact cU h (j8 (by decide) l)
 |.tup xs,h=>by rw[dG] at h ⊢;exact Cy l xs h
 |.lst xs,h=>by rw[dG] at h ⊢;exact Cy l xs h
 |.non,_=>rfl
 |.bl _,_=>rfl
 |.str _,_=>rfl
 |.dic,_=>rfl
 |.pen,_=>rfl
 |.cls _,_=>rfl
 |.exc _,_=>rfl
 |.ty _,_=>rfl
 |.scr _,_=>rfl
theorem Cy{m m':Nat}(l:m<=m'):∀ds:List D,ft m ds=true->ft m' ds=true
 |[],_=>by rw[ft]
 |d::ds,h=>by
  rw[ft,dj] at h ⊢;exact⟨FS l d h.1,Cy l ds h.2⟩
end
theorem Ls:Rd Cu FP ZjJ:=by
 rintro _ E Q ⟨x,rfl,hk,q⟩;unfold FP;walk_at "st";cases e:fZ x with
 |false=>exact xS.err x rfl hk (nR e) (qq e q)
 |true=>
  obtain⟨s,n,rfl,h⟩:=sZ e;refine JQ h (rc (sT _ 59) (sT _ 59) ?_);replace q:=qr h q;unfold iw at q;rw[gR] at q;simp only[dX,if_false];rw[Cv];exact q
theorem Lu:Rd ur FQ Zhl:=by
 rintro _ E Q ⟨x,rfl,hk,q⟩;unfold FQ;walk_at "st";cases e:fZ x with
 |false=>exact xS.err x rfl hk (nR e) (qq e q)
 |true=>
  obtain⟨s,n,rfl,h⟩:=sZ e;replace q:=qr h q;refine xS.ok (aP s) rfl hk (iu h) ?_;walk_at "st";cases ev:iw (aP s) with
  |true=>rw[ev] at q;simpa[exQ] using q
  |false=>rw[ev] at q;simpa[exQ] using q
theorem Lv:Rd Zb FR ZjI:=by
 rintro _ E Q ⟨⟨x,y,z⟩,rfl,⟨hk,hk1,hk2,hs1,hs2⟩,q⟩;dsimp only at hk hk1 hk2 hs1 hs2 q;unfold FR;walk_at "nx";cases e:fZ x with
 |false=>exact xS.err x rfl hk (nR e) (qq e q)
 |true=>
 obtain⟨s,n,rfl,h⟩:=sZ e;replace q:=qr h q;cases ev:iw (aP s) with
 |false=>
  rw[ev] at q;exact xS.err (aP s) rfl hk (by(try dsimp only);rw[iu h,ev];rfl) q
 |true=>
 rw[ev,gR,h.sN] at q;simp only[if_true] at q;refine xS.ok (aP s) rfl hk (v:=.non) (by(try dsimp only);rw[iu h,ev];rfl) ?_;walk_at "nx";refine BT h hk1 ?_;walk_at "st";unfold wE at q;cases e1:fY n y with
 |false=>rw[e1] at q;simpa[exQ] using q
 |true=>
 obtain⟨p,rfl,hp'⟩:=ze e1;have hp:p.length=n:=by omega
 simp only[fb,dX,if_false];rw[e1] at q;cases e2:fY n z with
 |false=>
  rw[e2] at q;exact xS.err (aP s,z) rfl ⟨hk,hk2,λr er=>⟨170,ZbZ.mp (by rw[<-er];exact hs2),by decide⟩⟩ (by(try dsimp only);rw[iu h,h.sN,e2];rfl) (by simpa[exQ] using q)
 |true=>
 obtain⟨r,rfl,hr'⟩:=ze e2;have hr:r.length=n:=by omega
 rw[e2,rg,rg] at q;refine JT h hr ⟨170,ZbZ.mp hs2,by decide⟩ (Em (Cw h hp (ZbZ.mp hs1) (ZbZ.mp hs2)) ?_);simpa[exQ] using q
section
def gEqS:G2:=λx y Q=>∃a b,x=.str a/\y=.str b/\Q (.bl (a==b))
def gEqS.mono:∀x y P P',(∀d,P d->P' d)->gEqS x y P->gEqS x y P':=λx y P P' hp ⟨a,b,h1,h2,h3⟩=>⟨a,b,h1,h2,hp _ h3⟩
end
namespace B.C
section
variable{E:Ex->Prop}{x:D}{f:List Rat}{t:List (List Int)}
end
theorem or_by{w:WT}{E:Ex->Prop}{b c:Bool}(hw:∀ P:Bool->Prop,P b->w E ρ P)(hw':∀ P:Bool->Prop,P c->w' E ρ P):∀ P:Bool->Prop,P (b || c)->fD w w' E ρ P:=λP h=>hw _ (by
 cases b with
 |true=>rw[if_pos rfl];exact h
 |false=>rw[if_neg (by decide)];exact hw' _ h)
def for_seq{E:Ex->Prop}(hw:∀P:D->Prop,P (.lst xs)->w E ρ P)(h:Za2 g zb E N xs ρ):bU (iS w) g zb E N ρ:=hw _ h
theorem one_at{a b:Int}{E:Ex->Prop}:∀P:D->Prop,P (.tup [.tup [.int a,.int b]])->aU (aC (aU (aC (wC (.int a)) (aC (wC (.int b)) aA))) aA) E ρ P:=λP h=>⟨show 2<=small by decide,show 1<=small by decide,h⟩
def okp(d:D):Prop:=∃a b,d=.tup [a,b]/\bx 7 a 3=true/\bx 7 b 3=true/\dl (.tup [a,b])=true
def okp.of{a b:D}(h1:bx 7 a 3=true)(h2:bx 7 b 3=true)(h3:dl (.tup [a,b])=true):okp (.tup [a,b]):=⟨a,b,rfl,h1,h2,h3⟩
theorem Lw{a b:D}(h1:lD a=true)(h2:mj a=true)(h:dl b=true):dl (.tup [a,b])=true/\dl (.tup [b,a])=true:=by
 refine ⟨FE ?_,FE ?_⟩<;>(
  rcases Bool.or_eq_true_iff.mp (show(lD b||mj b)=true from h) with e|e
  .refine .inl λx hx=>?_
   simp only[Yan,dN,or_false] at hx;rcases hx with rfl|rfl<;>assumption
  .refine .inr λx hx=>?_
   simp only[Yan,dN,or_false] at hx;rcases hx with rfl|rfl<;>assumption)
def Lx(r:List Rat):dl (aF r)=true:=by unfold dl;rw[Cn];rfl
def FT(h:r.length<=7)(hs:∀x∈r,Sz 223 x):bx 7 (aF r) 3=true:=Cq _ (n:=2) (by decide) (FO (by decide) h hs)
theorem okp.rows{p:List Rat}(h1:p.length<=7)(h2:r.length<=7)(s1:∀x∈p,Sz 223 x)(s2:∀x∈r,Sz 223 x):okp (.tup [aF p,aF r]):=.of (FT h1 s1) (FT h2 s2) (Lw (Cn _) (FD _) (Lx _)).1
end B.C
def zO:bN:=fnS (λx:Nat×Nat=>[.int x.1,.int x.2]) (λx=>x.2<=5) λx=>aF (bC x.2 x.1)
section
variable{E:Ex->Prop}{x:D}
def Zn(h:n<=5)(q:Q (aF (bC n k))):zO [.int k,.int n] E Q:=⟨(k,n),rfl,h,q⟩
end
namespace B.C.E
section
variable{E:Ex->Prop}{x:D}{S T:List (List Rat)}
end
end B.C.E
abbrev Zlg:List Str:=["place", "many"]
def FU:WS:=(aM (wF v3 (aC (wL (aLC (eO (aC (wN 1) aA)) 1 [0] (gN 0) cM (wB fQ (aC (w2 (gEq false) (wN 0) (wN 1)) aA)))) aA)))
def j0(n k:Nat):(bC n k).length=n:=by unfold bC;rw[bL,jE]
theorem Ly(n k:Nat):dF ((List.range n).map λi:Nat=>if(i:Int)=(k:Int) then(1:Int) else 0)=bC n k:=by
 unfold dF bC;rw[dk];refine ja λi _=>?_;show(((if(i:Int)=(k:Int) then(1:Int) else 0):Int):Rat)=_
 by_cases e:i=k
 .rw[if_pos (by omega),if_pos e];rfl
 .rw[if_neg (by omega),if_neg e];rfl
theorem Lz:Rd zO FU Zlg:=by
 rintro _ E Q ⟨⟨k,n⟩,rfl,h,q⟩;dsimp only at h q;unfold FU;walk_at "st";refine⟨by omega,by omega,?_⟩;rw[lC];refine md (g:=λi:Nat=>D.int (i:Int)) (f:=λi:Nat=>D.int (if(i:Int)=(k:Int) then 1 else 0)) (List.range n) (λi hi Q hq=>?_) .un [] (by simp[small];omega) ?_
 .walk_at "st"
  by_cases e:(i:Int)=(k:Int)
  .rw[if_pos e] at hq
   simpa[e] using hq
  .rw[if_neg e] at hq
   simpa[e] using hq
 .have:=El (E:=E) (Q:=Q) (xs:=(List.range n).map λi:Nat=>if(i:Int)=(k:Int) then(1:Int) else 0) (by simp;omega) (by rw[Ly];exact q)
  unfold gQ at this;rw[dk] at this;exact this
def bJ(a:List Rat)(s:Rat)(c:List Rat):List Rat:=List.zipWith (λl r=>l-s*r) a c
def lF(a:List Rat)(s:Rat):List Rat:=a.map λx=>x/s
def dD:List (List Rat)->Nat->Option Nat
 |[],_=>none
 |r::R,p=>if r.getD p 0=0 then(dD R p).map (· + 1) else some 0
def cB(R:List (List Rat))(lead:List Rat)(p:Nat):List (List Rat):=R.map λr=>bJ r (r.getD p 0) lead
structure Cl where
 ld:List (List Rat)
 pl:List Nat
 rs:List (List Rat)
def tH(R:List (List Rat))(a p:Nat):List Rat:=lF (R.getD a []) ((R.getD a []).getD p 0)
def tI(p:Nat)(x:Cl):Cl:=match dD x.rs p with
 |none=>x
 |some a=>⟨cB x.ld (tH x.rs a p) p++[tH x.rs a p],x.pl++[p],cB (x.rs.take a++x.rs.drop (a+1)) (tH x.rs a p) p⟩
def dm(R:List (List Rat)):Nat->Cl
 |0=>⟨[],[],R⟩
 |p+1=>tI p (dm R p)
structure Lf(b m:Nat)(row:List Rat):Prop where
 ex:∃(c:List Int) (e:Int),c.length=m/\e≠0/\e.natAbs<2^b/\(∀x∈c,x.natAbs<2^b)/\row=c.map λx=>Rat.divInt x e
def Lf.len{row:List Rat}(h:Lf b m row):row.length=m:=by
 obtain⟨c,e,h1,_,_,_,rfl⟩:=h.ex;rw[bL];exact h1
theorem Lf.mono{b':Nat}{row:List Rat}(l:b<=b')(h:Lf b m row):Lf b' m row:=by
 obtain⟨c,e,h1,h2,h3,h4,h5⟩:=h.ex;have p:2^b<=2^b':=j8 (by decide) l;exact⟨c,e,h1,h2,cU h3 p,λx hx=>cU (h4 x hx) p,h5⟩
theorem Lf.sz{row:List Rat}(h:Lf b m row):∀x∈row,Sz b x:=by
 obtain⟨c,e,h1,h2,h3,h4,rfl⟩:=h.ex;intro x hx;obtain⟨y,hy,rfl⟩:=YbS.mp hx;exact uj h2 (h4 y hy) h3
theorem Lf.get{row:List Rat}(h:Lf b m row)(hk:k<m):row[k]? = some (row.getD k 0)/\Sz b (row.getD k 0):=by
 have e:row[k]? = some (row.getD k 0):=by rw[bD,bG (by rw[h.len];exact hk)];rfl
 exact⟨e,h.sz _ (ge e)⟩
theorem Lf.int{c:List Int}(hb:0<b)(h:∀x∈c,x.natAbs<2^b):Lf b c.length (dF c):=by
 refine⟨c,1,rfl,by decide,?_,h,?_⟩
 .show 1<2^b
  exact xT (by omega)
 .unfold dF
  exact ja λx _=>by have:=tV (x:Rat);rw[xQ,xR] at this;exact this.symm
theorem LA{c e:Int}(he:e≠0):Rat.divInt c e≠0↔c≠0:=by
 constructor
 .rintro h rfl
  exact h (AG e)
 .intro h z
  have e1:Rat.divInt c e*Rat.divInt e c=1:=by
   rw[ya,yc e c];have:=tY (n:=1) (d:=1) (pN h he);rw[Int.one_mul] at this;rw[this];rfl
  rw[z,jc] at e1;exact NH e1 (by decide)
theorem Lf.norm{p:Nat}{row:List Rat}(h:Lf b m row)(hp:p<m)(h0:row.getD p 0≠0):Lf b m (lF row (row.getD p 0)):=by
 obtain⟨c,e,h1,h2,h3,h4,rfl⟩:=h.ex;have hc:c[p]? = some (c.getD p 0):=by rw[bD,bG (by omega)];rfl
 have eg:(c.map λx=>Rat.divInt x e).getD p 0=Rat.divInt (c.getD p 0) e:=by
  rw[bD,cI,hc];rfl
 rw[eg] at h0 ⊢;have hc0:c.getD p 0≠0:=(LA h2).mp h0;refine⟨c,c.getD p 0,h1,hc0,h4 _ (ge hc),h4,?_⟩;unfold lF;rw[dk];refine ja λx _=>?_;show Rat.divInt x e/(Rat.divInt (c.getD p 0) e)=Rat.divInt x (c.getD p 0);rw[hU,Rat.inv_divInt,ya _ _ ,yc e];exact tY h2
theorem LB{w x y z:Int}(h1:w.natAbs<2^b)(h2:x.natAbs<2^b)(h3:y.natAbs<2^b)(h4:z.natAbs<2^b):(w*x-y*z).natAbs<2^(2*b+1):=by
 have m1:(w*x).natAbs<2^b*2^b:=by rw[eu];exact qG h1 h2
 have m2:(y*z).natAbs<2^b*2^b:=by rw[eu];exact qG h3 h4
 have:=yb (w*x) (y*z);rw[rD,show 2*b=b+b by omega,kK];omega
theorem Lf.less{p:Nat}{row piv:List Rat}(h:Lf b m row)(hq:Lf b m piv)(hp:p<m):Lf (2*b+1) m (bJ row (row.getD p 0) piv):=by
 obtain⟨c,e,h1,h2,h3,h4,rfl⟩:=h.ex;obtain⟨d,f,g1,g2,g3,g4,rfl⟩:=hq.ex;have hc:c[p]? = some (c.getD p 0):=by rw[bD,bG (by omega)];rfl
 have eg:(c.map λx=>Rat.divInt x e).getD p 0=Rat.divInt (c.getD p 0) e:=by
  rw[bD,cI,hc];rfl
 rw[eg];have bc:(c.getD p 0).natAbs<2^b:=h4 _ (ge hc);refine⟨List.zipWith (λx y=>x*f-c.getD p 0*y) c d,e*f,by rw[nI];omega,pN h2 g2,?_,λz hz=>?_,?_⟩
 .rw[eu,rD,show 2*b=b+b by omega,kK]
  have:=qG h3 g3;omega
 .obtain⟨i,hi,e1⟩:=Ybx.mp hz
  rw[tZ] at e1;rw[<-e1];exact LB (h4 _ (jF _)) g3 bc (g4 _ (jF _))
 .unfold bJ
  rw[List.zipWith_map,yd];refine congrArg (λg=>List.zipWith g c d) ?_;funext x y;rw[ya,Rat.divInt_sub_divInt _ _ h2 (pN h2 g2)];rw[show x*(e*f)-c.getD p 0*y*e=(x*f-c.getD p 0*y)*e by grind,yc e (e*f)];exact(tY h2)
def bq(b:Nat):Nat->Nat
 |0=>b
 |k+1=>2*bq b k+1
theorem zP{b:Nat}:∀{k k':Nat},k<=k'->bq b k<=bq b k'
 |k,0,h=>by rw[Nat.le_zero.mp h];exact bP _
 |k,k'+1,h=>by
  by_cases e:k=k'+1
  .rw[e];exact bP _
  .have:=zP (b:=b) (k:=k) (k':=k') (by omega)
   rw[bq];omega
theorem ut:∀{R:List (List Rat)} {p a:Nat},dD R p=some a->a<R.length/\(R.getD a []).getD p 0≠0
 |[],_,_,h=>nomatch h
 |r::R,p,a,h=>by
  rw[dD] at h;split at h
  .cases e:dD R p with
   |none=>rw[e] at h;cases h
   |some b=>
    rw[e] at h;have h':b+1=a:=by simpa using h
    subst h';obtain⟨h1,h2⟩:=ut e;exact⟨by simpa using h1,by simpa using h2⟩
  .rename_i h0
   have h':0=a:=by simpa using h
   subst h';exact⟨by simp,by simpa using h0⟩
structure qu(b w p m:Nat)(x:Cl):Prop where
 ld:∀r∈x.ld,Lf (bq b p) w r
 rs:∀r∈x.rs,Lf (bq b p) w r
 ln:x.ld.length+x.rs.length=m
 pl:x.pl.length=x.ld.length
 lt:∀a∈x.pl,a<p
def iy{R:List (List Rat)}{a:Nat}(h:a<R.length):R.getD a []∈R:=by
 rw[bD,bG h];exact jF _
def jq{α:Type}{R:List α}{a:Nat}{r:α}(h:r∈R.take a++R.drop (a+1)):r∈R:=by
 rcases Yao.mp h with h|h
 .exact qF h
 .exact mr h
theorem FV{w p a:Nat}{x:Cl}(h:qu b w p m x)(hp:p<w)(e:dD x.rs p=some a):Lf (bq b p) w (tH x.rs a p):=by
 obtain⟨h1,h2⟩:=ut e;exact(h.rs _ (iy h1)).norm hp h2
theorem LC{w p:Nat}{x:Cl}(h:qu b w p m x)(hp:p<w):qu b w (p+1) m (tI p x):=by
 have up:bq b p<=bq b (p+1):=zP (by omega);unfold tI;split
 .exact⟨λr hr=>(h.ld r hr).mono up,λr hr=>(h.rs r hr).mono up,h.ln,h.pl,λa ha=>ye (h.lt a ha)⟩
 .rename_i a e
  have hl:=FV h hp e;obtain⟨h1,h2⟩:=ut e;have ln:=h.ln;refine⟨λr hr=>?_,λr hr=>?_,?_,?_,λc hc=>?_⟩
  .rcases Yao.mp hr with hr|hr
   .unfold cB at hr
    obtain⟨r0,hr0,rfl⟩:=YbS.mp hr;exact(h.ld r0 hr0).less hl hp
   .rw[Yco.mp hr];exact hl.mono up
  .unfold cB at hr
   obtain⟨r0,hr0,rfl⟩:=YbS.mp hr;exact(h.rs r0 (jq hr0)).less hl hp
  .show(cB _ _ _++[_]).length+(cB _ _ _).length=m
   unfold cB;simp only[dM,bL,j7,jr,kI];omega
  .show(x.pl++[p]).length=(cB _ _ _++[_]).length
   unfold cB;rw[dM,dM,bL,h.pl];rfl
  .rcases Yao.mp hc with hc|hc
   .exact ye (h.lt c hc)
   .rw[Yco.mp hc];exact Au p
theorem FW{b w:Nat}{R:List (List Rat)}(h:∀r∈R,Lf b w r):∀{p:Nat},p<=w->qu b w p R.length (dm R p)
 |0,_=>⟨(λr hr=>by cases hr),h,(by simp[dm]),rfl,(λa ha=>by cases ha)⟩
 |p+1,hp=>LC (FW h (by omega)) (by omega)
def bB(R:List (List Rat)):D:=.lst (R.map aF)
def Cz(xs:List Nat):D:=.lst (xs.map λ(k:Nat)=>D.int (k:Int))
def qv:Option Nat->D
 |none=>.non
 |some a=>.int (a:Int)
def Rz(b w:Nat)(R:List (List Rat)):Prop:=∀r∈R,r.length=w/\∀x∈r,Sz b x
def zQ:bN:=fnS (λx:Nat×List Rat×Rat=>[aF x.2.1,aO x.2.2]) (λx=>2*x.1<8990/\x.2.1.length<=1000/\(∀y∈x.2.1,Sz x.1 y)/\Sz x.1 x.2.2/\x.2.2≠0) λx=>aF (lF x.2.1 x.2.2)
def tJ:bN:=fnS (λx:(Nat×Rat)×List Rat×List Rat=>[aF x.2.1,aO x.1.2,aF x.2.2]) (λx=>3*x.1.1<8990/\x.2.1.length<=1000/\(∀y∈x.2.1,Sz x.1.1 y)/\Sz x.1.1 x.1.2/\∀y∈x.2.2,Sz x.1.1 y) λx=>aF (bJ x.2.1 x.1.2 x.2.2)
def zR:bN:=fnS (λx:Nat×List (List Rat)=>[bB x.2,.int x.1]) (λx=>x.2.length<=1000/\∀r∈x.2,x.1<r.length) λx=>qv (dD x.2 x.1)
def wG:bN:=fnS (λx:((Nat×Nat)×Nat)×List (List Rat)×List Rat=>[bB x.2.1,aF x.2.2,.int x.1.2]) (λx=>3*x.1.1.1<8990/\x.1.1.2<=1000/\x.2.1.length<=1000/\x.1.2<x.1.1.2/\Rz x.1.1.1 x.1.1.2 x.2.1/\∀y∈x.2.2,Sz x.1.1.1 y) λx=>bB (cB x.2.1 x.2.2 x.1.2)
structure nA(b w m:Nat)(R:List (List Rat)):Prop where
 mw:m<=w
 w1:w<=1000
 len:R.length<=1000
 bits:3*bq b (m-1)<8990
 lf:∀r∈R,Lf b w r
def zS:bN:=fnS (λx:((Nat×Nat)×Nat)×List (List Rat)=>[bB x.2,.int x.1.2]) (λx=>nA x.1.1.1 x.1.1.2 x.1.2 x.2) λx=>.tup [bB (dm x.2 x.1.2).ld,Cz (dm x.2 x.1.2).pl]
def CA(place n:Nat)(L:List (List Rat))(pl:List Nat):List Rat:=(L.zip pl).foldl (λrow x=>row.set x.2 (0-x.1.getD place 0)) (bC n place)
def kE(s:List Int)(n:Nat):List (List Rat):=(tbl s n).map dF
def tK(s:List Int)(n:Nat):Cl:=dm (kE s n) n
def FX(s:List Int)(n:Nat):List (List Rat):=((List.range n).filter λp=>!(tK s n).pl.contains p).map λp=>CA p n (tK s n).ld (tK s n).pl
section
variable{E:Ex->Prop}{x:D}{w p:Nat}{t lead:List Rat}{R L:List (List Rat)}{q0:Rat}{pl:List Nat}
theorem LD(h1:2*b<8990)(h2:r.length<=1000)(h3:∀y∈r,Sz b y)(h4:Sz b q0)(h5:q0≠0)(q:Q (aF (lF r q0))):zQ [aF r,aO q0] E Q:=⟨(b,r,q0),rfl,⟨h1,h2,h3,h4,h5⟩,q⟩
theorem CB(h1:3*b<8990)(h2:r.length<=1000)(h3:∀y∈r,Sz b y)(h4:Sz b q0)(h5:∀y∈t,Sz b y)(q:Q (aF (bJ r q0 t))):tJ [aF r,aO q0,aF t] E Q:=⟨((b,q0),r,t),rfl,⟨h1,h2,h3,h4,h5⟩,q⟩
def LE(h1:R.length<=1000)(h2:∀r∈R,p<r.length)(q:Q (qv (dD R p))):zR [bB R,.int p] E Q:=⟨(p,R),rfl,⟨h1,h2⟩,q⟩
theorem FY(h1:3*b<8990)(h2:w<=1000)(h3:R.length<=1000)(h4:p<w)(h5:Rz b w R)(h6:∀y∈lead,Sz b y)(q:Q (bB (cB R lead p))):wG [bB R,aF lead,.int p] E Q:=⟨(((b,w),p),R,lead),rfl,⟨h1,h2,h3,h4,h5,h6⟩,q⟩
def LF(h:nA b w m R)(q:Q (.tup [bB (dm R m).ld,Cz (dm R m).pl])):zS [bB R,.int m] E Q:=⟨(((b,w),m),R),rfl,h,q⟩
end
abbrev Zlf:List Str:=["row", "share"]
def CD:WS:=(aM (wB jw (aC (wL (aLC (iS (wN 0)) 1 [1] (gN 0) cM (wF nu (aC (wN 0) (aC (wN 1) aA))))) aA)))
abbrev Zh6:List Str:=["one", "share", "other"]
def CF:WS:=(aM (wB jw (aC (wL (aLC (iZ (aC (wN 0) (aC (wN 2) aA))) 2 [1] (dH 2 (cD (gN 0) (cD (gN 1) dC))) cM (wF uf (aC (wN 0) (aC (wF sW (aC (wN 2) (aC (wN 1) aA))) aA))))) aA)))
abbrev Zf4:List Str:=["rows", "place", "at", "row"]
def CG:WS:=(aI (aZ (bU (iE (aC (wN 0) aA)) (dH 2 (cD (gN 2) (cD (gN 3) dC))) (cS (wT (w2 (gEq true) (w2 gIx (wN 3) (wN 1)) (wC (D.tup [(D.int (0)),(D.int (1))])))) (aM (wN 2)) cR))) (aM (wC D.non)))
abbrev Zd7:List Str:=["rows", "lead", "place"]
def Zc:WS:=(aM (wL (aLC (iS (wN 0)) 1 [1,2] (gN 0) cM (wF tJ (aC (wN 0) (aC (w2 gIx (wN 0) (wN 2)) (aC (wN 1) aA)))))))
abbrev ZjL:List Str:=["rows", "many", "leading", "places", "rest", "place", "at", "lead"]
def CH:WS:=(aI (aQ 2 (wL (aX aA))) (aI (bW 3 (aX aA)) (aI (aQ 4 (wL (aB (fP (α:=Unit)) (aC (wN 0) aA)))) (aI (aZ (bU (eO (aC (wN 1) aA)) (gN 5) (aI (aQ 6 (wF zR (aC (wN 4) (aC (wN 5) aA)))) (cS (wT (w2 (gIsC true) (wN 6) (wC D.non))) (aI (aQ 7 (wF zQ (aC (w2 gIx (wN 4) (wN 6)) (aC (w2 gIx (w2 gIx (wN 4) (wN 6)) (wN 5)) aA)))) (aI (aQ 2 (w2 gAdd (wF wG (aC (wN 2) (aC (wN 7) (aC (wN 5) aA)))) (wL (aX (aC (wN 7) aA))))) (aI (aQ 4 (wF wG (aC (w2 gAdd (bM (wN 4) d8 (dA (wN 6))) (bM (wN 4) (dA (w2 gAdd (wN 6) (wC (D.int (1))))) d8)) (aC (wN 7) (aC (wN 5) aA))))) (dg 3 (wN 5))))) cR)))) (bO 3 (aM (aU (aC (wN 2) (aC (wN 3) aA)))))))))
local macro_rules | `(tactic| walk_at "w1")=>`(tactic| simp only [aM,cS,aQ,cR,iX,bO,bW,bU,ky,eF,dI,dg,jy,eR,l7,aZ,i7,fq,wM,Zdd,ii,fM,jS,dw,fD,bV,wT,jT,w1,w2,wB,wF,wL,aU,bM,Zbd,aB,aX,aC,aA,aLC,Zbv,cM,iS,iE,iL,iT,eO,lV,iZ,d8,dA,wN,wC,gN,dH,cD,dC,dU,lZ,e7,fT,eQ,aBor,fU,dS,eZ,aCut,eP,pub,cV,gx,dY,j9,iz,et,List.replicate,cZ,df,eT,eU,Nat.reduceSub,Nat.reduceAdd,gw,lO,true_and,dX,if_true,if_false,ite_true,ite_false,hJ,fb,lQ,
 kz,mf,nV,nW,nX,nY,nZ,n4,n6,n8,n9,oa,oh,oj,ol,om,oq,ot,ou,oy,oA,oB,oC,oD,oE,oF,oG,oH,oJ,oK,oM,oN,oO,oP,oQ,oR,oS,oU,oV,oW,oX,oY,oZ,o1,o4,o7,o8,o9,pj,e8,pk,pp,nw,pq,pv,gS,gT])
theorem LG:Rd zQ CD Zlf:=by
 rintro _ E Q ⟨⟨b,r,q0⟩,rfl,⟨h1,h2,h3,h4,h5⟩,q⟩;dsimp only at h1 h2 h3 h4 h5 q;show CD E _ [.d (aF r),.d (aO q0)];unfold CD aF;walk_at "st";refine md (g:=aO) (f:=λx:Rat=>aO (x/q0)) r (λx hx Q hq=>?_) .un [] (by simp[small];omega) ?_
 .walk_at "st"
  exact v7 (B2.of (h3 x hx) h4 (by omega)) h5 hq
 .walk_at "st"
  unfold aF lF at q;rw[dk] at q;exact q
theorem zT{we:WE}{tail:bR}{Q:List D->Prop}{f:Rat->Rat->D}:∀(A C:List Rat),(∀x∈A,∀y∈C,∀Q:D->Prop,Q (f x y)->we No (.d (aO x)::.d (aO y)::tail) Q)->∀(sv sv':SV) (acc:List D),acc.length+A.length<=small->Q (acc++List.zipWith f A C)->lcW (dH 2 (cD (gN 0) (cD (gN 1) dC))) cM we (dJ (A.map aO) (C.map aO)) (sv::sv'::tail) acc Q
 |[],C,_,sv,sv',acc,_,hq=>by simpa[lcW,dJ] using hq
 |x::A,[],_,sv,sv',acc,_,hq=>by simpa[lcW,dJ] using hq
 |x::A,y::C,h,sv,sv',acc,hl,hq=>by
  have e:dJ ((x::A).map aO) ((y::C).map aO)=.tup [aO x,aO y]::dJ (A.map aO) (C.map aO):=by simp[dJ]
  rw[e,lcW];refine⟨rfl,?_⟩;rw[dY] at hl;refine h x (by simp) y (by simp) _ ⟨by omega,zT A C (λa ha c hc=>h a (by simp[ha]) c (by simp[hc])) _ _ _ (by simp;omega) ?_⟩;rw[lN];simpa using hq
theorem LH:Rd tJ CF Zh6:=by
 rintro _ E Q ⟨⟨⟨b,q0⟩,r,t⟩,rfl,⟨h1,h2,h3,h4,h5⟩,q⟩;dsimp only at h1 h2 h3 h4 h5 q;show CF E _ [.d (aF r),.d (aO q0),.d (aF t)];unfold CF aF;walk_at "st";refine zT (f:=λx y=>aO (x-q0*y)) r t (λx hx y hy Q hq=>?_) .un .un [] (by simp[small];omega) ?_
 .walk_at "st"
  exact JI (B2.of h4 (h5 y hy) (by omega)) (Ek (B2.of (h3 x hx) (h4.mul (h5 y hy)) (by omega)) hq)
 .walk_at "st"
  unfold aF bJ at q;rw[yd] at q;exact q
theorem LI(q:Rat):(if true=true then !jA (aO q) (.tup [.int 0,.int 1]) else jA (aO q) (.tup [.int 0,.int 1])) = !decide (q=0):=by
 rw[if_pos rfl,<-FL,FK]
theorem FZ{p:Nat}{Q:D->Prop}{E:Ex->Prop}{N:Nds}{s0:SV}(hN:N.rt=Q):∀(R:List (List Rat)) (k:Nat) (s2 s3:SV),(∀r∈R,p<r.length)->(∀a,dD R p=some a->Q (.int ((k+a:Nat):Int)))->(dD R p=none->∀s2 s3,N.nx [s0,.d (.int p),s2,s3])->Za2 (dH 2 (cD (gN 2) (cD (gN 3) dC))) (cS (wT (w2 (gEq true) (w2 gIx (wN 3) (wN 1)) (wC (D.tup [(D.int (0)),(D.int (1))])))) (aM (wN 2)) cR) E N (eH k (R.map aF)) [s0,.d (.int p),s2,s3]
 |[],k,s2,s3,_,_,h2=>h2 rfl s2 s3
 |r::R,k,s2,s3,hp,h1,h2=>by
  rw[cV,eH,Za2];refine⟨rfl,?_⟩;simp only[cD,dC,gN,eU,eT];have hr:=hp r (by simp);have e1:(r.map aO)[p]? = some (aO (r.getD p 0)):=by
   rw[cI,bD,bG hr];rfl
  refine jo (b:=!decide (r.getD p 0=0)) (λP hP=>?_) (λe=>?_) λe=>?_
  .unfold aF
   walk_at "st";refine⟨_,cC e1,rc (Ed _ 59) (by decide +kernel) ?_⟩;rw[LI];exact hP
  .have e0:¬r.getD p 0=0:=by simpa using e
   have:=h1 0 (by rw[dD,if_neg e0]);rw[<-hN] at this;exact this
  .have e0:r.getD p 0=0:=by simpa using e
   refine FZ hN R (k+1) _ _ (λx hx=>hp x (by simp[hx])) (λa ha=>?_) λhn=>?_
   .have:=h1 (a+1) (by rw[dD,if_pos e0,ha];rfl)
    rw[show k+1+a=k+(a+1) by omega];exact this
   .exact h2 (by rw[dD,if_pos e0,hn];rfl)
theorem LJ:Rd zR CG Zf4:=by
 rintro _ E Q ⟨⟨p,R⟩,rfl,⟨h1,h2⟩,q⟩;dsimp only at h1 h2 q;show CG E _ [.d (bB R),.d (.int p),.un,.un];unfold CG bB;refine bY ?_;simp only[aZ,bU,iE,aC,aA,wN,cZ];refine FZ (Q:=Q) rfl R 0 .un .un h2 (λa ha=>?_) λhn s2 s3=>?_
 .rw[ha] at q
  rw[Nat.zero_add];exact q
 .rw[hn] at q
  exact q
theorem LK:Rd wG Zc Zd7:=by
 rintro _ E Q ⟨⟨⟨⟨b,w⟩,p⟩,R,lead⟩,rfl,⟨h1,h2,h3,h4,h5,h6⟩,q⟩;dsimp only at h1 h2 h3 h4 h5 h6 q;show Zc E _ [.d (bB R),.d (aF lead),.d (.int p)];unfold Zc bB;walk_at "st";refine md (g:=aF) (f:=λr:List Rat=>aF (bJ r (r.getD p 0) lead)) R (λr hr Q hq=>?_) .un [] (by simp[small];omega) ?_
 .obtain⟨hl,hs⟩:=h5 r hr
  have e0:r[p]? = some (r.getD p 0):=by rw[bD,bG (by omega)];rfl
  have e1:(r.map aO)[p]? = some (aO (r.getD p 0)):=by rw[cI,e0];rfl
  simp only[wF,aC,aA,wN,w2,cZ,df];exact⟨_,cC e1,CB h1 (by omega) hs (hs _ (ge e0)) h6 hq⟩
 .unfold bB cB at q
  rw[dk] at q;exact q
def gU{E:Ex->Prop}(e:ρ.set i (.d d)=ρ')(hw:∀P:D->Prop,P d->w E ρ P)(h:N.nx ρ'):aQ i w E N ρ:=hw _ (by rw[e];exact h)
theorem wH{E:Ex->Prop}(e:ρ[i]? = some (.ow xs))(hl:xs.length<small)(e2:ρ.set i (.ow (xs++[d]))=ρ')(hw:∀P:D->Prop,P d->w E ρ P)(h:N.nx ρ'):dg i w E N ρ:=by
 unfold dg;rw[e];exact hw _ ⟨hl,by rw[e2];exact h⟩
def F0{R:List (List Rat)}(h:k<R.length):eD (R.map aF) (k:Int)=some (aF (R.getD k [])):=by
 refine cC ?_;rw[cI,bD,bG h];rfl
def LL(h:k<r.length):eD (r.map aO) (k:Int)=some (aO (r.getD k 0)):=by
 refine cC ?_;rw[cI,bD,bG h];rfl
theorem LM:Rd zS CH ZjL:=by
 rintro _ E Q ⟨⟨⟨⟨b,w⟩,m⟩,R⟩,rfl,h,q⟩;dsimp only at h q;obtain⟨mw,w1,hl,hb,hlf⟩:=h;show CH E _ [.d (bB R),.d (.int m),.un,.un,.un,.un,.un,.un];unfold CH;refine bY (gU (d:=bB []) (ρ':=[.d (bB R),.d (.int m),.d (bB []),.un,.un,.un,.un,.un]) (by rfl) (λP hP=>⟨by decide,hP⟩) ?_);dsimp only;refine bY (B.C.own_by (xs:=[]) (ρ':=[.d (bB R),.d (.int m),.d (bB []),.ow [],.un,.un,.un,.un]) (by rfl) (λP hP=>⟨by decide,hP⟩) ?_);dsimp only;refine bY (gU (d:=bB R) (ρ':=[.d (bB R),.d (.int m),.d (bB []),.ow [],.d (bB R),.un,.un,.un]) (by rfl) (λP hP=>?_) ?_)
 .unfold bB
  walk_at "st";exact hP
 dsimp only;refine bY ?_;simp only[aZ,bU];walk_at "st";refine⟨by omega,by omega,?_⟩;refine Cj (λp ρ=>∃s5 s6 s7,ρ=[.d (bB R),.d (.int m),.d (bB (dm R p).ld),.ow ((dm R p).pl.map λ(k:Nat)=>D.int (k:Int)),.d (bB (dm R p).rs),s5,s6,s7]) m ?_ ?_ _ ⟨_,_,_,rfl⟩
 rotate_left
 .rintro _ ⟨s5,s6,s7,rfl⟩
  dsimp only;refine B.C.pub_by (ρ':=[.d (bB R),.d (.int m),.d (bB (dm R m).ld),.d (Cz (dm R m).pl),.d (bB (dm R m).rs),s5,s6,s7]) rfl ?_;walk_at "st";exact⟨by decide,q⟩
 rintro p hp _ ⟨s5,s6,s7,rfl⟩ nx hnx;have ok:=FW hlf (p:=p) (by omega);have hbp:3*bq b p<8990:=by have:=zP (b:=b) (show p<=m-1 by omega);omega
 rw[show dm R (p+1)=tI p (dm R p) from rfl] at hnx;generalize dm R p=x at ok hnx;have ln:=ok.ln;have lp:=ok.pl;have rl:∀r∈x.rs,r.length=w:=λr hr=>(ok.rs r hr).len;show aI _ _ _ _ [.d (bB R),.d (.int m),.d (bB x.ld),.ow (x.pl.map λ(k:Nat)=>D.int (k:Int)),.d (bB x.rs),.d (.int p),s6,s7];refine bY (gU (d:=qv (dD x.rs p)) (ρ':=[.d (bB R),.d (.int m),.d (bB x.ld),.ow (x.pl.map λ(k:Nat)=>D.int (k:Int)),.d (bB x.rs),.d (.int p),.d (qv (dD x.rs p)),s7]) (by rfl) (λP hP=>?_) ?_)
 .simp only[wF,aC,aA,wN,cZ,df]
  exact LE (by omega) (λr hr=>by rw[rl r hr];omega) hP
 dsimp only;unfold tI at hnx;cases e:dD x.rs p with
 |none=>
  rw[e] at hnx;refine jo (b:=false) (λP hP=>?_) (λe=>nomatch e) λ_=>hnx _ ⟨_,_,_,rfl⟩;walk_at "st";exact⟨rfl,hP⟩
 |some a=>
  rw[e] at hnx;dsimp only at hnx;obtain⟨a1,a2⟩:=ut e;have la:=ok.rs _ (iy a1);have hlead:=FV ok (by omega) e;refine jo (b:=true) (λP hP=>?_) (λ_=>?_) λe=>nomatch e
  .walk_at "st"
   exact⟨rfl,hP⟩
  have hpa:p<(x.rs.getD a []).length:=by rw[rl _ (iy a1)];omega
  refine bY (gU (d:=aF (tH x.rs a p)) (ρ':=[.d (bB R),.d (.int m),.d (bB x.ld),.ow (x.pl.map λ(k:Nat)=>D.int (k:Int)),.d (bB x.rs),.d (.int p),.d (.int a),.d (aF (tH x.rs a p))]) (by rfl) (λP hP=>?_) ?_)
  .show wF _ _ No [.d (bB R),.d (.int m),.d (bB x.ld),.ow (x.pl.map λ(k:Nat)=>D.int (k:Int)),.d (.lst (x.rs.map aF)),.d (.int p),.d (.int a),s7] P
   simp only[wF,aC,aA,wN,w2,cZ,df];refine⟨_,F0 a1,_,F0 a1,_,LL hpa,?_⟩;exact LD (b:=bq b p) (by omega) (by rw[rl _ (iy a1)];omega) la.sz (la.get (by omega)).2 a2 hP
  dsimp only;generalize tH x.rs a p=lead at hlead hnx;refine bY (gU (d:=bB (cB x.ld lead p++[lead])) (ρ':=[.d (bB R),.d (.int m),.d (bB (cB x.ld lead p++[lead])),.ow (x.pl.map λ(k:Nat)=>D.int (k:Int)),.d (bB x.rs),.d (.int p),.d (.int a),.d (aF lead)]) (by rfl) (λP hP=>?_) ?_)
  .simp only[wF,aC,aA,wN,w2,wL,aX,cZ,df]
   refine FY (b:=bq b p) (w:=w) hbp w1 (by omega) (by omega) (λr hr=>⟨(ok.ld r hr).len,(ok.ld r hr).sz⟩) hlead.sz ⟨eG (by simp),?_⟩;unfold bB at hP ⊢;rw[jb] at hP;exact⟨eG (by unfold cB;simp;omega),hP⟩
  dsimp only;have hcut:∀(b1:Nat),(x.rs.take a++x.rs.drop (a+1)).length<=1000:=λ_=>by rw[dM,jr,kI];omega
  refine bY (gU (d:=bB (cB (x.rs.take a++x.rs.drop (a+1)) lead p)) (ρ':=[.d (bB R),.d (.int m),.d (bB (cB x.ld lead p++[lead])),.ow (x.pl.map λ(k:Nat)=>D.int (k:Int)),.d (bB (cB (x.rs.take a++x.rs.drop (a+1)) lead p)),.d (.int p),.d (.int a),.d (aF lead)]) (by rfl) (λP hP=>?_) ?_)
  .show wF _ _ No [.d (bB R),.d (.int m),.d (bB (cB x.ld lead p++[lead])),.ow (x.pl.map λ(k:Nat)=>D.int (k:Int)),.d (.lst (x.rs.map aF)),.d (.int p),.d (.int a),.d (aF lead)] P
   walk_at "st";rw[tm (b:=a) rfl,show((a:Int)+1)=((a+1:Nat):Int) by omega,zj (by rw[bL];omega),<-nK,<-qE];refine⟨eG (by simp;omega),?_⟩;rw[<-jb];exact FY (b:=bq b p) (w:=w) hbp w1 (hcut 0) (by omega) (λr hr=>⟨(ok.rs r (jq hr)).len,(ok.rs r (jq hr)).sz⟩) hlead.sz hP
  dsimp only;refine wH (d:=.int p) rfl (cU (show _<2000 by rw[bL];omega) (by decide)) rfl (B.nm_at rfl) (hnx _ ⟨.d (.int p),.d (.int a),.d (aF lead),?_⟩);rw[jb];rfl
theorem LN(h:IsSl s n):∀r∈kE s n,Lf 6 n r:=λr hr=>by
 unfold kE at hr;obtain⟨t,ht,rfl⟩:=YbS.mp hr;obtain⟨h1,h2⟩:=tz h t ht;have:=Lf.int (b:=6) (c:=t) (by decide) λx hx=>by have:=h2 x hx;show _<64;omega
 rw[h1] at this;exact this
def F1:(kE s n).length=n:=by unfold kE;rw[bL,tx]
def dh(place:Nat):List (List Rat)->List Nat->List Rat->List Rat
 |l::L,a::pl,row=>dh place L pl (row.set a (0-l.getD place 0))
 |_,_,row=>row
theorem wI{α:Type}{wf:WT}{we:WE}{tail:bR}{Q:List D->Prop}{g f:α->D}{p:α->Bool}:∀(L:List α),(∀a∈L,∀P:Bool->Prop,P (p a)->wf No (.d (g a)::tail) P)->(∀a∈L,∀P:D->Prop,P (f a)->we No (.d (g a)::tail) P)->∀(sv:SV) (acc:List D),acc.length+L.length<=small->Q (acc++(L.filter p).map f)->lcW (gN 0) wf we (L.map g) (sv::tail) acc Q
 |[],_,_,sv,acc,_,hq=>by simpa[lcW] using hq
 |a::L,h,h',sv,acc,hl,hq=>by
  rw[cV,lcW];rw[dY] at hl;refine h a (by simp) _ ?_;cases e:p a with
  |true=>
   rw[if_pos rfl];refine h' a (by simp) _ ⟨by omega,wI L (λx hx=>h x (by simp[hx])) (λx hx=>h' x (by simp[hx])) _ _ (by simp;omega) ?_⟩;rw[yf,e,if_pos rfl] at hq;rw[lN];exact hq
  |false=>
   rw[if_neg (by decide)];refine wI L (λx hx=>h x (by simp[hx])) (λx hx=>h' x (by simp[hx])) _ _ (by omega) ?_;rw[yf,e,if_neg (by decide)] at hq;exact hq
def aJ(f:Nat->Rat):Nat->Rat
 |0=>0
 |n+1=>aJ f n+f n
def da{f g:Nat->Rat}:∀{n:Nat},(∀i,i<n->f i=g i)->aJ f n=aJ g n
 |0,_=>rfl
 |n+1,h=>by rw[aJ,aJ,da (λi hi=>h i (by omega)),h n (by omega)]
def pA{f:Nat->Rat}:∀{n:Nat},(∀i,i<n->f i=0)->aJ f n=0
 |0,_=>rfl
 |n+1,h=>by rw[aJ,pA (λi hi=>h i (by omega)),h n (by omega),nJ]
theorem kF{f:Nat->Rat}{k:Nat}:∀{n:Nat},k<n->(∀i,i<n->i≠k->f i=0)->aJ f n=f k
 |0,h,_=>by omega
 |n+1,h,h0=>by
  rw[aJ]
  by_cases e:k=n
  .subst e
   rw[pA (λi hi=>h0 i (by omega) (by omega)),Rat.zero_add]
  .rw[kF (k:=k) (by omega) (λi hi hk=>h0 i (by omega) hk),h0 n (by omega) (NO e),nJ]
def qw(f g:Nat->Rat):∀n:Nat,aJ (λi=>f i-g i) n=aJ f n-aJ g n
 |0=>by simp only[aJ];grind
 |n+1=>by rw[aJ,aJ,aJ,qw f g n];grind
def F2(f:Nat->Rat):∀n:Nat,aJ f (n+1)=f 0+aJ (λi=>f (i+1)) n
 |0=>by simp only[aJ];grind
 |n+1=>by rw[aJ,F2 f n,aJ];grind
theorem lG:∀(r x:List Rat) (n:Nat),r.length=n->x.length=n->cE r x=aJ (λj=>r.getD j 0*x.getD j 0) n
 |[],[],_,h,_=>by subst h;rfl
 |[],_::_,n,h,h'=>by simp at h h';omega
 |_::_,[],n,h,h'=>by simp at h h';omega
 |a::r,y::x,n,h,h'=>by
  subst h;rw[cE,lG r x r.length rfl (by simpa using h'),dY,F2];rfl
theorem LO{x:List Rat}(hr:r.length=n)(hx:x.length=n):cE (lF r q) x=cE r x/q:=by
 clear hr hx;unfold lF
 induction r generalizing x with
 |nil=>show(0:Rat)=0/q;rw[hU,jc]
 |cons a r ih=>
  cases x with
  |nil=>show(0:Rat)=0/q;rw[hU,jc]
  |cons y x=>
   rw[cV,cE,cE,ih,hU,hU,hU];grind
theorem uu{c x:List Rat}(h:r.length=c.length):cE (bJ r q c) x=cE r x-q*cE c x:=by
 unfold bJ
 induction r generalizing c x with
 |nil=>
  cases c with
  |nil=>show(0:Rat)=0-q*0;grind
  |cons _ _=>simp at h
 |cons a r ih=>
  cases c with
  |nil=>simp at h
  |cons b c=>
   cases x with
   |nil=>show(0:Rat)=0-q*0;grind
   |cons y x=>
    rw[AC,cE,cE,cE,ih (by simpa using h)];grind
theorem LQ(hr:r.length=n)(hk:k<n):cE r (bC n k)=r.getD k 0:=by
 rw[lG r (bC n k) n hr (j0 n k),kF hk]
 .rw[unit_at' hk,if_pos rfl,uE]
 .intro i hi e
  rw[unit_at' hi,if_neg e,jG]
where
 unit_at' {n k i:Nat} (hi:i<n):(bC n k).getD i 0=if i=k then 1 else 0:=by
  unfold bC;rw[bD,cI,jD hi];rfl
def pB(hi:i<n):(bC n k).getD i 0=if i=k then 1 else 0:=by
 unfold bC;rw[bD,cI,jD hi];rfl
theorem zW{x:List Rat}{a:Nat}{v:Rat}(ha:a<x.length):(x.set a v).getD i 0=if i=a then v else x.getD i 0:=by
 rw[bD,AF,bD]
 by_cases e:a=i
 .subst e;rw[if_pos rfl,if_pos rfl,if_pos ha];rfl
 .rw[if_neg e,if_neg (NO e)]
theorem LR{x:List Rat}{a:Nat}{v:Rat}(hr:r.length=n)(hx:x.length=n)(ha:a<n)(h0:x.getD a 0=0):cE r (x.set a v)=cE r x+r.getD a 0*v:=by
 rw[lG r _ n hr (by rw[cL];exact hx),lG r x n hr hx];have:aJ (λj=>r.getD j 0*(x.set a v).getD j 0-r.getD j 0*x.getD j 0) n=r.getD a 0*v:=by
  rw[kF ha]
  .rw[zW (by omega),if_pos rfl,h0,jG];grind
  .intro i hi e
   rw[zW (by omega),if_neg e];grind
 rw[qw] at this;grind
structure Ec(n:Nat)(R:List (List Rat))(p:Nat)(ld:List (List Rat))(pl:List Nat)(rs:List (List Rat)):Prop where
 wl:∀r∈ld,r.length=n
 ws:∀r∈rs,r.length=n
 ll:ld.length=pl.length
 nul:∀x:List Rat,x.length=n->((∀r∈R,cE r x=0)↔(∀r∈ld,cE r x=0)/\∀r∈rs,cE r x=0)
 lt:∀a∈pl,a<p
 asc:pl.Pairwise (· < ·)
 one:∀i j,i<ld.length->j<pl.length->(ld.getD i []).getD (pl.getD j 0) 0=if i=j then 1 else 0
 low:∀i,i<ld.length->∀q,q<pl.getD i 0->(ld.getD i []).getD q 0=0
 zer:∀r∈rs,∀q,q<p->r.getD q 0=0
theorem Ec.start{R:List (List Rat)}(h:∀r∈R,r.length=n):Ec n R 0 [] [] R:=⟨by simp,h,rfl,λx _=>by simp,by simp,.nil,λi j hi=>by simp at hi,λi hi=>by simp at hi,λr _ q hq=>by omega⟩
theorem Ec.skip{p:Nat}{R ld:List (List Rat)}{pl:List Nat}(h:Ec n R p ld pl rs)(h0:∀r∈rs,r.getD p 0=0):Ec n R (p+1) ld pl rs:=
 ⟨h.wl,h.ws,h.ll,h.nul,λa ha=>ye (h.lt a ha),h.asc,h.one,h.low,λr hr q hq=>by
  by_cases e:q=p
  .rw[e];exact h0 r hr
  .exact h.zer r hr q (by omega)⟩
theorem Ec.pivot{p:Nat}{R ld rs1 rs2:List (List Rat)}{pl:List Nat}{lead:List Rat}(h:Ec n R p ld pl rs)(hp:p<n)(hr0:r.getD p 0≠0)(hrs:∀t,t∈rs↔t=r\/t∈rs1)(hld:lead=lF r (r.getD p 0))(h2:∀t,t∈rs2↔∃u∈rs1,t=bJ u (u.getD p 0) lead):Ec n R (p+1) (cB ld lead p++[lead]) (pl++[p]) rs2:=by
 have rr:r∈rs:=(hrs r).mpr (.inl rfl);have rl:=h.ws r rr;have ll:lead.length=n:=by rw[hld];unfold lF;rw[bL];exact rl
 have lat:∀j,lead.getD j 0=r.getD j 0/r.getD p 0:=λj=>by
  rw[hld];unfold lF;rw[bD,cI,bD (i:=j)];cases r[j]? with
  |none=>show(0:Rat)=0/_;rw[hU,jc]
  |some x=>rfl
 have lp:lead.getD p 0=1:=by rw[lat,hU,qH _ hr0]
 have lz:∀q,q<p->lead.getD q 0=0:=λq hq=>by rw[lat,h.zer r rr q hq,hU,jc]
 have lesL:∀(u:List Rat) (z:Rat),u.length=n->(bJ u z lead).length=n:=λu z hu=>by unfold bJ;rw[nI];omega
 have lesA:∀(u:List Rat) (z:Rat) (j:Nat),u.length=n->(bJ u z lead).getD j 0=u.getD j 0-z*lead.getD j 0:=λu z j hu=>by
  unfold bJ;simp only[bD]
  by_cases hj:j<n
  .rw[bG (by rw[nI];omega),bG (by omega),bG (by omega),tZ]
   rfl
  .rw[eK (by rw[nI];omega),eK (by omega),eK (by omega)]
   show(0:Rat)=0-z*0;grind
 have wlen:(cB ld lead p).length=ld.length:=by unfold cB;rw[bL]
 have wat:∀i,i<ld.length->(cB ld lead p++[lead]).getD i []=bJ (ld.getD i []) ((ld.getD i []).getD p 0) lead:=λi hi=>by
  rw[bD,j6 (by omega)];unfold cB;rw[cI,bD,bG hi];rfl
 have wlast:(cB ld lead p++[lead]).getD ld.length []=lead:=by
  rw[bD,jt (by omega),wlen,qI];rfl
 have plat:∀i,i<pl.length->(pl++[p]).getD i 0=pl.getD i 0:=λi hi=>by
  rw[bD,j6 hi,bD]
 have plast:(pl++[p]).getD pl.length 0=p:=by
  rw[bD,jt (bP _),qI];rfl
 have plt:∀i,i<pl.length->pl.getD i 0<p:=λi hi=>by
  rw[bD,bG hi];exact h.lt _ (jF _)
 have ldm:∀i,i<ld.length->ld.getD i []∈ld:=λi hi=>iy hi;have hll:=h.ll;refine⟨λt ht=>?_,λt ht=>?_,?_,λx hx=>?_,λa ha=>?_,?_,λi j hi hj=>?_,λi hi q hq=>?_,λt ht q hq=>?_⟩
 .rcases Yao.mp ht with ht|ht
  .unfold cB at ht
   obtain⟨u,hu,rfl⟩:=YbS.mp ht;exact lesL u _ (h.wl u hu)
  .rw[Yco.mp ht];exact ll
 .obtain⟨u,hu,rfl⟩:=(h2 t).mp ht
  exact lesL u _ (h.ws u ((hrs u).mpr (.inr hu)))
 .rw[dM,dM,wlen,hll];rfl
 .rw[h.nul x hx]
  have dl:cE lead x=cE r x/r.getD p 0:=by rw[hld];exact LO rl hx
  constructor
  .rintro⟨g1,g2⟩
   have z:cE lead x=0:=by rw[dl,g2 r rr,hU,jc]
   refine⟨λt ht=>?_,λt ht=>?_⟩
   .rcases Yao.mp ht with ht|ht
    .unfold cB at ht
     obtain⟨u,hu,rfl⟩:=YbS.mp ht;rw[uu (by rw[h.wl u hu,ll]),g1 u hu,z];grind
    .rw[Yco.mp ht];exact z
   .obtain⟨u,hu,rfl⟩:=(h2 t).mp ht
    have hu':=(hrs u).mpr (.inr hu);rw[uu (by rw[h.ws u hu',ll]),g2 u hu',z];grind
  .rintro⟨g1,g2⟩
   have z:cE lead x=0:=g1 lead (by simp);have zr:cE r x=0:=by
    rw[dl,hU] at z;have:cE r x*(r.getD p 0)⁻¹*r.getD p 0=0:=by rw[z,jc]
    rw[Rat.mul_assoc,Rat.inv_mul_cancel _ hr0,uE] at this;exact this
   refine⟨λt ht=>?_,λt ht=>?_⟩
   .have:=g1 (bJ t (t.getD p 0) lead) (Yao.mpr (.inl (by unfold cB;exact rF (f:=λr=>bJ r (r.getD p 0) lead) ht)))
    rw[uu (by rw[h.wl t ht,ll]),z] at this;grind
   .rcases(hrs t).mp ht with rfl|hu
    .exact zr
    .have:=g2 (bJ t (t.getD p 0) lead) ((h2 _).mpr ⟨t,hu,rfl⟩)
     rw[uu (by rw[h.ws t ht,ll]),z] at this;grind
 .rcases Yao.mp ha with ha|ha
  .exact ye (h.lt a ha)
  .rw[Yco.mp ha];exact Au p
 .refine YcO.mpr ⟨h.asc,by simp,λa ha b hb=>?_⟩
  rw[Yco.mp hb];exact h.lt a ha
 .rw[dM,wlen,j7] at hi
  rw[dM,j7] at hj
  by_cases hi':i<ld.length
  .have hw:=h.wl _ (ldm i hi')
   rw[wat i hi',lesA _ _ _ hw]
   by_cases hj':j<pl.length
   .rw[plat j hj',h.one i j hi' hj',lz _ (plt j hj')];grind
   .obtain rfl:j=pl.length:=by omega
    rw[plast,lp,if_neg (by omega)];grind
  .obtain rfl:i=ld.length:=by omega
   rw[wlast]
   by_cases hj':j<pl.length
   .rw[plat j hj',lz _ (plt j hj'),if_neg (by omega)]
   .obtain rfl:j=pl.length:=by omega
    rw[plast,lp,if_pos hll]
 .rw[dM,wlen,j7] at hi
  by_cases hi':i<ld.length
  .have hw:=h.wl _ (ldm i hi')
   rw[plat i (by omega)] at hq;rw[wat i hi',lesA _ _ _ hw,h.low i hi' q hq,lz q (by have:=plt i (by omega);omega)];grind
  .obtain rfl:i=ld.length:=by omega
   rw[hll,plast] at hq;rw[wlast];exact lz q hq
 .obtain⟨u,hu,rfl⟩:=(h2 t).mp ht
  have hu':=(hrs u).mpr (.inr hu);rw[lesA _ _ _ (h.ws u hu')]
  by_cases e:q=p
  .rw[e,lp];grind
  .rw[h.zer u hu' q (by omega),lz q (by omega)];grind
def f8(r:List Rat)(q:Nat):List (List Rat)->List Nat->Rat
 |l::L,a::P=>r.getD a 0*l.getD q 0+f8 r q L P
 |_,_=>0
theorem F3(q:Nat):∀(L:List (List Rat)) (P:List Nat) (row:List Rat),(dh q L P row).length=row.length
 |[],_,_=>by simp[dh]
 |_::_,[],_=>by simp[dh]
 |l::L,a::P,row=>by rw[dh,F3 q L P,cL]
theorem Zh{q t:Nat}:∀(L:List (List Rat)) (P:List Nat) (row:List Rat),(∀a∈P,a<row.length)->t∉P->(dh q L P row).getD t 0=row.getD t 0
 |[],_,_,_,_=>by simp[dh]
 |_::_,[],_,_,_=>by simp[dh]
 |l::L,a::P,row,h,ht=>by
  rw[dh,Zh L P _ (λb hb=>by rw[cL];exact h b (by simp[hb])) (λhb=>ht (by simp[hb])),zW (h a (by simp)),if_neg (λe=>ht (by simp[e]))]
theorem F5{r:List Rat}{q n:Nat}(hr:r.length=n):∀(L:List (List Rat)) (P:List Nat) (row:List Rat),row.length=n->(∀a∈P,a<n)->P.Pairwise (· < ·)->(∀a∈P,row.getD a 0=0)->cE r (dh q L P row)=cE r row-f8 r q L P
 |[],_,row,_,_,_,_=>by simp only[dh,f8];grind
 |_::_,[],row,_,_,_,_=>by simp only[dh,f8];grind
 |l::L,a::P,row,hw,hn,ha,h0=>by
  obtain⟨h1,h2⟩:=YcP.mp ha;rw [dh,F5 hr L P _ (by rw [cL];exact hw) (λb hb=>hn b (by simp [hb])) h2 (λb hb=>by
   rw[zW (by rw[hw];exact hn a (by simp)),if_neg (by have:=h1 b hb;omega)];exact h0 b (by simp[hb])),LR hr hw (hn a (by simp)) (h0 a (by simp)),f8]
  grind
theorem F6{r:List Rat}{q:Nat}:∀(L:List (List Rat)) (P:List Nat),(∀j,j<P.length->j<L.length->r.getD (P.getD j 0) 0*(L.getD j []).getD q 0=0)->f8 r q L P=0
 |[],_,_=>by simp[f8]
 |_::_,[],_=>by simp[f8]
 |l::L,a::P,h=>by
  rw[f8,F6 L P (λj h1 h2=>by simpa using h (j+1) (by simpa using h1) (by simpa using h2))];have:=h 0 (by simp) (by simp);rw[uF,uF] at this;rw[this,nJ]
theorem F7{r:List Rat}{q:Nat}:∀(L:List (List Rat)) (P:List Nat) (i:Nat),i<L.length->L.length=P.length->(∀j,j<P.length->r.getD (P.getD j 0) 0=if i=j then 1 else 0)->f8 r q L P=(L.getD i []).getD q 0
 |[],_,i,hi,_,_=>by simp at hi
 |_::_,[],i,_,hl,_=>by simp at hl
 |l::L,a::P,0,hi,hl,h=>by
  have h0:=h 0 (by simp);rw[uF,if_pos rfl] at h0;rw [f8,h0,F6 L P (λj h1 h2=>by
   have:=h (j+1) (by simpa using h1);rw[AH,if_neg (by omega)] at this;rw[this,jc]),uF]
  grind
 |l::L,a::P,i+1,hi,hl,h=>by
  have h0:=h 0 (by simp);rw[uF,if_neg (by omega)] at h0;rw [f8,h0,F7 L P i (by simpa using hi) (by simpa using hl) (λj hj=>by
   have:=h (j+1) (by simpa using hj);rw[AH] at this;rw[this]
   by_cases e:i=j
   .rw[if_pos e,if_pos (by omega)]
   .rw[if_neg e,if_neg (by omega)]),AH]
  grind
theorem Ec.free{q:Nat}{R ld:List (List Rat)}{pl:List Nat}(h:Ec n R n ld pl rs)(hq:q<n)(hn:q∉pl):(dh q ld pl (bC n q)).length=n/\∀r∈R,cE r (dh q ld pl (bC n q))=0:=by
 have l:(dh q ld pl (bC n q)).length=n:=by rw[F3,j0]
 have z0:∀a∈pl,(bC n q).getD a 0=0:=λa ha=>by
  rw[pB (h.lt a ha),if_neg (show¬a=q from λe=>hn (by rw[<-e];exact ha))]
 refine⟨l,(h.nul _ l).mpr ⟨λr hr=>?_,λr hr=>?_⟩⟩
 .obtain⟨i,hi,e⟩:=Ybx.mp hr
  have e':ld.getD i []=r:=by rw[bD,bG hi];exact e
  rw[F5 (h.wl r hr) ld pl _ (j0 n q) h.lt h.asc z0,LQ (h.wl r hr) hq,F7 ld pl i hi h.ll (λj hj=>by rw[<-e'];exact h.one i j hi hj),e'];grind
 .rw[lG r _ n (h.ws r hr) l]
  exact pA λj hj=>by rw[h.zer r hr j hj,jc]
theorem CJ:∀{a b:List Nat},a.Pairwise (· < ·)->b.Pairwise (· < ·)->(∀x,x∈a↔x∈b)->a=b
 |[],[],_,_,_=>rfl
 |[],y::b,_,_,h=>by have:=(h y).mpr (by simp);simp at this
 |x::a,[],_,_,h=>by have:=(h x).mp (by simp);simp at this
 |x::a,y::b,ha,hb,h=>by
  obtain⟨a1,a2⟩:=YcP.mp ha;obtain⟨b1,b2⟩:=YcP.mp hb;have hx:=(h x).mp (by simp);have hy:=(h y).mpr (by simp);have e:x=y:=by
   rcases Yan.mp hx with e|hx
   .exact e
   .rcases Yan.mp hy with e|hy
    .exact e.symm
    .have:=a1 y hy;have:=b1 x hx;omega
  subst e;rw[CJ a2 b2 λz=>?_];constructor
  .intro hz
   rcases Yan.mp ((h z).mp (by simp[hz])) with e|e
   .have:=a1 z hz;omega
   .exact e
  .intro hz
   rcases Yan.mp ((h z).mpr (by simp[hz])) with e|e
   .have:=b1 z hz;omega
   .exact e
theorem Ec.uniq{q:Nat}{R ld ld' rs':List (List Rat)}{pl:List Nat}(h:Ec n R n ld pl rs)(h':Ec n R n ld' pl rs')(hq:q<n)(hn:q∉pl):dh q ld pl (bC n q)=dh q ld' pl (bC n q):=by
 obtain⟨l,f0⟩:=h.free hq hn;obtain⟨l',f0'⟩:=h'.free hq hn;have g1:=((h.nul _ l).mp f0).1;have g2:=((h.nul _ l').mp f0').1;have off:∀t,t∉pl->(dh q ld pl (bC n q)).getD t 0=(dh q ld' pl (bC n q)).getD t 0:=λt ht=>by
  rw[Zh _ _ _ (by rw[j0];exact h.lt) ht,Zh _ _ _ (by rw[j0];exact h.lt) ht]
 generalize dh q ld pl (bC n q)=f at l g1 off;generalize dh q ld' pl (bC n q)=g at l' g2 off;have on:∀t,t∈pl->f.getD t 0=g.getD t 0:=λt ht=>by
  obtain⟨i,hi,e⟩:=Ybx.mp ht;have e':pl.getD i 0=t:=by rw[bD,bG hi];exact e
  have hi':i<ld.length:=by rw[h.ll];exact hi
  have wl:=h.wl _ (iy hi');have o:=h.one i i hi' hi;rw[e',if_pos rfl] at o;have d1:=g1 _ (iy hi');have d2:=g2 _ (iy hi');rw[lG _ f n wl l] at d1;rw[lG _ g n wl l'] at d2;have s:aJ (λj=>(ld.getD i []).getD j 0*f.getD j 0-(ld.getD i []).getD j 0*g.getD j 0) n=f.getD t 0-g.getD t 0:=by
   rw[kF (k:=t) (h.lt t ht)]
   .rw[o];grind
   .intro j hj ne
    by_cases hm:j∈pl
    .obtain⟨k,hk,ek⟩:=Ybx.mp hm
     have ek':pl.getD k 0=j:=by rw[bD,bG hk];exact ek
     have oz:=h.one i k hi' hk;rw[ek',if_neg (λz=>ne (by rw[<-ek',<-z,e']))] at oz;rw[oz];grind
    .rw[off j hm];grind
  rw[qw,d1,d2] at s;grind
 refine yg (by rw[l,l']) λt h1 h2=>?_;have e1:f[t]=f.getD t 0:=by rw[bD,bG h1];rfl
 have e2:g[t]=g.getD t 0:=by rw[bD,bG h2];rfl
 rw[e1,e2]
 by_cases hm:t∈pl
 .exact on t hm
 .exact off t hm
theorem F8:∀{R:List (List Rat)} {p:Nat},dD R p=none->∀r∈R,r.getD p 0=0
 |[],_,_,r,hr=>by cases hr
 |t::R,p,h,r,hr=>by
  rw[dD] at h
  by_cases e:t.getD p 0=0
  .rw[if_pos e] at h
   rcases Yan.mp hr with rfl|hr
   .exact e
   .exact F8 (by cases e2:dD R p with
     |none=>rfl
     |some a=>rw[e2] at h;cases h) r hr
  .rw[if_neg e] at h;cases h
theorem F9{R:List (List Rat)}{a:Nat}(h:a<R.length)(t:List Rat):t∈R↔t=R.getD a []\/t∈R.take a++R.drop (a+1):=by
 have e:R=R.take a++R.getD a []::R.drop (a+1):=by
  conv=>lhs;rw[<-List.take_append_drop a R]
  rw[pL h,bD,bG h];rfl
 conv=>lhs;rw[e]
 simp only[Yao,Yan];constructor
 .rintro(h|h|h)
  .exact .inr (.inl h)
  .exact .inl h
  .exact .inr (.inr h)
 .rintro(h|h|h)
  .exact .inr (.inl h)
  .exact .inl h
  .exact .inr (.inr h)
theorem CK{n:Nat}{R:List (List Rat)}(hR:∀r∈R,r.length=n):∀p,p<=n->Ec n R p (dm R p).ld (dm R p).pl (dm R p).rs
 |0,_=>Ec.start hR
 |p+1,hp=>by
  have ih:=CK hR p (by omega);rw[dm];generalize dm R p=x at ih;unfold tI;cases e:dD x.rs p with
  |none=>exact ih.skip (F8 e)
  |some a=>
   obtain⟨a1,a2⟩:=ut e;exact ih.pivot (r:=x.rs.getD a []) (rs1:=x.rs.take a++x.rs.drop (a+1)) (by omega) a2 (F9 a1) rfl λt=>by
    unfold cB;rw[YbS];constructor
    .rintro⟨u,hu,rfl⟩;exact⟨u,hu,rfl⟩
    .rintro⟨u,hu,rfl⟩;exact⟨u,hu,rfl⟩
namespace Dt
open B.C
def zX(f g:Nat->Rat):∀n:Nat,aJ (λi=>f i+g i) n=aJ f n+aJ g n
 |0=>by simp only[aJ];grind
 |n+1=>by rw[aJ,aJ,aJ,zX f g n];grind
def sumN_mul(f:Nat->Rat)(c:Rat):∀n:Nat,aJ (λi=>c*f i) n=c*aJ f n
 |0=>by simp only[aJ];grind
 |n+1=>by rw[aJ,aJ,sumN_mul f c n];grind
theorem wJ(f:Nat->Nat->Rat)(m:Nat):∀n:Nat,aJ (λi=>aJ (λj=>f i j) m) n=aJ (λj=>aJ (λi=>f i j) n) m
 |0=>by rw[aJ];exact(pA λ_ _=>rfl).symm
 |n+1=>by
  rw[aJ,wJ f m n,<-zX];rfl
def CL(f:Nat->Int):∀n:Nat,aJ (λi=>((f i:Int):Rat)) n=((sumI f n:Int):Rat)
 |0=>rfl
 |n+1=>by rw[aJ,sumI,CL f n,yh]
theorem LT(h:IsSl s n)(hi:i<n):((kE s n).getD i []).getD j 0=(tA (tbl s n) i j:Rat):=by
 have l:=tx s n;unfold kE tA gr ga;have e:(tbl s n)[i]? = some ((tbl s n).getD i []):=by rw[bD,bG (by omega)];rfl
 rw[bD (l:=List.map dF (tbl s n)),cI,e];show(dF ((tbl s n).getD i [])).getD j 0=_;unfold dF;rw[bD,cI,bD (l:=(tbl s n).getD i [])];cases((tbl s n).getD i [])[j]? with
 |none=>rfl
 |some v=>rfl
theorem LU{x:List Rat}(h:IsSl s n)(hi:i<n)(hx:x.length=n):cE ((kE s n).getD i []) x=aJ (λj=>(tA (tbl s n) i j:Rat)*x.getD j 0) n:=by
 have hm:(kE s n).getD i []∈kE s n:=iy (by rw[F1];exact hi);rw[lG _ x n (LN h _ hm).len hx];exact da λj _=>by rw[LT h hi]
def Ga(n:Nat):(List.range n).Pairwise (· < ·):=List.pairwise_lt_range
end Dt
local macro_rules | `(tactic| walk_at "w1")=>`(tactic| simp only [aM,cS,aQ,cR,iX,bO,bW,bU,ky,eF,dI,dg,jy,eR,l7,aZ,i7,fq,wM,Zdd,ii,fM,jS,dw,fD,bV,wT,jT,w1,w2,wB,wF,wL,aU,bM,Zbd,aB,aX,aC,aA,aLC,Zbv,cM,iS,iL,iT,eO,lV,iZ,d8,dA,wN,wC,gN,dH,cD,dC,dU,lZ,e7,fT,eQ,aBor,fU,dS,eZ,aCut,eP,pub,cV,gx,dY,j9,iz,et,List.replicate,cZ,df,eT,eU,Nat.reduceSub,Nat.reduceAdd,gw,lO,true_and,dX,if_true,if_false,ite_true,ite_false,hJ,fb,lQ,
 kz,mf,nV,nW,nX,nY,nZ,n4,n6,n8,n9,oa,oh,oj,ol,om,oq,ot,ou,oy,oA,oB,oC,oD,oE,oF,oG,oH,oJ,oK,oM,oN,oO,oP,oQ,oR,oS,oU,oV,oW,oX,oY,oZ,o1,o4,o7,o8,o9,pj,e8,pk,pp,nw,pq,pv,gS,gT])
namespace B.C.E
def cl(n:Nat)(d:D):Prop:=bx 7 d n=true/\lD d=true/\mj d=true
def cl.up(l:n<=m)(h:cl n d):cl m d:=⟨Cq _ l h.1,h.2⟩
theorem cl.tup{n:Nat}{xs:List D}(hl:xs.length<=7)(h:∀x∈xs,cl n x):cl (n+1) (.tup xs):=⟨Ct hl λx hx=>(h x hx).1,by rw[lD,zJ];exact λx hx=>(h x hx).2.1,by rw[mj,zK];exact λx hx=>(h x hx).2.2⟩
def cl.row(hl:r.length<=7)(h:∀x∈r,Sz 223 x):cl 2 (aF r):=⟨FO (by decide) hl h,Cn r,FD r⟩
theorem cl.two{a b:D}(h1:cl n a)(h2:cl n b):cl (n+1) (.tup [a,b]):=.tup (by simp) λx hx=>by
 simp only[Yan,dN,or_false] at hx;rcases hx with rfl|rfl<;>assumption
def cl.non{n:Nat}:cl n .non:=⟨by rw[bx],rfl,rfl⟩
def bo(d:D):Bool:=match d with
 |.tup xs=>((xs.length:Int)%2==0)
 |_=>true
end B.C.E
namespace B.C.K5
section
variable{E:Ex->Prop}{x:D}
end
end B.C.K5
local macro_rules | `(tactic| walk_at "w1")=>`(tactic| simp only [aM,cS,aQ,cR,iX,bO,bW,bU,ky,eF,dI,dg,jy,eR,l7,aZ,i7,fq,wM,Zdd,ii,fM,jS,dw,fD,bV,wT,jT,w1,w2,wB,wF,wL,aU,bM,Zbd,aB,aX,aC,aA,aLC,Zbv,cM,iS,iE,iL,iT,eO,lV,iZ,d8,dA,wN,wC,gN,dH,cD,dC,dU,lZ,e7,fT,eQ,aBor,fU,dS,eZ,aCut,eP,pub,cV,gx,dY,j9,iz,et,List.replicate,cZ,df,eT,eU,Nat.reduceSub,Nat.reduceAdd,gw,lO,true_and,dX,if_true,if_false,ite_true,ite_false,hJ,fb,lQ,
 kz,mf,nV,nW,nX,nY,nZ,n4,n6,n8,n9,oa,oh,oj,ol,om,oq,ot,ou,oy,oA,oB,oC,oD,oE,oF,oG,oH,oJ,oK,oM,oN,oO,oP,oQ,oR,oS,oU,oV,oW,oX,oY,oZ,o1,o4,o7,o8,o9,pj,e8,pk,pp,nw,pq,pv,gS,gT])
namespace Gs
open Dt
def dl(i j:Nat):Rat:=if i=j then 1 else 0
def Gb(i:Nat):dl i i=1:=if_pos rfl
def Gc(h:i≠j):dl i j=0:=if_neg h
def Gd(f:Nat->Rat)(hk:k<n):aJ (λi=>dl k i*f i) n=f k:=by
 rw[kF hk (λi _ ne=>by rw[Gc (NO ne),jc]),Gb,rG]
def LV(f:Nat->Rat)(hk:k<n):aJ (λi=>f i*dl i k) n=f k:=by
 rw[kF hk (λi _ ne=>by rw[Gc ne,jG]),Gb,uE]
structure Bk(n:Nat)(T B:Nat->Nat->Rat):Prop where
 tb:∀i j,i<n->j<n->aJ (λk=>T i k*B k j) n=dl i j
 bt:∀i j,i<n->j<n->aJ (λk=>B i k*T k j) n=dl i j
theorem Bk.uniq{T B:Nat->Nat->Rat}(h:Bk n T B){X:Nat->Rat}(hj:j<n)(e:∀i,i<n->aJ (λk=>T i k*X k) n=dl i j)(hk:k<n):X k=B k j:=by
 rw[<-Gd X hk];rw [da (g:=λi=>aJ (λm=>B k m*(T m i*X i)) n) (λi hi=>by
  rw[<-h.bt k i hk hi,uG,<-sumN_mul];exact da λm _=>by grind),wJ]
 rw[da (g:=λm=>B k m*dl m j) (λm hm=>by rw[sumN_mul,e m hm])];exact LV (λm=>B k m) hj
theorem tA_ent(h:IsSl s n)(hi:i<n)(hj:j<n):tA (tbl s n) i j=ent s n i j:=by
 unfold tA B.C.gr B.C.ga;rw[Ce h,bD (l:=List.map _ _),cI,jD hi];show((List.range n).map λj=>ent s n i j).getD j 0=_;rw[bD,cI,jD hj];rfl
theorem Bk.turn{T B B':Nat->Nat->Rat}(h:Bk n T B)(h':Bk n T' B')(e:∀i j,i<n->j<n->T' i j=T j i)(hi:i<n)(hj:j<n):B' i j=B j i:=by
 refine(h'.uniq (X:=λk=>B j k) hj (λi hi=>?_) hi).symm;rw[da (g:=λk=>B j k*T k i) (λk hk=>by rw[e i k hi hk,uG]),h.bt j i hj hi];unfold dl
 by_cases z:i=j
 .rw[if_pos z,if_pos z.symm]
 .rw[if_neg z,if_neg (NO z)]
end Gs
def FnAt(K:NF)(mg:Str->Option Value)(x:Str)(st:Stmt):Prop:=∃f fd,Fun K x x st f fd/\mg x=some (.ref f)/\i5 K x=some f
def CC(K:NF)(mg:Str->Option Value)(x:Str):Prop:=∃a,mg x=some (.ref a)/\i5 K x=some a
def CI(mg:Str->Option Value)(x:Str)(i:Int):Prop:=∃t,mg x=some (.int i t)
def CT(K:NF)(mg:Str->Option Value)(x:Str)(ds:List D):Prop:=∃a vs,mg x=some (.ref a)/\KT K a vs/\∀W,Reps K W vs ds
section
variable{h:Heap}
def FnAt.cc(F:FnAt K mg x st):CC K mg x:=let⟨f,_,_,m,q⟩:=F;⟨f,m,q⟩
theorem mkF(X:K.In h)(G:h.Ns mainGlobals mg){oc:Value}{kV doc pm cdv ct:Value}(a:PySem.W.nsIn K mainGlobals x=some (some (.ref f)))(l:K.lookup f=some ⟨oc,od,.func (PySem.W.fnOf x x (cP st) (bF st) (aK st) .none kV doc pm an cdv ct),osl⟩)
  (c:PySem.W.codeIn K cdv x=true) (k:PySem.W.keepIn K (.ref f)=true):FnAt K mg x st:=⟨f,_,sL l c k,PySem.W.mg_of X G a,td a⟩
def mkC(X:K.In h)(G:h.Ns mainGlobals mg)(a:PySem.W.nsIn K mainGlobals x=some (some (.ref f))):CC K mg x:=⟨f,PySem.W.mg_of X G a,td a⟩
theorem mkI(X:K.In h)(G:h.Ns mainGlobals mg){i:Int}{t:Tok}(a:PySem.W.nsIn K mainGlobals x=some (some (.int i t))):CI mg x i:=⟨t,PySem.W.mg_of X G a⟩
theorem mkT(X:K.In h)(G:h.Ns mainGlobals mg){d:Option Addr}{sl:Array (Option Value)}{i j:Int}{t u:Tok}(a:PySem.W.nsIn K mainGlobals x=some (some (.ref f)))(l:K.lookup f=some ⟨.type "tuple",d,.seq #[.int i t,.int j u] n,sl⟩):CT K mg x [.int i,.int j]:=
 ⟨f,[.int i,.int j],PySem.W.mg_of X G a,⟨_,_,_,l,rfl,rfl,(by show 2<=sizeLine;decide),.cons ⟨_,rfl⟩ (.cons ⟨_,rfl⟩ .nil)⟩,λ_=>.cons (.int _) (.cons (.int _) .nil)⟩
theorem mkX(X:K.In h)(G:h.Ns mainGlobals mg)(a:PySem.W.nsIn K mainGlobals x=some (some (.ref f)))(e:PySem.W.excIn K f [.type "ValueError",.type "Exception",.type "BaseException",.type "object"] "ValueError.__new__" = true):XC K mg x:=
 ⟨f,_,_,_,td a,PySem.W.mg_of X G a,e,PySem.F.excBase_ValueError⟩
theorem mkH(X:K.In h)(G:h.Ns mainGlobals mg){L:List Str}(a:PySem.W.nsIn K mainGlobals x=some (some (.ref f)))(e:PySem.W.excIn K f [.type "ValueError",.type "Exception",.type "BaseException",.type "object"] "ValueError.__new__" = true)
  (m:∀n∈L,∃D,PySem.W.nsIn K mainGlobals (mZ n)=some (some (.ref D))/\PySem.W.mroIn K D (.ref f)=some true):XT K mg x L:=
 ⟨f,_,_,PySem.W.mg_of X G a,e,by decide +kernel,λn hn D hD=>by
  obtain⟨D',e1,e2⟩:=m n hn;rw[td e1] at hD;cases hD;exact e2⟩
end
section
variable{P:Program}{w:World}{base:Heap}{N:List Str}
universe u
def Ge{α:Sort u}{F G:List Value->α}(h:∀a,F [a]=G [a]):∀us:List Value,us.length=1->F us=G us
 |[_],_=>h _
def Gf{α:Sort u}{F G:List Value->α}(h:∀a b,F [a,b]=G [a,b]):∀us:List Value,us.length=2->F us=G us
 |[_,_],_=>h _ _
def Gg{α:Sort u}{F G:List Value->α}(h:∀a b c,F [a,b,c]=G [a,b,c]):∀us:List Value,us.length=3->F us=G us
 |[_,_,_],_=>h _ _ _
def Gh{α:Sort u}{F G:List Value->α}(h:∀a b c d,F [a,b,c,d]=G [a,b,c,d]):∀us:List Value,us.length=4->F us=G us
 |[_,_,_,_],_=>h _ _ _ _
theorem cH(rd:Rd S z N)(h:FnAt K mg x st)
  (hbody:∀ {f:Addr} {cdv:Value} {A:Around} {outer:List Env} {s:Shared} {H:Hp} {E:XK} (sc:N.Nodup),Room k (A.deeper (envOfC x (aK st) s.heap.objs.size f cdv))->
   c8 (eY P w) (dQ (eY P w) P w K mg base N x (aK st) f cdv A outer s H E) E->kY (dQ (eY P w) P w K mg base N x (aK st) f cdv A outer s H E) E->
   jn (dQ (eY P w) P w K mg base N x (aK st) f cdv A outer s H E) E (bF st) z)
  (sc:cO N ps (aK st):=by exact⟨rfl,rfl,rfl,by decide +kernel,rfl,by decide +kernel,by decide +kernel⟩)
  (len:∀ds E Q,S ds E Q->ds.length=ps.length:=by first|exact fnS.len λ_=>rfl|exact xS.len λ_=>rfl|exact rlS.len λ_=>rfl)
  (hb:∀ (kV doc pm:Value) (an:Option Addr) (cdv ct:Value) (us:List Value),us.length=ps.length->bindArgs (PySem.W.fnOf x x (cP st) (bF st) (aK st) .none kV doc pm an cdv ct) ⟨us,[]⟩=pure (ps.zip us):=by
   intro _ _ _ _ _ _;(first|refine Ge ?_|refine Gf ?_|refine Gg ?_|refine Gh ?_);intros;rfl)
  (mono:m8 S:=by first|exact fnS.mono|exact rlS.mono|exact xS.mono):Fp P w K mg base (k+1) x ps S:=by
 obtain⟨f,fd,F,m,q⟩:=h;exact Fp.of (vQ (z:=z) F sc len (λcdv A outer s H E hr hx hw=>hbody sc.nd hr hx hw) rd) mono m F.kp (F.binds hb)
theorem CM(h:FnAt K mg x st)
  (hbody:∀ (sc:N.Nodup) (f:Addr) (cdv:Value) (A:Around) (outer:List Env) (s:Shared) (H:Hp),RoomU k (A.deeper (envOfC x (aK st) s.heap.objs.size f cdv))->
   jn (sM P w K mg base N x (aK st) f cdv A outer s H) E0 (bF st) z)
  (rd:∀ds E Q,S ds E Q->z No { nx:=λ_=>Q .non,rt:=Q } (eP N ds))
  (sc:cO N ps (aK st):=by exact⟨rfl,rfl,rfl,by decide +kernel,rfl,by decide +kernel,by decide +kernel⟩)
  (len:∀ds E Q,S ds E Q->ds.length=ps.length:=by first|exact fnS.len λ_=>rfl|exact xS.len λ_=>rfl|exact rlS.len λ_=>rfl)
  (hb:∀ (kV doc pm:Value) (an:Option Addr) (cdv ct:Value) (us:List Value),us.length=ps.length->bindArgs (PySem.W.fnOf x x (cP st) (bF st) (aK st) .none kV doc pm an cdv ct) ⟨us,[]⟩=pure (ps.zip us):=by
   intro _ _ _ _ _ _;(first|refine Ge ?_|refine Gf ?_|refine Gg ?_|refine Gh ?_);intros;rfl)
  (mono:m8 S:=by first|exact fnS.mono|exact rlS.mono|exact xS.mono):BV P w K mg base (k+1) x ps S:=by
 obtain⟨f,fd,F,m,q⟩:=h;exact⟨⟨f,fd,BU (z:=z) F sc len (λcdv A outer s H hr=>hbody sc.nd f cdv A outer s H hr) rd,m,F.kp,F.binds hb⟩,mono⟩
theorem LW{l:PySem.W.OpenLaw}(h:FnAt K mg x st)(hfa:mg x=some (.ref fa))
  (hbody:∀ (base:Heap) (sc:N.Nodup) (f:Addr) (cdv:Value) (A:Around) (outer:List Env) (s:Shared) (H:Hp) (E:XK),Room k (A.deeper (envOfC x (aK st) s.heap.objs.size f cdv))->
   c8 (eY l.prog w) (dQ (eY l.prog w) l.prog w K mg base N x (aK st) f cdv A outer s H E) E->kY (dQ (eY l.prog w) l.prog w K mg base N x (aK st) f cdv A outer s H E) E->
   jn (dQ (eY l.prog w) l.prog w K mg base N x (aK st) f cdv A outer s H E) E (bF st) z)
  (rd:Rd S z N)
  (sc:cO N ["_law_script"] (aK st):=by exact⟨rfl,rfl,rfl,by decide +kernel,rfl,by decide +kernel,by decide +kernel⟩)
  (len:∀ds E Q,S ds E Q->ds.length=1:=by exact fnS.len (ps:=["_law_script"]) λ_=>rfl)
  (hb:∀(kV doc pm:Value) (an:Option Addr) (cdv ct:Value) (s:Shared) (v:Value),BindsTo s (PySem.W.fnOf x x (cP st) (bF st) (aK st) .none kV doc pm an cdv ct) ⟨[v],[]⟩ [("_law_script",v)]:=by exact λ_ _ _ _ _ _ _ _=>.of_eq rfl) :
  ∃fd:FuncData,(∀(s:Shared) (v:Value),BindsTo s fd ⟨[v],[]⟩ [("_law_script",v)])/\∀base:Heap,K.In base->base.Ns mainGlobals mg->FnOk l.prog w K mg base (eY l.prog w) (k+1) fa fd ["_law_script"] (fN K S):=by
 obtain⟨f,fd,F,m,q⟩:=h;rw[m] at hfa;cases hfa;refine⟨fd,?_,λbase _ _=>vQ (z:=z) F sc len (λcdv A outer s H E hr hx hw=>hbody base sc.nd _ cdv A outer s H E hr hx hw) rd⟩;obtain⟨_,_,_,_,_,_,_,_,_,rfl,_⟩:=F.ex;exact hb _ _ _ _ _ _
end
section
variable{l:List (Str×bN)}
theorem qx(h:CC X.K X.mg x)(hg:Gl X x:=by rfl)(hd:(x==("__debug__" : Str))=false:=by decide):PX X EX (.Name x pos) (wC (.cls x)):=let⟨_,m,q⟩:=h;JW m q hg hd
theorem CN{i:Int}(h:CI X.mg x i)(hg:Gl X x:=by rfl)(hd:(x==("__debug__" : Str))=false:=by decide):PX X EX (.Name x pos) (wC (.int i)):=let⟨_,m⟩:=h;Jv m hg hd
theorem uv(h:CT X.K X.mg x ds)(hg:Gl X x:=by rfl)(hd:(x==("__debug__" : Str))=false:=by decide):PX X EX (.Name x pos) (wC (.tup ds)):=let⟨_,_,m,k,r⟩:=h;Jw m k r hg hd
end
section
variable{n m:Str}{D C:Addr}{M:List Str}
theorem exD(a:PySem.W.nsIn K mainGlobals n=some (some (.ref D)))(b:PySem.W.mroIn K D (.ref f)=some true):∃D,PySem.W.nsIn K mainGlobals n=some (some (.ref D))/\PySem.W.mroIn K D (.ref f)=some true:=⟨D,a,b⟩
theorem exX(a:PySem.W.nsIn K mainGlobals n=some (some (.ref D)))(c:gM K D)(k:PySem.W.kitOne K (.ref D) (.type "ValueError")=some true)(h:∀m∈M,∃C,i5 K m=some C/\PySem.W.kitOne K (.ref D) (.ref C)=some (n==m)) :
  ∃D,i5 K n=some D/\gM K D/\PySem.W.kitOne K (.ref D) (.type "ValueError")=some true/\∀m∈M,∃C,i5 K m=some C/\PySem.W.kitOne K (.ref D) (.ref C)=some (n==m):=⟨D,td a,c,k,h⟩
theorem exC(a:PySem.W.nsIn K mainGlobals m=some (some (.ref C)))(b:PySem.W.kitOne K (.ref D) (.ref C)=some (n==m)):∃C,i5 K m=some C/\PySem.W.kitOne K (.ref D) (.ref C)=some (n==m):=⟨C,td a,b⟩
end
def j3:Except Str D->D
 |.ok v=>v
 |.error e=>.str (uk e)
section
variable{E:Ex->Prop}{x:D}
end
local macro_rules | `(tactic| walk_at "w1")=>`(tactic| simp only [aM,cS,aQ,cR,iX,bO,bW,bU,ky,eF,dI,dg,jy,eR,l7,aZ,i7,wM,Zdd,ii,fM,jS,dw,fD,bV,wT,jT,w1,w2,wB,wF,wL,aU,bM,Zbd,aB,aX,aC,aA,aLC,Zbv,cM,iS,iL,iT,eO,lV,iZ,d8,dA,wN,wC,gN,dH,cD,dC,dU,lZ,e7,fT,eQ,aBor,fU,dS,eZ,aCut,eP,pub,cV,gx,dY,j9,iz,et,List.replicate,cZ,df,eT,eU,Nat.reduceSub,Nat.reduceAdd,gw,lO,true_and,dX,if_true,if_false,ite_true,ite_false,hJ,fb,lQ,
 kz,mf,nV,nW,nX,nY,nZ,n4,n6,n8,n9,oa,oh,oj,ol,om,oq,ot,ou,oy,oA,oB,oC,oD,oE,oF,oG,oH,oJ,oK,oM,oN,oO,oP,oQ,oR,oS,oU,oV,oW,oX,oY,oZ,o1,o4,o7,o8,o9,pj,e8,pk,pp,nw,pq,pv,gS,gT])
theorem Gi{r:Except Str D}(h:∀e,r=.error e->e∈LX)(q:Q (j3 r)):exQ (λex=>ex∈LX/\Q (.str (uk ex))) Q r:=by
 cases r with
 |ok v=>exact q
 |error e=>exact⟨h e rfl,q⟩
theorem LY{x:D}{v:Except Str D}{e:Str}(h:∀e,v=.error e->e∈LX)(he:ir x v=.error e):e∈LX:=by
 unfold ir at he;split at he
 .exact h e he
 .injection he with he;rw[<-he];simp
theorem LZ(h:IsSl s n)(hm:∀x∈r,Sz m x):∀x∈cT s n r,Sz (5*(6+m+1)+1) x:=by
 intro x hx;unfold cT at hx;obtain⟨line,hl,rfl⟩:=YbS.mp hx;obtain⟨h1,h2⟩:=tz h line hl;have h5:=h.n5;refine B5 _ _ (λy hy=>?_) hm (by unfold dF;rw[bL];omega);obtain⟨i,hi,rfl⟩:=YbS.mp hy;exact wm (h2 i hi)
namespace G
structure Pk(y:D):Prop where
 kd:kd y=true
 sz:dG 300 y=true
 hd:∀a r,y=.tup (a::r)->r≠[]->cX a 60=true
section
variable{E:Ex->Prop}{x:D}{u:List Int}
end
end G
local macro_rules | `(tactic| walk_at "w1")=>`(tactic| simp only [aM,cS,aQ,cR,iX,bO,bW,bU,ky,eF,dI,dg,jy,eR,l7,aZ,i7,fq,wM,Zdd,ii,fM,jS,dw,fD,bV,wT,jT,w1,w2,wB,wF,wL,aU,bM,Zbd,aB,aX,aC,aA,aLC,Zbv,cM,iS,iE,iL,iT,eO,lV,iZ,d8,dA,wN,wC,gN,dH,cD,dC,dU,lZ,e7,fT,eQ,aBor,fU,dS,eZ,aCut,eP,pub,cV,gx,dY,j9,iz,et,List.replicate,cZ,df,eT,eU,Nat.reduceSub,Nat.reduceAdd,gw,lO,true_and,dX,if_true,if_false,ite_true,ite_false,hJ,fb,lQ,
 kz,mf,nV,nW,nX,nY,nZ,n4,n6,n8,n9,oa,oh,oj,ol,om,oq,ot,ou,oy,oA,oB,oC,oD,oE,oF,oG,oH,oJ,oK,oM,oN,oO,oP,oQ,oR,oS,oU,oV,oW,oX,oY,oZ,o1,o4,o7,o8,o9,pj,e8,pk,pp,nw,pq,pv,gS,gT])
namespace G
theorem Pk.at{a b:D}{r:List D}(h:Pk (.tup (a::b::r))):cX a 60=true/\LP.kd b=true/\dG 300 b=true/\LP.kd a=true:=by
 have hz:=h.sz;rw[dG,tB] at hz;exact⟨h.hd a (b::r) rfl (by simp),(qo h.kd).2 b (by simp),hz b (by simp),(qo h.kd).2 a (by simp)⟩
def Pk.non:Pk .non:=⟨by rw[LP.kd],by simp[dG],λ_ _ e=>nomatch e⟩
end G
structure IsRg(r:List Int)(n:Nat):Prop where
 len:r.length=n
 n1:1<=n
 n5:n<=5
 b:∀x∈r,-50<=x/\x<=50
def CO(r:List Int):List Int:=r.drop 1++r
section
variable{E:Ex->Prop}{x:D}{r t:List Int}
theorem IsRg.sl(h:IsRg r n):IsSl (CO r) n:=by
 have h1:=h.n1;have hl:=h.len;refine⟨by unfold CO;rw[dM,kI];omega,h1,h.n5,λx hx=>?_⟩;unfold CO at hx;rcases Yao.mp hx with hx|hx
 .exact h.b x (mr hx)
 .exact h.b x hx
end
local macro_rules | `(tactic| walk_at "w1")=>`(tactic| simp only [aM,cS,aQ,cR,iX,bO,bW,bU,ky,eF,dI,dg,jy,eR,l7,aZ,i7,fq,wM,Zdd,ii,fM,jS,dw,fD,bV,wT,jT,w1,w2,wB,wF,wL,aU,bM,Zbd,aB,aX,aC,aA,aLC,Zbv,cM,iS,iL,iT,eO,lV,iZ,d8,dA,wN,wC,gN,dH,cD,dC,dU,lZ,e7,fT,eQ,aBor,fU,dS,eZ,aCut,eP,pub,cV,gx,dY,j9,iz,et,List.replicate,cZ,df,eT,eU,Nat.reduceSub,Nat.reduceAdd,gw,lO,true_and,dX,if_true,if_false,ite_true,ite_false,hJ,fb,lQ,
 kz,mf,nV,nW,nX,nY,nZ,n4,n6,n8,n9,oa,oh,oj,ol,om,oq,ot,ou,oy,oA,oB,oC,oD,oE,oF,oG,oH,oJ,oK,oM,oN,oO,oP,oQ,oR,oS,oU,oV,oW,oX,oY,oZ,o1,o4,o7,o8,o9,pj,e8,pk,pp,nw,pq,pv,gS,gT])
def set_by{E:Ex->Prop}(e:ρ.set i (.d d)=ρ')(hw:∀P:D->Prop,P d->w E ρ P)(h:N.nx ρ'):aQ i w E N ρ:=hw _ (by rw[e];exact h)
def set_rl{E:Ex->Prop}(R:D->Prop)(hw:∀P:D->Prop,(∀d,R d->P d)->w E ρ P)(h:∀d,R d->N.nx (ρ.set i (.d d))):aQ i w E N ρ:=hw _ h
theorem pair_at{w1 w2:WE}{E:Ex->Prop}{a b:D}(h1:∀P:D->Prop,P a->w1 E ρ P)(h2:∀P:D->Prop,P b->w2 E ρ P):∀P:D->Prop,P (.tup [a,b])->aU (aC w1 (aC w2 aA)) E ρ P:=λP h=>h1 _ (h2 _ ⟨show 2<=small by decide,h⟩)
def nm_at{E:Ex->Prop}(h:ρ[i]? = some (.d d)):∀P:D->Prop,P d->wN i E ρ P:=λP q=>by unfold wN;rw[h];exact q
def for_seq{E:Ex->Prop}(hw:∀P:D->Prop,P (.lst xs)->w E ρ P)(h:Za2 g zb E N xs ρ):bU (iS w) g zb E N ρ:=hw _ h
section
variable{E:Ex->Prop}
end
namespace B.C.E.K8
section
variable{E:Ex->Prop}{c:Str}
end
end B.C.E.K8
theorem Ext.none{W W':Wd}{H H':Hp}{a:Addr}(x:Ext W H W' H')(h:H' a=none):H a=none:=by
 cases e:H a with
 |none=>rfl
 |some o=>
  by_cases p:W.Pn a
  .obtain⟨po,_⟩:=x.ok.p a (x.p a p)
   unfold ZnM at po;rw[h] at po;simp at po
  .rw[x.h a o e p] at h
   cases h
abbrev Gj:=List D->(Ex->Prop)->(List D->Prop)->Prop
abbrev L4:=(Ex->Prop)->(List D->Prop)->bR->Prop
def CP(K:NF)(W:Wd)(H:Hp)(Q:VK)(rs:List D):Prop:=∀a vs W' H',Ext W H W' H'->H' a=some (.lst vs)->W'.G a=none->¬W'.Pn a->H a=none->Reps K W' vs rs->Q (.ref a) H'
section
variable{rest:List Stmt}
end
section
variable{S:Gj}
end
section
variable{P:Program}{w:World}{base:Heap}{N:List Str}{S:Gj}{z:L4}
end
def Znw(Q:Str->Prop):D->Prop
 |.str x=>Q x
 |_=>False
def L5{Q:Str->Prop}(h:Znw Q d):∃b,d=.str b/\Q b:=by
 cases d with
 |str b=>exact⟨b,rfl,h⟩
 |_=>exact h.elim
def Znw.mono{Q Q':Str->Prop}(h:∀b,Q b->Q' b)(d:D)(z:Znw Q d):Znw Q' d:=by
 obtain⟨b,rfl,q⟩:=L5 z;exact h b q
section
variable{o a b:Expr}{id:String}{g:Str->List D->(D->Prop)->Prop}
def CS(mg:Str->Option Value)(x y:Str):Prop:=∃t,mg x=some (.str y t)
theorem NC{h:Heap}{y:Str}(X:K.In h)(G:h.Ns mainGlobals mg){t:Tok}(a:PySem.W.nsIn K mainGlobals x=some (some (.str y t))):CS mg x y:=⟨t,PySem.W.mg_of X G a⟩
end
section
variable{ps kp cp:Pos}{a:Expr}
end
open Dt
section
variable{E:Ex->Prop}{x:D}{t:List (List Int)}
end
local macro_rules | `(tactic| walk_at "w1")=>`(tactic| simp only [aM,cS,aQ,cR,iX,bO,bW,bU,ky,eF,dI,dg,jy,eR,l7,aZ,i7,fq,wM,Zdd,ii,fM,jS,dw,fD,bV,wT,jT,w1,w2,wB,wF,wL,aU,bM,Zbd,aB,aX,aC,aA,aLC,Zbv,cM,iS,iE,iL,iT,eO,lV,iZ,d8,dA,wN,wC,gN,dH,cD,dC,dU,lZ,e7,fT,eQ,aBor,fU,dS,eZ,aCut,eP,pub,cV,gx,dY,j9,iz,et,List.replicate,cZ,df,eT,eU,Nat.reduceSub,Nat.reduceAdd,gw,lO,true_and,dX,if_true,if_false,ite_true,ite_false,hJ,fb,lQ,
 kz,mf,nV,nW,nX,nY,nZ,n4,n6,n8,n9,oa,oh,oj,ol,om,oq,ot,ou,oy,oA,oB,oC,oD,oE,oF,oG,oH,oJ,oK,oM,oN,oO,oP,oQ,oR,oS,oU,oV,oW,oX,oY,oZ,o1,o4,o7,o8,o9,pj,e8,pk,pp,nw,pq,pv,gS,gT])
namespace Gs
section
variable{T B:Nat->Nat->Rat}
theorem Bk.solve(h:Bk n T B){X y:Nat->Rat}(e:∀i,i<n->aJ (λk=>T i k*X k) n=y i)(hk:k<n):X k=aJ (λm=>B k m*y m) n:=by
 rw[<-Gd X hk];rw [da (g:=λi=>aJ (λm=>B k m*(T m i*X i)) n) (λi hi=>by
  rw[<-h.bt k i hk hi,uG,<-sumN_mul];exact da λm _=>by grind),wJ]
 exact da λm hm=>by rw[sumN_mul,e m hm]
end
section
def Stg(s:List Int)(n:Nat):Prop:=∀k,1<=k->k<=n->FX (cor s n k) k=[]
def L6(h:IsSl s n):LP.cor s n n=s:=by
 have:=h.len;unfold LP.cor;rw[qI,pK,List.take_of_length_le (by omega)]
def Stg.full(h:IsSl s n)(g:Stg s n):FX s n=[]:=by
 have:=g n h.n1 (bP _);rw[L6 h] at this;exact this
def tq(s:List Int)(n i j:Nat):Rat:=(tA (tbl s n) i j:Rat)
def tims_len(r:List Rat):(cT s n r).length=n:=by unfold cT;rw[bL,tx]
theorem tims_at(h:IsSl s n)(hr:r.length=n)(hi:i<n):(cT s n r).getD i 0=aJ (λj=>tq s n i j*r.getD j 0) n:=by
 have e1:cT s n r=(kE s n).map λl=>cE l r:=by unfold cT kE;rw[dk];rfl
 rw[e1,bD,cI];have:(kE s n)[i]? = some ((kE s n).getD i []):=by rw[bD,bG (by rw[F1];exact hi)];rfl
 rw[this];exact LU h hi hr
end
end Gs
open Gs
theorem Gk(R:List (List Rat)):∀p:Nat,(dm R p).ld.length+(dm R p).rs.length=R.length
 |0=>by simp[dm]
 |p+1=>by
  have ih:=Gk R p;rw[dm];generalize dm R p=x at ih;unfold tI;split
  .exact ih
  .rename_i a e
   obtain⟨h1,_⟩:=ut e;show(cB _ _ _++[_]).length+(cB _ _ _).length=_;unfold cB;simp only[dM,bL,j7,jr,kI];omega
theorem Ec.zero{R ld:List (List Rat)}{pl:List Nat}(h:Ec n R n ld pl rs){x:List Rat}(lx:x.length=n)(x0:∀r∈R,cE r x=0)(xf:∀t,t<n->t∉pl->x.getD t 0=0):∀t,t<n->x.getD t 0=0:=λt ht=>by
 by_cases hm:t∈pl
 .obtain⟨i,hi,e⟩:=Ybx.mp hm
  have e':pl.getD i 0=t:=by rw[bD,bG hi];exact e
  have hi':i<ld.length:=by rw[h.ll];exact hi
  have wl:=h.wl _ (iy hi');have d1:=((h.nul _ lx).mp x0).1 _ (iy hi');rw[lG _ x n wl lx,kF (k:=t) ht] at d1
  .have o:=h.one i i hi' hi
   rw[e',if_pos rfl] at o;rw[o,rG] at d1;exact d1
  .intro j hj ne
   by_cases hm2:j∈pl
   .obtain⟨k,hk,ek⟩:=Ybx.mp hm2
    have ek':pl.getD k 0=j:=by rw[bD,bG hk];exact ek
    have oz:=h.one i k hi' hk;rw[ek',if_neg (λz=>ne (by rw[<-ek',<-z,e']))] at oz;rw[oz,jc]
   .rw[xf j hj hm2,jG]
 .exact xf t ht hm
theorem L7{R:List (List Rat)}(hR:∀r∈R,r.length=m)(hl:R.length<m):∃c:List Rat,c.length=m/\(∃k,k<m/\c.getD k 0≠0)/\∀r∈R,cE r c=0:=by
 have ec:=CK hR m (bP _);have cn:=Gk R m;have:∃k,k<m/\k∉(dm R m).pl:=by
  refine Classical.byContradiction λhc=>?_;have all:∀k,k<m->k∈(dm R m).pl:=λk hk=>Classical.byContradiction λz=>hc ⟨k,hk,z⟩;have e:(dm R m).pl=List.range m:=CJ ec.asc (Ga m) λx=>⟨λhx=>Yah.mpr (ec.lt x hx),λhx=>all x (Yah.mp hx)⟩;have l:=ec.ll;rw[e,jE] at l;omega
 obtain⟨k,hk,hn⟩:=this;obtain⟨l,f0⟩:=ec.free hk hn;refine⟨_,l,⟨k,hk,?_⟩,f0⟩;rw[Zh _ _ _ (by rw[j0];exact ec.lt) hn,pB hk,if_pos rfl];decide +kernel
section
def HB(k:Nat)(e:Int)(x:Rat):Prop:=∃a:Int,a.natAbs<=k*2^228/\x=Rat.divInt a (6*e)
def HB.zero{e:Int}:HB 0 e 0:=⟨0,by simp,by rw[AG]⟩
theorem HB.sz{e:Int}{x:Rat}(hk:k<=5)(e0:e≠0)(eb:e.natAbs<2^223)(h:HB k e x):Sz 240 x:=by
 obtain⟨a,ab,rfl⟩:=h;refine uj (pN (by decide) e0) (lP ab (lP (ke hk (bP _)) (by decide))) ?_;rw[eu];exact lP (ke (bP _) (jC eb)) (by decide)
end
def bf(T:Nat->Nat->Rat)(n:Nat)(u v:Nat->Rat):Rat:=aJ (λi=>u i*aJ (λj=>T i j*v j) n) n
def e9(c:Nat->Rat)(U:Nat->Nat->Rat)(m:Nat):Nat->Rat:=λk=>aJ (λa=>c a*U a k) m
theorem Gm(f:Nat->Rat)(n:Nat):∀m:Nat,aJ f (n+m)=aJ f n+aJ (λj=>f (n+j)) m
 |0=>by simp only[aJ,Nat.add_zero];grind
 |m+1=>by rw[Nat.add_succ,aJ,Gm f n m,aJ];grind
theorem CQ{f:Nat->Rat}:∀{n:Nat},(∀i,i<n->0<=f i)->0<=aJ f n
 |0,_=>by simp only[aJ];grind
 |n+1,h=>by
  have h1:=CQ (f:=f) (n:=n) λi hi=>h i (by omega);have h2:=h n (by omega);rw[aJ];grind
theorem Gn{f:Nat->Rat}:∀{n:Nat},(∀i,i<n->0<=f i)->aJ f n<=0->∀i,i<n->f i=0
 |0,_,_,i,hi=>by omega
 |n+1,h,h0,i,hi=>by
  have h1:=CQ (f:=f) (n:=n) λi hi=>h i (by omega);have h2:=h n (by omega);rw[aJ] at h0
  by_cases e:i=n
  .subst e;grind
  .exact Gn (n:=n) (λi hi=>h i (by omega)) (by grind) i (by omega)
section
variable{T:Nat->Nat->Rat}
theorem uw{u v u' v':Nat->Rat}(hu:∀i,i<n->u i=u' i)(hv:∀i,i<n->v i=v' i):bf T n u v=bf T n u' v':=
 da λi hi=>by rw[hu i hi,da (g:=λj=>T i j*v' j) λj hj=>by rw[hv j hj]]
theorem j4(hT:∀i j,i<n->j<n->T i j=T j i)(u v:Nat->Rat):bf T n u v=bf T n v u:=by
 unfold bf;rw[da (g:=λi=>aJ (λj=>u i*(T i j*v j)) n) λi _=>by rw[sumN_mul],wJ];refine da λj hj=>?_;rw[<-sumN_mul];exact da λi hi=>by rw[hT i j hi hj];grind
theorem tL(u:Nat->Rat)(c:Nat->Rat)(U:Nat->Nat->Rat):∀m:Nat,bf T n u (e9 c U m)=aJ (λa=>c a*bf T n u (U a)) m
 |0=>by
  rw[aJ];refine pA λi _=>?_;rw[pA λj _=>by show T i j*0=0;rw[jG],jG]
 |m+1=>by
  rw[aJ,<-tL u c U m];unfold bf;rw[<-sumN_mul,<-zX];refine da λi _=>?_;rw[da (g:=λj=>T i j*e9 c U m j+c m*(T i j*U m j)) λj _=>by show T i j*(e9 c U m j+c m*U m j)=_;grind,zX,sumN_mul];grind
theorem rk(u v w:Nat->Rat)(q:Rat):bf T n u (λk=>v k-q*w k)=bf T n u v-q*bf T n u w:=by
 unfold bf;rw[<-sumN_mul,<-qw];refine da λi _=>?_;rw[da (g:=λj=>T i j*v j-q*(T i j*w j)) λj _=>by grind,qw,sumN_mul];grind
structure Ap(T:Nat->Nat->Rat)(n:Nat)(U:Nat->Nat->Rat):Prop where
 ap:∀a b,a<n->b<n->a≠b->bf T n (U a) (U b)=0
 fu:∀x:Nat->Rat,(∀a,a<n->aJ (λk=>U a k*x k) n=0)->∀k,k<n->x k=0
def c9(m:Nat)(f:Nat->Rat):List Rat:=(List.range m).map f
def zY(m:Nat)(f:Nat->Rat):(c9 m f).length=m:=by unfold c9;rw[bL,jE]
def CU(f:Nat->Rat)(hk:k<m):(c9 m f).getD k 0=f k:=by
 unfold c9;rw[bD,cI,jD hk];rfl
theorem L8(f:Nat->Rat){c:List Rat}(hc:c.length=m):cE (c9 m f) c=aJ (λj=>f j*c.getD j 0) m:=by
 rw[lG _ c m (zY m f) hc];exact da λj hj=>by rw[CU f hj]
theorem wish(m:Nat)(L:List (Nat->Rat))(hl:L.length<m):∃x:Nat->Rat,(∃k,k<m/\x k≠0)/\∀f∈L,aJ (λj=>f j*x j) m=0:=by
 obtain⟨c,h1,h2,h3⟩:=L7 (m:=m) (R:=L.map (c9 m)) (λr hr=>by obtain⟨f,_,rfl⟩:=YbS.mp hr;exact zY m f) (by rw[bL];exact hl);exact⟨λk=>c.getD k 0,h2,λf hf=>by have:=h3 _ (rF hf);rwa [L8 f h1] at this⟩
def qy(a:Nat):Nat->Rat:=λj=>if j=a then 1 else 0
def wK{a:Nat}(x:Nat->Rat)(ha:a<m):aJ (λj=>qy a j*x j) m=x a:=by
 rw[kF ha λi _ ne=>by unfold qy;rw[if_neg ne,jc]];unfold qy;rw[if_pos rfl,rG]
theorem Ap.ind(h:Ap T n U){c:Nat->Rat}(h0:∀k,k<n->e9 c U n k=0):∀a,a<n->c a=0:=λt ht=>by
 refine Classical.byContradiction λhc=>?_;obtain ⟨x,⟨k,hk,hx⟩,hz⟩:=wish n (((List.range n).filter λa=>decide (a≠t)).map U) (by
  rw[bL];have:=List.length_filter_lt_length_iff_exists (p:=λa=>decide (a≠t)) (l:=List.range n);rw[jE] at this;exact this.mpr ⟨t,Yah.mpr ht,by simp⟩)
 have oth:∀a,a<n->a≠t->aJ (λk=>U a k*x k) n=0:=λa ha ne=>hz _ (rF (Yag.mpr ⟨Yah.mpr ha,by simpa using ne⟩));have s:aJ (λa=>c a*aJ (λk=>U a k*x k) n) n=0:=by
  rw[da (g:=λa=>aJ (λk=>c a*(U a k*x k)) n) λa _=>by rw[sumN_mul],wJ];refine pA λk hk=>?_;rw[da (g:=λa=>x k*(c a*U a k)) λa _=>by grind,sumN_mul];have:=h0 k hk;unfold e9 at this;rw[this,jG]
 rw[kF ht λa ha ne=>by rw[oth a ha ne,jG]] at s;have z:aJ (λk=>U t k*x k) n=0:=by
  rcases YcW.mp s with e|e
  .exact NH e hc
  .exact e
 have al:∀a,a<n->aJ (λk=>U a k*x k) n=0:=λa ha=>by
  by_cases e:a=t
  .rw[e];exact z
  .exact oth a ha e
 exact hx (h.fu x al k hk)
theorem Ap.diag(h:Ap T n U)(hT:∀i j,i<n->j<n->T i j=T j i)(c:Nat->Rat):bf T n (e9 c U n) (e9 c U n)=aJ (λa=>c a*(c a*bf T n (U a) (U a))) n:=by
 rw[tL];refine da λa ha=>?_;rw[j4 hT,tL,kF ha λb hb ne=>by rw[h.ap a b ha hb (NO ne),jG]]
def eI(n:Nat)(p:Nat->Bool):Nat:=((List.range n).filter p).length
theorem Go{α:Type}(p:α->Bool):∀l:List α,(l.filter λa=>!p a).length+(l.filter p).length=l.length
 |[]=>rfl
 |a::l=>by
  have:=Go p l;cases e:p a<;>simp[yf,e]<;>omega
def L9(n:Nat)(p:Nat->Bool):eI n (λa=>!p a)+eI n p=n:=by
 have:=Go p (List.range n);rw[jE] at this;exact this
def eJ(T:Nat->Nat->Rat)(n:Nat)(σ:Rat)(U:Nat->Nat->Rat)(a:Nat):Bool:=decide (0<σ*bf T n (U a) (U a))
theorem Ap.le{V:Nat->Nat->Rat}(hT:∀i j,i<n->j<n->T i j=T j i)(h:Ap T n U)(h':Ap T n V)(σ:Rat):eI n (eJ T n σ U)<=eI n (eJ T n σ V):=by
 refine Classical.byContradiction λhlt=>?_;have c1:=L9 n (eJ T n σ U);obtain ⟨x,⟨k0,hk0,hx0⟩,hz⟩:=wish (n+n) ((List.range n).map (λk j=>if j < n then U j k else V (j - n) k)++(((List.range n).filter λa=>!eJ T n σ U a).map qy++((List.range n).filter (eJ T n σ V)).map λb=>qy (n+b))) (by
  rw[dM,dM,bL,bL,bL,jE];unfold eI at *;omega)
 have z1:∀k,k<n->e9 x U n k+e9 (λb=>x (n+b)) V n k=0:=λk hk=>by
  have:=hz (λj=>if j<n then U j k else V (j-n) k) (Yao.mpr (.inl (YbS.mpr ⟨k,Yah.mpr hk,rfl⟩)));rw[Gm] at this;unfold e9;rw[<-this];congr 1
  .exact da λj hj=>by rw[if_pos hj];grind
  .exact da λj hj=>by rw[if_neg (by omega),Nat.add_sub_cancel_left];grind
 have zU:∀a,a<n->eJ T n σ U a=false->x a=0:=λa ha hp=>by
  have:=hz (qy a) (Yao.mpr (.inr (Yao.mpr (.inl (rF (Yag.mpr ⟨Yah.mpr ha,by rw[hp];rfl⟩))))))
  rwa [wK x (by omega)] at this
 have zV:∀b,b<n->eJ T n σ V b=true->x (n+b)=0:=λb hb hp=>by
  have:=hz (qy (n+b)) (Yao.mpr (.inr (Yao.mpr (.inr (YbS.mpr ⟨b,Yag.mpr ⟨Yah.mpr hb,hp⟩,rfl⟩)))))
  rwa [wK x (by omega)] at this
 have d1:=h.diag hT x;have d2:=h'.diag hT λb=>x (n+b);have e12:bf T n (e9 x U n) (e9 x U n)=bf T n (e9 (λb=>x (n+b)) V n) (e9 (λb=>x (n+b)) V n):=by
  have neg:∀k,k<n->e9 x U n k = -e9 (λb=>x (n+b)) V n k:=λk hk=>by have:=z1 k hk;grind
  unfold bf;refine da λi hi=>?_;rw[neg i hi,da (g:=λj=>-1*(T i j*e9 (λb=>x (n+b)) V n j)) (λj hj=>by rw[neg j hj];grind),sumN_mul];grind
 have p1:∀a,a<n->0<=x a*(x a*(σ*bf T n (U a) (U a))):=λa ha=>by
  cases hp:eJ T n σ U a with
  |false=>rw[zU a ha hp,jc];grind
  |true=>
   have:0<σ*bf T n (U a) (U a):=by unfold eJ at hp;simpa using hp
   have sq:0<=x a*x a:=by
    rcases Rat.le_total (a:=0) (b:=x a) with q|q
    .exact t0 q q
    .have:=t0 (show(0:Rat)<=-x a by grind) (show(0:Rat)<=-x a by grind);grind
   have:=t0 sq (Rat.le_of_lt this);grind
 have p2:aJ (λb=>x (n+b)*(x (n+b)*(σ*bf T n (V b) (V b)))) n<=0:=by
  have:0<=aJ (λb=>-(x (n+b)*(x (n+b)*(σ*bf T n (V b) (V b))))) n:=CQ λb hb=>by
   cases hp:eJ T n σ V b with
   |true=>rw[zV b hb hp,jc];grind
   |false=>
    have:σ*bf T n (V b) (V b)<=0:=by unfold eJ at hp;have:=of_decide_eq_false hp;grind
    have sq:0<=x (n+b)*x (n+b):=by
     rcases Rat.le_total (a:=0) (b:=x (n+b)) with q|q
     .exact t0 q q
     .have:=t0 (show(0:Rat)<=-x (n+b) by grind) (show(0:Rat)<=-x (n+b) by grind);grind
    have:=t0 sq (show(0:Rat)<=-(σ*bf T n (V b) (V b)) by grind);grind
  have e:aJ (λb=>-(x (n+b)*(x (n+b)*(σ*bf T n (V b) (V b))))) n = -1*aJ (λb=>x (n+b)*(x (n+b)*(σ*bf T n (V b) (V b)))) n:=by
   rw[<-sumN_mul];exact da λb _=>by grind
  grind
 have q1:aJ (λa=>x a*(x a*(σ*bf T n (U a) (U a)))) n=σ*bf T n (e9 x U n) (e9 x U n):=by
  rw[d1,<-sumN_mul];exact da λa _=>by grind
 have q2:aJ (λb=>x (n+b)*(x (n+b)*(σ*bf T n (V b) (V b)))) n=σ*bf T n (e9 (λb=>x (n+b)) V n) (e9 (λb=>x (n+b)) V n):=by
  rw[d2,<-sumN_mul];exact da λa _=>by grind
 have a0:=Gn p1 (by rw[q1,e12,<-q2];exact p2);have xU:∀a,a<n->x a=0:=λa ha=>by
  cases hp:eJ T n σ U a with
  |false=>exact zU a ha hp
  |true=>
   have hpos:0<σ*bf T n (U a) (U a):=by unfold eJ at hp;simpa using hp
   rcases YcW.mp (a0 a ha) with e|e
   .exact e
   .rcases YcW.mp e with e|e
    .exact e
    .rw[e] at hpos;exact NH hpos (by decide)
 have xV:=h'.ind (c:=λb=>x (n+b)) λk hk=>by
  have:=z1 k hk;rw[show e9 x U n k=0 from pA λa ha=>by rw[xU a ha,jc]] at this;grind
 refine hx0 ?_
 by_cases hkn:k0<n
 .exact xU k0 hkn
 .have:=xV (k0-n) (by omega)
  rwa [show n+(k0-n)=k0 by omega] at this
theorem Ap.eq{V:Nat->Nat->Rat}(hT:∀i j,i<n->j<n->T i j=T j i)(h:Ap T n U)(h':Ap T n V)(σ:Rat):eI n (eJ T n σ U)=eI n (eJ T n σ V):=Nat.le_antisymm (h.le hT h' σ) (h'.le hT h σ)
end
section
variable{R ld:List (List Rat)}{pl:List Nat}
end
namespace Pj
def tb:Nat->Nat->Nat
 |_,0=>0
 |b,1=>b
 |b,2=>2*b+1
 |b,r+3=>b+tb (2*b+1) (r+2)+4
theorem Gp{a:Nat->Int}{x:Nat->Rat}{b t:Nat}:∀{r:Nat},(∀k,k<r->(a k).natAbs<2^b)->(∀k,k<r->∃z:Int,z.natAbs<=2^t/\x k=z)->∃z:Int,z.natAbs<=r*2^(b+t)/\aJ (λk=>(a k:Rat)*x k) r=z
 |0,_,_=>⟨0,by simp,rfl⟩
 |r+1,ha,h=>by
  obtain⟨z,z1,hz⟩:=Gp (a:=a) (r:=r) (λk hk=>ha k (by omega)) λk hk=>h k (by omega);obtain⟨y,y1,hy⟩:=h r (by omega);refine⟨z+a r*y,?_,?_⟩
  .have h1:(a r*y).natAbs<=2^(b+t):=by
    rw[eu,kK];exact ke (jC (ha r (by omega))) y1
   have:=qD z (a r*y);rw[nF];omega
  .rw[aJ,hz,hy,yh,gF]
theorem zZ{r:Nat}{a:Nat->Nat->Int}(hu:∀y:Nat->Rat,(∀i,i<m->aJ (λk=>(a i k:Rat)*y k) (r+1)=0)->∀k,k<r+1->y k=0):∃i,i<m/\a i r≠0:=by
 apply Classical.byContradiction;intro hn;have:=hu (λk=>if k=r then 1 else 0) (λi hi=>by
  rw[kF (k:=r) (by omega) λj hj hjr=>by rw[if_neg hjr,jG]];have:a i r=0:=Classical.byContradiction λz=>hn ⟨i,hi,z⟩;rw[this,if_pos rfl];rw[uE];rfl) r (by omega)
 rw[if_pos rfl] at this;exact NH this (by decide)
theorem Gq{r i0:Nat}{a:Nat->Nat->Int}{c:Nat->Int}{x:Nat->Rat}(hi0:i0<m)(hh:a i0 r≠0)(hx:∀i,i<m->aJ (λk=>(a i k:Rat)*x k) (r+1)=(c i:Rat))(hu:∀y:Nat->Rat,(∀i,i<m->aJ (λk=>(a i k:Rat)*y k) (r+1)=0)->∀k,k<r+1->y k=0) :
  (∀i,i<m->aJ (λk=>((a i k*a i0 r-a i r*a i0 k:Int):Rat)*x k) r=((c i*a i0 r-a i r*c i0:Int):Rat))/\∀y:Nat->Rat,(∀i,i<m->aJ (λk=>((a i k*a i0 r-a i r*a i0 k:Int):Rat)*y k) r=0)->∀k,k<r->y k=0:=by
 have hq:((a i0 r:Int):Rat)≠0:=λz=>hh (by exact_mod_cast z);have split:∀(y:Nat->Rat) (i:Nat),aJ (λk=>((a i k*a i0 r-a i r*a i0 k:Int):Rat)*y k) r=(a i0 r:Rat)*aJ (λk=>(a i k:Rat)*y k) r-(a i r:Rat)*aJ (λk=>(a i0 k:Rat)*y k) r:=λy i=>by
  rw[<-sumN_mul,<-sumN_mul,<-qw];refine da λk hk=>?_;rw[qJ,gF,gF];grind
 refine⟨λi hi=>?_,λy hy k hk=>?_⟩
 .rw[split]
  have e1:=hx i hi;have e2:=hx i0 hi0;rw[aJ] at e1 e2;rw[qJ,gF,gF,<-e1,<-e2];grind
 .have:=hu (λk=>if k=r then -(aJ (λk=>(a i0 k:Rat)*y k) r) / (a i0 r:Rat) else y k) (λi hi=>by
   rw[aJ,if_pos rfl,da (g:=λk=>(a i k:Rat)*y k) λk hk=>by rw[if_neg (by omega)]];have:=hy i hi;rw[split] at this;grind) k (by omega)
  rw[if_neg (by omega)] at this;exact this
theorem wO{x y z w:Int}(h1:x.natAbs<2^b)(h2:y.natAbs<2^b)(h3:z.natAbs<2^b)(h4:w.natAbs<2^b):(x*y-z*w).natAbs<2^(2*b+1):=by
 have p1:(x*y).natAbs<2^(2*b):=by
  rw[eu,show 2*b=b+b by omega,kK];exact qG h1 h2
 have p2:(z*w).natAbs<2^(2*b):=by
  rw[eu,show 2*b=b+b by omega,kK];exact qG h3 h4
 rw[rD];omega
theorem wP:∀(r b m:Nat) (a:Nat->Nat->Int) (c:Nat->Int) (x:Nat->Rat),r<=8->(∀i,i<m->∀k,k<r->(a i k).natAbs<2^b)->(∀i,i<m->(c i).natAbs<2^b)->(∀i,i<m->aJ (λk=>(a i k:Rat)*x k) r=(c i:Rat))->(∀y:Nat->Rat,(∀i,i<m->aJ (λk=>(a i k:Rat)*y k) r=0)->∀k,k<r->y k=0)->∃D:Int,D≠0/\D.natAbs<=2^tb b r/\∀k,k<r->∃z:Int,z.natAbs<=2^tb b r/\(D:Rat)*x k=(z:Rat)
 |0,b,m,a,c,x,_,_,_,_,_=>⟨1,by decide,by simp[tb],λk hk=>by omega⟩
 |1,b,m,a,c,x,_,hb,hc,hx,hu=>by
  obtain⟨i0,hi0,hh⟩:=zZ hu;refine⟨a i0 0,hh,jC (hb i0 hi0 0 (by omega)),λk hk=>⟨c i0,jC (hc i0 hi0),?_⟩⟩;have:=hx i0 hi0;rw[show k=0 by omega];simp only[aJ] at this;grind
 |2,b,m,a,c,x,_,hb,hc,hx,hu=>by
  obtain⟨i0,hi0,hh⟩:=zZ hu;obtain⟨h1,h2⟩:=Gq hi0 hh hx hu;obtain⟨i1,hi1,hh1⟩:=zZ (a:=λi k=>a i k*a i0 1-a i 1*a i0 k) h2;have e0:=hx i0 hi0;have e1:=hx i1 hi1;simp only[aJ] at e0 e1;refine⟨a i1 0*a i0 1-a i1 1*a i0 0,hh1,jC (wO (hb _ hi1 _ (by omega)) (hb _ hi0 _ (by omega)) (hb _ hi1 _ (by omega)) (hb _ hi0 _ (by omega))),λk hk=>?_⟩
  by_cases hk0:k=0
  .refine⟨c i1*a i0 1-a i1 1*c i0,jC (wO (hc _ hi1) (hb _ hi0 _ (by omega)) (hb _ hi1 _ (by omega)) (hc _ hi0)),?_⟩
   rw[hk0,qJ,gF,gF,qJ,gF,gF,<-e0,<-e1];grind
  .refine⟨a i1 0*c i0-a i0 0*c i1,jC (wO (hb _ hi1 _ (by omega)) (hc _ hi0) (hb _ hi0 _ (by omega)) (hc _ hi1)),?_⟩
   rw[show k=1 by omega,qJ,gF,gF,qJ,gF,gF,<-e0,<-e1];grind
 |r+3,b,m,a,c,x,hr,hb,hc,hx,hu=>by
  obtain⟨i0,hi0,hh⟩:=zZ hu;obtain⟨h1,h2⟩:=Gq hi0 hh hx hu;obtain⟨D,d0,dl,dx⟩:=wP (r+2) (2*b+1) m (λi k=>a i k*a i0 (r+2)-a i (r+2)*a i0 k) (λi=>c i*a i0 (r+2)-a i (r+2)*c i0) x (by omega) (λi hi k hk=>wO (hb _ hi _ (by omega)) (hb _ hi0 _ (by omega)) (hb _ hi _ (by omega)) (hb _ hi0 _ (by omega))) (λi hi=>wO (hc _ hi) (hb _ hi0 _ (by omega)) (hb _ hi _ (by omega)) (hc _ hi0)) h1 h2;have hmul:∀y z:Int,y.natAbs<=2^tb (2*b+1) (r+2)->z.natAbs<2^b->(y*z).natAbs<=2^(b+tb (2*b+1) (r+2)):=λy z hy hz=>by
   rw[eu,Nat.add_comm,kK];exact ke hy (jC hz)
  have h16:2^(b+tb (2*b+1) (r+2)+4)=2^(b+tb (2*b+1) (r+2))*16:=by rw[kK]
  refine⟨D*a i0 (r+2),pN d0 hh,?_,λk hk=>?_⟩
  .have:=hmul D _ dl (hb i0 hi0 (r+2) (by omega))
   rw[tb,h16];omega
  .by_cases e:k=r+2
   .subst e
    obtain⟨z,z1,hz⟩:=Gp (a:=a i0) (x:=λk=>(D:Rat)*x k) (r:=r+2) (λk hk=>hb i0 hi0 k (by omega)) dx;refine⟨D*c i0-z,?_,?_⟩
    .have h3:=hmul D _ dl (hc i0 hi0)
     have h4:=yb (D*c i0) z;have h5:(r+2)*2^(b+tb (2*b+1) (r+2))<=8*2^(b+tb (2*b+1) (r+2)):=mq _ (by omega);rw[tb,h16];omega
    .have e2:=hx i0 hi0
     rw[aJ] at e2;have:aJ (λj=>(a i0 j:Rat)*((D:Rat)*x j)) (r+2)=(D:Rat)*aJ (λj=>(a i0 j:Rat)*x j) (r+2):=by
      rw[<-sumN_mul];exact da λj _=>by grind
     rw[this] at hz;rw[qJ,gF,gF,<-hz,<-e2];grind
   .obtain⟨z,z1,hz⟩:=dx k (by omega)
    refine⟨z*a i0 (r+2),?_,?_⟩
    .have:=hmul z _ z1 (hb i0 hi0 (r+2) (by omega))
     rw[tb,h16];omega
    .rw[gF,gF,<-hz]
     grind
def bI(A:Nat->Nat->Int)(n:Nat)(u v:Nat->Int):Int:=sumI (λi=>u i*sumI (λj=>A i j*v j) n) n
theorem bI_cast(A:Nat->Nat->Int)(n:Nat)(u v:Nat->Int):bf (λa b=>((A a b:Int):Rat)) n (λi=>(u i:Rat)) (λi=>(v i:Rat))=((bI A n u v:Int):Rat):=by
 unfold bf bI;rw[<-CL];refine da λi _=>?_;rw[gF,<-CL];congr 1;exact da λj _=>by rw[gF]
theorem sumI_bd{f:Nat->Int}{c:Nat}:∀{n:Nat},(∀i,i<n->(f i).natAbs<=c)->(sumI f n).natAbs<=n*c
 |0,_=>by simp[sumI]
 |n+1,h=>by
  have h1:=sumI_bd (f:=f) (n:=n) λi hi=>h i (by omega);have h2:=h n (by omega);have h3:=qD (sumI f n) (f n);rw[sumI,nF];omega
theorem Gr{u v:Nat->Int}(hn:n<=5)(hA:∀i j,i<n->j<n->(A i j).natAbs<=50)(hu:∀i,i<n->(u i).natAbs<=2)(hv:∀i,i<n->(v i).natAbs<=2):(bI A n u v).natAbs<2^13:=by
 have h1:∀i,i<n->(sumI (λj=>A i j*v j) n).natAbs<=500:=λi hi=>by
  have:=sumI_bd (f:=λj=>A i j*v j) (c:=100) (n:=n) λj hj=>by
   rw[eu];exact ke (hA i j hi hj) (hv j hj)
  have:n*100<=5*100:=mq _ hn;omega
 have:=sumI_bd (f:=λi=>u i*sumI (λj=>A i j*v j) n) (c:=1000) (n:=n) λi hi=>by
  rw[eu];exact ke (hu i hi) (h1 i hi)
 have:n*1000<=5*1000:=mq _ hn;unfold bI;omega
def CV:∀{k:Nat},k<=4->tb 13 k<=159
 |0,_=>by decide
 |1,_=>by decide
 |2,_=>by decide
 |3,_=>by decide
 |4,_=>by decide
 |k+5,h=>by omega
structure Mt(A:Nat->Nat->Int)(n k:Nat)(M:Nat->Nat->Int):Prop where
 sz:∀i,i<k->∀j,j<n->(M i j).natAbs<=2
 one:∀y:Nat->Rat,(∀i,i<k->aJ (λj=>((bI A n (M i) (M j):Int):Rat)*y j) k=0)->∀j,j<k->y j=0
def Lt(A:Nat->Nat->Int)(n k:Nat)(M:Nat->Nat->Int)(v:Nat->Int)(r:Nat->Rat):Prop:=
 (∃x:Nat->Rat,∀j,j<n->r j=(v j:Rat)-aJ (λi=>x i*(M i j:Rat)) k)/\∀i,i<k->bf (λa b=>((A a b:Int):Rat)) n (λj=>(M i j:Rat)) r=0
section
variable{M:Nat->Nat->Int}
theorem Lt.lf(hn:n<=5)(hA:∀i j,i<n->j<n->(A i j).natAbs<=50)(mt:Mt A n k M)(hk:k<=4){v:Nat->Int}(hv:∀j,j<n->(v j).natAbs<=2){r:Nat->Rat}(h:Lt A n k M v r):Lf 163 n (c9 n r):=by
 obtain⟨⟨x,hx⟩,h0⟩:=h;have sys:∀i,i<k->aJ (λj=>((bI A n (M i) (M j):Int):Rat)*x j) k=((bI A n (M i) v:Int):Rat):=λi hi=>by
  have e:=h0 i hi;rw[uw (u':=λj=>(M i j:Rat)) (v':=λj=>(v j:Rat)-1*e9 x (λi j=>(M i j:Rat)) k j) (λ_ _=>rfl) (λj hj=>by rw[hx j hj];unfold e9;grind),rk,tL,bI_cast] at e;have e2:aJ (λj=>((bI A n (M i) (M j):Int):Rat)*x j) k=aJ (λa=>x a*bf (λa b=>((A a b:Int):Rat)) n (λj=>(M i j:Rat)) λj=>(M a j:Rat)) k:=da λa _=>by rw[bI_cast];grind
  rw[e2];grind
 obtain⟨D,d0,dl,dx⟩:=wP k 13 k (λi j=>bI A n (M i) (M j)) (λi=>bI A n (M i) v) x (by omega) (λi hi j hj=>Gr hn hA (mt.sz i hi) (mt.sz j hj)) (λi hi=>Gr hn hA (mt.sz i hi) hv) sys mt.one;have tb4:=CV hk;have p2:2^tb 13 k<=2^159:=j8 (by decide) tb4;have e163:2^163=2^159*16:=by decide
 have hz:∀j,j<n->∃z:Int,z.natAbs<2^163/\r j=Rat.divInt z D:=λj hj=>by
  have hD:((D:Int):Rat)≠0:=λz=>d0 (by exact_mod_cast z);obtain⟨z,z1,z2⟩:∃z:Int,z.natAbs<=k*(2^159*2)/\(D:Rat)*aJ (λi=>x i*(M i j:Rat)) k=(z:Rat):=by
   have:∀m,m<=k->∃z:Int,z.natAbs<=m*(2^159*2)/\(D:Rat)*aJ (λi=>x i*(M i j:Rat)) m=(z:Rat):=λm=>by
    induction m with
    |zero=>exact λ_=>⟨0,by simp,by simp[aJ]⟩
    |succ m ih=>
     intro hm;obtain⟨z,z1,z2⟩:=ih (by omega);obtain⟨w,w1,w2⟩:=dx m (by omega);refine⟨z+w*M m j,?_,?_⟩
     .have:=qD z (w*M m j)
      have h2:(w*M m j).natAbs<=2^159*2:=by
       rw[eu];exact ke (gv w1 p2) (mt.sz m (by omega) j hj)
      rw[nF];omega
     .rw[aJ,yh,gF,<-z2,<-w2]
      grind
   exact this k (bP _)
  refine⟨D*v j-z,?_,?_⟩
  .have h1:=yb (D*v j) z
   have h2:(D*v j).natAbs<=2^159*2:=by
    rw[eu];exact ke (gv dl p2) (hv j hj)
   have h3:k*(2^159*2)<=4*(2^159*2):=mq _ hk;omega
  .rw[hx j hj,yi,qJ,gF,<-z2,hU]
   have:=qH _ hD;grind
 obtain⟨c,hc⟩:∃c:Nat->Int,∀j,j<n->(c j).natAbs<2^163/\r j=Rat.divInt (c j) D:=⟨λj=>if h:j<n then Classical.choose (hz j h) else 0,λj hj=>by dsimp only;rw[dif_pos hj];exact Classical.choose_spec (hz j hj)⟩
 refine⟨(List.range n).map c,D,by simp,d0,lP (gv dl p2) (by omega),λy hy=>?_,?_⟩
 .obtain⟨j,hj,rfl⟩:=YbS.mp hy
  exact(hc j (Yah.mp hj)).1
 .unfold c9
  rw[dk];exact ja λj hj=>(hc j (Yah.mp hj)).2
end
section
variable{M:Nat->Nat->Int}
abbrev cA(A:Nat->Nat->Int):Nat->Nat->Rat:=λa b=>((A a b:Int):Rat)
def nxt(M:Nat->Nat->Int)(k:Nat)(v:Nat->Int):Nat->Nat->Int:=λi=>if i<k then M i else v
theorem Lt.v{v:Nat->Int}{l:Nat->Rat}(h:Lt A n k M v l)(hs:∀i j,i<n->j<n->A i j=A j i){w:Nat->Rat}(hw:∀i,i<k->bf (cA A) n (λj=>(M i j:Rat)) w=0):bf (cA A) n (λj=>(v j:Rat)) w=bf (cA A) n l w:=by
 obtain⟨⟨x,hx⟩,_⟩:=h;have sy:∀i j,i<n->j<n->cA A i j=cA A j i:=λi j hi hj=>by show((A i j:Int):Rat)=_;rw[hs i j hi hj]
 rw[j4 sy l w,uw (u:=w) (u':=w) (v:=l) (v':=λj=>(v j:Rat)-1*e9 x (λi j=>(M i j:Rat)) k j) (λ_ _=>rfl) (λj hj=>by rw[hx j hj];unfold e9;grind),rk,tL,pA λa ha=>by rw[j4 sy,hw a ha,jG],j4 sy];grind
theorem Mt.next(m:Mt A n k M)(hs:∀i j,i<n->j<n->A i j=A j i){v:Nat->Int}(hv:∀j,j<n->(v j).natAbs<=2){l:Nat->Rat}(h:Lt A n k M v l)(h0:bf (cA A) n l l≠0):Mt A n (k+1) (nxt M k v):=by
 have sy:∀i j,i<n->j<n->cA A i j=cA A j i:=λi j hi hj=>by show((A i j:Int):Rat)=_;rw[hs i j hi hj]
 refine⟨λi hi j hj=>?_,λy hy=>?_⟩
 .unfold nxt
  split
  .exact m.sz i ‹_› j hj
  .exact hv j hj
 have hw:∀i,i<k+1->bf (cA A) n (λj=>(nxt M k v i j:Rat)) (e9 y (λi j=>(nxt M k v i j:Rat)) (k+1))=0:=λi hi=>by
  rw[tL,<-hy i hi];exact da λj _=>by rw[bI_cast];grind
 have old:∀i,i<k->nxt M k v i=M i:=λi hi=>by unfold nxt;rw[if_pos hi]
 have new:nxt M k v k=v:=by unfold nxt;rw[if_neg (gZ k)]
 have e1:=h.v hs (w:=e9 y (λi j=>(nxt M k v i j:Rat)) (k+1)) λi hi=>by have:=hw i (by omega);rwa [old i hi] at this
 have e2:=hw k (by omega);rw[new,e1,tL,aJ,pA λa ha=>by rw[old a ha,j4 sy,h.2 a ha,jG],new,j4 sy l,h.v hs h.2] at e2;have yk:y k=0:=by
  rcases YcW.mp (show y k*bf (cA A) n l l=0 by grind) with e|e
  .exact e
  .exact NH e h0
 have rest:=m.one y λi hi=>by
  have:=hy i (by omega);rw[aJ,yk,jG,nJ] at this;rw[<-this];exact da λj hj=>by rw[old i hi,old j hj]
 intro j hj
 by_cases e:j=k
 .rw[e];exact yk
 .exact rest j (by omega)
theorem Lt.next{v:Nat->Int}{l r:Nat->Rat}(h:Lt A n k M v l)(h':Lt A n k M v' r)(hs:∀i j,i<n->j<n->A i j=A j i)(h0:bf (cA A) n l l≠0):Lt A n (k+1) (nxt M k v) v' (λj=>r j-bf (cA A) n r l/bf (cA A) n l l*l j):=by
 have sy:∀i j,i<n->j<n->cA A i j=cA A j i:=λi j hi hj=>by show((A i j:Int):Rat)=_;rw[hs i j hi hj]
 have old:∀i,i<k->nxt M k v i=M i:=λi hi=>by unfold nxt;rw[if_pos hi]
 have new:nxt M k v k=v:=by unfold nxt;rw[if_neg (gZ k)]
 have z:∀i,i<k->bf (cA A) n (λj=>(M i j:Rat)) (λj=>r j-bf (cA A) n r l/bf (cA A) n l l*l j)=0:=λi hi=>by rw[rk,h.2 i hi,h'.2 i hi];grind
 refine⟨?_,λi hi=>?_⟩
 .obtain⟨x,hx⟩:=h.1
  obtain⟨x',hx'⟩:=h'.1;refine⟨λi=>if i<k then x' i-bf (cA A) n r l/bf (cA A) n l l*x i else bf (cA A) n r l/bf (cA A) n l l,λj hj=>?_⟩;rw[aJ];dsimp only;generalize bf (cA A) n r l/bf (cA A) n l l=q;rw[if_neg (gZ k),new,da (g:=λi=>x' i*(M i j:Rat)-q*(x i*(M i j:Rat))) (λi hi=>by rw[if_pos hi,old i hi];grind),qw,sumN_mul,hx j hj,hx' j hj];grind
 .by_cases e:i=k
  .subst e
   rw[new];refine(h.v hs z).trans ?_;rw[rk,j4 sy l r];have:=qH _ h0;rw[hU];grind
  .rw[old i (by omega)]
   exact z i (by omega)
theorem Lt.add{v:Nat->Int}{l r:Nat->Rat}(h:Lt A n k M v l)(h':Lt A n k M v' r):Lt A n k M (λj=>v j+v' j) (λj=>l j - -1*r j):=by
 refine⟨?_,λi hi=>by rw[rk,h.2 i hi,h'.2 i hi];grind⟩;obtain⟨x,hx⟩:=h.1;obtain⟨x',hx'⟩:=h'.1;refine⟨λi=>x i - -1*x' i,λj hj=>?_⟩;dsimp only;rw[da (g:=λi=>x i*(M i j:Rat) - -1*(x' i*(M i j:Rat))) (λi hi=>by grind),qw,sumN_mul,hx j hj,hx' j hj,yh];grind
end
end Pj
def bZ(s:List Int)(n:Nat)(u v:List Rat):Rat:=cE u (cT s n v)
def lH(s:List Int)(n:Nat):List (List Rat)->Option (List Rat)
 |[]=>none
 |l::L=>if bZ s n l l=0 then lH s n L else some l
def gD(s:List Int)(n:Nat):Nat->List (List Rat)->Option (Nat×List Rat)
 |_,[]=>none
 |k,r::R=>match lH s n (r::R.map λo=>bJ r (-1) o) with
  |some l=>some (k,l)
  |none=>gD s n (k+1) R
def gW(s:List Int)(n:Nat)(l r:List Rat):List Rat:=bJ r (bZ s n r l/bZ s n l l) l
def tM(s:List Int)(n:Nat):Nat->List (List Rat)->List (List Rat)->List (List Rat)
 |0,f,R=>f++R
 |k+1,f,R=>match gD s n 0 R with
  |none=>f++R
  |some (a,l)=>tM s n k (f++[l]) ((R.take a++R.drop (a+1)).map (gW s n l))
def fH(s:List Int)(n:Nat):List (List Rat):=tM s n n [] ((List.range n).map (bC n))
theorem Gu{s:List Int}{n:Nat}:∀{L:List (List Rat)},lH s n L=none->∀l∈L,bZ s n l l=0
 |[],_,l,hl=>by cases hl
 |x::L,h,l,hl=>by
  rw[lH] at h;split at h
  .rcases Yan.mp hl with rfl|hl
   .assumption
   .exact Gu h l hl
  .cases h
theorem Gv{s:List Int}{n:Nat}{l:List Rat}:∀{L:List (List Rat)},lH s n L=some l->l∈L/\bZ s n l l≠0
 |[],h=>by cases h
 |x::L,h=>by
  rw[lH] at h;split at h
  .obtain⟨h1,h2⟩:=Gv h
   exact⟨gI _ h1,h2⟩
  .rename_i hx
   cases h;exact⟨j5 ..,hx⟩
theorem Gw{s:List Int}{n:Nat}:∀{k:Nat} {R:List (List Rat)},gD s n k R=none->(∀r∈R,bZ s n r r=0)/\R.Pairwise λr o=>bZ s n (bJ r (-1) o) (bJ r (-1) o)=0
 |_,[],_=>⟨by simp,.nil⟩
 |k,r::R,h=>by
  rw[gD] at h;cases e:lH s n (r::R.map λo=>bJ r (-1) o) with
  |some l=>rw[e] at h;cases h
  |none=>
   rw[e] at h;obtain⟨h1,h2⟩:=Gw (k:=k+1) (R:=R) h;have z:=Gu e;refine⟨λx hx=>?_,YcP.mpr ⟨λo ho=>z _ (gI _ (rF ho)),h2⟩⟩;rcases Yan.mp hx with rfl|hx
   .exact z _ (j5 ..)
   .exact h1 x hx
theorem Gx{s:List Int}{n:Nat}{a:Nat}{l:List Rat}:∀{k:Nat} {R:List (List Rat)},gD s n k R=some (a,l)->∃i,a=k+i/\i<R.length/\(l=R.getD i []\/∃o∈R.drop (i+1),l=bJ (R.getD i []) (-1) o)/\bZ s n l l≠0
 |_,[],h=>by cases h
 |k,r::R,h=>by
  rw[gD] at h;cases e:lH s n (r::R.map λo=>bJ r (-1) o) with
  |some l'=>
   rw[e] at h;cases h;obtain⟨h1,h2⟩:=Gv e;refine⟨0,rfl,by simp,?_,h2⟩;rcases Yan.mp h1 with e1|h1
   .exact .inl e1
   .obtain⟨o,ho,e1⟩:=YbS.mp h1
    exact .inr ⟨o,ho,e1.symm⟩
  |none=>
   rw[e] at h;obtain⟨i,h1,h2,h3,h4⟩:=Gx (k:=k+1) (R:=R) h;exact⟨i+1,by omega,by simpa using h2,by simpa using h3,h4⟩
def gq(r:List Rat):Nat->Rat:=λj=>r.getD j 0
abbrev sA(s:List Int)(n:Nat):Nat->Nat->Int:=tA (tbl s n)
section
theorem ml(h:IsSl s n){u v:List Rat}(hu:u.length=n)(hv:v.length=n):bZ s n u v=bf (Pj.cA (sA s n)) n (gq u) (gq v):=by
 unfold bZ;rw[lG u _ n hu (Gs.tims_len v)];exact da λi hi=>by rw[Gs.tims_at h hv hi];rfl
def tN{o:List Rat}(hr:r.length=n)(ho:o.length=n):(bJ r q o).length=n:=by unfold bJ;rw[nI];omega
theorem z5{o:List Rat}(hr:r.length=n)(ho:o.length=n):∀j,j<n->gq (bJ r q o) j=gq r j-q*gq o j:=λj hj=>by
 unfold gq bJ;simp only[bD];rw[bG (by rw[nI];omega),bG (by omega),bG (by omega),tZ];rfl
theorem CW(hr:r.length=n):c9 n (gq r)=r:=by
 refine tT λi=>?_;unfold c9 gq;rw[cI];rcases gg i n with hi|hi
 .rw[jD hi,bG (by omega)]
  show some (r.getD i 0)=_;rw[bD,bG (by omega)];rfl
 .rw[eK (by rw[jE];exact hi),eK (by omega)]
  rfl
theorem CY(h:IsSl s n)(ev:s.reverse=s):∀i j,i<n->j<n->sA s n i j=sA s n j i:=λi j hi hj=>by
 have e1:=ml h (j0 n i) (j0 n j);have e2:=ml h (j0 n j) (j0 n i);have e3:bZ s n (bC n i) (bC n j)=bZ s n (bC n j) (bC n i):=by
  unfold bZ;rw[Fs h (j0 n j) (j0 n i),ev]
 have key:∀a b,a<n->b<n->bf (Pj.cA (sA s n)) n (gq (bC n a)) (gq (bC n b))=((sA s n a b:Int):Rat):=λa b ha hb=>by
  unfold bf;rw[kF ha λi hi ne=>by show(bC n a).getD i 0*_=0;rw[pB hi,if_neg ne,jc],kF hb λj hj ne=>by show _*(bC n b).getD j 0=0;rw[pB hj,if_neg ne,jG]];show(bC n a).getD a 0*(_*(bC n b).getD b 0)=_;rw[pB ha,pB hb,if_pos rfl,if_pos rfl,rG,uE]
 rw[e1,e2,key i j hi hj,key j i hj hi] at e3
 exact_mod_cast e3
theorem z6(h:IsSl s n):∀i j,i<n->j<n->(sA s n i j).natAbs<=50:=λi j hi hj=>by
 show(tA (tbl s n) i j).natAbs<=50;rw[Gs.tA_ent h hi hj];have hl:=h.len;unfold ent;rw[bD,bG (by omega)];have:=h.b _ (jF (l:=s) (n:=n-1-i+j) (by omega));show(s[n-1-i+j]).natAbs<=50;omega
structure Sg(s:List Int)(n:Nat)(f R:List (List Rat)):Prop where
 len:f.length+R.length=n
 wf:∀r∈f,r.length=n
 wR:∀r∈R,r.length=n
 ex:∃M,Pj.Mt (sA s n) n f.length M/\∀r∈R,∃v:Nat->Int,(∀j,j<n->(v j).natAbs<=1)/\Pj.Lt (sA s n) n f.length M v (gq r)
 lf:∀r∈f,Lf 163 n r
 ff:f.Pairwise λu v=>bZ s n u v=0
 fR:∀u∈f,∀r∈R,bZ s n u r=0
 fu:∀x:List Rat,x.length=n->(∀r∈f++R,cE r x=0)->∀k,k<n->x.getD k 0=0
theorem Sg.rows(h:IsSl s n){f R:List (List Rat)}(g:Sg s n f R):∀r∈R,Lf 163 n r:=λr hr=>by
 obtain⟨M,m,hM⟩:=g.ex;obtain⟨v,hv,l⟩:=hM r hr;have hl:=g.len;have:0<R.length:=AI hr;have:=l.lf h.n5 (z6 h) m (by have:=h.n5;omega) λj hj=>gv (hv j hj) (by decide)
 rwa [CW (g.wR r hr)] at this
theorem Sg.start(h:IsSl s n):Sg s n [] ((List.range n).map (bC n)):=by
 refine⟨by simp,by simp,λr hr=>?_,⟨λ_ _=>0,⟨λi hi=>by simp at hi,λy _ j hj=>by simp at hj⟩,λr hr=>?_⟩,by simp,.nil,by simp,λx hx h0 k hk=>?_⟩
 .obtain⟨k,_,rfl⟩:=YbS.mp hr;exact j0 n k
 .obtain⟨k,hk,rfl⟩:=YbS.mp hr
  refine⟨λj=>if j=k then 1 else 0,λj hj=>by dsimp only;split<;>decide,⟨λ_=>0,λj hj=>?_⟩,λi hi=>by simp at hi⟩;show(bC n k).getD j 0=_;rw[pB hj];simp only[j9,aJ];split<;>grind
 .have:=h0 (bC n k) (by simp;exact⟨k,hk,rfl⟩)
  rw[lG _ x n (j0 n k) hx,kF hk λi hi ne=>by rw[pB hi,if_neg ne,jc],pB hk,if_pos rfl,rG] at this;exact this
end
section
def z7(h:IsSl s n)(ev:s.reverse=s){u v:List Rat}(hu:u.length=n)(hv:v.length=n):bZ s n u v=bZ s n v u:=by
 unfold bZ;rw[Fs h hv hu,ev]
theorem uz(h:IsSl s n){u v w:List Rat}(hu:u.length=n)(hv:v.length=n)(hw:w.length=n):bZ s n u (bJ v q w)=bZ s n u v-q*bZ s n u w:=by
 rw[ml h hu (tN hv hw),ml h hu hv,ml h hu hw,uw (u':=gq u) (v':=λj=>gq v j-q*gq w j) (λ_ _=>rfl) (z5 hv hw),rk]
structure Ld(s:List Int)(n:Nat)(f R:List (List Rat))(a:Nat)(l:List Rat):Prop where
 at_:a<R.length
 len:l.length=n
 le:l=R.getD a []\/∃o∈R.take a++R.drop (a+1),l=bJ (R.getD a []) (-1) o
 nz:bZ s n l l≠0
theorem Sg.ld{f R:List (List Rat)}(g:Sg s n f R){a:Nat}(e:gD s n 0 R=some (a,l)):Ld s n f R a l:=by
 obtain⟨i,h1,h2,h3,h4⟩:=Gx e;obtain rfl:a=i:=by omega
 have ha:=g.wR _ (iy h2);rcases h3 with rfl|⟨o,ho,rfl⟩
 .exact⟨h2,ha,.inl rfl,h4⟩
 .exact⟨h2,tN ha (g.wR _ (mr ho)),.inr ⟨o,g6 _ ho,rfl⟩,h4⟩
theorem Ld.lt(h:IsSl s n){f R:List (List Rat)}(g:Sg s n f R){a:Nat}(d:Ld s n f R a l){M:Nat->Nat->Int}(hM:∀r∈R,∃v:Nat->Int,(∀j,j<n->(v j).natAbs<=1)/\Pj.Lt (sA s n) n f.length M v (gq r)):∃v:Nat->Int,(∀j,j<n->(v j).natAbs<=2)/\Pj.Lt (sA s n) n f.length M v (gq l):=by
 obtain⟨v,hv,hl⟩:=hM _ (iy d.at_);rcases d.le with e|⟨o,ho,e⟩
 .rw[e]
  exact⟨v,λj hj=>gv (hv j hj) (by decide),hl⟩
 .obtain⟨v',hv',hl'⟩:=hM o (jq ho)
  refine⟨λj=>v j+v' j,λj hj=>?_,?_⟩
  .have:=qD (v j) (v' j)
   have:=hv j hj;have:=hv' j hj;dsimp only;omega
  .have:=hl.add hl'
   obtain⟨⟨x,hx⟩,h2⟩:=this;have eq:=z5 (q:=-1) (g.wR _ (iy d.at_)) (g.wR _ (jq ho));rw[<-e] at eq;exact⟨⟨x,λj hj=>(eq j hj).trans (hx j hj)⟩,λi hi=>by rw[uw (λ_ _=>rfl) eq];exact h2 i hi⟩
theorem Ld.lf(h:IsSl s n){f R:List (List Rat)}(g:Sg s n f R){a:Nat}{l:List Rat}(d:Ld s n f R a l):Lf 163 n l:=by
 obtain⟨M,m,hM⟩:=g.ex;obtain⟨v,hv,hl⟩:=d.lt h g hM;have:=d.at_;have:=g.len;have:=hl.lf h.n5 (z6 h) m (by have:=h.n5;omega) hv
 rwa [CW d.len] at this
def Ma(hr:r.length=n)(hl:l.length=n):(gW s n l r).length=n:=tN hr hl
theorem Ld.out(h:IsSl s n)(ev:s.reverse=s){f R:List (List Rat)}(g:Sg s n f R){a:Nat}(d:Ld s n f R a l):∀u∈f,bZ s n u l=0:=λu hu=>by
 have e1:=g.fR u hu _ (iy d.at_);rcases d.le with e|⟨o,ho,e⟩
 .rw[e];exact e1
 .rw[e,uz h (g.wf u hu) (g.wR _ (iy d.at_)) (g.wR _ (jq ho)),e1,g.fR u hu o (jq ho)]
  grind
theorem Sg.step(h:IsSl s n)(ev:s.reverse=s){f R:List (List Rat)}(g:Sg s n f R){a:Nat}(d:Ld s n f R a l):Sg s n (f++[l]) ((R.take a++R.drop (a+1)).map (gW s n l)):=by
 have hlen:=g.len;have ha:=d.at_;have ra:=g.wR _ (iy d.at_);have hl:=d.len;have sy:=CY h ev;have nz:bf (Pj.cA (sA s n)) n (gq l) (gq l)≠0:=by rw[<-ml h hl hl];exact d.nz
 have wa:∀r∈R,(gW s n l r).length=n:=λr hr=>Ma (g.wR r hr) hl;have own:∀r∈R,bZ s n l (gW s n l r)=0:=λr hr=>by
  unfold gW;rw[uz h hl (g.wR r hr) hl,z7 h ev hl (g.wR r hr),hU];have:=qH _ d.nz;grind
 refine⟨by simp;omega,λr hr=>?_,λr hr=>?_,?_,λr hr=>?_,?_,λu hu r hr=>?_,λx hx h0=>?_⟩
 .rcases Yao.mp hr with hr|hr
  .exact g.wf r hr
  .rw[Yco.mp hr];exact hl
 .obtain⟨r0,h0,rfl⟩:=YbS.mp hr
  exact wa r0 (jq h0)
 .obtain⟨M,m,hM⟩:=g.ex
  obtain⟨v,hv,lt⟩:=d.lt h g hM;refine⟨Pj.nxt M f.length v,?_,λr hr=>?_⟩
  .rw[dM,j7]
   exact m.next sy hv lt nz
  .obtain⟨r0,h0,rfl⟩:=YbS.mp hr
   obtain⟨v',hv',lt'⟩:=hM r0 (jq h0);rw[dM,j7];obtain⟨⟨x,hx⟩,h2⟩:=lt.next lt' sy nz;have eq:∀j,j<n->gq (gW s n l r0) j=gq r0 j-bf (Pj.cA (sA s n)) n (gq r0) (gq l)/bf (Pj.cA (sA s n)) n (gq l) (gq l)*gq l j:=λj hj=>by
    unfold gW;rw[z5 (g.wR r0 (jq h0)) hl j hj,ml h (g.wR r0 (jq h0)) hl,ml h hl hl]
   exact⟨v',hv',⟨x,λj hj=>(eq j hj).trans (hx j hj)⟩,λi hi=>by rw[uw (λ_ _=>rfl) eq];exact h2 i hi⟩
 .rcases Yao.mp hr with hr|hr
  .exact g.lf r hr
  .rw[Yco.mp hr];exact d.lf h g
 .exact YcO.mpr ⟨g.ff,by simp,λu hu v hv=>by rw[Yco.mp hv];exact d.out h ev g u hu⟩
 .obtain⟨r0,h0,rfl⟩:=YbS.mp hr
  rcases Yao.mp hu with hu|hu
  .unfold gW
   rw[uz h (g.wf u hu) (g.wR r0 (jq h0)) hl,g.fR u hu r0 (jq h0),d.out h ev g u hu];grind
  .rw[Yco.mp hu]
   exact own r0 (jq h0)
 .have zl:cE l x=0:=h0 l (by simp)
  have zc:∀r∈R.take a++R.drop (a+1),cE r x=0:=λr hr=>by
   have:=h0 (gW s n l r) (g6 _ (rF hr));unfold gW at this;rw[uu (by rw[g.wR r (jq hr),hl]),zl] at this;grind
  refine g.fu x hx λr hr=>?_;rcases Yao.mp hr with hr|hr
  .exact h0 r (by simp[hr])
  .rcases(F9 ha r).mp hr with rfl|hr
   .rcases d.le with e|⟨o,ho,e⟩
    .rw[<-e];exact zl
    .rw[e,uu (by rw[ra,g.wR o (jq ho)]),zc o ho] at zl
     grind
   .exact zc r hr
structure Pa(s:List Int)(n:Nat)(P:List (List Rat)):Prop where
 len:P.length=n
 lf:∀r∈P,Lf 163 n r
 ap:P.Pairwise λu v=>bZ s n u v=0
 fu:∀x:List Rat,x.length=n->(∀r∈P,cE r x=0)->∀k,k<n->x.getD k 0=0
theorem Sg.fin(h:IsSl s n)(ev:s.reverse=s){f R:List (List Rat)}(g:Sg s n f R)(e:gD s n 0 R=none):Pa s n (f++R):=by
 obtain⟨h1,h2⟩:=Gw e;refine⟨by rw[dM];exact g.len,λr hr=>?_,YcO.mpr ⟨g.ff,?_,g.fR⟩,g.fu⟩
 .rcases Yao.mp hr with hr|hr
  .exact g.lf r hr
  .exact g.rows h r hr
 .refine h2.imp_of_mem λ{r o} hr ho hz=>?_
  have wr:=g.wR r hr;have wo:=g.wR o ho;rw[uz h (tN wr wo) wr wo,z7 h ev (tN wr wo) wr,z7 h ev (tN wr wo) wo,uz h wr wr wo,uz h wo wr wo,h1 r hr,h1 o ho,z7 h ev wo wr] at hz;grind
theorem Gy(h:IsSl s n)(ev:s.reverse=s):∀(k:Nat) {f R:List (List Rat)},Sg s n f R->R.length<=k->Pa s n (tM s n k f R)
 |0,f,R,g,hk=>by
  have:R=[]:=List.length_eq_zero_iff.mp (by omega);subst this;exact g.fin h ev rfl
 |k+1,f,R,g,hk=>by
  rw[tM];cases e:gD s n 0 R with
  |none=>exact g.fin h ev e
  |some al=>
   obtain⟨a,l⟩:=al;have d:=g.ld e;have ha:=d.at_;exact Gy h ev k (g.step h ev d) (by rw[bL,dM,jr,kI];omega)
def z8(h:IsSl s n)(ev:s.reverse=s):Pa s n (fH s n):=Gy h ev n (Sg.start h) (by simp)
def pU(P:List (List Rat)):Nat->Nat->Rat:=λa=>gq (P.getD a [])
theorem Pa.ap'(h:IsSl s n)(ev:s.reverse=s)(p:Pa s n P):Ap (Pj.cA (sA s n)) n (pU P):=by
 have wl:∀a,a<n->(P.getD a []).length=n:=λa ha=>(p.lf _ (iy (by rw[p.len];exact ha))).len;refine⟨λa b ha hb ne=>?_,λx hx k hk=>?_⟩
 .have key:∀a b,a<b->b<n->bf (Pj.cA (sA s n)) n (pU P a) (pU P b)=0:=λa b hab hb=>by
   have hp:=Yc2.mp p.ap a b (by rw[p.len];omega) (by rw[p.len];exact hb) hab;unfold pU;rw[<-ml h (wl a (by omega)) (wl b hb),bD,bD,bG (by rw[p.len];omega),bG (by rw[p.len];exact hb)];exact hp
  rcases gg a b with l|l
  .exact key a b l hb
  .rw[j4 λi j hi hj=>by show((sA s n i j:Int):Rat)=_;rw[CY h ev i j hi hj]]
   exact key b a (by omega) ha
 .have:=p.fu (c9 n x) (zY n x) (λr hr=>?_) k hk
  .rwa [CU x hk] at this
  .obtain⟨a,ha,e⟩:=Ybx.mp hr
   have e':P.getD a []=r:=by rw[bD,bG ha];exact e
   rw[p.len] at ha;have:=hx a ha;refine Eq.trans ?_ this;rw[<-e',lG _ _ n (wl a ha) (zY n x)];exact da λj hj=>by rw[CU x hj];rfl
theorem Pa.ind(h:IsSl s n)(p:Pa s n P):(dm P n).ld.length=n:=by
 have hR:∀r∈P,r.length=n:=λr hr=>(p.lf r hr).len;have ec:=CK hR n (bP _);have:∀q,q<n->q∈(dm P n).pl:=λq hq=>Classical.byContradiction λhn=>by
  obtain⟨l,f0⟩:=ec.free hq hn;have:=p.fu _ l f0 q hq;rw[Zh _ _ _ (by rw[j0];exact ec.lt) hn,pB hq,if_pos rfl] at this;exact NH this (by decide)
 have e:(dm P n).pl=List.range n:=CJ ec.asc (Ga n) λx=>⟨λhx=>Yah.mpr (ec.lt x hx),λhx=>this x (Yah.mp hx)⟩;rw[ec.ll,e,jE]
end
def mm(u:Nat->Rat)(q:Rat)(w:Nat->Rat):Nat->Rat:=λk=>u k-q*w k
section
variable{T:Nat->Nat->Rat}
theorem Gz(hT:∀i j,i<n->j<n->T i j=T j i)(u w v:Nat->Rat)(q:Rat):bf T n (mm u q w) v=bf T n u v-q*bf T n w v:=by
 rw[j4 hT,show bf T n v (mm u q w)=bf T n v u-q*bf T n v w from rk v u w q,j4 hT v u,j4 hT v w]
def uA(u v w:Nat->Rat)(q:Rat):bf T n u (mm v q w)=bf T n u v-q*bf T n u w:=rk u v w q
theorem GA{u w x:Nat->Rat}:aJ (λk=>mm u q w k*x k) n=aJ (λk=>u k*x k) n-q*aJ (λk=>w k*x k) n:=by
 rw[<-sumN_mul,<-qw];exact da λk _=>by unfold mm;grind
theorem GB(n:Nat)(p:Nat->Bool):eI (n+1) p=eI n p+if p n=true then 1 else 0:=by
 unfold eI;rw[List.range_succ,List.filter_append,dM,yf];cases p n<;>rfl
theorem GC{h:Nat}{c:Bool}{q:Nat->Bool}(hq:q h=false):∀{n:Nat},eI n (λi=>q i||(decide (i=h)&&c))=eI n q+if h<n/\c=true then 1 else 0
 |0=>rfl
 |n+1=>by
  rw[GB,GB,GC hq (n:=n)]
  by_cases e:n=h
  .subst e
   cases c<;>simp[hq]
  .have:(h<n+1)=(h<n):=by simp;omega
   simp only[this,NS e,tP,Bool.or_false];omega
def wQ{p q:Nat->Bool}(h:∀a,a<n->p a=q a):eI n p=eI n q:=by
 unfold eI;rw[List.filter_congr λa ha=>h a (Yah.mp ha)]
structure Il(T:Nat->Nat->Rat)(n:Nat)(L:List Nat)(M U:Nat->Nat->Rat)(a b:Nat):Prop where
 lt:∀i∈L,i<n
 m:∀i∈L,∀j∈L,M i j=bf T n (U i) (U j)
 ap:∀i,i<n->i∉L->∀j,j<n->j≠i->bf T n (U i) (U j)=0
 fu:∀x:Nat->Rat,(∀a,a<n->aJ (λk=>U a k*x k) n=0)->∀k,k<n->x k=0
 pa:a=eI n λi=>!L.contains i&&eJ T n 1 U i
 nb:b=eI n λi=>!L.contains i&&eJ T n (-1) U i
theorem Il.start{M:Nat->Nat->Rat}(hM:∀i j,i<n->j<n->M i j=T i j):Il T n (List.range n) M qy 0 0:=by
 have c0:∀p:Nat->Bool,0=eI n λi=>!(List.range n).contains i&&p i:=λp=>by
  unfold eI;rw[List.filter_eq_nil_iff.mpr λi hi=>by simp[Yah.mp hi]];rfl
 refine⟨λi hi=>Yah.mp hi,λi hi j hj=>?_,λi hi ni=>NH (Yah.mpr hi) ni,λx h k hk=>?_,c0 _,c0 _⟩
 .have hi:=Yah.mp hi
  have hj:=Yah.mp hj;rw[hM i j hi hj];unfold bf;rw[wK _ hi,da (g:=λk=>qy j k*T i k) λk _=>uG _ _,wK _ hj]
 .have:=h k hk
  rwa [wK x hk] at this
def pC(M:Nat->Nat->Rat)(i j:Nat):Nat->Nat->Rat:=λk l=>if k=i then M i l+M j l else M k l
def wS(M:Nat->Nat->Rat)(i j:Nat):Nat->Nat->Rat:=λk l=>if l=i then M k i+M k j else M k l
def lI(U:Nat->Nat->Rat)(i:Nat)(v:Nat->Rat):Nat->Nat->Rat:=λa=>if a=i then v else U a
theorem Il.pair{M M':Nat->Nat->Rat}{a:Nat}(hT:∀i j,i<n->j<n->T i j=T j i)(I:Il T n L M U a b)(hi:i∈L)(hj:j∈L)(ne:i≠j)(hM:∀k∈L,∀l∈L,M' k l=wS (pC M i j) i j k l):Il T n L M' (lI U i (mm (U i) (-1) (U j))) a b:=by
 have ui:lI U i (mm (U i) (-1) (U j)) i=mm (U i) (-1) (U j):=by unfold lI;rw[if_pos rfl]
 have un:∀k,k≠i->lI U i (mm (U i) (-1) (U j)) k=U k:=λk hk=>by unfold lI;rw[if_neg hk]
 have r1:∀k∈L,∀l∈L,pC M i j k l=bf T n (lI U i (mm (U i) (-1) (U j)) k) (U l):=λk hk l hl=>by
  unfold pC
  by_cases e:k=i
  .rw[if_pos e,e,ui,Gz hT,I.m i hi l hl,I.m j hj l hl];grind
  .rw[if_neg e,un k e,I.m k hk l hl]
 refine⟨I.lt,λk hk l hl=>?_,λd hd nd l hl hne=>?_,λx hx=>I.fu x λc hc=>?_,?_,?_⟩
 .rw[hM k hk l hl]
  unfold wS
  by_cases e:l=i
  .rw[if_pos e,e,ui,uA,r1 k hk i hi,r1 k hk j hj];grind
  .rw[if_neg e,un l e,r1 k hk l hl]
 .have di:d≠i:=λz=>nd (z▸hi)
  rw[un d di]
  by_cases e:l=i
  .rw[e,ui,uA,I.ap d hd nd i (I.lt i hi) (NO di),I.ap d hd nd j (I.lt j hj) λz=>nd (z▸hj)];grind
  .rw[un l e];exact I.ap d hd nd l hl hne
 .have xj:aJ (λk=>U j k*x k) n=0:=by have:=hx j (I.lt j hj);rwa [un j (NO ne)] at this
  by_cases e:c=i
  .have:=hx i (I.lt i hi)
   rw[ui,GA,xj] at this;rw[e];grind
  .have:=hx c hc;rwa [un c e] at this
 .rw[I.pa]
  refine wQ λc _=>?_
  by_cases e:c=i
  .rw[e];simp[hi]
  .unfold eJ;rw[un c e]
 .rw[I.nb]
  refine wQ λc _=>?_
  by_cases e:c=i
  .rw[e];simp[hi]
  .unfold eJ;rw[un c e]
open Classical in
noncomputable def elU (L':List Nat) (M U:Nat->Nat->Rat) (h:Nat):Nat->Nat->Rat:=λa=>if a∈L' then mm (U a) (M a h*(M h h)⁻¹) (U h) else U a
theorem Il.elim{L':List Nat}{M M':Nat->Nat->Rat}{a:Nat}(hT:∀i j,i<n->j<n->T i j=T j i)(I:Il T n L M U a b)(hh:h∈L)(nz:M h h≠0)(hL:∀i,i∈L'↔i∈L/\i≠h)(hM:∀k∈L',∀l∈L',M' k l=M k l+M k h * -(M h h)⁻¹*M h l) :
  Il T n L' M' (elU L' M U h) (a+if 0<M h h then 1 else 0) (b+if M h h<0 then 1 else 0):=by
 have uy:∀k,k∈L'->elU L' M U h k=mm (U k) (M k h*(M h h)⁻¹) (U h):=λk hk=>by unfold elU;rw[if_pos hk]
 have un:∀k,k∉L'->elU L' M U h k=U k:=λk hk=>by unfold elU;rw[if_neg hk]
 have inv:=qH _ nz;have hn:h∉L':=λz=>((hL h).mp z).2 rfl;have hlt:=I.lt h hh;have sy:∀k∈L,M k h=M h k:=λk hk=>by rw[I.m k hk h hh,I.m h hh k hk,j4 hT]
 have mh:=I.m h hh h hh;have key:∀(σ:Rat) (c:Nat),c<n->(!L'.contains c&&eJ T n σ (elU L' M U h) c)=((!L.contains c&&eJ T n σ U c)||(decide (c=h)&&decide (0<σ*M h h))):=λσ c hc=>by
  by_cases e:c=h
  .subst e
   unfold eJ;rw[un c hn,<-mh];simp[hn,hh]
  .by_cases z:c∈L
   .have:c∈L':=(hL c).mpr ⟨z,e⟩
    simp[z,this,e]
   .have:c∉L':=λy=>z ((hL c).mp y).1
    unfold eJ;rw[un c this];simp[z,this,e]
 have ct:∀σ:Rat,eI n (λi=>!L'.contains i&&eJ T n σ (elU L' M U h) i)=eI n (λi=>!L.contains i&&eJ T n σ U i)+if 0<σ*M h h then 1 else 0:=λσ=>by
  rw[wQ λc hc=>key σ c hc,GC (by simp[hh])];congr 1;simp[hlt]
 refine⟨λi hi=>I.lt i ((hL i).mp hi).1,λk hk l hl=>?_,λd hd nd l hl hne=>?_,λx hx=>I.fu x ?_,?_,?_⟩
 .have kL:=((hL k).mp hk).1
  have lL:=((hL l).mp hl).1;rw[hM k hk l hl,uy k hk,uy l hl,Gz hT,uA,uA,<-I.m k kL l lL,<-I.m k kL h hh,<-I.m h hh l lL,<-mh];generalize (M h h)⁻¹=z at inv;generalize M h h=w at inv;generalize M k h=x1;generalize M l h=x2;generalize M h l=x3;generalize M k l=x4;have:x1*z*(x2*z*w)=x1*x2*z*(w*z):=by grind
  grind
 .rw[un d nd]
  by_cases e:d=h
  .subst e
   by_cases z:l∈L'
   .have lL:=((hL l).mp z).1
    rw[uy l z,uA,<-I.m d hh l lL,<-mh,sy l lL];generalize (M d d)⁻¹=y at inv;grind
   .have lL:l∉L:=λy=>z ((hL l).mpr ⟨y,hne⟩)
    rw[un l z,j4 hT];exact I.ap l hl lL d hd (NO hne)
  .have dL:d∉L:=λy=>nd ((hL d).mpr ⟨y,e⟩)
   by_cases z:l∈L'
   .rw[uy l z,uA,I.ap d hd dL l hl hne,I.ap d hd dL h hlt (NO e)];grind
   .rw[un l z];exact I.ap d hd dL l hl hne
 .have xh:aJ (λk=>U h k*x k) n=0:=by have:=hx h hlt;rwa [un h hn] at this
  intro c hc
  by_cases z:c∈L'
  .have:=hx c hc
   rw[uy c z,GA,xh] at this;grind
  .have:=hx c hc;rwa [un c z] at this
 .rw[ct,I.pa]
  congr 2;rw[rG]
 .rw[ct,I.nb]
  congr 2;have:(0 < -1*M h h)=(M h h<0):=by simp only[eq_iff_iff];constructor<;>intro z<;>grind
  rw[this]
theorem Il.fin{M:Nat->Nat->Rat}{a:Nat}(hT:∀i j,i<n->j<n->T i j=T j i)(I:Il T n L M U a b)(h0:∀i∈L,∀j∈L,M i j=0):Ap T n U/\eI n (eJ T n 1 U)=a/\eI n (eJ T n (-1) U)=b:=by
 refine⟨⟨λi j hi hj ne=>?_,I.fu⟩,?_,?_⟩
 .by_cases z:i∈L
  .by_cases y:j∈L
   .rw[<-I.m i z j y,h0 i z j y]
   .rw[j4 hT];exact I.ap j hj y i hi ne
  .exact I.ap i hi z j hj (NO ne)
 .rw[I.pa]
  refine wQ λc _=>?_
  by_cases z:c∈L
  .unfold eJ;rw[<-I.m c z c z,h0 c z c z];simp[z]
  .simp[z]
 .rw[I.nb]
  refine wQ λc _=>?_
  by_cases z:c∈L
  .unfold eJ;rw[<-I.m c z c z,h0 c z c z];simp[z]
  .simp[z]
end
structure IsR(r:List Int)(n:Nat):Prop where
 len:r.length=n
 b:∀x∈r,-1000<=x/\x<=1000
section
variable{E:Ex->Prop}{x:D}{r:List Int}
theorem IsR.at(h:IsR r n)(k:Nat):(r.getD k 0).natAbs<=2^10:=by
 rw[bD];cases e:r[k]? with
 |none=>exact gJ _
 |some v=>
  have:=h.b v (ge e);show v.natAbs<=1024;omega
end
namespace G
structure Lf(b m:Nat)(row:List Rat):Prop where
 ex:∃(c:List Int) (e:Int),c.length=m/\e≠0/\e.natAbs<2^b/\(∀x∈c,x.natAbs<2^b)/\row=c.map λx=>Rat.divInt x e
def Lf.len{row:List Rat}(h:Lf b m row):row.length=m:=by
 obtain⟨c,e,h1,_,_,_,rfl⟩:=h.ex;rw[bL];exact h1
theorem Lf.mono{b':Nat}{row:List Rat}(l:b<=b')(h:Lf b m row):Lf b' m row:=by
 obtain⟨c,e,h1,h2,h3,h4,h5⟩:=h.ex;have p:2^b<=2^b':=j8 (by decide) l;exact⟨c,e,h1,h2,cU h3 p,λx hx=>cU (h4 x hx) p,h5⟩
theorem Lf.sz{row:List Rat}(h:Lf b m row):∀x∈row,Sz b x:=by
 obtain⟨c,e,h1,h2,h3,h4,rfl⟩:=h.ex;intro x hx;obtain⟨y,hy,rfl⟩:=YbS.mp hx;exact uj h2 (h4 y hy) h3
theorem Lf.get{row:List Rat}(h:Lf b m row)(hk:k<m):row[k]? = some (row.getD k 0)/\Sz b (row.getD k 0):=by
 have e:row[k]? = some (row.getD k 0):=by rw[bD,bG (by rw[h.len];exact hk)];rfl
 exact⟨e,h.sz _ (ge e)⟩
theorem Lf.int{c:List Int}(hb:0<b)(h:∀x∈c,x.natAbs<2^b):Lf b c.length (dF c):=by
 refine⟨c,1,rfl,by decide,?_,h,?_⟩
 .show 1<2^b
  exact xT (by omega)
 .unfold dF
  exact ja λx _=>by have:=tV (x:Rat);rw[xQ,xR] at this;exact this.symm
def lq(r:List Rat):D:=.lst (r.map aO)
def rr(R:List (List Rat))(i:Nat):List Rat:=R.getD i []
theorem rr_set{R:List (List Rat)}(h:i<R.length):rr (R.set i r) k=if k=i then r else rr R k:=by
 unfold rr;rw[bD,AF,bD]
 by_cases e:i=k
 .subst e
  rw[if_pos rfl,if_pos rfl,if_pos h];rfl
 .rw[if_neg e,if_neg (NO e)]
def rr_at{R:List (List Rat)}(h:k<R.length):eD (R.map lq) (k:Int)=some (lq (rr R k)):=by
 refine cC ?_;rw[cI];unfold rr;rw[bD,bG h];rfl
end G
namespace Sv
abbrev rr:=G.rr
def GD(n:Nat)(r:List Rat)(x:Nat->Rat)(c:Rat):Prop:=aJ (λj=>r.getD j 0*x j) n=c*r.getD n 0
def Eqv(n:Nat)(A R:List (List Rat)):Prop:=∀x c,(∀i,i<n->GD n (rr A i) x c)↔∀i,i<n->GD n (rr R i) x c
def Eqv.refl{A:List (List Rat)}:Eqv n A A:=λ_ _=>Iff.rfl
def Eqv.trans{n:Nat}{A B C:List (List Rat)}(h:Eqv n A B)(h':Eqv n B C):Eqv n A C:=λx c=>(h x c).trans (h' x c)
section
variable{u:List Int}
end
end Sv
section
theorem aBor.mono'(m:∀E ρ P P',(∀d,P d->P' d)->t E ρ P->t E ρ P')(i:Nat):∀E ρ P P',(∀d,P d->P' d)->aBor i t E ρ P->aBor i t E ρ P':=λE ρ P P' h q=>by
 unfold aBor at q ⊢;exact m _ _ _ _ (λd hd=>⟨hd.1,h d hd.2⟩) q
end
namespace F4
section
variable{E:Ex->Prop}{x:D}
end
end F4
section
variable{E:Ex->Prop}{x:D}{r:List Int}
end
namespace G.V9
section
variable{E:Ex->Prop}{x:D}{u:List Int}
end
end G.V9
namespace G.V5
theorem size_w(h:IsSl s n){P:D->Prop}(hP:P (.int n)):bS [aP s] λx=>gAdd x (.int 1) λy=>fV y (.int 2) P:=by
 have hl:=h.len;unfold aP;walk_at "st";rw[bL];refine⟨⟨by decide,B.C.bd_of (b:=3) (by decide) (by decide)⟩,?_⟩;rw[show((s.length:Int)+1).fdiv 2=n from by rw[AD _ (by decide)];omega];exact hP
end G.V5
section
variable{f:Str}{a:Expr}
end
structure Mb(K:NF)(mg:Str->Option Value)(x qual f:Str)(st:Stmt):Prop where
 h:∃(C fI:Addr) (od:Option Addr) (osl:Array (Option Value)) (kV doc pm:Value) (an:Option Addr) (cdv ct:Value),i5 K x=some C/\mg x=some (.ref C)/\Fl.clsF K C Fl.bmV "ValueError.__new__" f fI=true/\
  K.lookup fI=some ⟨.type "function",od,.func (PySem.W.fnOf "__init__" qual (cP st) (bF st) (aK st) .none kV doc pm an cdv ct),osl⟩/\PySem.W.codeIn K cdv qual=true/\PySem.W.keepIn K (.ref fI)=true
section
variable{P:Program}{w:World}{base:Heap}{f:Str}
theorem Mc{hp:Heap}(X:K.In hp)(G:hp.Ns mainGlobals mg){C fI:Addr}{kV doc pm cdv ct:Value}{dd:Option Addr}{cd:ClassData}{sl:Array (Option Value)}(a:PySem.W.nsIn K mainGlobals x=some (some (.ref C)))(lc:K.lookup C=some ⟨.type "type",dd,.cls cd,sl⟩)(ni:PySem.W.nsIn K cd.ns "__init__" = some (some (.ref fI)))(q:Fl.clsF K C Fl.bmV "ValueError.__new__" f fI=true)
  (l:K.lookup fI=some ⟨.type "function",od,.func (PySem.W.fnOf "__init__" qual (cP st) (bF st) (aK st) .none kV doc pm an cdv ct),osl⟩) (c:PySem.W.codeIn K cdv qual=true) (kp:PySem.W.keepIn K (.ref fI)=true):Mb K mg x qual f st:=
 ⟨C,fI,od,osl,kV,doc,pm,an,cdv,ct,td a,PySem.W.mg_of X G a,q,l,c,kp⟩
section
variable{a:Expr}
end
end
namespace G.V9.W
section
variable{E:Ex->Prop}{x:D}{r:List Int}
end
end G.V9.W
local macro_rules | `(tactic| walk_at "w1")=>`(tactic| simp only [aM,cS,aQ,cR,iX,bO,bW,bU,ky,eF,dI,dg,jy,eR,l7,aZ,i7,fq,wM,Zdd,ii,fM,jS,dw,fD,bV,wT,jT,w1,w2,wB,wF,wL,aU,bM,Zbd,aB,aX,aC,aA,aLC,Zbv,cM,iS,iL,iT,eO,lV,iZ,d8,dA,wN,wC,gN,dH,cD,dC,dU,lZ,e7,fT,eQ,aBor,fU,dS,eZ,aCut,eP,pub,cV,gx,dY,j9,iz,et,List.replicate,cZ,df,eT,eU,Nat.reduceSub,Nat.reduceAdd,gw,lO,true_and,dX,if_true,if_false,ite_true,ite_false,hJ,fb,lQ,
 kz,mf,nV,nW,nX,nY,nZ,n4,n6,n8,n9,oa,oh,oj,ol,om,oq,ot,ou,oy,oA,oB,oC,oD,oE,oF,oG,oH,oJ,oK,oM,oN,oO,oP,oQ,oR,oS,oU,oV,oW,oX,oY,oZ,o1,o4,o7,o8,o9,pj,e8,pk,pp,nw,pq,pv,gS,gT])
abbrev ND:List Str:=["NoSlants", "NoRow", "NoNumber", "NoLine", "NotEven", "NotFull", "NotStrong1", "NotStrong2", "NotStrong3", "NotStrong4", "NotStrong5"]
local macro_rules | `(tactic| walk_at "w1")=>`(tactic| simp only [aM,cS,aQ,cR,iX,bO,bW,bU,ky,eF,dI,dg,jy,eR,l7,aZ,i7,fq,wM,Zdd,ii,fM,jS,dw,fD,bV,wT,jT,w1,w2,wB,wF,wL,aU,bM,Zbd,aB,aX,aC,aA,aLC,Zbv,cM,iS,iE,iL,iT,eO,lV,iZ,d8,dA,wN,wC,gN,dH,cD,dC,dU,lZ,e7,fT,eQ,aBor,fU,dS,eZ,aCut,eP,pub,cV,gx,dY,j9,iz,et,List.replicate,cZ,df,eT,eU,Nat.reduceSub,Nat.reduceAdd,gw,lO,true_and,dX,if_true,if_false,ite_true,ite_false,hJ,fb,lQ,
 kz,mf,nV,nW,nX,nY,nZ,n4,n6,n8,n9,oa,oh,oj,ol,om,oq,ot,ou,oy,oA,oB,oC,oD,oE,oF,oG,oH,oJ,oK,oM,oN,oO,oP,oQ,oR,oS,oU,oV,oW,oX,oY,oZ,o1,o4,o7,o8,o9,pj,e8,pk,pp,nw,pq,pv,gS,gT])
namespace G.V9.W
namespace E8
section
variable{E:Ex->Prop}{x t:D}{r:List Int}{w:Nat}
end
end E8
end G.V9.W
section
namespace Lb
def pl:List Int->Int
 |[]=>1
 |x::xs=>x*pl xs
end Lb
end
namespace G.V9.W
namespace E1
section
variable{E:Ex->Prop}{x:D}
end
end E1
end G.V9.W
open Lb
def lcV(g:WG)(wf:WT)(we:WE):List D->bR->List D->(bR->List D->Prop)->Prop
 |[],ρ,acc,Q=>Q ρ acc
 |d::ds,ρ,acc,Q=>g d ρ λρ2=>wf No ρ2 λb=>if b=true then we No ρ2 λy=>acc.length<small/\lcV g wf we ds ρ2 (acc++[y]) Q else lcV g wf we ds ρ2 acc Q
def lcW2(g:WG)(wf:WT)(wi2:WA)(g2:WG)(wf2:WT)(we:WE):List D->bR->List D->(List D->Prop)->Prop
 |[],_,acc,Q=>Q acc
 |d::ds,ρ,acc,Q=>g d ρ λρ2=>wf No ρ2 λb=>if b=true then wi2 No ρ2 λds2=>lcV g2 wf2 we ds2 ρ2 acc λρ3 acc'=>lcW2 g wf wi2 g2 wf2 we ds ρ3 acc' Q else lcW2 g wf wi2 g2 wf2 we ds ρ2 acc Q
def wU(wi:WA)(nv:Nat)(sel:List Nat)(g:WG)(wf:WT)(wi2:WA)(g2:WG)(wf2:WT)(we:WE):WA:=λE ρ Q=>wi E ρ λds=>lcW2 g wf wi2 g2 wf2 we ds (Zbv nv sel ρ) [] Q
section
variable{t2 i2:Expr}{fz:List Expr}{g2:WG}{wf2:WT}{wi2:WA}
theorem lcV.mono(hg:∀d ρ P P',(∀r,P r->P' r)->g d ρ P->g d ρ P')(hf:∀E ρ P P',(∀d,P d->P' d)->wf E ρ P->wf E ρ P')(he:∀E ρ P P',(∀d,P d->P' d)->we E ρ P->we E ρ P') :
  ∀ds ρ acc P P',(∀r xs,P r xs->P' r xs)->lcV g wf we ds ρ acc P->lcV g wf we ds ρ acc P'
 |[],_,acc,P,P',hp,h=>hp _ _ h
 | d::ds,ρ,acc,P,P',hp,h=>hg _ _ _ _ (λr hr=>hf _ _ _ _ (λb hb=>by
   cases b with
   |false=>rw[if_neg (by decide)] at hb ⊢;exact lcV.mono hg hf he ds r acc P P' hp hb
   |true=>rw[if_pos rfl] at hb ⊢;exact he _ _ _ _ (λy hy=>⟨hy.1,lcV.mono hg hf he ds r _ P P' hp hy.2⟩) hb) hr) h
theorem lcW2.mono(hg:∀d ρ P P',(∀r,P r->P' r)->g d ρ P->g d ρ P')(hf:∀E ρ P P',(∀d,P d->P' d)->wf E ρ P->wf E ρ P')(hi2:∀E ρ P P',(∀d,P d->P' d)->wi2 E ρ P->wi2 E ρ P')(hg2:∀d ρ P P',(∀r,P r->P' r)->g2 d ρ P->g2 d ρ P')(hf2:∀E ρ P P',(∀d,P d->P' d)->wf2 E ρ P->wf2 E ρ P')(he:∀E ρ P P',(∀d,P d->P' d)->we E ρ P->we E ρ P') :
  ∀ds ρ acc P P',(∀xs,P xs->P' xs)->lcW2 g wf wi2 g2 wf2 we ds ρ acc P->lcW2 g wf wi2 g2 wf2 we ds ρ acc P'
 |[],_,acc,P,P',hp,h=>hp _ h
 | d::ds,ρ,acc,P,P',hp,h=>hg _ _ _ _ (λr hr=>hf _ _ _ _ (λb hb=>by
   cases b with
   |false=>rw[if_neg (by decide)] at hb ⊢;exact lcW2.mono hg hf hi2 hg2 hf2 he ds r acc P P' hp hb
   |true=>rw[if_pos rfl] at hb ⊢;exact hi2 _ _ _ _ (λds2 h2=>lcV.mono hg2 hf2 he ds2 r acc _ _ (λr' xs hx=>lcW2.mono hg hf hi2 hg2 hf2 he ds r' xs P P' hp hx) h2) hb) hr) h
theorem Md(vars:List Str)(sel:List Nat)(hc:X.calm=true)(hi:lh X EX target iter wi)(hg:∀s H fp,lX (X.lc sc vars sel s H fp) target g)(hf:∀s H fp,ql (X.lc sc vars sel s H fp) E0 ifs wf)
  (hi2:∀s H fp,lh (X.lc sc vars sel s H fp) E0 t2 i2 wi2) (hg2:∀s H fp,lX (X.lc sc vars sel s H fp) t2 g2) (hf2:∀s H fp,ql (X.lc sc vars sel s H fp) E0 fz wf2) (he:∀s H fp,PX (X.lc sc vars sel s H fp) E0 elt we)
  (ok:ji sc X.env.scope=true:=by rfl) (so:mX X.N sc sel=true:=by rfl) (hs:∀x,foldedSetIterable iter X.env x=pure x:=by intro _;rfl) (hs2:∀a x,foldedSetIterable i2 (ia sc X.env a) x=pure x:=by intro _ _;rfl) :
  PXL X EX (.ListComp elt [⟨target,iter,ifs,0⟩,⟨t2,i2,fz,0⟩] sc pos) (wU wi vars.length sel g wf wi2 g2 wf2 we):=by
 have gm:=(hg {} (λ_=>none) []).mono;have go:=(hg {} (λ_=>none) []).own;have fm:=(hf {} (λ_=>none) []).mono;have im:=(hi2 {} (λ_=>none) []).mono;have gm2:=(hg2 {} (λ_=>none) []).mono;have go2:=(hg2 {} (λ_=>none) []).own;have fm2:=(hf2 {} (λ_=>none) []).mono;have em:=(he {} (λ_=>none) []).mono;refine⟨?_,λE ρ P P' hp h=>hi.mono _ _ _ _ (λds hds=>lcW2.mono gm fm im gm2 fm2 em ds _ _ _ _ hp hds) h⟩;obtain⟨ti,pi,ki⟩:=hi.t;refine ⟨_,Jb (wi:=ti) (g:=λv σ H Q=>∃ W0 H0 W ρ d,SOk X.K W0 H0 W σ H ρ/\Rep X.K W v d/\g d ρ (λρ'=>∀ σ',SOk X.K W0 H0 W σ' H ρ'->Q σ' H))
  (tf:=λσ H Q=>∃W0 H0 W ρ,SOk X.K W0 H0 W σ H ρ/\wf No ρ (λb=>∀W' H',Ext W H W' H'->Q b H'))
  (wi2:=λσ H R=>∃W0 H0 W ρ,SOk X.K W0 H0 W σ H ρ/\wi2 No ρ (λds=>∀W' H' J,Ext W H W' H'->nq X.K W' J ds->R J H'))
  (g2:=λv σ H Q=>∃W0 H0 W ρ d,SOk X.K W0 H0 W σ H ρ/\Rep X.K W v d/\g2 d ρ (λρ'=>∀σ',SOk X.K W0 H0 W σ' H ρ'->Q σ' H))
  (tf2:=λσ H Q=>∃W0 H0 W ρ,SOk X.K W0 H0 W σ H ρ/\wf2 No ρ (λb=>∀W' H',Ext W H W' H'->Q b H'))
  (te:=λσ H Q=>∃W0 H0 W ρ,SOk X.K W0 H0 W σ H ρ/\we No ρ (RQ X.K W H Q)) vars sel hc pi ok so (λs1 H1 fp=>?_) (λs1 H1 fp=>?_) (λs1 H1 fp=>?_) (λs1 H1 fp=>?_) (λs1 H1 fp=>?_) (λs1 H1 fp=>?_) hs2 hs,?_⟩
 .obtain⟨t,q,k⟩:=(hg s1 H1 fp).t
  rintro pins s σ H v u Q I r ⟨W0,H0,W,ρ,d,s',r',h⟩;exact q pins s σ H v u Q I r (k W0 H0 W σ H ρ d v Q s' r' h)
 .obtain⟨t,q,k⟩:=(hf s1 H1 fp).t
  rintro pins s σ H Q I ⟨W0,H0,W,ρ,s',h⟩;exact q pins s σ H Q I (k W0 H0 W σ H ρ No Q s' (λ_ _ _ _ _ z=>z.elim) h)
 .obtain⟨t,q,k⟩:=(hi2 s1 H1 fp).t
  rintro pins s σ H R I ⟨W0,H0,W,ρ,s',h⟩;exact q pins s σ H R I (k W0 H0 W σ H ρ No R s' (λ_ _ _ _ _ z=>z.elim) h)
 .obtain⟨t,q,k⟩:=(hg2 s1 H1 fp).t
  rintro pins s σ H v u Q I r ⟨W0,H0,W,ρ,d,s',r',h⟩;exact q pins s σ H v u Q I r (k W0 H0 W σ H ρ d v Q s' r' h)
 .obtain⟨t,q,k⟩:=(hf2 s1 H1 fp).t
  rintro pins s σ H Q I ⟨W0,H0,W,ρ,s',h⟩;exact q pins s σ H Q I (k W0 H0 W σ H ρ No Q s' (λ_ _ _ _ _ z=>z.elim) h)
 .obtain⟨t,q,k⟩:=(he s1 H1 fp).t
  rintro pins s σ H Q I ⟨W0,H0,W,ρ,s',h⟩;exact q pins s σ H Q I (k W0 H0 W σ H ρ No Q s' (λ_ _ _ _ _ z=>z.elim) h)
 intro W0 H0 W σ H ρ E Q s eo h;refine ki W0 H0 W σ H ρ E _ s eo (hi.mono _ _ _ _ (λds hds W1 H1 J x1 it D hD=>?_) h);have hDf:=x1.ok.fresh hD;have hD0:H0 D=none:=s.ext.isN (x1.isN hD);refine ⟨λi m ys σ2 H2=>m=ds.length - i/\i<=ds.length/\∃ W2 ρ2 acc,Ext W1 H1 W2 H2/\SOk X.K W0 H0 W2 σ2 H2 ρ2/\ZfG ρ2/\H2 D=some (.lst ys)/\W2.G D=none/\¬ W2.Pn D/\Reps X.K W2 ys acc/\
  lcW2 g wf wi2 g2 wf2 we (ds.drop i) ρ2 acc (λds=>∀a vs W' H',Ext W H W' H'->H' a=some (.lst vs)->W'.G a=none->¬W'.Pn a->H a=none->Reps X.K W' vs ds->Q (.ref a) H'),⟨_,rfl,gJ _,W1,_,[],.new x1.ok hD,?_,Zbv.own _ _ ρ,aN,hDf.1,hDf.2,.nil,by rw[pK];exact hds⟩,?_⟩
 .exact(((s.step x1).step (.new x1.ok hD)).lc vars.length sel)
 rintro i m ys σ2 H2 ⟨rfl,hi',W2,ρ2,acc,x2,s2,no2,hD2,g2',p2,r2,q2⟩;refine⟨hD2,?_⟩;obtain⟨itg,its⟩:=it W2 H2 i x2.g x2.p x2.ok;have kpD:∀{V0:Wd} {G:Hp} {zs:List V} {W':Wd} {H':Hp},G D=some (.lst zs)->V0.G D=none->¬V0.Pn D->Ext V0 G W' H'->H' D=some (.lst zs)/\W'.G D=none/\¬W'.Pn D:=λ{V0 G zs W' H'} hG hg' hp' x'=>by
  refine⟨x'.h D _ hG hp',?_,λz=>?_⟩
  .cases q:W'.G D with
   |none=>rfl
   |some o=>have:=x'.gf D hg' (by rw[q];simp);rw[hG] at this;cases this
  .have:=x'.pf D hp' z;rw[hG] at this;cases this
 rcases gg i ds.length with hlt|hge
 .have hd:ds[i]? = some ds[i]:=bG hlt
  obtain⟨go',yl⟩:=itg _ hd;refine .inr ⟨go',λx H3 y=>?_⟩;obtain⟨W3,x3,r3⟩:=yl x H3 y;rw[pL hlt] at q2;refine⟨W0,H0,W3,ρ2,ds[i],s2.step x3,r3,gm _ _ _ _ (λρ4 hr σ4 s4=>?_) (go _ _ _ no2 q2)⟩;obtain⟨no4,hr⟩:=hr;refine⟨W0,H0,W3,ρ4,s4,fm _ _ _ _ (λb hb W5 H5 x5=>?_) hr⟩;have kD:=kpD hD2 g2' p2 (x3.trans x5);cases b with
  |false=>
   rw[if_neg (by decide)] at hb;show ite _ _ _;rw[if_neg (by decide)];exact⟨ds.length-(i+1),by omega,rfl,hlt,W5,ρ4,acc,x2.trans (x3.trans x5),s4.step x5,no4,kD.1,kD.2.1,kD.2.2,(x3.trans x5).reps r2,hb⟩
  |true=>
   rw[if_pos rfl] at hb;show ite _ _ _;rw[if_pos rfl];refine⟨W0,H0,W5,ρ4,s4.step x5,im _ _ _ _ (λds2 hds2 W6 H6 J2 x6 it2=>?_) hb⟩;have kD6:=kpD hD2 g2' p2 (x3.trans (x5.trans x6));refine ⟨λi2 k zs σ7 H7=>k=ds2.length - i2/\i2<=ds2.length/\∃ W7 ρ7 acc7,Wle W6 W7/\Ext W1 H1 W7 H7/\SOk X.K W0 H0 W7 σ7 H7 ρ7/\ZfG ρ7/\H7 D=some (.lst zs)/\W7.G D=none/\¬ W7.Pn D/\Reps X.K W7 zs acc7/\
    lcV g2 wf2 we (ds2.drop i2) ρ7 acc7 (λρ3 acc'=>lcW2 g wf wi2 g2 wf2 we (ds.drop (i+1)) ρ3 acc' (λds=>∀a vs W' H',Ext W H W' H'->H' a=some (.lst vs)->W'.G a=none->¬W'.Pn a->H a=none->Reps X.K W' vs ds->Q (.ref a) H')),
    ⟨_,rfl,gJ _,W6,ρ4,acc,.refl W6,x2.trans (x3.trans (x5.trans x6)),(s4.step x5).step x6,no4,kD6.1,kD6.2.1,kD6.2.2,(x3.trans (x5.trans x6)).reps r2,by rw[pK];exact hds2⟩,?_⟩
   rintro i2 k zs σ7 H7 ⟨rfl,hi2',W7,ρ7,acc7,f7,x7,s7,no7,hD7,g7,p7,r7,q7⟩;refine⟨hD7,?_⟩;obtain⟨itg2,its2⟩:=it2 W7 H7 i2 f7.g f7.p s7.ok;rcases gg i2 ds2.length with hlt2|hge2
   .have hd2:ds2[i2]? = some ds2[i2]:=bG hlt2
    obtain⟨go2',yl2⟩:=itg2 _ hd2;refine .inr ⟨go2',λx H8 y=>?_⟩;obtain⟨W8,x8,r8⟩:=yl2 x H8 y;rw[pL hlt2] at q7;refine⟨W0,H0,W8,ρ7,ds2[i2],s7.step x8,r8,gm2 _ _ _ _ (λρ9 hr9 σ9 s9=>?_) (go2 _ _ _ no7 q7)⟩;obtain⟨no9,hr9⟩:=hr9;refine⟨W0,H0,W8,ρ9,s9,fm2 _ _ _ _ (λb hb WA HA xA=>?_) hr9⟩;cases b with
    |false=>
     rw[if_neg (by decide)] at hb;show ite _ _ _;rw[if_neg (by decide)];have kA:=kpD hD7 g7 p7 (x8.trans xA);exact⟨ds2.length-(i2+1),by omega,rfl,hlt2,WA,ρ9,acc7,f7.ext (x8.trans xA),x7.trans (x8.trans xA),s9.step xA,no9,kA.1,kA.2.1,kA.2.2,(x8.trans xA).reps r7,hb⟩
    |true=>
     rw[if_pos rfl] at hb;show ite _ _ _;rw[if_pos rfl];refine⟨W0,H0,WA,ρ9,s9.step xA,em _ _ _ _ (λy hy v WB HB xB rB=>?_) hb⟩;have xx:=x8.trans (xA.trans xB);have kB:=kpD hD7 g7 p7 xx;have hl:zs.length=acc7.length:=r7.length;refine⟨kB.1,by rw[hl];exact cU hy.1 (lT (bP _)),ds2.length-(i2+1),by omega,rfl,hlt2,WB,ρ9,acc7++[y],f7.ext xx,(x7.trans xx).chg hD kB.1 kB.2.2 kB.2.1,?_,no9,aN,kB.2.1,kB.2.2,(xx.reps r7).append (.cons rB .nil),hy.2⟩;exact((s9.step xA).step xB).chgD no9 hD0 kB.1 kB.2.2 kB.2.1
   .refine .inl ⟨its2 hge2,?_⟩
    rw[tU hge2] at q7;exact⟨ds.length-(i+1),by omega,rfl,hlt,W7,ρ7,acc7,x7,s7,no7,hD7,g7,p7,r7,q7⟩
 .refine .inl ⟨its hge,?_⟩
  rw[tU hge] at q2;exact q2 D ys W2 H2 (x1.trans x2) hD2 g2' p2 (x1.isN hD) r2
end
def gX:Option (Nat×List Rat)->D
 |none=>.non
 |some (a,l)=>.tup [.int (a:Int),aF l]
def z9(x:D):Except Str D:=ir x (if iw x=true then .ok (bB (fH (sI x) (sN x))) else .error "NotEven")
def jB(s:List Int)(n:Nat)(P:List (List Rat)):Nat:=(P.filter λr=>decide (0<bZ s n r r)).length
def kG(s:List Int)(n:Nat)(P:List (List Rat)):Nat:=(P.filter λr=>decide (bZ s n r r<0)).length
def pE(s:List Int)(n:Nat)(P:List (List Rat)):D:=.tup [.int (jB s n P:Int),.int (kG s n P:Int),.int ((P.length:Int)-(jB s n P:Int)-(kG s n P:Int))]
def qz(x:D):Except Str D:=ir x (if iw x=true then .ok (pE (sI x) (sN x) (fH (sI x) (sN x))) else .error "NotEven")
structure Pq0(s:List Int)(n:Nat)(P:List (List Rat)):Prop where
 sl:IsSl s n
 ev:s.reverse=s
 len:P.length=n
 lf:∀r∈P,Lf 168 n r
def Aa:bN:=fnS (λx:((Nat×Nat)×Nat)×List (List Rat)=>[bB x.2,.int x.1.2]) (λx=>nA x.1.1.1 x.1.1.2 x.1.2 x.2) λx=>.bl (decide ((dm x.2 x.1.2).ld.length=x.2.length))
def wV:bN:=fnS (λx:SL×List (List Rat)×List (List Rat)=>[aP x.1.1,bB x.2.2]) (λx=>IsSl x.1.1 x.1.2/\x.1.1.reverse=x.1.1/\Sg x.1.1 x.1.2 x.2.1 x.2.2) λx=>gX (gD x.1.1 x.1.2 0 x.2.2)
def Ab:bN:=fnS (λx:SL×List Rat×List Rat=>[aP x.1.1,aF x.2.1,aF x.2.2]) (λx=>IsSl x.1.1 x.1.2/\x.1.1.reverse=x.1.1/\Lf 163 x.1.2 x.2.1/\Lf 163 x.1.2 x.2.2/\bZ x.1.1 x.1.2 x.2.2 x.2.2≠0) λx=>aF (gW x.1.1 x.1.2 x.2.2 x.2.1)
def wW:bN:=xS (λx:D=>[x]) (λx=>kd x=true) z9
def wX:bN:=xS (λx:D×D=>[x.1,x.2]) (λx=>kd x.1=true/\kd x.2=true/\dG 170 x.2=true) λx=>pz x.1 x.2 x.2
def Ac:bN:=fnS (λx:SL×List (List Rat)=>[aP x.1.1,bB x.2]) (λx=>Pq0 x.1.1 x.1.2 x.2) λx=>.bl (decide (x.2.Pairwise λu v=>bZ x.1.1 x.1.2 u v=0))
def Ad:bN:=fnS (λx:SL×List (List Rat)=>[aP x.1.1,bB x.2]) (λx=>Pq0 x.1.1 x.1.2 x.2) λx=>.bl (decide ((dm x.2 x.1.2).ld.length=x.2.length/\x.2.Pairwise λu v=>bZ x.1.1 x.1.2 u v=0))
def Ae:bN:=fnS (λx:SL×List (List Rat)=>[aP x.1.1,bB x.2]) (λx=>Pq0 x.1.1 x.1.2 x.2/\(dm x.2 x.1.2).ld.length=x.2.length/\x.2.Pairwise λu v=>bZ x.1.1 x.1.2 u v=0) λx=>pE x.1.1 x.1.2 x.2
def CZ:bN:=wW
def wY:bN:=xS (λx:D=>[x]) (λx=>kd x=true) qz
section
variable{E:Ex->Prop}{x z:D}{w:Nat}{u v:List Rat}{R f:List (List Rat)}
def Me(h:nA b w m R)(q:Q (.bl (decide ((dm R m).ld.length=R.length)))):Aa [bB R,.int m] E Q:=⟨(((b,w),m),R),rfl,h,q⟩
def GE(h:IsSl s n)(ev:s.reverse=s)(g:Sg s n f R)(q:Q (gX (gD s n 0 R))):wV [aP s,bB R] E Q:=⟨((s,n),f,R),rfl,⟨h,ev,g⟩,q⟩
theorem Mf(h:IsSl s n)(ev:s.reverse=s)(h1:Lf 163 n r)(h2:Lf 163 n l)(h3:bZ s n l l≠0)(q:Q (aF (gW s n l r))):Ab [aP s,aF r,aF l] E Q:=⟨((s,n),r,l),rfl,⟨h,ev,h1,h2,h3⟩,q⟩
def GF(h:IsSl s n)(ev:s.reverse=s)(q:Q .non):ur [aP s] E Q:=xS.ok (aP s) rfl h.kd (by(try dsimp only);rw[iu h];unfold iw;rw[gR,NK ev];rfl) q
theorem Zj(h:IsSl s n)(ev:s.reverse=s)(q:Q (bB (fH s n))):wW [aP s] E Q:=xS.ok (aP s) rfl h.kd (by(try dsimp only);unfold z9;rw[iu h];unfold iw;rw[gR,NK ev,h.sN];rfl) q
theorem Mg(h:IsSl s n)(ev:s.reverse=s)(q:Q (pE s n (fH s n))):wY [aP s] E Q:=xS.ok (aP s) rfl h.kd (by(try dsimp only);unfold qz;rw[iu h];unfold iw;rw[gR,NK ev,h.sN];rfl) q
theorem C0(h:IsSl s n)(ev:s.reverse=s)(hu:u.length=n)(hv:v.length=n):pz (aP s) (aF u) (aF v)=.ok (aO (bZ s n u v)):=by
 unfold pz wE;rw[iu h];unfold iw;have e1:fY n (aF u)=true:=by have:=v8 u;rwa [hu] at this
 have e2:fY n (aF v)=true:=by have:=v8 v;rwa [hv] at this
 rw[gR,NK ev,h.sN,e1,e2,rg,rg];rfl
theorem Af(h:IsSl s n)(ev:s.reverse=s)(hu:u.length=n)(hv:v.length=n)(zu:∀x∈u,Sz 170 x)(zv:∀x∈v,Sz 170 x)(q:Q (aO (bZ s n u v))):Zb [aP s,aF u,aF v] E Q:=
 xS.ok (aP s,aF u,aF v) rfl ⟨h.kd,sU (by have:=h.n5;omega),sU (by have:=h.n5;omega),ZbZ.mpr zu,ZbZ.mpr zv⟩ (C0 h ev hu hv) q
theorem Mh(h:IsSl s n)(ev:s.reverse=s)(hu:u.length=n)(zu:∀x∈u,Sz 170 x)(q:Q (aO (bZ s n u u))):wX [aP s,aF u] E Q:=
 xS.ok (aP s,aF u) rfl ⟨h.kd,sU (by have:=h.n5;omega),ZbZ.mpr zu⟩ (C0 h ev hu hu) q
def Mi(h:Pq0 s n P)(q:Q (.bl (decide (P.Pairwise λu v=>bZ s n u v=0)))):Ac [aP s,bB P] E Q:=⟨((s,n),P),rfl,h,q⟩
theorem Mj(h:Pq0 s n P)(q:Q (.bl (decide ((dm P n).ld.length=P.length/\P.Pairwise λu v=>bZ s n u v=0)))):Ad [aP s,bB P] E Q:=⟨((s,n),P),rfl,h,q⟩
theorem Mk(h:Pq0 s n P)(h1:(dm P n).ld.length=P.length)(h2:P.Pairwise λu v=>bZ s n u v=0)(q:Q (pE s n P)):Ae [aP s,bB P] E Q:=⟨((s,n),P),rfl,⟨h,h1,h2⟩,q⟩
end
def wZ:∀{m:Nat},m<=4->3*bq 168 m<8990:=λ{m} h=>by
 have:=zP (b:=168) h;have e:bq 168 4=2703:=by decide
 omega
def Pq0.clin(p:Pq0 s n P):nA 168 n n P:=⟨bP _,by have:=p.sl.n5;omega,by rw[p.len];have:=p.sl.n5;omega,wZ (by have:=p.sl.n5;omega),p.lf⟩
theorem Zm(h:IsSl s n){u v:List Rat}(hu:Lf b n u)(hv:Lf b n v):Sz (2*b+11) (bZ s n u v):=by
 rw[ml h hu.len hv.len];obtain⟨c,e,h1,h2,h3,h4,rfl⟩:=hu.ex;obtain⟨d,g,g1,g2,g3,g4,rfl⟩:=hv.ex;have gc:∀(c:List Int) (e:Int) j,gq (c.map λx=>Rat.divInt x e) j=Rat.divInt (c.getD j 0) e:=λc e j=>by
  unfold gq;rw[bD,cI,bD];cases c[j]? with
  |none=>show(0:Rat)=Rat.divInt 0 e;rw[AG]
  |some x=>rfl
 have key:bf (Pj.cA (sA s n)) n (gq (c.map λx=>Rat.divInt x e)) (gq (d.map λx=>Rat.divInt x g))=Rat.divInt (Pj.bI (sA s n) n (λj=>c.getD j 0) λj=>d.getD j 0) (e*g):=by
  have ie:((e*g:Int):Rat)⁻¹=((e:Int):Rat)⁻¹*((g:Int):Rat)⁻¹:=by
   have ne:((e:Int):Rat)≠0:=λz=>h2 (by exact_mod_cast z);have ng:((g:Int):Rat)≠0:=λz=>g2 (by exact_mod_cast z);have a1:=qH _ ne;have a2:=qH _ ng;have a3:=qH (((e:Int):Rat)*((g:Int):Rat)) (λz=>by rcases YcW.mp z with z|z;exact ne z;exact ng z);rw[gF];generalize (((e:Int):Rat)*((g:Int):Rat))⁻¹=x at *;grind
  rw[yi,<-Pj.bI_cast,hU,uG,ie];unfold bf;rw[<-Dt.sumN_mul];refine da λi _=>?_;rw[gc,yi,da (g:=λj=>((g:Int):Rat)⁻¹*((sA s n i j:Rat)*((d.getD j 0:Int):Rat))) (λj _=>by rw[gc,yi,hU];grind),Dt.sumN_mul,hU];grind
 rw[key];have m5:=h.n5;have cz:∀(c:List Int) (j:Nat),(∀x∈c,x.natAbs<2^b)->(c.getD j 0).natAbs<=2^b:=λc j hc=>by
  rw[bD];cases e:c[j]? with
  |none=>exact gJ _
  |some x=>exact jC (hc x (ge e))
 refine uj (pN h2 g2) ?_ ?_
 .have h1:∀i,i<n->(Dt.sumI (λj=>sA s n i j*d.getD j 0) n).natAbs<=n*(50*2^b):=λi hi=>Pj.sumI_bd λj hj=>by
   rw[eu];exact ke (z6 h i j hi hj) (cz d j g4)
  have h2:=Pj.sumI_bd (f:=λi=>c.getD i 0*Dt.sumI (λj=>sA s n i j*d.getD j 0) n) (c:=2^b*(n*(50*2^b))) (n:=n) λi hi=>by
   rw[eu];exact ke (cz c i h4) (h1 i hi)
  have h3:n*(2^b*(n*(50*2^b)))<=5*(2^b*(5*(50*2^b))):=ke m5 (Nat.mul_le_mul_left _ (mq _ m5));have e1:2^(2*b+11)=2^b*2^b*2048:=by rw[kK,show 2*b=b+b by omega,kK]
  have e2:5*(2^b*(5*(50*2^b)))=1250*(2^b*2^b):=by grind
  have e3:0<2^b*2^b:=Nat.mul_pos (xP (by decide)) (xP (by decide));unfold Pj.bI;dsimp only;omega
 .rw[eu,kK,show 2*b=b+b by omega,kK]
  have:=qG h3 g3;omega
abbrev Zdi:List Str:=["rows", "many"]
def GG:WS:=(aM (w2 (gEq false) (wB bS (aC (w2 gIx (wF zS (aC (wN 0) (aC (wN 1) aA))) (wC (D.int (0)))) aA)) (wB bS (aC (wN 0) aA))))
abbrev Zf3:List Str:=["slants", "rows", "at", "row", "sums", "lead"]
def C1:WS:=(bO 4 (aI (aZ (bU (iE (aC (wN 1) aA)) (dH 2 (cD (gN 2) (cD (gN 3) dC))) (aI (bW 4 (aLC (iS (bM (wN 1) (dA (w2 gAdd (wN 2) (wC (D.int (1))))) d8)) 1 [3] (gN 0) cM (wF tJ (aC (wN 1) (aC (wF uf (aC (wC (D.tup [(D.int (0)),(D.int (1))])) (aC (wC (D.tup [(D.int (1)),(D.int (1))])) aA))) (aC (wN 0) aA)))))) (bO 4 (aZ (bU (iS (w2 gAdd (wL (aX (aC (wN 3) aA))) (wN 4))) (gN 5) (cS (wT (w2 (gEq true) (wF Zb (aC (wN 0) (aC (wN 5) (aC (wN 5) aA)))) (wC (D.tup [(D.int (0)),(D.int (1))])))) (aM (aU (aC (wN 2) (aC (wN 5) aA)))) cR))))))) (aM (wC D.non))))
abbrev Zf7:List Str:=["slants", "row", "lead"]
def GH:WS:=(aM (wF tJ (aC (wN 1) (aC (wF nu (aC (wF Zb (aC (wN 0) (aC (wN 1) (aC (wN 2) aA)))) (aC (wF Zb (aC (wN 0) (aC (wN 2) (aC (wN 2) aA)))) aA))) (aC (wN 2) aA)))))
abbrev Zf6:List Str:=["slants", "size", "found", "rest", "place_and_lead", "at", "lead"]
def C2:WS:=(aI (iX (wF ur (aC (wN 0) aA))) (aI (aQ 1 (wF qp (aC (wN 0) aA))) (aI (bW 2 (aX aA)) (aI (bW 3 (aLC (eO (aC (wN 1) aA)) 1 [1] (gN 0) cM (wF zO (aC (wN 0) (aC (wN 1) aA))))) (bO 3 (aI (aQ 4 (wF wV (aC (wN 0) (aC (wN 3) aA)))) (bO 3 (aI (aZ (vR (wT (w2 (gIsC true) (wN 4) (wC D.non))) (aI (dI (wN 4) (dH 2 (cD (gN 5) (cD (gN 6) dC)))) (aI (dg 2 (wN 6)) (bO 3 (aI (bW 3 (aLC (iS (w2 gAdd (bM (wN 3) d8 (dA (wN 5))) (bM (wN 3) (dA (w2 gAdd (wN 5) (wC (D.int (1))))) d8))) 1 [0,6] (gN 0) cM (wF Ab (aC (wN 1) (aC (wN 0) (aC (wN 2) aA)))))) (bO 3 (aQ 4 (wF wV (aC (wN 0) (aC (wN 3) aA))))))))))) (bO 2 (bO 3 (aM (w2 gAdd (wN 2) (wN 3)))))))))))))
abbrev ZjK:List Str:=["slants", "row"]
def GI:WS:=(aM (wF Zb (aC (wN 0) (aC (wN 1) (aC (wN 1) aA)))))
abbrev Zhn:List Str:=["slants", "rows"]
def C3:WS:=(aM (wB iW (aC (wL (wU (iE (aC (wN 1) aA)) 3 [0,1] (dH 2 (cD (gN 0) (cD (gN 1) dC))) cM (iS (bM (wN 4) (dA (w2 gAdd (wN 0) (wC (D.int (1))))) d8)) (gN 2) cM (w2 (gEq false) (wF Zb (aC (wN 3) (aC (wN 1) (aC (wN 2) aA)))) (wC (D.tup [(D.int (0)),(D.int (1))]))))) aA)))
abbrev Zdh:List Str:=["slants", "thing", "size"]
def C4:WS:=(aI (iX (wF ur (aC (wN 0) aA))) (aI (aQ 2 (wF qp (aC (wN 0) aA))) (aI (cS (fD (bV (wT (wB gIs (aC (wN 1) (aC (wC (.ty "list")) aA))))) (wT (w2 (gEq true) (wB bS (aC (wN 1) aA)) (wN 2)))) (aM (wC (D.bl false))) cR) (aI (cS (bV (wT (wB iW (aC (wL (aLC (iS (wN 1)) 1 [0] (gN 0) cM (wF sY (aC (wN 1) (aC (wN 0) aA))))) aA)))) (aM (wC (D.bl false))) cR) (aM (ii (wF Aa (aC (wN 1) (aC (wN 2) aA))) (wF Ac (aC (wN 0) (aC (wN 1) aA)))))))))
abbrev Zh4:List Str:=["slants", "paper", "tops", "above", "below"]
def C5:WS:=(aI (cS (bV (wT (wF Ad (aC (wN 0) (aC (wN 1) aA))))) (i7 (PySem.Str.ofString "NoRow")) cR) (aI (bW 2 (aLC (iS (wN 1)) 1 [0] (gN 0) cM (w2 gIx (wF wX (aC (wN 1) (aC (wN 0) aA))) (wC (D.int (0)))))) (bO 2 (aI (aQ 3 (wB bS (aC (wL (aLC (iS (wN 2)) 1 [] (gN 0) (wT (w2 sS (wN 0) (wC (D.int (0))))) (wN 0))) aA))) (bO 2 (aI (aQ 4 (wB bS (aC (wL (aLC (iS (wN 2)) 1 [] (gN 0) (wT (w2 fW (wN 0) (wC (D.int (0))))) (wN 0))) aA))) (bO 2 (aM (aU (aC (wN 3) (aC (wN 4) (aC (w2 eS (w2 eS (wB bS (aC (wN 2) aA)) (wN 3)) (wN 4)) aA))))))))))))
abbrev Zf1:List Str:=["slants"]
def GJ:WS:=(aM (wF wW (aC (wN 0) aA)))
abbrev Zh3:List Str:=["slants"]
def GK:WS:=(aM (wF Ae (aC (wN 0) (aC (wF CZ (aC (wN 0) aA)) aA))))
theorem Zf:Rd Aa GG Zdi:=by
 rintro _ E Q ⟨⟨⟨⟨b,w⟩,m⟩,R⟩,rfl,h,q⟩;dsimp only at h q;unfold GG;walk_at "st";refine LF h ?_;refine⟨_,rfl,?_⟩;unfold bB;walk_at "st";rw[bL,bL,show((((dm R m).ld.length:Nat):Int)==((R.length:Nat):Int))=decide ((dm R m).ld.length=R.length) by rw[g9];simp;exact Int.ofNat_inj];exact q
theorem Ml:Rd wX GI ZjK:=by
 rintro _ E Q ⟨⟨x,y⟩,rfl,⟨h1,h2,h3⟩,q⟩;dsimp only at h1 h2 h3 q;unfold GI;walk_at "st";exact⟨(x,y,y),rfl,⟨h1,h2,h2,h3,h3⟩,q⟩
theorem Mm:Rd Ab GH Zf7:=by
 rintro _ E Q ⟨⟨⟨s,n⟩,r,l⟩,rfl,⟨h,ev,hr,hl,h0⟩,q⟩;dsimp only at h ev hr hl h0 q;unfold GH;walk_at "st";have up:∀x:Rat,Sz 163 x->Sz 170 x:=λx hx=>hx.mono (by decide);have z1:=Zm h hr hl;have z2:=Zm h hl hl;refine Af h ev hr.len hl.len (λx hx=>up x (hr.sz x hx)) (λx hx=>up x (hl.sz x hx)) (Af h ev hl.len hl.len (λx hx=>up x (hl.sz x hx)) (λx hx=>up x (hl.sz x hx)) (v7 (B2.of z1 z2 (by decide)) h0 ?_));exact CB (b:=674) (by decide) (by rw[hr.len];have:=h.n5;omega) (λy hy=>(hr.sz y hy).mono (by decide)) ((z1.div z2).mono (by decide)) (λy hy=>(hl.sz y hy).mono (by decide)) q
theorem GL{neg:Bool}{P:D->Prop}(h:P (.bl (if neg then !decide (q=0) else decide (q=0)))):gEq neg (aO q) (.tup [.int 0,.int 1]) P:=by
 refine rc (Ed _ 59) (by decide +kernel) ?_;have e:jA (aO q) (.tup [.int 0,.int 1])=decide (q=0):=by
  rw[<-FL,FK]
 rw[e];exact h
theorem GM{s:List Int}{n:Nat}{Q:D->Prop}{E:Ex->Prop}{N:Nds}{s1 s3 s4:SV}{k:Nat}(h:IsSl s n)(ev:s.reverse=s)(hN:N.rt=Q):∀(L:List (List Rat)) (s5:SV),(∀r∈L,Lf 163 n r)->(∀l,lH s n L=some l->Q (.tup [.int k,aF l]))->(lH s n L=none->∀s5,N.nx [.d (aP s),s1,.d (.int k),s3,s4,s5])->Za2 (gN 5) (cS (wT (w2 (gEq true) (wF Zb (aC (wN 0) (aC (wN 5) (aC (wN 5) aA)))) (wC (D.tup [(D.int (0)),(D.int (1))])))) (aM (aU (aC (wN 2) (aC (wN 5) aA)))) cR) E N (L.map aF) [.d (aP s),s1,.d (.int k),s3,s4,s5]
 |[],s5,_,_,h2=>h2 rfl s5
 |r::L,s5,hl,h1,h2=>by
  rw[cV,Za2];simp only[gN,eU,eT];have hr:=hl r (by simp);have up:∀x∈r,Sz 170 x:=λx hx=>(hr.sz x hx).mono (by decide);refine jo (b:=!decide (bZ s n r r=0)) (λP hP=>?_) (λe=>?_) λe=>?_
  .walk_at "st"
   exact Af h ev hr.len hr.len up up (GL hP)
  .have e0:¬bZ s n r r=0:=by simpa using e
   have:=h1 r (by rw[lH,if_neg e0]);rw[<-hN] at this;walk_at "st";exact⟨by decide,this⟩
  .have e0:bZ s n r r=0:=by simpa using e
   exact GM h ev hN L _ (λx hx=>hl x (by simp[hx])) (λl hl'=>h1 l (by rw[lH,if_pos e0];exact hl')) λhn=>h2 (by rw[lH,if_pos e0];exact hn)
theorem Sg.sums(h:IsSl s n){f R:List (List Rat)}(g:Sg s n f R):∀r∈R,∀o∈R,Lf 163 n (bJ r (-1) o):=λr hr o ho=>by
 obtain⟨M,m,hM⟩:=g.ex;obtain⟨v,hv,hl⟩:=hM r hr;obtain⟨v',hv',hl'⟩:=hM o ho;obtain⟨⟨x,hx⟩,h2⟩:=hl.add hl';have eq:=z5 (q:=-1) (g.wR r hr) (g.wR o ho);have hlen:=g.len;have:0<R.length:=AI hr;have lt:Pj.Lt (sA s n) n f.length M (λj=>v j+v' j) (gq (bJ r (-1) o)):=⟨⟨x,λj hj=>(eq j hj).trans (hx j hj)⟩,λi hi=>by rw[uw (λ_ _=>rfl) eq];exact h2 i hi⟩
 have:=lt.lf h.n5 (z6 h) m (by have:=h.n5;omega) λj hj=>by
  have:=qD (v j) (v' j);have:=hv j hj;have:=hv' j hj;omega
 rwa [CW (tN (g.wR r hr) (g.wR o ho))] at this
theorem GN{s:List Int}{n:Nat}{Q:D->Prop}{E:Ex->Prop}{N:Nds}{f R:List (List Rat)}(h:IsSl s n)(ev:s.reverse=s)(g:Sg s n f R)(hN:N.rt=Q):∀(R':List (List Rat)) (k:Nat) (s2 s3 s4 s5:SV),R.drop k=R'->k+R'.length=R.length->(∀a l,gD s n k R'=some (a,l)->Q (.tup [.int (a:Int),aF l]))->(gD s n k R'=none->∀s2 s3 s4 s5,N.nx [.d (aP s),.d (bB R),s2,s3,s4,s5])->Za2 (dH 2 (cD (gN 2) (cD (gN 3) dC))) (aI (bW 4 (aLC (iS (bM (wN 1) (dA (w2 gAdd (wN 2) (wC (D.int (1))))) d8)) 1 [3] (gN 0) cM (wF tJ (aC (wN 1) (aC (wF uf (aC (wC (D.tup [(D.int (0)),(D.int (1))])) (aC (wC (D.tup [(D.int (1)),(D.int (1))])) aA))) (aC (wN 0) aA)))))) (bO 4 (aZ (bU (iS (w2 gAdd (wL (aX (aC (wN 3) aA))) (wN 4))) (gN 5) (cS (wT (w2 (gEq true) (wF Zb (aC (wN 0) (aC (wN 5) (aC (wN 5) aA)))) (wC (D.tup [(D.int (0)),(D.int (1))])))) (aM (aU (aC (wN 2) (aC (wN 5) aA)))) cR))))) E N (eH k (R'.map aF)) [.d (aP s),.d (bB R),s2,s3,s4,s5]
 |[],k,s2,s3,s4,s5,_,_,_,h2=>h2 rfl s2 s3 s4 s5
 |r::R',k,s2,s3,s4,s5,hd,hk,h1,h2=>by
  rw[cV,eH,Za2];refine⟨rfl,?_⟩;simp only[cD,dC,gN,eU,eT];have n5:=h.n5;have gl:=g.len;have hr:r∈R:=mr (i:=k) (by rw[hd];simp);have hR':∀o∈R',o∈R:=λo ho=>mr (i:=k) (by rw[hd];simp[ho]);have tl:R.drop (k+1)=R':=by rw[<-List.drop_drop,hd];rfl
  simp only[dY] at hk;have lr:=g.rows h r hr;refine bY (B.C.own_by (xs:=(R'.map λo=>bJ r (-1) o).map aF) (ρ':=[.d (aP s),.d (bB R),.d (.int k),.d (aF r),.ow ((R'.map λo=>bJ r (-1) o).map aF),s5]) rfl (λP hP=>?_) ?_)
  .unfold bB
   walk_at "st";rw[show(k:Int)+1=((k+1:Nat):Int) by omega,zj (by rw[bL];omega),<-qE,tl];refine md (g:=aF) (f:=λo=>aF (bJ r (-1) o)) R' (λo ho P hP=>?_) .un [] (eG (by simp;omega)) ?_
   .walk_at "st"
    refine Ek (p:=0) (q:=1) (B2.of (n:=1) (m:=1) (Sz.zero (by decide)) (Sz.int 1 (by decide) (by decide)) (by decide)) ?_;rw[show(0:Rat)-1 = -1 from by decide +kernel];have lo:=g.rows h o (hR' o ho);exact CB (b:=163) (by decide) (by rw[lr.len];omega) lr.sz (Sz.mono (n:=2) (by decide) ⟨by decide,by decide⟩) lo.sz hP
   .rw[et,dk] at *
    exact hP
  dsimp only;refine B.C.pub_by (ρ':=[.d (aP s),.d (bB R),.d (.int k),.d (aF r),.d (.lst ((R'.map λo=>bJ r (-1) o).map aF)),s5]) rfl ?_;simp only[aZ];refine B.C.for_seq (xs:=(r::R'.map λo=>bJ r (-1) o).map aF) (λP hP=>?_) ?_
  .walk_at "st"
   exact⟨by decide,eG (by simp;omega),hP⟩
  refine GM (Q:=Q) h ev (by exact hN) _ _ (λo ho=>?_) (λl hl=>h1 k l (by rw[gD,hl])) λhn s5'=>?_
  .rcases Yan.mp ho with rfl|ho
   .exact lr
   .obtain⟨o',ho',rfl⟩:=YbS.mp ho
    exact g.sums h r hr o' (hR' o' ho')
  .exact GN h ev g hN R' (k+1) _ _ _ _ tl (by omega) (λa l hl=>h1 a l (by rw[gD,hn];exact hl)) λhn2=>h2 (by rw[gD,hn];exact hn2)
theorem Mn:Rd wV C1 Zf3:=by
 rintro _ E Q ⟨⟨⟨s,n⟩,f,R⟩,rfl,⟨h,ev,g⟩,q⟩;dsimp only at h ev g q;show C1 E _ [.d (aP s),.d (bB R),.un,.un,.un,.un];unfold C1;refine B.C.pub_by (ρ':=[.d (aP s),.d (bB R),.un,.un,.un,.un]) rfl ?_;refine bY ?_;simp only[aZ,bU];show iE _ _ [.d (aP s),.d (.lst (R.map aF)),.un,.un,.un,.un] _;simp only[iE,aC,aA,wN,cZ,df];refine GN (Q:=Q) h ev g rfl R 0 .un .un .un .un (by simp) (by simp) (λa l e=>?_) λe s2 s3 s4 s5=>?_
 .rw[e] at q;exact q
 .rw[e] at q;exact q
def GO{E:Ex->Prop}{b:Bool}{P:Bool->Prop}(hw:∀P:D->Prop,P (.bl b)->w E ρ P)(h:P b):wT w E ρ P:=hw _ h
theorem C6{E:Ex->Prop}{x:D}(hw:∀P:D->Prop,P (.tup [x,y])->w E ρ P)(e:(ρ.set i (.d x)).set j (.d y)=ρ')(h:N.nx ρ'):dI w (dH 2 (cD (gN i) (cD (gN j) dC))) E N ρ:=hw _ ⟨rfl,by rw[<-e] at h;exact h⟩
theorem Mo:Rd wW C2 Zf6:=by
 rintro _ E Q ⟨x,rfl,hk,q⟩;show C2 E _ [.d x,.un,.un,.un,.un,.un,.un];unfold C2;walk_at "nx";unfold z9 at q;cases e:fZ x with
 |false=>exact xS.err x rfl hk (nR e) (qq e q)
 |true=>
 obtain⟨s,n,rfl,h⟩:=sZ e;replace q:=qr h q;cases ev:iw (aP s) with
 |false=>
  rw[ev] at q;exact xS.err (aP s) rfl hk (by(try dsimp only);rw[iu h,ev];rfl) q
 |true=>
 rw[ev,gR,h.sN] at q;simp only[if_true] at q;have ev':s.reverse=s:=by unfold iw at ev;rw[gR] at ev;simpa using ev
 have n5:=h.n5;refine GF h ev' ?_;walk_at "nx";refine zd h ?_;show aI _ _ _ _ [.d (aP s),.d (.int n),.un,.un,.un,.un,.un];refine bY (B.C.own_by (xs:=[]) (ρ':=[.d (aP s),.d (.int n),.ow [],.un,.un,.un,.un]) rfl (λP hP=>⟨by decide,hP⟩) ?_);dsimp only;refine bY (B.C.own_by (xs:=((List.range n).map (bC n)).map aF) (ρ':=[.d (aP s),.d (.int n),.ow [],.ow (((List.range n).map (bC n)).map aF),.un,.un,.un]) rfl (λP hP=>?_) ?_)
 .walk_at "st"
  refine⟨by omega,by omega,?_⟩;rw[lC];refine md (g:=λk:Nat=>D.int (k:Int)) (f:=λk=>aF (bC n k)) (List.range n) (λk hk P hP=>?_) .un [] (eG (by simp;omega)) ?_
  .walk_at "st"
   exact Zn n5 hP
  .rw[et,dk] at *
   exact hP
 dsimp only;refine B.C.pub_by (ρ':=[.d (aP s),.d (.int n),.ow [],.d (bB ((List.range n).map (bC n))),.un,.un,.un]) rfl ?_;have g0:=Sg.start h;refine bY (gU (d:=gX (gD s n 0 ((List.range n).map (bC n)))) (ρ':=[.d (aP s),.d (.int n),.ow [],.d (bB ((List.range n).map (bC n))),.d (gX (gD s n 0 ((List.range n).map (bC n)))),.un,.un]) rfl (λP hP=>?_) ?_)
 .walk_at "st"
  exact GE h ev' g0 hP
 dsimp only;refine B.C.pub_by (ρ':=[.d (aP s),.d (.int n),.ow [],.d (bB ((List.range n).map (bC n))),.d (gX (gD s n 0 ((List.range n).map (bC n)))),.un,.un]) rfl ?_;refine bY ?_;simp only[aZ];refine⟨λm ρ=>∃f R s5 s6 k,m=R.length/\Sg s n f R/\R.length<=k/\tM s n k f R=fH s n/\ρ=[.d (aP s),.d (.int n),.ow (f.map aF),.d (bB R),.d (gX (gD s n 0 R)),s5,s6],⟨_,[],_,.un,.un,n,rfl,g0,by simp,rfl,rfl⟩,?_⟩;rintro m _ ⟨f,R,s5,s6,k,rfl,g,hkR,hap,rfl⟩;have gl:=g.len;cases el:gD s n 0 R with
 |none=>
  rw[show gX (none:Option (Nat×List Rat))=.non from rfl];refine GO (b:=false) (λP hP=>⟨rfl,hP⟩) ?_;rw[if_neg (by decide)];have efin:f++R=fH s n:=by
   rw[<-hap];cases k with
   |zero=>rfl
   |succ k=>rw[tM,el]
  dsimp only;refine B.C.pub_by (ρ':=[.d (aP s),.d (.int n),.d (.lst (f.map aF)),.d (bB R),.d .non,s5,s6]) rfl ?_;refine B.C.pub_by (ρ':=[.d (aP s),.d (.int n),.d (.lst (f.map aF)),.d (.lst (R.map aF)),.d .non,s5,s6]) rfl ?_;walk_at "st";refine⟨eG (by simp;omega),?_⟩;rw[<-jb,efin];exact q
 |some al=>
  obtain⟨a,l⟩:=al;have d:=g.ld el;have ha:=d.at_;have hl:=d.lf h g;rw[show gX (some (a,l))=.tup [.int (a:Int),aF l] from rfl];refine GO (b:=true) (λP hP=>⟨rfl,hP⟩) ?_;rw[if_pos rfl];refine bY (C6 (x:=.int (a:Int)) (y:=aF l) (nm_at rfl) (ρ':=[.d (aP s),.d (.int n),.ow (f.map aF),.d (bB R),.d (.tup [.int (a:Int),aF l]),.d (.int (a:Int)),.d (aF l)]) rfl ?_);dsimp only;refine bY (wH (xs:=f.map aF) (d:=aF l) (ρ':=[.d (aP s),.d (.int n),.ow ((f++[l]).map aF),.d (bB R),.d (.tup [.int (a:Int),aF l]),.d (.int (a:Int)),.d (aF l)]) rfl (cU (show _<2000 by rw[bL];omega) (by decide)) (by rw[jb];rfl) (nm_at rfl) ?_);dsimp only;refine B.C.pub_by (ρ':=[.d (aP s),.d (.int n),.ow ((f++[l]).map aF),.d (.lst (R.map aF)),.d (.tup [.int (a:Int),aF l]),.d (.int (a:Int)),.d (aF l)]) rfl ?_;refine bY (B.C.own_by (xs:=((R.take a++R.drop (a+1)).map (gW s n l)).map aF) (ρ':=[.d (aP s),.d (.int n),.ow ((f++[l]).map aF),.ow (((R.take a++R.drop (a+1)).map (gW s n l)).map aF),.d (.tup [.int (a:Int),aF l]),.d (.int (a:Int)),.d (aF l)]) rfl (λP hP=>?_) ?_)
  .walk_at "st"
   rw[tm (b:=a) rfl,show((a:Int)+1)=((a+1:Nat):Int) by omega,zj (by rw[bL];omega),<-nK,<-qE];refine⟨eG (by simp;omega),?_⟩;rw[<-jb];refine md (g:=aF) (f:=λr=>aF (gW s n l r)) (R.take a++R.drop (a+1)) (λr hr P hP=>?_) .un [] (eG (by simp;omega)) ?_
   .walk_at "st"
    exact Mf h ev' (g.rows h r (jq hr)) hl d.nz hP
   .rw[et,dk] at *
    exact hP
  dsimp only;have g':=g.step h ev' d;refine B.C.pub_by (ρ':=[.d (aP s),.d (.int n),.ow ((f++[l]).map aF),.d (bB ((R.take a++R.drop (a+1)).map (gW s n l))),.d (.tup [.int (a:Int),aF l]),.d (.int (a:Int)),.d (aF l)]) rfl ?_;refine gU (d:=gX (gD s n 0 ((R.take a++R.drop (a+1)).map (gW s n l)))) (ρ':=[.d (aP s),.d (.int n),.ow ((f++[l]).map aF),.d (bB ((R.take a++R.drop (a+1)).map (gW s n l))),.d (gX (gD s n 0 ((R.take a++R.drop (a+1)).map (gW s n l)))),.d (.int (a:Int)),.d (aF l)]) rfl (λP hP=>?_) ?_
  .walk_at "st"
   exact GE h ev' g' hP
  have len':((R.take a++R.drop (a+1)).map (gW s n l)).length=R.length-1:=by rw[bL,dM,jr,kI];omega
  refine⟨_,?_,f++[l],_,_,_,k-1,rfl,g',by rw[len'];omega,?_,rfl⟩
  .rw[len'];omega
  .rw[<-hap]
   cases k with
   |zero=>omega
   |succ k=>rw[tM,el];rfl
theorem ZiK:(q.num>0↔0<q)/\(q.num<0↔q<0):=by
 have h1:=Rat.num_nonneg (q:=q);have h2:=Ycx (q:=q);constructor
 .constructor
  .intro h
   have a:=h1.mp (by omega);have:q≠0:=λz=>by have:=h2.mpr z;omega
   grind
  .intro h
   have a:=h1.mpr (by grind);have:q.num≠0:=λz=>by have:=h2.mp z;grind
   omega
 .constructor
  .intro h
   have:¬0<=q:=λz=>by have:=h1.mpr z;omega
   grind
  .intro h
   have:¬0<=q.num:=λz=>by have:=h1.mp z;grind
   omega
def rm(s:List Int)(n:Nat):List (List Rat)->List Bool
 |[]=>[]
 |r::R=>(R.map λo=>decide (bZ s n r o=0))++rm s n R
theorem GP{s:List Int}{n:Nat}:∀R:List (List Rat),(rm s n R).all id=decide (R.Pairwise λu v=>bZ s n u v=0)
 |[]=>by simp[rm]
 |r::R=>by
  rw[rm,List.all_append,GP R,g9];simp
theorem GQ{a b:SV}{tail:bR}{we:WE}{f:List Rat->D}:∀(L:List (List Rat)) (sv:SV) (acc:List D) (Q:bR->List D->Prop),(∀o∈L,∀P:D->Prop,P (f o)->we No (a::b::.d (aF o)::tail) P)->acc.length+L.length<=small->(∀sv,Q (a::b::sv::tail) (acc++L.map f))->lcV (gN 2) cM we (L.map aF) (a::b::sv::tail) acc Q
 |[],sv,acc,Q,_,_,hq=>by have:=hq sv;rw[gx,pI] at this;exact this
 |o::L,sv,acc,Q,h,hl,hq=>by
  rw[cV,lcV];simp only[gN,eU,eT,cM];rw[if_pos trivial];simp only[dY] at hl;refine h o (by simp) _ ⟨by omega,GQ L _ _ Q (λo' ho'=>h o' (by simp[ho'])) (by simp;omega) λsv=>?_⟩;have:=hq sv;rw[cV] at this;rw[lN];exact this
theorem GR{s:List Int}{n:Nat}{P:List (List Rat)}{Q:List D->Prop}(p:Pq0 s n P):∀(R:List (List Rat)) (k:Nat) (s0 s1 s2:SV) (acc:List D),P.drop k=R->k+R.length=P.length->acc.length+R.length*R.length<=100->Q (acc++(rm s n R).map D.bl)->lcW2 (dH 2 (cD (gN 0) (cD (gN 1) dC))) cM (iS (bM (wN 4) (dA (w2 gAdd (wN 0) (wC (D.int (1))))) d8)) (gN 2) cM (w2 (gEq false) (wF Zb (aC (wN 3) (aC (wN 1) (aC (wN 2) aA)))) (wC (D.tup [(D.int (0)),(D.int (1))]))) (eH k (R.map aF)) [s0,s1,s2,.d (aP s),.d (bB P)] acc Q
 |[],k,s0,s1,s2,acc,_,_,_,hq=>by
  rw[gx,eH,lcW2];rw[rm,gx,pI] at hq;exact hq
 |r::R,k,s0,s1,s2,acc,hd,hk,ha,hq=>by
  rw[cV,eH,lcW2];refine⟨rfl,?_⟩;simp only[cD,dC,gN,eU,eT,cM];rw[if_pos trivial];have n5:=p.sl.n5;have pl:=p.len;simp only[dY] at hk ha;have hr:r∈P:=mr (i:=k) (by rw[hd];simp);have hR:∀o∈R,o∈P:=λo ho=>mr (i:=k) (by rw[hd];simp[ho]);have tl:P.drop (k+1)=R:=by rw[<-List.drop_drop,hd];rfl
  have up:∀o∈P,∀x∈o,Sz 170 x:=λo ho x hx=>((p.lf o ho).sz x hx).mono (by decide);unfold bB;walk_at "st";rw[show(k:Int)+1=((k+1:Nat):Int) by omega,zj (by rw[bL];omega),<-qE,tl];rw[nF,Nat.mul_succ] at ha;refine GQ (f:=λo=>.bl (decide (bZ s n r o=0))) R _ _ _ (λo ho P' hP=>?_) (eG (by omega)) λsv=>?_
  .walk_at "st"
   exact Af p.sl p.ev (p.lf r hr).len (p.lf o (hR o ho)).len (up r hr) (up o (hR o ho)) (GL hP)
  .refine GR p R (k+1) _ _ _ _ tl (by omega) (by rw[dM,bL];omega) ?_
   rw[rm,jb,dk] at hq;rw[lN];exact hq
theorem Mp:Rd Ac C3 Zhn:=by
 rintro _ E Q ⟨⟨⟨s,n⟩,P⟩,rfl,p,q⟩;dsimp only at p q;show C3 E _ [.d (aP s),.d (bB P)];unfold C3;have n5:=p.sl.n5;have pl:=p.len;show lcW2 _ _ _ _ _ _ (eH 0 (P.map aF)) [.un,.un,.un,.d (aP s),.d (bB P)] [] _;refine GR p P 0 _ _ _ [] (by simp) (by simp) ?_ ?_
 .rw[pl]
  have:n*n<=5*5:=ke n5 n5;simp;omega
 .refine⟨rm s n P,rfl,?_⟩
  rw[GP];exact q
theorem Mq:Rd Ad C4 Zdh:=by
 rintro _ E Q ⟨⟨⟨s,n⟩,P⟩,rfl,p,q⟩;dsimp only at p q;have n5:=p.sl.n5;have pl:=p.len;show C4 E _ [.d (aP s),.d (bB P),.un];unfold C4;walk_at "nx";refine GF p.sl p.ev ?_;walk_at "nx";refine zd p.sl ?_;show aI _ _ _ _ [.d (aP s),.d (.lst (P.map aF)),.d (.int n)];refine bY (jo (b:=false) (B.C.or_by (b:=false) (c:=false) (λP' h=>?_) λP' h=>?_) (λe=>nomatch e) λ_=>?_)
 .walk_at "st"
  refine⟨"list",rfl,by decide,?_⟩;walk_at "st";exact h
 .walk_at "st"
  rw[bL,pl];simpa using h
 dsimp only;refine bY (jo (b:=false) (λP' h=>?_) (λe=>nomatch e) λ_=>?_)
 .walk_at "st"
  refine md (g:=aF) (f:=λ_=>.bl true) P (λr hr P'' hP=>?_) .un [] (eG (by simp;omega)) ?_
  .walk_at "st"
   refine BT p.sl (sU (by rw[(p.lf r hr).len];omega)) ?_;have:=v8 r;rw[(p.lf r hr).len] at this;rw[this];exact hP
  .refine⟨P.map λ_=>true,by rw[et,dk];rfl,?_⟩
   rw[show(P.map λ_=>true).all id=true by simp];exact h
 dsimp only;show aM _ _ _ [.d (aP s),.d (bB P),.d (.int n)];walk_at "st";refine Me p.clin ?_
 by_cases h1:(dm P n).ld.length=P.length
 .rw[NK h1]
  walk_at "st";refine Mi p ?_;rw[show decide (P.Pairwise λu v=>bZ s n u v=0)=decide ((dm P n).ld.length=P.length/\P.Pairwise λu v=>bZ s n u v=0) by rw[g9];simp[h1]];exact q
 .rw[NS h1]
  rw[NS (λz=>h1 z.1)] at q;exact q
def Mr:Rd CZ GJ Zf1:=by
 rintro _ E Q ⟨x,rfl,hk,q⟩;unfold GJ;walk_at "st";exact⟨x,rfl,hk,q⟩
theorem Ms:Rd Ae C5 Zh4:=by
 rintro _ E Q ⟨⟨⟨s,n⟩,P⟩,rfl,⟨p,h1,h2⟩,q⟩;dsimp only at p h1 h2 q;have n5:=p.sl.n5;have pl:=p.len;show C5 E _ [.d (aP s),.d (bB P),.un,.un,.un];unfold C5;refine bY (jo (b:=false) (λP' h=>?_) (λe=>nomatch e) λ_=>?_)
 .walk_at "st"
  refine Mj p ?_;rw[NK ⟨h1,h2⟩];exact h
 dsimp only;refine bY (B.C.own_by (xs:=(P.map λr=>(bZ s n r r).num).map D.int) (ρ':=[.d (aP s),.d (bB P),.ow ((P.map λr=>(bZ s n r r).num).map D.int),.un,.un]) rfl (λP' h=>?_) ?_)
 .show lcW _ _ _ (P.map aF) [.un,.d (aP s)] [] _
  refine md (g:=aF) (f:=λr=>.int (bZ s n r r).num) P (λr hr P'' hP=>?_) .un [] (eG (by simp;omega)) ?_
  .walk_at "st"
   refine Mh p.sl p.ev (p.lf r hr).len (λx hx=>((p.lf r hr).sz x hx).mono (by decide)) ?_;exact⟨_,rfl,hP⟩
  .rw[et]
   rw[dk] at h;exact h
 dsimp only;refine B.C.pub_by (ρ':=[.d (aP s),.d (bB P),.d (.lst ((P.map λr=>(bZ s n r r).num).map D.int)),.un,.un]) rfl ?_;have eI:∀(c:Int->Bool) (d:Rat->Bool) (w:WT),(∀q:Rat,c q.num=d q)->(∀(i:Int) (P':Bool->Prop),P' (c i)->w No [.d (.int i)] P')->∀(ρ:bR) (P':D->Prop),P' (.int (((P.filter λr=>d (bZ s n r r)).length:Nat):Int))->wB bS (aC (wL (aLC (iS (wC (.lst ((P.map λr=>(bZ s n r r).num).map D.int)))) 1 [] (gN 0) w (wN 0))) aA) E ρ P':=λc d w hc hw ρ P' hP=>by
  show lcW _ _ _ ((P.map λr=>(bZ s n r r).num).map D.int) [.un] [] _;rw[dk];refine wI (g:=λr=>D.int (bZ s n r r).num) (f:=λr=>D.int (bZ s n r r).num) (p:=λr=>d (bZ s n r r)) P (λr hr P'' h=>?_) (λr hr P'' h=>h) .un [] (eG (by simp;omega)) ?_
  .exact hw _ _ (by rw[hc];exact h)
  .walk_at "st"
   rw[bL];exact hP
 refine bY (gU (d:=.int (jB s n P:Int)) (ρ':=[.d (aP s),.d (bB P),.d (.lst ((P.map λr=>(bZ s n r r).num).map D.int)),.d (.int (jB s n P:Int)),.un]) rfl (λP' h=>?_) ?_)
 .refine eI (λi=>decide (i>0)) (λq=>decide (0<q)) (wT (w2 sS (wN 0) (wC (D.int (0))))) (λq=>by rw[g9,NI,NI];exact ZiK.1) (λi P'' h=>?_) _ P' h
  walk_at "st";exact h
 dsimp only;refine B.C.pub_by (ρ':=[.d (aP s),.d (bB P),.d (.lst ((P.map λr=>(bZ s n r r).num).map D.int)),.d (.int (jB s n P:Int)),.un]) rfl ?_;refine bY (gU (d:=.int (kG s n P:Int)) (ρ':=[.d (aP s),.d (bB P),.d (.lst ((P.map λr=>(bZ s n r r).num).map D.int)),.d (.int (jB s n P:Int)),.d (.int (kG s n P:Int))]) rfl (λP' h=>?_) ?_)
 .refine eI (λi=>decide (i<0)) (λq=>decide (q<0)) (wT (w2 fW (wN 0) (wC (D.int (0))))) (λq=>by rw[g9,NI,NI];exact ZiK.2) (λi P'' h=>?_) _ P' h
  walk_at "st";exact h
 dsimp only;refine B.C.pub_by (ρ':=[.d (aP s),.d (bB P),.d (.lst ((P.map λr=>(bZ s n r r).num).map D.int)),.d (.int (jB s n P:Int)),.d (.int (kG s n P:Int))]) rfl ?_;walk_at "st";rw[bL,bL];exact⟨by decide,q⟩
theorem Mu:Rd wY GK Zh3:=by
 rintro _ E Q ⟨x,rfl,hk,q⟩;unfold GK;walk_at "st";unfold qz at q;cases e:fZ x with
 |false=>exact xS.err x rfl hk (nR e) (qq e q)
 |true=>
 obtain⟨s,n,rfl,h⟩:=sZ e;replace q:=qr h q;cases ev:iw (aP s) with
 |false=>
  rw[ev] at q;exact xS.err (aP s) rfl hk (by(try dsimp only);unfold z9;rw[iu h,ev];rfl) q
 |true=>
 rw[ev,gR,h.sN] at q;simp only[if_true] at q;have ev':s.reverse=s:=by unfold iw at ev;rw[gR] at ev;simpa using ev
 have pa:=z8 h ev';refine Zj h ev' ?_;exact Mk ⟨h,ev',pa.len,λr hr=>(pa.lf r hr).mono (by decide)⟩ (by rw[pa.ind h,pa.len]) pa.ap q
section
theorem C7{T:Nat->Nat->Rat}(h:∀i j,i<n->j<n->T i j=T' i j)(u v:Nat->Rat):bf T n u v=bf T' n u v:=
 da λi hi=>by rw[da (g:=λj=>T' i j*v j) λj hj=>by rw[h i j hi hj]]
theorem Ap.T{T:Nat->Nat->Rat}(a:Ap T n U)(h:∀i j,i<n->j<n->T i j=T' i j):Ap T' n U:=⟨λx y hx hy ne=>by rw[<-C7 h];exact a.ap x y hx hy ne,a.fu⟩
theorem GS(hl:P.length=n)(f:List Rat->Bool):(P.filter f).length=eI n λa=>f (P.getD a []):=by
 have e:P=(List.range n).map λa=>P.getD a []:=by
  refine tT λi=>?_;rw[cI];rcases gg i n with hi|hi
  .rw[jD hi,bG (by omega)]
   show _=some (P.getD i []);rw[bD,bG (by omega)];rfl
  .rw[eK (by omega),eK (by rw[jE];exact hi)]
   rfl
 unfold eI
 conv=>lhs;rw[e]
 rw[List.filter_map,bL];rfl
def GT{p q:Nat->Bool}(h:∀a,a<n->p a=q a):eI n p=eI n q:=by
 unfold eI;rw[List.filter_congr λa ha=>h a (Yah.mp ha)]
theorem Mv(h:IsSl s n)(hl:P.length=n)(hw:∀r∈P,r.length=n):jB s n P=eI n (eJ (Pj.cA (sA s n)) n 1 (pU P)):=by
 unfold jB;rw[GS hl];refine GT λa ha=>?_;have w:=hw _ (iy (R:=P) (a:=a) (by omega));unfold eJ pU;rw[ml h w w,rG]
theorem Mw(h:IsSl s n)(hl:P.length=n)(hw:∀r∈P,r.length=n):kG s n P=eI n (eJ (Pj.cA (sA s n)) n (-1) (pU P)):=by
 unfold kG;rw[GS hl];refine GT λa ha=>?_;have w:=hw _ (iy (R:=P) (a:=a) (by omega));unfold eJ pU;rw[ml h w w,g9,NI,NI];constructor<;>intro z<;>grind
end
abbrev WM:=(Ex->Prop)->bR->(List (List D)->Prop)->Prop
def w4(K:NF)(W:Wd)(H:Hp)(Q:VK)(rs:List (List D)):Prop:=∀a bs W' H',Ext W H W' H'->OwnT K H W' H' a bs rs->Q (.ref a) H'
structure GU(X:Cx)(EX:XK)(e:Expr)(w:WM):Prop where
 t:∃t,PE X e t/\∀W0 H0 W σ H ρ E Q,SOk X.K W0 H0 W σ H ρ->iR X.K W0 H0 E EX->w E ρ (w4 X.K W H Q)->t σ H Q
 mono:∀E ρ P P',(∀d,P d->P' d)->w E ρ P->w E ρ P'
theorem OwnT.base{W:Wd}{bs:List Addr}(o:OwnT K H1 W2 H2 a bs xss)(x:Ext W H W1 H1):OwnT K H W2 H2 a bs xss:=
 ⟨o.a1,o.a2,o.a3,x.none o.a4,o.nd,o.len,λi b e=>let⟨xs,e1,vs,q1,q2,q3,q4,q5⟩:=o.row i b e;⟨xs,e1,vs,q1,q2,q3,x.none q4,q5⟩⟩
def lcM(g:WG)(wf:WT)(we:WA):List D->bR->List (List D)->(List (List D)->Prop)->Prop
 |[],_,acc,Q=>Q acc
 |d::ds,ρ,acc,Q=>g d ρ λρ2=>wf No ρ2 λb=>if b=true then we No ρ2 λy=>acc.length<small/\lcM g wf we ds ρ2 (acc++[y]) Q else lcM g wf we ds ρ2 acc Q
def Ag(wi:WA)(nv:Nat)(sel:List Nat)(g:WG)(wf:WT)(we:WA):WM:=λE ρ Q=>wi E ρ λds=>lcM g wf we ds (Zbv nv sel ρ) [] Q
section
variable{we:WA}
theorem lcM.mono(hg:∀d ρ P P',(∀r,P r->P' r)->g d ρ P->g d ρ P')(hf:∀E ρ P P',(∀d,P d->P' d)->wf E ρ P->wf E ρ P')(he:∀E ρ P P',(∀d,P d->P' d)->we E ρ P->we E ρ P') :
  ∀ds ρ acc P P',(∀xs,P xs->P' xs)->lcM g wf we ds ρ acc P->lcM g wf we ds ρ acc P'
 |[],_,acc,P,P',hp,h=>hp _ h
 | d::ds,ρ,acc,P,P',hp,h=>hg _ _ _ _ (λr hr=>hf _ _ _ _ (λb hb=>by
   cases b with
   |true=>rw[if_pos rfl] at hb ⊢;exact he _ _ _ _ (λy hy=>⟨hy.1,lcM.mono hg hf he ds r _ P P' hp hy.2⟩) hb
   |false=>rw[if_neg (by decide)] at hb ⊢;exact lcM.mono hg hf he ds r _ P P' hp hb) hr) h
theorem Mx(vars:List Str)(sel:List Nat)(hc:X.calm=true)(hi:lh X EX target iter wi)(hg:∀s H fp,lX (X.lc sc vars sel s H fp) target g)(hf:∀s H fp,ql (X.lc sc vars sel s H fp) E0 ifs wf)(he:∀s H fp,PXL (X.lc sc vars sel s H fp) E0 elt we)
  (ok:ji sc X.env.scope=true:=by rfl) (so:mX X.N sc sel=true:=by rfl) (hs:∀x,foldedSetIterable iter X.env x=pure x:=by intro _;rfl):GU X EX (.ListComp elt [⟨target,iter,ifs,0⟩] sc pos) (Ag wi vars.length sel g wf we):=by
 have gm:=(hg {} (λ_=>none) []).mono;have go:=(hg {} (λ_=>none) []).own;have fm:=(hf {} (λ_=>none) []).mono;have em:=(he {} (λ_=>none) []).mono;obtain⟨ti,pi,ki⟩:=hi.t;refine ⟨⟨_,DK vars sel hc pi ok so (g:=λv σ H Q=>∃ W0 H0 W ρ d,SOk X.K W0 H0 W σ H ρ/\Rep X.K W v d/\g d ρ (λρ'=>∀ σ',SOk X.K W0 H0 W σ' H ρ'->Q σ' H))
  (tf:=λσ H Q=>∃W0 H0 W ρ,SOk X.K W0 H0 W σ H ρ/\wf No ρ (λb=>∀W' H',Ext W H W' H'->Q b H'))
  (te:=λσ H Q=>∃W0 H0 W ρ,SOk X.K W0 H0 W σ H ρ/\we No ρ (CP X.K W H Q)) (λs1 H1 fp=>?_) (λs1 H1 fp=>?_) (λs1 H1 fp=>?_) hs,?_⟩,λE ρ P P' hp h=>hi.mono _ _ _ _ (λds hds=>lcM.mono gm fm em ds _ _ _ _ hp hds) h⟩
 .obtain⟨t,q,k⟩:=(hg s1 H1 fp).t
  rintro pins s σ H v u Q I r ⟨W0,H0,W,ρ,d,s',r',h⟩;exact q pins s σ H v u Q I r (k W0 H0 W σ H ρ d v Q s' r' h)
 .obtain⟨t,q,k⟩:=(hf s1 H1 fp).t
  rintro pins s σ H Q I ⟨W0,H0,W,ρ,s',h⟩;exact q pins s σ H Q I (k W0 H0 W σ H ρ No Q s' (λ_ _ _ _ _ z=>z.elim) h)
 .obtain⟨t,q,k⟩:=(he s1 H1 fp).t
  rintro pins s σ H Q I ⟨W0,H0,W,ρ,s',h⟩;exact q pins s σ H Q I (k W0 H0 W σ H ρ No Q s' (λ_ _ _ _ _ z=>z.elim) h)
 .intro W0 H0 W σ H ρ E Q s eo h
  refine ki W0 H0 W σ H ρ E _ s eo (hi.mono _ _ _ _ (λds hds W1 H1 J x1 it D hD=>?_) h);have hDf:=x1.ok.fresh hD;have hD0:H0 D=none:=s.ext.isN (x1.isN hD);refine ⟨λi m ys σ2 H2=>m=ds.length - i/\i<=ds.length/\∃ W2 ρ2 acc bs,Ext W1 H1 W2 H2/\SOk X.K W0 H0 W2 σ2 H2 ρ2/\ZfG ρ2/\ys=bs.map V.ref/\OwnT X.K H1 W2 H2 D bs acc/\
   lcM g wf we (ds.drop i) ρ2 acc (w4 X.K W H Q),⟨_,rfl,gJ _,W1,_,[],[],.new x1.ok hD,?_,Zbv.own _ _ ρ,rfl,⟨aN,hDf.1,hDf.2,hD,by simp,rfl,λi b e=>by simp at e⟩,by rw[pK];exact hds⟩,?_⟩
  .exact(((s.step x1).step (.new x1.ok hD)).lc vars.length sel)
  .rintro i m ys σ2 H2 ⟨rfl,hi',W2,ρ2,acc,bs,x2,s2,no2,rfl,o2,q2⟩
   refine⟨o2.a1,?_⟩;obtain⟨itg,its⟩:=it W2 H2 i x2.g x2.p x2.ok;rcases gg i ds.length with hlt|hge
   .have hd:ds[i]? = some ds[i]:=bG hlt
    obtain⟨go',yl⟩:=itg _ hd;refine .inr ⟨go',λx H3 y=>?_⟩;obtain⟨W3,x3,r3⟩:=yl x H3 y;rw[pL hlt] at q2;refine⟨W0,H0,W3,ρ2,ds[i],s2.step x3,r3,gm _ _ _ _ (λρ4 hr σ4 s4=>?_) (go _ _ _ no2 q2)⟩;obtain⟨no4,hr⟩:=hr;refine⟨W0,H0,W3,ρ4,s4,fm _ _ _ _ (λb hb W5 H5 x5=>?_) hr⟩;have o5:=o2.step (x3.trans x5);cases b with
    |false=>
     dsimp only;rw[if_neg (by decide)] at hb ⊢;exact⟨ds.length-(i+1),by omega,rfl,hlt,W5,ρ4,acc,bs,x2.trans (x3.trans x5),s4.step x5,no4,rfl,o5,hb⟩
    |true=>
     dsimp only;rw[if_pos rfl] at hb ⊢;refine⟨W0,H0,W5,ρ4,s4.step x5,em _ _ _ _ (λy hy a' vs W6 H6 x6 e1 e2 e3 e4 r6=>?_) hb⟩;have xx:=x3.trans (x5.trans x6);have o6:=o5.step x6;have hl:(bs.map V.ref).length=acc.length:=by rw[bL,o2.len]
     have na:a'∉D::bs:=o5.here e4;have aD:a'≠D:=λz=>na (by rw[z];simp);refine⟨o6.a1,by rw[hl];exact cU hy.1 (lT (bP _)),ds.length-(i+1),by omega,rfl,hlt,W6,ρ4,acc++[y],bs++[a'],(x2.trans xx).chg hD o6.a1 o6.a3 o6.a2,?_,no4,by simp,⟨by rw[aN,jb];rfl,o6.a2,o6.a3,o6.a4,?_,by rw[dM,dM,o6.len];rfl,λk b eb=>?_⟩,hy.2⟩
     .exact((s4.step x5).step x6).chgD no4 hD0 o6.a1 o6.a3 o6.a2
     .have nd:=o6.nd
      rw[<-iz,List.nodup_append];exact⟨nd,by simp,λp hp q hq e=>by rw[Yco.mp hq] at e;rw[e] at hp;exact na hp⟩
     .rcases gg k bs.length with hk|hk
      .rw[j6 hk] at eb
       obtain⟨xs,f1,us,f2,f3⟩:=o6.row k b eb;have hb:b≠D:=λz=>by
        have nd:=(YaI.mp o6.nd).1;exact nd (by rw[<-z];exact ge eb)
       exact⟨xs,by rw[j6 (by rw[<-o6.len];exact hk)];exact f1,us,by rw[aG hb];exact f2,f3⟩
      .have hk2:k=bs.length:=by
        have:=(Yaq.mp eb).1;simp at this;omega
       subst hk2;rw[jt (bP _),qI] at eb;cases eb;refine⟨y,by rw[o6.len,jt (bP _),qI];rfl,vs,by rw[aG aD];exact e1,e2,e3,?_,r6⟩;exact(x2.trans (x3.trans x5)).none e4
   .refine .inl ⟨its hge,?_⟩
    rw[tU hge] at q2;exact q2 D bs W2 H2 (x1.trans x2) (o2.base x1)
end
abbrev GV:=List D->(Ex->Prop)->(List (List D)->Prop)->Prop
abbrev My:=(Ex->Prop)->(List (List D)->Prop)->bR->Prop
section
variable{rest:List Stmt}
end
section
variable{S:GV}
end
section
variable{P:Program}{w:World}{base:Heap}{N:List Str}{S:GV}{z:My}
end
def w6:SV->Bool
 |.oo _=>true
 |_=>false
def C8(i:Nat)(ρ:bR):Bool:=(ρ.set i .un).all λs=>!w6 s
def rows(i:Nat)(ρ:bR):bR:=match ρ[i]? with
 |some (.oo xss)=>ρ.set i (.ow (xss.map .lst))
 |_=>ρ
section
variable{W:Wd}{bs:List Addr}
theorem GW(h:C8 i ρ=true)(j:Nat)(yss:List (List D))(hj:i≠j):ρ[j]?≠some (SV.oo yss):=λe=>by
 have:=Ybh.mp h (.oo yss) (ge (i:=j) (by rw[cG hj];exact e));simp[w6] at this
theorem uB{y z:SV}(e:(ρ.set i y)[j]? = some z)(h:z≠y):i≠j/\ρ[j]? = some z:=by
 by_cases hj:i=j
 .subst hj
  by_cases hi:i<ρ.length
  .rw[dc hi] at e;cases e;exact NH rfl h
  .rw[eK (by rw[cL];omega)] at e;cases e
 .rw[cG hj] at e;exact⟨hj,e⟩
theorem OwnT.new(o:OwnT K H0 W H a bs xss):∀c∈a::bs,H0 c=none:=λc hc=>by
 rcases Yan.mp hc with rfl|hc
 .exact o.a4
 .obtain⟨i,hi,rfl⟩:=Ybx.mp hc
  obtain⟨xs,_,vs,_,_,_,e,_⟩:=o.row i _ (bG hi);exact e
theorem SOk.ownT(s1:SOk K W0 H0 W1 σ H1 ρ)(x:Ext W1 H1 W H)(o:OwnT K H1 W H a bs xss)(hn:C8 i ρ=true):SOk K W0 H0 W (σ.set i (some (.ref a))) H (ρ.set i (.oo xss)):=by
 have s:=s1.step x;have out:∀{j:Nat} {z:SV},(ρ.set i (.oo xss))[j]? = some z->z≠.oo xss->i≠j/\ρ[j]? = some z:=λe h=>uB e h;refine⟨s.ext,by rw[cL,cL];exact s.len,λj y e=>?_,λj ys e=>?_,λj k xs ys b hjk e1 e2 e3=>?_,⟨λj yss e=>?_,λj k yss zss e1 e2=>?_⟩⟩
 .obtain⟨h,e⟩:=out e (by simp)
  rw[cG h];exact s.d j y e
 .obtain⟨h,e⟩:=out e (by simp)
  rw[cG h];exact s.o j ys e
 .obtain⟨h,e1⟩:=out e1 (by simp)
  obtain⟨h',e2⟩:=out e2 (by simp);rw[cG h] at e3;rw[cG h'];exact s.ne j k xs ys b hjk e1 e2 e3
 .by_cases h:i=j
  .subst h
   have hi:i<ρ.length:=by
    rcases gg i ρ.length with h|h
    .exact h
    .rw[eK (by rw[cL];omega)] at e;cases e
   rw[dc hi] at e;cases e;refine⟨a,bs,dc (by rw[<-s.len];exact hi),o.base s1.ext,λk ys c ek ec=>?_⟩;obtain⟨hk,ek⟩:=out ek (by simp);rw[cG hk] at ec;obtain⟨c',us,q1,q2,_⟩:=s1.o k ys ek;rw[ec] at q1;cases q1;intro hc;rw[o.new c hc] at q2;cases q2
  .rw[cG h] at e
   exact NH e (GW hn j yss h)
 .have key:∀{j:Nat} {yss:List (List D)},(ρ.set i (.oo xss))[j]? = some (SV.oo yss)->i=j:=λ{j yss} e=>by
   by_cases h:i=j
   .exact h
   .rw[cG h] at e;exact NH e (GW hn j yss h)
  rw[<-key e1,<-key e2]
theorem GX(W':Wd)(hb:∀b∈bs,W'.G b=H b)(hg:∀c o,W.G c=some o->W'.G c=some o)(hp:∀c,W.Pn c->W'.Pn c):∀{bs':List Addr} {xss:List (List D)},(∀b∈bs',b∈bs)->bs'.length=xss.length->(∀(i:Nat) b,bs'[i]? = some b->∃xs,xss[i]? = some xs/\Own1 K H0 W H b xs)->Reps K W' (bs'.map V.ref) (xss.map .lst)
 |[],[],_,_,_=>.nil
 |b::bs',xs::xss,hm,hl,h=>by
  obtain⟨ys,e,vs,e1,_,_,_,r⟩:=h 0 b rfl;simp at e;subst e;refine .cons (.lst ((hb b (hm b (by simp))).trans e1) (r.mono hg hp)) (GX W' hb hg hp (λc hc=>hm c (by simp[hc])) (by simpa using hl) λi c ec=>?_);obtain⟨zs,f1,f2⟩:=h (i+1) c (by simpa using ec);exact⟨zs,by simpa using f1,f2⟩
 |[],_::_,_,hl,_=>by simp at hl
 |_::_,[],_,hl,_=>by simp at hl
def bT(i:Nat)(ρ:bR):bR:=pub i (rows i ρ)
theorem Ext.back(ok:WOk W H)(hg:Wle W W1)(hp:W1.Pn=W.Pn)(x:Ext W1 H W2 H2):Ext W H W H2:=
 ⟨⟨λa o e=>x.h a o (ok.g a o e) λq=>(by rw[hp] at q;rw[(ok.p a q).2] at e;cases e),λa q=>⟨(x.ok.p a (x.p a (hg.p a q))).1,(ok.p a q).2⟩⟩,λ_ _ e=>e,λ_ e=>e,λ_ e n=>NH e n,λ_ n e=>NH e n,λa o e n=>x.h a o e λq=>n (by rw[hp] at q;exact q)⟩
theorem SOk.chgRow(s:SOk K W0 H0 W σ H ρ){r:Nat}{b:Addr}(e:ρ[i]? = some (.oo xss))(e1:σ[i]? = some (some (.ref a)))(o:OwnT K H0 W H a bs xss)(n:∀(j:Nat) ys c,ρ[j]? = some (SV.ow ys)->σ[j]? = some (some (V.ref c))->c∉a::bs)
  (hb:bs[r]? = some b) (ru:Reps K W us ys):SOk K W0 H0 W σ (upd H b (.lst us)) (ρ.set i (.oo (xss.set r ys))):=by
 have hi:i<ρ.length:=(Yaq.mp e).1;obtain⟨xs,ex,vs,q1,q2,q3,q4,q5⟩:=o.row r b hb;have nd:=YaI.mp o.nd;have mb:b∈bs:=ge hb;have out:∀{j:Nat} {z:SV},(ρ.set i (.oo (xss.set r ys)))[j]? = some z->(∀yss,z≠.oo yss)->i≠j/\ρ[j]? = some z:=λe h=>uB e (h _);refine⟨s.ext.chg q4 q1 q3 q2,by rw[cL];exact s.len,λj y ej=>?_,λj zs ej=>?_,λj k xs ys b hjk ej ek e3=>?_,⟨λj yss ej=>?_,λj k yss zss ej ek=>?_⟩⟩
 .exact s.d j y (out ej (by simp)).2
 .have ej:=(out ej (by simp)).2
  obtain⟨c,ws,p1,p2,p3⟩:=s.o j zs ej;have hc:c≠b:=λz=>n j zs c ej p1 (by rw[z];exact gI _ mb);exact⟨c,ws,p1,by rw[aG hc];exact p2,p3⟩
 .exact s.ne j k xs ys b hjk (out ej (by simp)).2 (out ek (by simp)).2 e3
 .have h:i=j:=by
   by_cases h:i=j
   .exact h
   .rw[cG h] at ej;exact s.oo.u i j _ _ e ej
  subst h;rw[dc hi] at ej;cases ej;have ab:a≠b:=λz=>nd.1 (by rw[z];exact mb);refine⟨a,bs,e1,⟨by rw[aG ab];exact o.a1,o.a2,o.a3,o.a4,o.nd,by rw[cL];exact o.len,λk c ec=>?_⟩,λj zs c ej ec=>n j zs c (out ej (by simp)).2 ec⟩
  by_cases hk:r=k
  .subst hk
   rw[hb] at ec;cases ec;exact⟨ys,dc (by rw[<-o.len];exact(Yaq.mp hb).1),us,aN,q2,q3,q4,ru⟩
  .have hc:c≠b:=λz=>hk (by
    rw[z] at ec;exact(List.getElem?_inj (Yaq.mp hb).1 nd.2).mp (hb.trans ec.symm))
   obtain⟨zs,p1,ws,p2,p3⟩:=o.row k c ec;exact⟨zs,by rw[cG hk];exact p1,ws,by rw[aG hc];exact p2,p3⟩
 .have key:∀{j:Nat} {yss:List (List D)},(ρ.set i (.oo (xss.set r ys)))[j]? = some (SV.oo yss)->i=j:=λ{j yss} ej=>by
   by_cases h:i=j
   .exact h
   .rw[cG h] at ej;exact s.oo.u i j _ _ e ej
  rw[<-key ej,<-key ek]
end
section
variable{jx:Expr}{w1 w2:WE}
def GY(i:Nat)(w:WM):WS:=λE N ρ=>w E ρ λxss=>C8 i ρ=true/\N.nx (ρ.set i (.oo xss))
theorem w8(i:Nat){w:WM}(he:GU X EX e w)(hN:X.N.Nodup)(hi:X.N[i]? = some x:=by rfl)(hx:kj X.env.scope x:=by first|exact Or.inl rfl|exact Or.inr rfl)(hs:swapsWith e (some (.Name x pos')) pos.line X.env=pure false:=by rfl)
  (hf:X.fn x=true\/X.env.scope.names.lookup x=some .local:=by first|exact .inl rfl|exact .inr rfl|assumption):PZ X EX (.Assign [.Name x pos'] e pos) (GY i w):=by
 obtain⟨t,p,k⟩:=he.t;refine⟨⟨_,iG hN hi hx p hs hf,λW0 H0 F W σ H ρ E Dn N s fl eo no h=>?_⟩,λE ρ N N' hl q=>he.mono _ _ _ _ (λ_ z=>⟨z.1,hl.nx _ z.2⟩) q⟩;exact k W0 H0 W σ H ρ E _ s eo (he.mono _ _ _ _ (λxss hd a bs W1 H1 x1 o=>no.nx W1 _ H1 _ (s.ownT x1 o hd.1) (fl.ext x1) hd.2) h)
end
theorem Reps.erase{K:NF}{W:Wd}:∀{vs:List V} {ds:List D} (i:Nat),Reps K W vs ds->Reps K W (vs.eraseIdx i) (ds.eraseIdx i)
 |_,_,_,.nil=>.nil
 |_,_,0,.cons _ t=>t
 |_,_,i+1,.cons q t=>.cons q (Reps.erase i t)
section
variable{w1:WE}
end
section
def GZ:WS:=λ_ N ρ=>N.bk ρ
def Mz:PZ X EX (.Break pos) GZ:=⟨⟨_,my,λW0 H0 F W σ H ρ E Dn N s fl eo no h=>no.bk W σ H ρ s fl h⟩,λE ρ N N' hl q=>hl.bk _ q⟩
def lJ(i:Nat)(w:WE):WS:=λE N ρ=>match ρ[i]? with
 |some (.ow xs)=>w E ρ (isI λb=>∃(bs:List Int) (k:Nat),xs=bs.map .int/\bs[k]? = some b/\(∀j,j<k->bs[j]?≠some b)/\N.nx (ρ.set i (.ow ((bs.eraseIdx k).map .int))))
 |_=>False
theorem MA(i:Nat)(he:PX X EX e w)(hN:X.N[i]? = some x:=by rfl)(hv:kf X.env.scope x:=by first|exact Or.inl rfl|exact Or.inr (Or.inl rfl)|exact Or.inr (Or.inr rfl))(hd:(x==("__debug__" : Str))=false:=by decide)
  (hcd:(x==("__classdict__" : Str))=false:=by decide) (hbase:attributeBase (.Name x p) "remove" X.env (eval (.Name x p) X.env)=eval (.Name x p) X.env:=by rfl)
  (hfew:((backTo cpos (starEach [e] X.env)).all (λx=>!x.1)&&(backToKw cpos (keywordEach [] X.env)).all (λx=>x.1.isSome)&&decide ([e].length+([]:List Keyword).length+(if([]:List Keyword).isEmpty then 0 else 1)<30))=true:=by rfl)
  (hline:(apos.endLine==cpos.line)=true:=by rfl) (hs:starEach [e] X.env=(false,eval e X.env)::starEach [] X.env:=by rfl) (hplain:(backTo cpos (starEach [] X.env)).any (·.1)=false:=by rfl)
  (hsw:swapsWith (.Call (.Attribute (.Name x p) "remove" apos) [e] [] cpos) none pos.line X.env=pure false:=by rfl):PZ X EX (.Expr (.Call (.Attribute (.Name x p) "remove" apos) [e] [] cpos) pos) (lJ i w):=by
 obtain⟨t,pe,k⟩:=he.t;refine⟨⟨_,iD (mT PySem.F.plainAttrs_list PySem.F.slot_list_remove PySem.F.type_list_remove Jc (c7 hN hv hd hcd) (gh pe iI hs) hbase hfew hline hs hplain) hsw,λW0 H0 F W σ H ρ E Dn N s fl eo no h=>?_⟩,λE ρ N N' hl q=>?_⟩
 .unfold lJ at h
  split at h
  .rename_i xs ex
   obtain⟨a,vs,e1,e2,e3,e4,e5,r⟩:=s.o i xs ex;refine⟨_,e1,.inl ⟨rfl,vs,SqL.of e2⟩,?_⟩;refine k W0 H0 W σ H ρ E _ s eo (he.mono _ _ _ _ (λd hd v W1 H1 x1 r1=>?_) h);obtain⟨b,rfl,bs,kk,rfl,hb,hno,hn⟩:=lU hd;cases r1;have e2':=x1.h a _ e2 e4;have vin:∀{vs:List V} {bs:List Int},Reps X.K W vs (bs.map .int)->vs=bs.map V.int:=λ{vs bs} r=>by
    induction bs generalizing vs with
    |nil=>cases r;rfl
    |cons c bs ih=>cases r with|cons r1 r2=>cases r1;rw[ih r2];rfl
   have hvs:=vin r;refine⟨a,vs,b,kk,rfl,rfl,e2',λy hy=>?_,?_,λj hj z=>?_,?_⟩
   .rw[hvs] at hy
    obtain⟨c,_,rfl⟩:=YbS.mp hy;exact⟨c,rfl⟩
   .rw[hvs,cI,hb];rfl
   .rw[hvs,cI] at z
    cases q:bs[j]? with
    |none=>rw[q] at z;cases z
    |some c=>rw[q] at z;cases z;exact hno j hj q
   .have rr:=(x1.reps r).erase kk
    have em:(bs.map D.int).eraseIdx kk=(bs.eraseIdx kk).map D.int:=by rw[Dz,Dz,jb,nK,qE]
    rw[em] at rr;exact no.nx W1 σ _ _ ((s.step x1).chg ex e1 rr) (fl.ext x1) hn
  .exact h.elim
 .unfold lJ at q ⊢
  split at q
  .exact he.mono _ _ _ _ (isI.mono λb ⟨bs,kk,z1,z2,z3,z4⟩=>⟨bs,kk,z1,z2,z3,hl.nx _ z4⟩) q
  .exact q.elim
end
structure Lent(W W':Wd)(A:List Addr):Prop where
 p:W'.Pn=W.Pn
 g:∀c,c∉A->W'.G c=W.G c
 a:∀c,c∈A->W.G c=none/\∃us,W'.G c=some (.lst us)
def Lent.refl{W:Wd}:Lent W W []:=⟨rfl,λ_ _=>rfl,λ_ h=>by cases h⟩
theorem Lent.le{W:Wd}{A:List Addr}(l:Lent W W' A):Wle W W':=⟨λc o e=>by
 by_cases h:c∈A
 .rw[(l.a c h).1] at e;cases e
 .rw[l.g c h];exact e,λc h=>by rw[l.p];exact h⟩
def Wd.remL(W:Wd)(A:List Addr):Wd:=⟨λb=>if b∈A then none else W.G b,W.Pn⟩
section
variable{W:Wd}{bs A:List Addr}
def Wd.remL_ne{b:Addr}(h:b∉A):(W.remL A).G b=W.G b:=by unfold Wd.remL;dsimp only;rw[if_neg h]
def Wd.remL_in{b:Addr}(h:b∈A):(W.remL A).G b=none:=by unfold Wd.remL;dsimp only;rw[if_pos h]
mutual
theorem Rep.remL(h:∀a∈A,∃us,W.G a=some (.lst us)):∀{v:V} {d:D},Rep K W v d->dR d=true->Rep K (W.remL A) v d
 |_,_,.non,_=>.non
 |_,_,.bl b,_=>.bl b
 |_,_,.int i,_=>.int i
 |_,_,.str x,_=>.str x
 |_,_,.tup e r,f=>.tup (by rw[Wd.remL_ne (λz=>by obtain⟨us,q⟩:=h _ z;rw[q] at e;cases e)];exact e) (Reps.remL h r (by rw[dR] at f;exact f))
 |_,_,.ktup e r,f=>.ktup e (Reps.remL h r (by rw[dR] at f;exact f))
 |_,_,.lst e r,f=>by rw[dR] at f;cases f
 |_,_,.scr e r,f=>by rw[dR] at f;cases f
 |_,_,.dic e,f=>by rw[dR] at f;cases f
 |_,_,.pen e,_=>.pen e
 |_,_,.cls e,_=>.cls e
 |_,_,.exc e n x,_=>.exc (by rw[Wd.remL_ne (λz=>by obtain⟨us,q⟩:=h _ z;rw[q] at e;cases e)];exact e) n λc f k q=>let⟨d,e1,e2⟩:=x c f k q;⟨d,e1,by rw[Wd.remL_ne (λz=>by obtain⟨us,q⟩:=h _ z;rw[q] at e2;cases e2)];exact e2⟩
 |_,_,.ty n,_=>.ty n
theorem Reps.remL(h:∀a∈A,∃us,W.G a=some (.lst us)):∀{vs:List V} {ds:List D},Reps K W vs ds->jz ds=true->Reps K (W.remL A) vs ds
 |_,_,.nil,_=>.nil
 |_,_,.cons r t,f=>by
  rw[jz,dj] at f;exact .cons (Rep.remL h r f.1) (Reps.remL h t f.2)
end
theorem Ext.borL(l:Lent W W1 A)(x:Ext W1 H W2 H2):Ext W H (W2.remL A) H2 where
 ok:=⟨λb o e=>by
   by_cases hb:b∈A
   .rw[Wd.remL_in hb] at e;cases e
   .rw[Wd.remL_ne hb] at e;exact x.ok.g b o e,
  λb hb=>⟨(x.ok.p b hb).1,by
   by_cases hba:b∈A
   .exact Wd.remL_in hba
   .rw[Wd.remL_ne hba];exact(x.ok.p b hb).2⟩⟩
 g:=λb o e=>by
  have hb:b∉A:=λz=>by rw[(l.a b z).1] at e;cases e
  rw[Wd.remL_ne hb];exact x.g b o (by rw[l.g b hb];exact e)
 p:=λb h=>x.p b (by rw[l.p];exact h)
 gf:=λb e n=>by
  by_cases hb:b∈A
  .exact NH (Wd.remL_in hb) n
  .rw[Wd.remL_ne hb] at n
   exact x.gf b (by rw[l.g b hb];exact e) n
 pf:=λb n h=>x.pf b (by rw[l.p];exact n) h
 h:=λb o e n=>x.h b o e (by rw[l.p];exact n)
def Lent.on(l:Lent W W1 A)(x:Ext W1 H W2 H2):∀a∈A,∃us,W2.G a=some (.lst us):=λa ha=>let⟨us,q⟩:=(l.a a ha).2;⟨us,x.g a _ q⟩
theorem SOk.rowsA(s:SOk K W0 H0 W σ H ρ)(i:Nat):∃W' A,SOk K W0 H0 W' σ H (LP.rows i ρ)/\Lent W W' A:=by
 unfold LP.rows;split
 .rename_i xss e
  obtain⟨a,bs,e1,o,n⟩:=s.oo.t i xss e;have hi:i<ρ.length:=(Yaq.mp e).1;have own:∀b∈bs,∃xs,Own1 K H0 W H b xs:=λb hb=>by
   obtain⟨k,hk,rfl⟩:=Ybx.mp hb;obtain⟨xs,_,q⟩:=o.row k _ (bG hk);exact⟨xs,q⟩
  let W':Wd:=⟨λc=>if c∈bs then H c else W.G c,W.Pn⟩
  have g1:∀c,c∈bs->W'.G c=H c:=λc hc=>if_pos hc;have g2:∀c,c∉bs->W'.G c=W.G c:=λc hc=>if_neg hc;have gm:∀c u,W.G c=some u->W'.G c=some u:=λc u ec=>by
   rw[g2 c λhc=>by obtain⟨xs,vs,_,q,_⟩:=own c hc;rw[ec] at q;cases q];exact ec
  have na:a∉bs:=(YaI.mp o.nd).1;have x:Ext W0 H0 W' H:=by
   refine⟨⟨λc u ec=>?_,λc hc=>?_⟩,λc u ec=>gm c u (s.ext.g c u ec),s.ext.p,λc ec hc=>?_,s.ext.pf,s.ext.h⟩
   .by_cases h:c∈bs
    .rw[g1 c h] at ec;exact ec
    .rw[g2 c h] at ec;exact s.ok.g c u ec
   .obtain⟨p1,p2⟩:=s.ok.p c hc
    refine⟨p1,?_⟩;rw[g2 c λh=>by obtain⟨xs,vs,_,_,q,_⟩:=own c h;exact q hc];exact p2
   .by_cases h:c∈bs
    .obtain⟨xs,vs,_,_,_,q,_⟩:=own c h;exact q
    .rw[g2 c h] at hc;exact s.ext.gf c ec hc
  have out:∀{j:Nat} {z:SV},(ρ.set i (.ow (xss.map .lst)))[j]? = some z->i≠j->ρ[j]? = some z:=λ{j z} ej h=>by rw[cG h] at ej;exact ej
  refine⟨W',bs,⟨x,by rw[cL];exact s.len,λj y ej=>?_,λj ys ej=>?_,λj k xs ys b hjk ej ek e3=>?_,.none λj yss ej=>?_⟩,⟨rfl,g2,λc hc=>by obtain⟨xs,vs,q1,q2,_⟩:=own c hc;exact⟨q2,vs,(g1 c hc).trans q1⟩⟩⟩
  .obtain⟨h,ej⟩:=uB ej (by simp)
   obtain⟨v,q1,q2⟩:=s.d j y ej;exact⟨v,q1,q2.mono gm λ_ z=>z⟩
  .by_cases h:i=j
   .subst h
    rw[dc hi] at ej;cases ej;exact⟨a,_,e1,o.a1,(g2 a na).trans o.a2,o.a3,o.a4,GX W' g1 gm (λ_ z=>z) (λ_ h=>h) o.len o.row⟩
   .have ej:=out ej h
    obtain⟨c,us,q1,q2,q3,q4,q5,q6⟩:=s.o j ys ej;have:=n j ys c ej q1;exact⟨c,us,q1,q2,by rw[g2 c λz=>this (gI _ z)];exact q3,q4,q5,q6.mono gm λ_ z=>z⟩
  .by_cases h:i=j
   .subst h
    have ek:=out ek hjk;rw[e1] at e3;cases e3;exact λz=>n k ys a ek z (by simp)
   .have ej:=out ej h
    by_cases h':i=k
    .subst h'
     rw[e1];intro z;cases z;exact n j xs a ej e3 (by simp)
    .exact s.ne j k xs ys b hjk ej (out ek h') e3
  .obtain⟨h,ej⟩:=uB ej (by simp)
   exact h (s.oo.u i j xss yss e ej)
 .exact⟨W,[],s,.refl⟩
theorem SOk.lendA(s:SOk K W0 H0 W σ H ρ)(i:Nat):∃W' A,SOk K W0 H0 W' σ H (bT i ρ)/\Lent W W' A:=by
 obtain⟨W1,A,s1,l1⟩:=s.rowsA i;rcases s1.lend i with e|⟨a,us,s2,g,h,g2⟩
 .unfold bT;rw[e];exact⟨W1,A,s1,l1⟩
 .have na:a∉A:=λz=>by obtain⟨us,q⟩:=(l1.a a z).2;rw[g] at q;cases q
  have pn:∀c,c≠a->(W1.put a (.lst us)).G c=W1.G c:=λc hc=>by unfold Wd.put;dsimp only;rw[aG hc]
  refine⟨_,a::A,s2,l1.p,λc hc=>?_,λc hc=>?_⟩
  .rw[pn c λz=>hc (by simp[z])];exact l1.g c λz=>hc (by simp[z])
  .rcases Yan.mp hc with rfl|hc
   .exact⟨by rw[<-l1.g c na];exact g,us,g2⟩
   .rw[pn c λz=>na (by rw[<-z];exact hc)];exact l1.a c hc
end
section
def nE(i:Nat)(w:WE):WE:=λE ρ Q=>w E (bT i ρ) λd=>dR d=true/\Q d
theorem G0(i:Nat)(he:PX X EX e w):PX X EX e (nE i w):=by
 obtain⟨t,q,k⟩:=he.t;refine⟨⟨t,q,λW0 H0 W σ H ρ E Q s eo h=>?_⟩,λE ρ P P' hp h=>he.mono _ _ _ _ (λd hd=>⟨hd.1,hp _ hd.2⟩) h⟩;obtain⟨W',A,s',l⟩:=s.lendA i;exact k W0 H0 W' σ H _ E Q s' eo (he.mono _ _ _ _ (λd hd v W2 H2 x r=>hd.2 v _ H2 (x.borL l) (r.remL (l.on x) hd.1)) h)
def gE(i:Nat)(t:WA):WA:=λE ρ Q=>t E (bT i ρ) λds=>jz ds=true/\Q ds
theorem C9(i:Nat)(he:PXL X EX e t):PXL X EX e (gE i t):=by
 obtain⟨t,q,k⟩:=he.t;refine⟨⟨t,q,λW0 H0 W σ H ρ E Q s eo h=>?_⟩,λE ρ P P' hp h=>he.mono _ _ _ _ (λd hd=>⟨hd.1,hp _ hd.2⟩) h⟩;obtain⟨W',A,s',l⟩:=s.lendA i;refine k W0 H0 W' σ H _ E Q s' eo (he.mono _ _ _ _ (λd hd b vs W2 H2 x2 h1 h2 h3 h4 r2=>?_) h);have hb:b∉A:=λz=>by
  obtain⟨us,q⟩:=(l.a b z).2;have:=s'.ok.g b _ q;rw[h4] at this;cases this
 exact hd.2 b vs _ H2 (x2.borL l) h1 (by rw[Wd.remL_ne hb];exact h2) h3 h4 (r2.remL (l.on x2) hd.1)
end
theorem G1{α:Type}{b:α}:∀{l:List α} {r:Nat},l.Nodup->b∉l->(l.set r b).Nodup
 |[],_,_,_=>by simp
 |c::l,0,h,hb=>by
  rw[eT];exact YaI.mpr ⟨λz=>hb (by simp[z]),(YaI.mp h).2⟩
 |c::l,r+1,h,hb=>by
  obtain⟨h1,h2⟩:=YaI.mp h;rw[eU];refine YaI.mpr ⟨λz=>?_,G1 h2 λz=>hb (by simp[z])⟩;rcases pM z with z|z
  .exact h1 z
  .exact hb (by simp[z])
section
variable{W:Wd}{bs:List Addr}
theorem SOk.setRow(s:SOk K W0 H0 W σ H ρ){r:Nat}{b:Addr}(e:ρ[i]? = some (.oo xss))(e1:σ[i]? = some (some (.ref a)))(o:OwnT K H0 W H a bs xss)(n:∀(j:Nat) ys c,ρ[j]? = some (SV.ow ys)->σ[j]? = some (some (V.ref c))->c∉a::bs)
  (hr:r<bs.length) (hb:H b=some (.lst us)) (gb:W.G b=none) (pb:¬W.Pn b) (h0b:H0 b=none) (nb:b∉a::bs) (nob:∀(j:Nat) ys c,ρ[j]? = some (SV.ow ys)->σ[j]? = some (some (V.ref c))->c≠b) (ru:Reps K W us ys) :
  SOk K W0 H0 W σ (upd H a (.lst ((bs.set r b).map V.ref))) (ρ.set i (.oo (xss.set r ys))):=by
 have hi:i<ρ.length:=(Yaq.mp e).1;have nd:=YaI.mp o.nd;have out:∀{j:Nat} {z:SV},(ρ.set i (.oo (xss.set r ys)))[j]? = some z->(∀yss,z≠.oo yss)->i≠j/\ρ[j]? = some z:=λe h=>uB e (h _);have ba:b≠a:=λz=>nb (by simp[z]);have mset:∀c,c∈a::bs.set r b->c∈a::bs\/c=b:=λc hc=>by
  rcases Yan.mp hc with z|z
  .exact .inl (by simp[z])
  .rcases pM z with z|z
   .exact .inl (by simp[z])
   .exact .inr z
 refine⟨s.ext.chg o.a4 o.a1 o.a3 o.a2,by rw[cL];exact s.len,λj y ej=>?_,λj zs ej=>?_,λj k xs ys b hjk ej ek e3=>?_,⟨λj yss ej=>?_,λj k yss zss ej ek=>?_⟩⟩
 .exact s.d j y (out ej (by simp)).2
 .have ej:=(out ej (by simp)).2
  obtain⟨c,ws,p1,p2,p3⟩:=s.o j zs ej;have hc:c≠a:=λz=>n j zs c ej p1 (by simp[z]);exact⟨c,ws,p1,by rw[aG hc];exact p2,p3⟩
 .exact s.ne j k xs ys b hjk (out ej (by simp)).2 (out ek (by simp)).2 e3
 .have h:i=j:=by
   by_cases h:i=j
   .exact h
   .rw[cG h] at ej;exact s.oo.u i j _ _ e ej
  subst h;rw[dc hi] at ej;cases ej;refine⟨a,bs.set r b,e1,⟨aN,o.a2,o.a3,o.a4,YaI.mpr ⟨λz=>?_,G1 nd.2 λz=>nb (by simp[z])⟩,by rw[cL,cL];exact o.len,λk c ec=>?_⟩,λj zs c ej ec hc=>?_⟩
  .rcases pM z with z|z
   .exact nd.1 z
   .exact ba z.symm
  .by_cases hk:r=k
   .subst hk
    rw[dc hr] at ec;cases ec;exact⟨ys,dc (by rw[<-o.len];exact hr),us,by rw[aG ba];exact hb,gb,pb,h0b,ru⟩
   .rw[cG hk] at ec
    obtain⟨zs,p1,ws,p2,p3⟩:=o.row k c ec;have hc:c≠a:=λz=>nd.1 (by rw[<-z];exact ge ec);exact⟨zs,by rw[cG hk];exact p1,ws,by rw[aG hc];exact p2,p3⟩
  .have ej:=(out ej (by simp)).2
   rcases mset c hc with z|z
   .exact n j zs c ej ec z
   .exact nob j zs c ej ec z
 .have key:∀{j:Nat} {yss:List (List D)},(ρ.set i (.oo (xss.set r ys)))[j]? = some (SV.oo yss)->i=j:=λ{j yss} ej=>by
   by_cases h:i=j
   .exact h
   .rw[cG h] at ej;exact s.oo.u i j _ _ e ej
  rw[<-key ej,<-key ek]
end
section
variable{wi:WE}
def pF(i:Nat)(wi:WE)(t:WA):WS:=λE N ρ=>match ρ[i]? with
 |some (.oo xss)=>t E ρ λys=>wi E ρ (isI λk=>∃r,jh xss.length k=some r/\N.nx (ρ.set i (.oo (xss.set r ys))))
 |_=>False
theorem G3(i:Nat)(hix:PX X EX ix wi)(he:PXL X EX e t)(hN:X.N[i]? = some x:=by rfl)(hv:kf X.env.scope x:=by first|exact Or.inl rfl|exact Or.inr (Or.inl rfl)|exact Or.inr (Or.inr rfl))(hd:(x==("__debug__" : Str))=false:=by decide)
  (hcd:(x==("__classdict__" : Str))=false:=by decide)
  (ha:∀ v,assign (.Subscript (.Name x p) ix spos) X.env v=(do
   let ov <-holding [v] (eval (.Name x p) X.env)
   let iv <-holding [v,ov] (eval ix X.env)
   standAt spos
   holding [v,ov,iv] (setItem ov iv v)
   release [v,ov,iv] []):=by intro _;rfl)
  (hs:swapsWithSole [.Subscript (.Name x p) ix spos] e pos.line X.env=pure false:=by rfl) (hw:swappedStores [.Subscript (.Name x p) ix spos] e X.env=pure none:=by rfl)
  (h1:(assignEach [.Subscript (.Name x p) ix spos] X.env).map (·.2)=[assign (.Subscript (.Name x p) ix spos) X.env]:=by rfl):PZ X EX (.Assign [.Subscript (.Name x p) ix spos] e pos) (pF i wi t):=by
 obtain⟨t,pe,k⟩:=he.t;obtain⟨t1,q1,k1⟩:=hix.t;refine⟨⟨_,fg pe (gy (c7 hN hv hd hcd) q1 dv ha) hs hw h1,λW0 H0 F W σ H ρ E Dn N s fl eo no h=>?_⟩,λE ρ N N' hl q=>?_⟩
 .unfold pF at h
  split at h
  .rename_i xss ex
   obtain⟨a,bs,e1,o,n⟩:=s.oo.t i xss ex;refine k W0 H0 W σ H ρ E _ s eo (he.mono _ _ _ _ (λys hy b us W1 H1 x1 h1 h2 h3 h4 r1=>⟨_,e1,?_⟩) h);refine k1 W0 H0 W1 σ H1 ρ E _ (s.step x1) eo (hix.mono _ _ _ _ (λdi hdi vi W2 H2 x2 r2=>?_) hy);obtain⟨kk,rfl,r,hr,hn⟩:=lU hdi;cases r2;have xx:=x1.trans x2;have o2:=o.step xx;have hrb:r<bs.length:=by rw[o.len];exact(gi hr).2.1
   have hb2:H2 b=some (.lst us):=x2.h b _ h1 h3;have gb2:W2.G b=none:=by
    cases q:W2.G b with
    |none=>rfl
    |some u=>have:=x2.gf b h2 (by rw[q];simp);rw[h1] at this;cases this
   have pb2:¬W2.Pn b:=λz=>by have:=x2.pf b h3 z;rw[h1] at this;cases this
   have nb:b∉a::bs:=λz=>by
    rcases Yan.mp z with z|z
    .rw[z,o.a1] at h4;cases h4
    .obtain⟨m,hm,rfl⟩:=Ybx.mp z
     obtain⟨_,_,vs,q,_⟩:=o.row m _ (bG hm);rw[q] at h4;cases h4
   have nob:∀(j:Nat) ys c,ρ[j]? = some (SV.ow ys)->σ[j]? = some (some (V.ref c))->c≠b:=λj zs c ej ec z=>by
    obtain⟨c',ws,p1,p2,_⟩:=s.o j zs ej;rw[ec] at p1;cases p1;rw[z,h4] at p2;cases p2
   refine⟨a,_,kk,r,rfl,rfl,o2.a1,by rw[bL,o.len];exact hr,?_⟩;have:=(s.step xx).setRow ex e1 o2 n hrb hb2 gb2 pb2 (s.ext.isN h4) nb nob (x2.reps r1);rw[tX] at this;exact no.nx W2 σ _ _ this (fl.ext xx) hn
  .exact h.elim
 .unfold pF at q ⊢
  split at q
  .exact he.mono _ _ _ _ (λd hd=>hix.mono _ _ _ _ (isI.mono λkk ⟨r,z1,z2⟩=>⟨r,z1,hl.nx _ z2⟩) hd) q
  .exact q.elim
end
section
variable{W:Wd}{bs:List Addr}
theorem SOk.un'(s:SOk K W0 H0 W σ H ρ){σ':L2.St}(hl:σ'.length=σ.length)(hσ:∀k,j≠k->σ'[k]? = σ[k]?):SOk K W0 H0 W σ' H (ρ.set j .un):=by
 have out:∀{k:Nat} {z:SV},(ρ.set j .un)[k]? = some z->z≠.un->j≠k/\ρ[k]? = some z:=λe h=>uB e h;refine⟨s.ext,by rw[cL,hl];exact s.len,λk y e=>?_,λk ys e=>?_,λk m xs ys b hkm e1 e2 e3=>?_,s.oo.set (λ_ h=>by cases h) hσ λ_ _ h=>by cases h⟩
 .obtain⟨h,e⟩:=out e (by simp)
  rw[hσ k h];exact s.d k y e
 .obtain⟨h,e⟩:=out e (by simp)
  rw[hσ k h];exact s.o k ys e
 .obtain⟨h,e1⟩:=out e1 (by simp)
  obtain⟨h',e2⟩:=out e2 (by simp);rw[hσ k h] at e3;rw[hσ m h'];exact s.ne k m xs ys b hkm e1 e2 e3
theorem xa(e:ρ[i]? = some (.oo xss)):(bT i ρ)[i]? = some (.d (.lst (xss.map .lst))):=by
 have hi:i<ρ.length:=(Yaq.mp e).1;unfold bT rows;rw[e];dsimp only;unfold pub;rw[dc hi];dsimp only;rw[dc (by rw[cL];exact hi)]
end
def xc(j i:Nat)(xss:List (List D))(xs:List D)(ρ:bR):bR:=(bT i ((ρ.set j .un).set i (.oo xss))).set j (.d (.lst xs))
def goT(j i:Nat)(wi wv:WE)(E:Ex->Prop)(N:Nds)(ρ:bR):Nat->Nat->List (List D)->Prop
 |0,_,xss=>N.nx ((ρ.set j .un).set i (.oo xss))
 |k+1,r,xss=>∃xs,xss[r]? = some xs/\wv E (xc j i xss xs ρ) λd=>dR d=true/\wi E (xc j i xss xs ρ) (isI λl=>∃c,jh xs.length l=some c/\goT j i wi wv E N ρ k (r+1) (xss.set r (xs.set c d)))
def xg(j i:Nat)(wi wv:WE):WS:=λE N ρ=>match ρ[i]? with
 |some (.oo xss)=>j≠i/\j<ρ.length/\goT j i wi wv E N ρ xss.length 0 xss
 |_=>False
section
variable{wi:WE}
theorem goT.mono{j i:Nat}{E:Ex->Prop}{N N':Nds}{ρ:bR}(h1:∀E ρ P P',(∀d,P d->P' d)->wi E ρ P->wi E ρ P')(h2:∀E ρ P P',(∀d,P d->P' d)->wv E ρ P->wv E ρ P')(hl:N.le N'):∀k r xss,goT j i wi wv E N ρ k r xss->goT j i wi wv E N' ρ k r xss
 |0,_,_,h=>hl.nx _ h
 |k+1,r,xss,⟨xs,e,h⟩=>⟨xs,e,h2 _ _ _ _ (λd hd=>⟨hd.1,h1 _ _ _ _ (isI.mono λl ⟨c,z1,z2⟩=>⟨c,z1,goT.mono h1 h2 hl k (r+1) _ z2⟩) hd.2⟩) h⟩
theorem MB(j i:Nat){v:Str}{xp vp vp2 bpos:Pos}(hp:PassesOwn (model X.prog X.w) X.A X.env X.xe)(hc:X.calm=true)(hNd:X.N.Nodup)(hix:PX X EX ix wi)(he:PX X EX e wv)(hN:X.N[i]? = some x:=by rfl)(hv:kf X.env.scope x:=by first|exact Or.inl rfl|exact Or.inr (Or.inl rfl)|exact Or.inr (Or.inr rfl))(hd:(x==("__debug__" : Str))=false:=by decide)
  (hcd:(x==("__classdict__" : Str))=false:=by decide) (hNj:X.N[j]? = some v:=by rfl) (hxj:kj X.env.scope v:=by first|exact Or.inl rfl|exact Or.inr rfl) (hfj:X.fn v=true\/X.env.scope.names.lookup v=some .local:=by first|exact .inl rfl|exact .inr rfl|assumption) (hvj:kf X.env.scope v:=by first|exact Or.inl rfl|exact Or.inr (Or.inl rfl)|exact Or.inr (Or.inr rfl)) (hdj:(v==("__debug__" : Str))=false:=by decide) (hcdj:(v==("__classdict__" : Str))=false:=by decide)
  (ha:∀ u,assign (.Subscript (.Name v vp2) ix spos) X.env u=(do
   let ov <-holding [u] (eval (.Name v vp2) X.env)
   let iv <-holding [u,ov] (eval ix X.env)
   standAt spos
   holding [u,ov,iv] (setItem ov iv u)
   release [u,ov,iv] []):=by intro _;rfl)
  (hs:swapsWithSole [.Subscript (.Name v vp2) ix spos] e bpos.line X.env=pure false:=by rfl) (hw:swappedStores [.Subscript (.Name v vp2) ix spos] e X.env=pure none:=by rfl)
  (h1:(assignEach [.Subscript (.Name v vp2) ix spos] X.env).map (·.2)=[assign (.Subscript (.Name v vp2) ix spos) X.env]:=by rfl)
  (hsi:∀y,foldedSetIterable (.Name x xp) X.env y=pure y:=by intro _;rfl):PZ X EX (.For (.Name v vp) (.Name x xp) [.Assign [.Subscript (.Name v vp2) ix spos] e bpos] [] pos) (xg j i wi wv):=by
 obtain⟨t,pe,k⟩:=he.t;obtain⟨t1,q1,k1⟩:=hix.t;refine⟨⟨_,jK hp hc (kq (c7 hN hv hd hcd)) (iF hNd hNj hxj hfj) (iC (fg pe (gy (c7 hNj hvj hdj hcdj) q1 dv ha) hs hw h1)) hsi,λW0 H0 F W σ H ρ E Dn N s fl eo no h=>?_⟩,λE ρ N N' hl q=>?_⟩
 .unfold xg at h
  split at h
  .rename_i xss0 ex
   obtain⟨nji,jl,h⟩:=h;obtain⟨a,bs,e1,o,n⟩:=s.oo.t i xss0 ex;have hi:i<ρ.length:=(Yaq.mp ex).1;have len0:bs.length=xss0.length:=o.len;refine⟨_,e1,a,rfl,⟨_,SqL.of o.a1⟩,?_⟩;have st:∀{Vw:Wd} {τ:L2.St} {G:Hp} {yss:List (List D)},SOk X.K W0 H0 Vw τ G ((ρ.set j .un).set i (.oo yss))->((ρ.set j .un).set i (.oo yss))[i]? = some (.oo yss):=λ{Vw τ G yss} _=>dc (by rw[cL];exact hi);refine⟨λr m τ G=>m=xss0.length-r/\r<=xss0.length/\∃Vw yss,yss.length=xss0.length/\τ[i]? = some (some (.ref a))/\G a=some (.lst (bs.map V.ref))/\SOk X.K W0 H0 Vw τ G ((ρ.set j .un).set i (.oo yss))/\Wle W Vw/\goT j i wi wv E N ρ (xss0.length-r) r yss,⟨_,rfl,gJ _,W,xss0,rfl,e1,o.a1,?_,.refl W,h⟩,?_⟩
   .have:=s.un' (j:=j) (σ':=σ) rfl λ_ _=>rfl
    have e2:(ρ.set j .un).set i (.oo xss0)=ρ.set j .un:=by
     refine tT λk=>?_
     by_cases hk:i=k
     .subst hk
      rw[dc (by rw[cL];exact hi),cG nji,ex]
     .rw[cG hk]
    rw[e2];exact this
   rintro r m τ G ⟨rfl,hr,Vw,yss,hy,t1',g1,sv,fv,hg⟩;rcases gg r xss0.length with hlt|hge
   .refine .inr ⟨⟨_,_,SqL.of g1,by rw[cI,bG (by omega)];rfl⟩,fun τ' G'=>∃Vw yss,yss.length=xss0.length/\τ'[i]? = some (some (.ref a))/\G' a=some (.lst (bs.map V.ref))/\SOk X.K W0 H0 Vw τ' G' ((ρ.set j .un).set i (.oo yss))/\Wle W Vw/\goT j i wi wv E N ρ (xss0.length-(r+1)) (r+1) yss,fun τ' G' ⟨Vw,yss,q⟩=>⟨xss0.length-(r+1),by omega,rfl,hlt,Vw,yss,q⟩,λu G' yl=>?_⟩
    obtain⟨rfl,yl⟩:=yl;have hu:=yl _ (SqL.of g1);rw[cI,bG (by omega)] at hu;cases hu;rw[show xss0.length-r=(xss0.length-(r+1))+1 by omega] at hg;obtain⟨xs,hxs,hv'⟩:=hg;have yy:=st sv;obtain⟨a',bs',p1,o',n'⟩:=sv.oo.t i yss yy;rw[t1'] at p1;cases p1;have hbs:bs'=bs:=by
     have:=o'.a1;rw[g1] at this;have:=HO.lst.inj (NJ this);have inj:∀{l l':List Addr},l.map V.ref=l'.map V.ref->l=l':=λ{l l'} h=>by
      induction l generalizing l' with
      |nil=>cases l' with|nil=>rfl|cons _ _=>cases h
      |cons x l ih=>
       cases l' with
       |nil=>cases h
       |cons y l'=>
        injection h with h1 h2
        cases h1;rw[ih h2]
     exact(inj this).symm
    subst hbs;have hb:bs'[r]? = some (bs'[r]'(by omega)):=bG (by omega);generalize bs'[r]'(by omega)=b at hb;obtain⟨W',A,sl,l⟩:=sv.lendA i;have rb:Rep X.K W' (.ref b) (.lst xs):=by
     obtain⟨w0,q1,q2⟩:=sl.d i _ (xa yy);rw[t1'] at q1;cases q1;cases q2 with
     |lst f1 f2=>
      have:=sl.ok.g _ _ f1;rw[g1] at this;cases this;obtain⟨v0,z1,z2⟩:=f2.get (d:=.lst xs) (show(yss.map D.lst)[r]? = _ by rw[cI,hxs];rfl);rw[cI,hb] at z1;cases z1;exact z2
    have slk:SOk X.K W0 H0 W' (τ.set j (some (.ref b))) G' (xc j i yss xs ρ):=sl.set rb;have sun:SOk X.K W0 H0 Vw (τ.set j (some (.ref b))) G' ((ρ.set j .un).set i (.oo yss)):=by
     have:=sv.un' (j:=j) (σ':=τ.set j (some (.ref b))) (by rw[cL]) λk hk=>cG hk;rw[List.set_comm _ _ nji,List.set_set] at this;rw[List.set_comm _ _ (NO nji)] at this;exact this
    have tl:ρ.length=τ.length:=by have:=sv.len;rw[cL,cL] at this;exact this
    have tj:(τ.set j (some (V.ref b)))[j]? = some (some (.ref b)):=dc (by omega);have ti:(τ.set j (some (V.ref b)))[i]? = some (some (.ref a)):=by rw[cG nji];exact t1'
    have nn:∀(j':Nat) ys c,((ρ.set j .un).set i (.oo yss))[j']? = some (SV.ow ys)->(τ.set j (some (V.ref b)))[j']? = some (some (V.ref c))->c∉a::bs':=λj' ys c ej ec=>by
     have hj:j≠j':=λz=>by
      subst z;rw[cG (NO nji),dc jl] at ej;cases ej
     rw[cG hj] at ec;exact n' j' ys c ej ec
    refine k W0 H0 W' _ G' _ E _ slk eo (he.mono _ _ _ _ (λd hd v' W2 H2 x2 r2=>⟨_,tj,?_⟩) hv');refine k1 W0 H0 W2 _ H2 _ E _ (slk.step x2) eo (hix.mono _ _ _ _ (λdi hdi vi W3 H3 x3 r3=>?_) hd.2);obtain⟨ll,rfl,c,hc,hn⟩:=lU hdi;cases r3;have xx:=x2.trans x3;have xb:=xx.borL l;have s3:=sun.step xb;have o3:=o'.step xb;obtain⟨xs',f1,vs,f2,f3,f4,f5,f6⟩:=o3.row r b hb;rw[hxs] at f1;cases f1;refine⟨b,vs,ll,c,rfl,rfl,f2,by rw[f6.length];exact hc,?_⟩;have ab:a≠b:=λz=>(YaI.mp o3.nd).1 (by rw[z];exact ge hb);have fin:=s3.chgRow yy ti o3 nn hb (Reps.set ((x3.rep r2).remL (l.on xx) hd.1) c f6);rw[List.set_set] at fin;exact⟨_,yss.set r (xs.set c d),by rw[cL];exact hy,ti,by rw[aG ab];exact o3.a1,fin,fv.ext xb,hn⟩
   .refine .inl ⟨⟨_,SqL.of g1,by rw[bL];omega⟩,?_⟩
    rw[show xss0.length-r=0 by omega] at hg;exact no.nx Vw τ G _ sv (fl.trans fv) hg
  .exact h.elim
 .unfold xg at q ⊢
  split at q
  .exact⟨q.1,q.2.1,goT.mono hix.mono he.mono hl _ _ _ q.2.2⟩
  .exact q.elim
end
structure xk(K:NF)(W0:Wd)(H0:Hp)(F:Wd)(i:Nat)(v:V)(Dn:je)(nx:bR->Prop):Prop where
 nx:∀W σ H ρ,SOk K W0 H0 W σ H ρ->Wle F W->σ[i]? = some (some v)->nx ρ->Dn.nx σ H
structure Ah(X:Cx)(EX:XK)(i:Nat)(st:Stmt)(z:WS):Prop where
 t:∃t,PS X st t/\∀W0 H0 F W σ H ρ E Dn v nx,SOk X.K W0 H0 W σ H ρ->Wle F W->iR X.K W0 H0 E EX->σ[i]? = some (some v)->xk X.K W0 H0 F i v Dn nx->z E { nx:=nx,rt:=λ_=>False,bk:=λ_=>False,ct:=λ_=>False } ρ->t Dn σ H
 mono:∀E ρ N N',N.le N'->z E N ρ->z E N' ρ
structure qA(X:Cx)(EX:XK)(i:Nat)(sts:List Stmt)(z:WS):Prop where
 t:∃t,PSs X sts t/\∀W0 H0 F W σ H ρ E Dn v nx,SOk X.K W0 H0 W σ H ρ->Wle F W->iR X.K W0 H0 E EX->σ[i]? = some (some v)->xk X.K W0 H0 F i v Dn nx->z E { nx:=nx,rt:=λ_=>False,bk:=λ_=>False,ct:=λ_=>False } ρ->t Dn σ H
 mono:∀E ρ N N',N.le N'->z E N ρ->z E N' ρ
section
variable{wi:WE}{ta:WA}{rest:List Stmt}
def G4(h:Ah X EX i st z):qA X EX i [st] z:=let⟨t,q,k⟩:=h.t;⟨⟨_,iC q,k⟩,h.mono⟩
theorem MC(h1:Ah X EX i st z)(h2:qA X EX i rest z'):qA X EX i (st::rest) (aI z z'):=by
 obtain⟨t1,p1,k1⟩:=h1.t;obtain⟨t2,p2,k2⟩:=h2.t;refine⟨⟨_,jf p1 p2,λW0 H0 F W σ H ρ E Dn v nx s fl eo hv no h=>?_⟩,λE ρ N N' hl h=>h1.mono _ _ _ _ (Nds.le_nx hl λρ' h'=>h2.mono _ _ _ _ hl h') h⟩;exact k1 W0 H0 F W σ H ρ E _ v (z' E { nx:=nx,rt:=λ_=>False,bk:=λ_=>False,ct:=λ_=>False }) s fl eo hv ⟨λW1 σ1 H1 ρ1 s1 f1 v1 hn=>k2 W0 H0 F W1 σ1 H1 ρ1 E Dn v nx s1 f1 eo v1 no hn⟩ h
theorem G5(j:Nat)(he:PX X EX e w)(hN:X.N.Nodup)(ne:j≠i:=by decide)(hi:X.N[j]? = some x:=by rfl)(hx:kj X.env.scope x:=by first|exact Or.inl rfl|exact Or.inr rfl)(hs:swapsWith e (some (.Name x pos')) pos.line X.env=pure false:=by rfl)
  (hf:X.fn x=true\/X.env.scope.names.lookup x=some .local:=by first|exact .inl rfl|exact .inr rfl|assumption):Ah X EX i (.Assign [.Name x pos'] e pos) (aQ j w):=by
 obtain⟨t,p,k⟩:=he.t;refine⟨⟨_,iG hN hi hx p hs hf,λW0 H0 F W σ H ρ E Dn v nx s fl eo hv no h=>?_⟩,λE ρ N N' hl q=>he.mono _ _ _ _ (λ_=>hl.nx _) q⟩;exact k W0 H0 W σ H ρ E _ s eo (he.mono _ _ _ _ (λd hd v1 W1 H1 x1 r1=>no.nx W1 _ H1 _ ((s.step x1).set r1) (fl.ext x1) (by rw[cG ne];exact hv) hd) h)
theorem MD(m:Nat)(hix:PX X EX ix wi)(he:PXL X EX e ta)(hN:X.N[m]? = some x:=by rfl)(hv:kf X.env.scope x:=by first|exact Or.inl rfl|exact Or.inr (Or.inl rfl)|exact Or.inr (Or.inr rfl))(hd:(x==("__debug__" : Str))=false:=by decide)
  (hcd:(x==("__classdict__" : Str))=false:=by decide)
  (ha:∀ v,assign (.Subscript (.Name x p) ix spos) X.env v=(do
   let ov <-holding [v] (eval (.Name x p) X.env)
   let iv <-holding [v,ov] (eval ix X.env)
   standAt spos
   holding [v,ov,iv] (setItem ov iv v)
   release [v,ov,iv] []):=by intro _;rfl)
  (hs:swapsWithSole [.Subscript (.Name x p) ix spos] e pos.line X.env=pure false:=by rfl) (hw:swappedStores [.Subscript (.Name x p) ix spos] e X.env=pure none:=by rfl)
  (h1:(assignEach [.Subscript (.Name x p) ix spos] X.env).map (·.2)=[assign (.Subscript (.Name x p) ix spos) X.env]:=by rfl):Ah X EX i (.Assign [.Subscript (.Name x p) ix spos] e pos) (pF m wi ta):=by
 obtain⟨t,pe,k⟩:=he.t;obtain⟨t1,q1,k1⟩:=hix.t;have old:=G3 (pos:=pos) m hix he hN hv hd hcd ha hs hw h1;refine⟨⟨_,fg pe (gy (c7 hN hv hd hcd) q1 dv ha) hs hw h1,λW0 H0 F W σ H ρ E Dn v nx s fl eo vv no h=>?_⟩,old.mono⟩;unfold pF at h;split at h
 .rename_i xss ex
  obtain⟨a,bs,e1,o,n⟩:=s.oo.t m xss ex;refine k W0 H0 W σ H ρ E _ s eo (he.mono _ _ _ _ (λys hy b us W1 H1 x1 h1 h2 h3 h4 r1=>⟨_,e1,?_⟩) h);refine k1 W0 H0 W1 σ H1 ρ E _ (s.step x1) eo (hix.mono _ _ _ _ (λdi hdi vi W2 H2 x2 r2=>?_) hy);obtain⟨kk,rfl,r,hr,hn⟩:=lU hdi;cases r2;have xx:=x1.trans x2;have o2:=o.step xx;have hrb:r<bs.length:=by rw[o.len];exact(gi hr).2.1
  have hb2:H2 b=some (.lst us):=x2.h b _ h1 h3;have gb2:W2.G b=none:=by
   cases q:W2.G b with
   |none=>rfl
   |some u=>have:=x2.gf b h2 (by rw[q];simp);rw[h1] at this;cases this
  have pb2:¬W2.Pn b:=λz=>by have:=x2.pf b h3 z;rw[h1] at this;cases this
  have nb:b∉a::bs:=λz=>by
   rcases Yan.mp z with z|z
   .rw[z,o.a1] at h4;cases h4
   .obtain⟨m,hm,rfl⟩:=Ybx.mp z
    obtain⟨_,_,vs,q,_⟩:=o.row m _ (bG hm);rw[q] at h4;cases h4
  have nob:∀(j:Nat) ys c,ρ[j]? = some (SV.ow ys)->σ[j]? = some (some (V.ref c))->c≠b:=λj zs c ej ec z=>by
   obtain⟨c',ws,p1,p2,_⟩:=s.o j zs ej;rw[ec] at p1;cases p1;rw[z,h4] at p2;cases p2
  refine⟨a,_,kk,r,rfl,rfl,o2.a1,by rw[bL,o.len];exact hr,?_⟩;have:=(s.step xx).setRow ex e1 o2 n hrb hb2 gb2 pb2 (s.ext.isN h4) nb nob (x2.reps r1);rw[tX] at this;exact no.nx W2 σ _ _ this (fl.ext xx) vv hn
 .exact h.elim
end
def itO(j i:Nat)(xs:List D)(zb:WS)(E:Ex->Prop)(N:Nds):List D->bR->Prop
 |[],ρ=>N.nx ρ
 |d::ds,ρ=>zb E { nx:=λρ'=>ρ'[i]? = some (.ow xs)/\itO j i xs zb E N ds ρ',rt:=λ_=>False,bk:=λ_=>False,ct:=λ_=>False } (ρ.set j (.d d))
def rn(j i:Nat)(zb:WS):WS:=λE N ρ=>match ρ[i]? with
 |some (.ow xs)=>itO j i xs zb E N xs ρ
 |_=>False
section
theorem itO.mono{j i:Nat}{xs:List D}{E:Ex->Prop}{N N':Nds}(hb:∀E ρ N N',N.le N'->zb E N ρ->zb E N' ρ)(hl:N.le N'):∀ds ρ,itO j i xs zb E N ds ρ->itO j i xs zb E N' ds ρ
 |[],ρ,h=>hl.nx _ h
 |d::ds,ρ,h=>by
  rw[itO] at h ⊢;refine hb _ _ _ _ ?_ h;exact⟨λρ' q=>⟨q.1,itO.mono hb hl ds ρ' q.2⟩,λ_ q=>q,λ_ q=>q,λ_ q=>q⟩
theorem G6(j i:Nat){v:Str}{xp vp:Pos}(hp:PassesOwn (model X.prog X.w) X.A X.env X.xe)(hc:X.calm=true)(hNd:X.N.Nodup)(hb:qA X EX i body zb)(nji:j≠i:=by decide)(hN:X.N[i]? = some x:=by rfl)(hv:kf X.env.scope x:=by first|exact Or.inl rfl|exact Or.inr (Or.inl rfl)|exact Or.inr (Or.inr rfl))(hd:(x==("__debug__" : Str))=false:=by decide)
  (hcd:(x==("__classdict__" : Str))=false:=by decide) (hNj:X.N[j]? = some v:=by rfl) (hxj:kj X.env.scope v:=by first|exact Or.inl rfl|exact Or.inr rfl) (hfj:X.fn v=true\/X.env.scope.names.lookup v=some .local:=by first|exact .inl rfl|exact .inr rfl|assumption)
  (hsi:∀y,foldedSetIterable (.Name x xp) X.env y=pure y:=by intro _;rfl):PZ X EX (.For (.Name v vp) (.Name x xp) body [] pos) (rn j i zb):=by
 obtain⟨tb,pb,kb⟩:=hb.t;refine⟨⟨_,jK hp hc (kq (c7 hN hv hd hcd)) (iF hNd hNj hxj hfj) pb hsi,λW0 H0 F W σ H ρ E Dn N s fl eo no h=>?_⟩,λE ρ N N' hl q=>?_⟩
 .unfold rn at h
  split at h
  .rename_i xs ex
   obtain⟨a,vs0,e1,e2,e3,e4,e5,r0⟩:=s.o i xs ex;refine⟨_,e1,a,rfl,⟨_,SqL.of e2⟩,?_⟩;refine⟨λr m τ G=>m=xs.length-r/\r<=xs.length/\∃Vw ρ2,SOk X.K W0 H0 Vw τ G ρ2/\ρ2[i]? = some (.ow xs)/\τ[i]? = some (some (.ref a))/\Wle W Vw/\itO j i xs zb E N (xs.drop r) ρ2,⟨_,rfl,gJ _,W,ρ,s,ex,e1,.refl W,by rw[pK];exact h⟩,?_⟩;rintro r m τ G ⟨rfl,hr,Vw,ρ2,sv,ex2,t2,fv,hg⟩;obtain⟨a',vs,p1,p2,p3,p4,p5,rr⟩:=sv.o i xs ex2;rw[t2] at p1;cases p1;rcases gg r xs.length with hlt|hge
   .have hx:xs[r]? = some xs[r]:=bG hlt
    obtain⟨u,hu,ru⟩:=rr.get hx;refine .inr ⟨⟨_,_,SqL.of p2,hu⟩,fun τ' G'=>∃Vw ρ2,SOk X.K W0 H0 Vw τ' G' ρ2/\ρ2[i]? = some (.ow xs)/\τ'[i]? = some (some (.ref a))/\Wle W Vw/\itO j i xs zb E N (xs.drop (r+1)) ρ2,fun τ' G' q=>⟨xs.length-(r+1),by omega,rfl,hlt,q⟩,λu' G' yl=>?_⟩;obtain⟨rfl,yl⟩:=yl;have:=yl _ (SqL.of p2);rw[hu] at this;cases this;rw[pL hlt] at hg;exact kb W0 H0 W Vw _ G' _ E _ (.ref a) _ (sv.set ru) fv eo (by rw[cG nji];exact t2) ⟨λW5 σ5 H5 ρ5 s5 f5 v5 h5=>⟨W5,ρ5,s5,h5.1,v5,f5,h5.2⟩⟩ hg
   .refine .inl ⟨⟨_,SqL.of p2,by rw[rr.length];exact hge⟩,?_⟩
    rw[tU hge] at hg;exact no.nx Vw τ G _ sv (fl.trans fv) hg
  .exact h.elim
 .unfold rn at q ⊢
  split at q
  .exact itO.mono hb.mono hl _ _ q
  .exact q.elim
end
section
theorem ME(i m j:Nat)(vars:List Str)(sel:List Nat)(hc:X.calm=true)(hN:X.N.Nodup)(hi:lh X EX target iter wi)(hg:∀s H fp,lX (X.lc sc vars sel s H fp) target g)(hf:∀s H fp,ql (X.lc sc vars sel s H fp) E0 ifs wf)(he:∀s H fp,PX (X.lc sc vars sel s H fp) E0 elt we)
  (hix:X.N[i]? = some x:=by rfl) (hx:kj X.env.scope x:=by first|exact Or.inl rfl|exact Or.inr rfl)
  (hsw:swapsWith (.ListComp elt [⟨target,iter,ifs,0⟩] sc pos) (some (.Name x pos')) spos.line X.env=pure true:=by rfl)
  (ok:ji sc X.env.scope=true:=by rfl) (so:mX X.N sc sel=true:=by rfl) (hs:∀x,foldedSetIterable iter X.env x=pure x:=by intro _;rfl) (hfn:X.fn x=true\/X.env.scope.names.lookup x=some .local:=by first|exact .inl rfl|exact .inr rfl|assumption) :
  PZ X EX (.Assign [.Name x pos'] (.ListComp elt [⟨target,iter,ifs,0⟩] sc pos) spos) (bW i (gE m (aBor j (aLC wi vars.length sel g wf we)))):=by
 obtain⟨ti,tg,tf,te,pi,pg,pf,pe,k⟩:=BE hi hg hf he;have am:=aLC.mono (vars:=vars) (sel:=sel) hi (hg {} (λ_=>none) []).mono (hf {} (λ_=>none) []).mono (he {} (λ_=>none) []).mono;have am':=aBor.mono' am j;have k':=K2 k am j;refine⟨⟨_,DL vars sel hc hN hix hx pi ok so pg pf pe hsw hs hfn,λW0 H0 F W σ H ρ E Dn N s fl eo no h=>?_⟩,λE ρ N N' hl q=>am' _ _ _ _ (λ_ hq=>⟨hq.1,hl.nx _ hq.2⟩) q⟩;obtain⟨W',A,s',l⟩:=s.lendA m;refine k' W0 H0 W' σ H _ E _ s' eo (am' _ _ _ _ (λds hd b vs W2 H2 x2 h1 h2 h3 h4 r2=>?_) h);have hb:b∉A:=λz=>by
  obtain⟨us,q⟩:=(l.a b z).2;have:=s'.ok.g b _ q;rw[h4] at this;cases this
 exact no.nx _ _ H2 _ (s.own (x2.borL l) h4 h1 (by rw[Wd.remL_ne hb];exact h2) h3 (r2.remL (l.on x2) hd.1)) (fl.ext (x2.borL l)) hd.2
end
namespace I9
def Ai:bN:=rlS (λ_:Unit=>[.pen]) (λ_=>True) λ_ d=>∃s n,IsSl s n/\s.reverse=s/\d=aP s
def Aj:bN:=fnS (λx:SL×List Rat×List Rat=>[aP x.1.1,aF x.2.1,aF x.2.2]) (λx=>IsSl x.1.1 x.1.2/\x.2.1.length=x.1.2/\x.2.2.length=x.1.2/\(∀y∈x.2.1,Sz 72 y)/\∀y∈x.2.2,Sz 72 y) λx=>aO (bZ x.1.1 x.1.2 x.2.1 x.2.2)
def xm:bN:=fnS (λx:SL=>[aP x.1]) (λx=>IsSl x.1 x.2/\x.1.reverse=x.1) λx=>pE x.1 x.2 (fH x.1 x.2)
def mn(k:Nat)(x y:D):Except Str D:=if k=0 then pz x y y else qz x
def rp:bN:=fnS (λx:Nat×D×D=>[.int x.1,x.2.1,x.2.2]) (λx=>kd x.2.1=true/\kd x.2.2=true/\dG 72 x.2.2=true) λx=>j3 (mn x.1 x.2.1 x.2.2)
def xn:bN:=fnS (λx:List Int=>[.scr (x.map .int)]) (λx=>x.length<=63) λ_=>.bl true
section
variable{E:Ex->Prop}{x:D}{u v:List Rat}
def MF(q:∀s n,IsSl s n->s.reverse=s->Q (aP s)):Ai [.pen] E Q:=⟨(),rfl,trivial,λd ⟨s,n,h,e,hd⟩=>by rw[hd];exact q s n h e⟩
theorem MG(h:IsSl s n)(h1:u.length=n)(h2:v.length=n)(h3:∀y∈u,Sz 72 y)(h4:∀y∈v,Sz 72 y)(q:Q (aO (bZ s n u v))):Aj [aP s,aF u,aF v] E Q:=⟨((s,n),u,v),rfl,⟨h,h1,h2,h3,h4⟩,q⟩
def G7(h:IsSl s n)(e:s.reverse=s)(q:Q (pE s n (fH s n))):xm [aP s] E Q:=⟨(s,n),rfl,⟨h,e⟩,q⟩
def Ak(h1:kd x=true)(h2:kd y=true)(h3:dG 72 y=true)(q:Q (j3 (mn k x y))):rp [.int k,x,y] E Q:=⟨(k,x,y),rfl,⟨h1,h2,h3⟩,q⟩
end
theorem G8{m:Nat}:∀r:List Rat,(∀x∈r,Sz m x)->Lf (m*r.length+1) r.length r
 |[],_=>⟨[],1,rfl,by decide,by simp,by simp,rfl⟩
 |x::r,h=>by
  obtain⟨c,e,h1,h2,h3,h4,h5⟩:=(G8 r λy hy=>h y (by simp[hy])).ex;have hx:=h x (by simp);have eb:m*(x::r).length+1=m+(m*r.length+1):=by rw[dY,Nat.mul_succ];omega
  refine⟨x.num*e::c.map (λy=>y*x.den),x.den*e,by simp[h1],pN (by exact_mod_cast x.den_nz) h2,?_,λy hy=>?_,?_⟩
  .rw[eb,eu,kJ]
   exact ls hx.2 h3
  .rw[eb]
   rcases Yan.mp hy with rfl|hy
   .rw[eu];exact ls hx.1 h3
   .obtain⟨z,hz,rfl⟩:=YbS.mp hy
    rw[eu,kJ,xL];exact ls hx.2 (h4 z hz)
  .rw[cV,dk]
   congr 1
   .conv=>lhs;rw[<-tV x]
    rw[tY h2]
   .conv=>lhs;rw[h5]
    refine ja λz _=>?_;show Rat.divInt z e=Rat.divInt (z*x.den) (x.den*e);rw[yc (x.den:Int) e,tY (by exact_mod_cast x.den_nz)]
theorem G9:∀{xs:List Int},(∀x∈xs,x.natAbs<2^900)->PyData.showableAll (fG (xs.map .int))=true/\PyData.hasDictAll (fG (xs.map .int))=false/\PyData.depthAll (fG (xs.map .int))=0/\PyData.leavesShortAll 902 (fG (xs.map .int))=true/\PyData.weightAll (fG (xs.map .int))<=903*xs.length
 |[],_=>by simp[fG,PyData.showableAll,PyData.hasDictAll,PyData.depthAll,PyData.leavesShortAll,PyData.weightAll]
 |i::r,h=>by
  obtain⟨b1,b2,b3,b4,b5⟩:=G9 (xs:=r) λx hx=>h x (by simp[hx]);have h1:i.natAbs.log2<900:=K1 (by decide) (h i (by simp));have a1:=int_text_length_le (k:=900) (by decide) h1;have f:(PyData.shown (.int i)).length=(toString i).length:=by
   rw[PyData.shown];exact PySem.ofString_length _
  rw[cV,fG,PyData.showableAll,PyData.hasDictAll,PyData.depthAll,PyData.leavesShortAll,PyData.weightAll,b1,b2,b3,b4,dY];refine⟨?_,?_,?_,?_,?_⟩
  .rw[pd,PyData.showable,uD,NI];omega
  .rw[pd,PyData.hasDict];rfl
  .rw[pd,PyData.depth];rfl
  .rw[pd,PyData.leavesShort,f,uD,NI];omega
  .rw[pd,PyData.weight];split<;>omega
theorem Ha{xs:List Int}(h:∀x∈xs,x.natAbs<2^900)(hl:xs.length<=5)(q:Q (.str (pd (aP xs)).shown)):Zek [aP xs] Q:=by
 obtain⟨b1,b2,b3,b4,b5⟩:=G9 h;have e:pd (aP xs)=.tuple (fG (xs.map .int)):=by unfold aP;rw[pd]
 refine⟨aP xs,pd (aP xs),rfl,(vV _ 60 (sT xs 59)).1,by rw[e,PyData.showable];exact b1,by rw[e,PyData.hasDict];exact b2,by rw[e,PyData.depth];omega,?_,q⟩;have:=PyData.shown_le 902 (by decide) (pd (aP xs)) (by rw[e,PyData.leavesShort];exact b4);have w:(pd (aP xs)).weight<=903*xs.length:=by rw[e,PyData.weight];exact b5
 rw[sizeLine_eq];have:(902+2)*(pd (aP xs)).weight<=904*4515:=Nat.mul_le_mul_left _ (by omega);omega
theorem Hb(h:Sz 900 q)(z:Q (.str (pd (aO q)).shown)):Zek [aO q] Q:=
 Ha (xs:=[q.num,(q.den:Int)]) (λx hx=>by
  simp only[Yan,dN,or_false] at hx;rcases hx with rfl|rfl
  .exact h.1
  .simpa using h.2) (by simp) z
abbrev rr:=G.rr
abbrev lq:=G.lq
def rr_set{R:List (List Rat)}{i k:Nat}{r:List Rat}(h:i<R.length):rr (R.set i r) k=if k=i then r else rr R k:=G.rr_set h
def nD(L:List Nat):List D:=L.map λk:Nat=>D.int (k:Int)
def RD(R:List (List Rat)):List (List D):=R.map λr=>r.map aO
def rq(R:List (List Rat)):(RD R).map D.lst=R.map lq:=by unfold RD;rw[dk];rfl
def Da(R:List (List Rat)):(RD R).length=R.length:=by unfold RD;rw[bL]
def Db(R:List (List Rat))(k:Nat)(r:List Rat):(RD R).set k (r.map aO)=RD (R.set k r):=by unfold RD;rw[tX]
def mt(R:List (List Rat)):Nat->Nat->Rat:=λi j=>(rr R i).getD j 0
def kH{T:List (List Rat)}(h:i<T.length):rr T i∈T:=by
 show T.getD i []∈T;rw[bD,bG h];exact jF h
theorem Hc{A B:List (List Rat)}(h:A.length=B.length)(he:∀i,i<A.length->rr A i=rr B i):A=B:=by
 refine yg h λi h1 h2=>?_;have:=he i h1;show A[i]=B[i];have e:∀(C:List (List Rat)) (hc:i<C.length),rr C i=C[i]:=λC hc=>by show C.getD i []=_;rw[bD,bG hc];rfl
 rw[<-e A h1,<-e B h2];exact this
def bs:Nat->Nat
 |0=>6
 |t+1=>4*bs t+5
def Hd(h:i<=j):bs i<=bs j:=by
 induction h with
 |refl=>exact bP _
 |step _ ih=>exact gv ih (by rw[bs];omega)
def ei(r p:List Rat):List Rat:=List.zipWith (λx y=>x+y) r p
theorem He{p:List Rat}(h:Lf b m r)(g:Lf b m p):Lf (2*b+1) m (ei r p):=by
 obtain⟨c,e,h1,h2,h3,h4,rfl⟩:=h.ex;obtain⟨d,f,g1,g2,g3,g4,rfl⟩:=g.ex;refine⟨List.zipWith (λx y=>x*f+y*e) c d,e*f,by rw[nI];omega,pN h2 g2,?_,λx hx=>?_,?_⟩
 .rw[eu]
  exact cU (ls h3 g3) (j8 (by decide) (by omega))
 .obtain⟨i,hi,rfl⟩:=Ybx.mp hx
  rw[tZ];rw[nI] at hi;have a1:=ls (h4 (c[i]'(by omega)) (jF _)) g3;have a2:=ls (g4 (d[i]'(by omega)) (jF _)) h3;have:=qD (c[i]'(by omega)*f) (d[i]'(by omega)*e);rw[eu,eu] at this;rw[show 2*b+1=(b+b)+1 by omega,rD];omega
 .unfold ei
  refine yg (by simp) λi i1 i2=>?_;simp only[tZ,xY];rw[Rat.divInt_add_divInt _ _ h2 g2]
theorem MH(h:Lf b m r)(hi:i<m)(hj:j<m):Lf (b+1) m (r.set i (r.getD i 0+r.getD j 0)):=by
 obtain⟨c,e,h1,h2,h3,h4,rfl⟩:=h.ex;have gd:∀k,k<m->(c.map λx=>Rat.divInt x e).getD k 0=Rat.divInt (c.getD k 0) e/\(c.getD k 0).natAbs<2^b:=λk hk=>by
  rw[bD,cI,bD,bG (by omega)];exact⟨rfl,h4 _ (jF _)⟩
 obtain⟨a1,a2⟩:=gd i hi;obtain⟨b1,b2⟩:=gd j hj;rw[a1,b1,Rat.divInt_add_divInt _ _ h2 h2,<-Int.add_mul,tY h2];refine⟨c.set i (c.getD i 0+c.getD j 0),e,by rw[cL];exact h1,h2,tO h3 (Nat.pow_lt_pow_right (by decide) (by omega)),λx hx=>?_,by rw[tX]⟩;rw[rD];rcases pM hx with hx|rfl
 .have:=h4 x hx;omega
 .have:=qD (c.getD i 0) (c.getD j 0);omega
def qB(r p:List Rat)(h:Nat):List Rat:=List.zipWith (λx y=>x+r.getD h 0 * -(p.getD h 0)⁻¹*y) r p
theorem MI(r p:List Rat)(h:Nat):qB r p h=bJ r (r.getD h 0) (lF p (p.getD h 0)):=by
 unfold qB bJ lF;refine yg (by simp) λi h1 h2=>?_;simp only[tZ,xY];rw[hU];grind
def xo{p:List Rat}(hr:Lf b m r)(hp:Lf b m p)(hh:h<m)(nz:p.getD h 0≠0):Lf (2*b+1) m (qB r p h):=by
 rw[MI];exact hr.less (hp.norm hh nz) hh
theorem Hf{f:Rat->Rat->Rat}{p:List Rat}(h1:r.length=m)(h2:p.length=m)(hj:j<m):(List.zipWith f r p).getD j 0=f (r.getD j 0) (p.getD j 0):=by
 rw[bD,List.getElem?_zipWith,bD,bD,bG (by omega),bG (by omega)];rfl
def fw(R:List (List Rat))(h:Nat)(L:List Nat):List (List Rat):=(List.range R.length).map λi=>if i∈L then qB (rr R i) (rr R h) h else rr R i
def pG{R:List (List Rat)}:(fw R h L).length=R.length:=by unfold fw;simp
theorem rz{R:List (List Rat)}(hi:i<R.length):rr (fw R h L) i=if i∈L then qB (rr R i) (rr R h) h else rr R i:=by
 show(fw R h L).getD i []=_;unfold fw;rw[bD,cI,jD hi];rfl
def MJ{R:List (List Rat)}:fw R h []=R:=Hc pG λi hi=>by rw[rz (by rw[pG] at hi;exact hi)];simp
theorem MK{R:List (List Rat)}(hk:k<R.length)(nk:k∉L)(nh:h∉L)(hh:h<R.length):(fw R h L).set k (qB (rr (fw R h L) k) (rr (fw R h L) h) h)=fw R h (L++[k]):=by
 refine Hc (by rw[cL,pG,pG]) λi hi=>?_;rw[cL,pG] at hi;rw[rr_set (by rw[pG];exact hk),rz hi,rz hi,rz hk,rz hh,if_neg nk,if_neg nh]
 by_cases e:i=k
 .subst e;simp
 .simp[e]
def pH(R:List (List Rat))(i j:Nat):List (List Rat):=R.map λr=>r.set i (r.getD i 0+r.getD j 0)
theorem Zq{R:List (List Rat)}(hk:k<R.length):rr (pH R i j) k=(rr R k).set i ((rr R k).getD i 0+(rr R k).getD j 0):=by
 show(pH R i j).getD k []=_;unfold pH;rw[bD,cI,bG hk];show R[k].set _ _=(R.getD k []).set _ ((R.getD k []).getD _ _+(R.getD k []).getD _ _);rw[bD (l:=R),bG hk];rfl
theorem Hg{R:List (List Rat)}(hR:R.length=n)(hw:∀r∈R,r.length=n)(hi:i<n)(hj:j<n):∀k l,k<n->l<n->mt (pH (R.set i (ei (rr R i) (rr R j))) i j) k l=wS (pC (mt R) i j) i j k l:=λk l hk hl=>by
 have w:∀k,k<n->(rr R k).length=n:=λk hk=>hw _ (kH (by omega));have r1:∀k l,k<n->l<n->mt (R.set i (ei (rr R i) (rr R j))) k l=pC (mt R) i j k l:=λk l hk hl=>by
  unfold mt pC;rw[rr_set (by omega)]
  by_cases e:k=i
  .rw[if_pos e,if_pos e];unfold ei;exact Hf (w i hi) (w j hj) hl
  .rw[if_neg e,if_neg e]
 have lw:(rr (R.set i (ei (rr R i) (rr R j))) k).length=n:=by
  rw[rr_set (by omega)];split
  .unfold ei;rw[nI,w i hi,w j hj];omega
  .exact w k hk
 have s1:=r1 k i hk hi;have s2:=r1 k j hk hj;have s3:=r1 k l hk hl;unfold wS;show(rr (pH _ i j) k).getD l 0=_;rw[Zq (by rw[cL];omega)];have s1:(rr (R.set i (ei (rr R i) (rr R j))) k).getD i 0=pC (mt R) i j k i:=s1;have s2:(rr (R.set i (ei (rr R i) (rr R j))) k).getD j 0=pC (mt R) i j k j:=s2;have s3:(rr (R.set i (ei (rr R i) (rr R j))) k).getD l 0=pC (mt R) i j k l:=s3;rw[s1,s2,bD]
 by_cases e:l=i
 .subst e
  rw[dc (by omega),if_pos rfl];rfl
 .rw[cG (NO e),if_neg e,<-s3,bD]
theorem xq{R:List (List Rat)}(hR:R.length=n)(hw:∀r∈R,r.length=n)(hh:h<n)(hL:∀i∈L,i<n):∀k∈L,∀l∈L,mt (fw R h L) k l=mt R k l+mt R k h * -(mt R h h)⁻¹*mt R h l:=λk hk l hl=>by
 have w:∀k,k<n->(rr R k).length=n:=λk hk=>hw _ (kH (by omega));unfold mt;rw[rz (by have:=hL k hk;omega),if_pos hk];unfold qB;exact Hf (w k (hL k hk)) (w h hh) (hL l hl)
structure Ws(s:List Int)(n:Nat)(R:List (List Rat))(L:List Nat)(a b:Nat):Prop where
 il:∃U,Il (Pj.cA (sA s n)) n L (mt R) U a b
 rl:R.length=n
 lf:∀r∈R,Lf (bs (n-L.length)) n r
 asc:L.Pairwise (· < ·)
 ln:L.length<=n
section
variable{a:Nat}{R:List (List Rat)}
theorem Al(h:IsSl s n)(ev:s.reverse=s):∀i j,i<n->j<n->Pj.cA (sA s n) i j=Pj.cA (sA s n) j i:=λi j hi hj=>by show((sA s n i j:Int):Rat)=_;rw[CY h ev i j hi hj]
def Ws.lt(w:Ws s n R L a b):∀i∈L,i<n:=w.il.elim λ_ I=>I.lt
def Ws.wd(w:Ws s n R L a b):∀r∈R,r.length=n:=λr hr=>(w.lf r hr).len
theorem Ws.fin(h:IsSl s n)(ev:s.reverse=s)(w:Ws s n R L a b)(h0:∀i∈L,∀j∈L,mt R i j=0):jB s n (fH s n)=a/\kG s n (fH s n)=b:=by
 obtain⟨U,I⟩:=w.il;have sy:=Al h ev;obtain⟨A,e1,e2⟩:=I.fin sy h0;have pa:=z8 h ev;have hw:∀r∈fH s n,r.length=n:=λr hr=>(pa.lf r hr).len;rw[Mv h pa.len hw,Mw h pa.len hw,(pa.ap' h ev).eq sy A 1,(pa.ap' h ev).eq sy A (-1)];exact⟨e1,e2⟩
theorem Ws.sym(h:IsSl s n)(ev:s.reverse=s)(w:Ws s n R L a b)(hi:i∈L)(hj:j∈L):mt R i j=mt R j i:=by
 obtain⟨U,I⟩:=w.il;rw[I.m i hi j hj,I.m j hj i hi,j4 (Al h ev)]
theorem Ws.start(h:IsSl s n):Ws s n ((tbl s n).map dF) (List.range n) 0 0:=by
 have tl:=tx (s:=s) (n:=n);refine⟨⟨_,Il.start λi j hi hj=>?_⟩,by rw[bL,tl],λr hr=>?_,List.pairwise_lt_range,by simp⟩
 .unfold mt
  show(((tbl s n).map dF).getD i []).getD j 0=((tA (tbl s n) i j:Int):Rat)
  have hl:i<(tbl s n).length:=by rw[tl];exact hi
  rw[bD (l:=(tbl s n).map dF),cI,bG hl];have hm:=(tz h _ (jF hl)).1;show(dF (tbl s n)[i]).getD j 0=_;unfold dF;rw[bD,cI,bG (by omega)];unfold tA B.C.ga B.C.gr;rw[bD (l:=tbl s n),bG hl];show((((tbl s n)[i])[j]'(by omega):Int):Rat)=(((tbl s n)[i].getD j 0:Int):Rat)
  rw[bD,bG (by omega)];rfl
 .obtain⟨line,hl,rfl⟩:=YbS.mp hr
  obtain⟨h1,h2⟩:=tz h line hl;rw[jE,qI,<-h1];exact Lf.int (by decide) λx hx=>by have:=h2 x hx;show _<2^6;omega
theorem Ws.pair(h:IsSl s n)(ev:s.reverse=s)(w:Ws s n R L a b){i j:Nat}(hi:i∈L)(hj:j∈L)(ne:i≠j):(∃U,Il (Pj.cA (sA s n)) n L (mt (pH (R.set i (ei (rr R i) (rr R j))) i j)) U a b)/\∀r∈pH (R.set i (ei (rr R i) (rr R j))) i j,Lf (2*bs (n-L.length)+2) n r:=by
 obtain⟨U,I⟩:=w.il;have li:=w.lt i hi;have lj:=w.lt j hj;have rl:=w.rl;refine⟨⟨_,I.pair (Al h ev) hi hj ne λk hk l hl=>Hg w.rl w.wd li lj k l (w.lt k hk) (w.lt l hl)⟩,λr hr=>?_⟩;obtain⟨p,hp,rfl⟩:=YbS.mp hr;refine MH (b:=2*bs (n-L.length)+1) ?_ li lj;rcases pM hp with hp|rfl
 .exact(w.lf p hp).mono (by omega)
 .exact He (w.lf _ (kH (by omega))) (w.lf _ (kH (by omega)))
theorem xu(h:IsSl s n)(ev:s.reverse=s)(I:Il (Pj.cA (sA s n)) n L (mt R) U a b)(rl:R.length=n)(lf:∀r∈R,Lf (2*bs (n-L.length)+2) n r)(asc:L.Pairwise (· < ·))(ln:L.length<=n){x:Nat}(hx:L[k]? = some x)(nz:mt R x x≠0) :
  Ws s n (fw R x (L.eraseIdx k)) (L.eraseIdx k) (a+if 0<mt R x x then 1 else 0) (b+if mt R x x<0 then 1 else 0):=by
 have hk:k<L.length:=(Yaq.mp hx).1;have hxm:x∈L:=ge hx;have xl:=I.lt x hxm;have nd:L.Nodup:=asc.imp λh=>fJ h;have hL:∀i,i∈L.eraseIdx k↔i∈L/\i≠x:=λi=>by
  rw[Yc4];constructor
  .rintro⟨j,hj,e⟩
   refine⟨ge e,λz=>hj ?_⟩;rw[z] at e;have hj':j<L.length:=(Yaq.mp e).1;rw[bG hj'] at e;rw[bG hk] at hx;have pw:=Yc2.mp nd;have ee:=(NJ e).trans (NJ hx).symm;rcases AJ j k with z|z|z
   .exact NH ee (pw j k hj' hk z)
   .exact z
   .exact NH ee.symm (pw k j hk hj' z)
  .rintro⟨hi,ne⟩
   obtain⟨j,hj,e⟩:=Ybx.mp hi;refine⟨j,λz=>ne ?_,by rw[bG hj,e]⟩;subst z;rw[bG hk] at hx;rw[<-e];exact NJ hx
 have lw:∀r∈R,r.length=n:=λr hr=>(lf r hr).len;have le:(L.eraseIdx k).length=L.length-1:=AK hk;have bt:bs (n-(L.eraseIdx k).length)=4*bs (n-L.length)+5:=by rw[le,show n-(L.length-1)=(n-L.length)+1 by omega,bs]
 refine⟨⟨_,I.elim (Al h ev) hxm nz hL (xq rl lw xl λi hi=>I.lt i ((hL i).mp hi).1)⟩,by rw[pG,rl],λr hr=>?_,asc.sublist (List.eraseIdx_sublist _ _),by rw[le];omega⟩;unfold fw at hr;obtain⟨i,hi,rfl⟩:=YbS.mp hr;have hi:=Yah.mp hi;rw[bt];split
 .exact(xo (lf _ (kH hi)) (lf _ (kH (by omega))) xl nz).mono (by omega)
 .exact(lf _ (kH hi)).mono (by omega)
end
abbrev ZeF:List Str:=["_law_pen", "_law_slants", "_law_size"]
def Dc:WS:=(aI (aQ 1 (wF wq (aC (wN 0) aA))) (aI (aQ 2 (w2 fV (w2 gAdd (wB bS (aC (wN 1) aA)) (wC (D.int (1)))) (wC (D.int (2))))) (aM (w2 gAdd (bM (wN 1) d8 (dA (wN 2))) (w1 gRev (bM (wN 1) d8 (dA (w2 eS (wN 2) (wC (D.int (1)))))))))))
abbrev Zhr:List Str:=["_law_slants", "_law_one", "_law_other", "_law_amount", "_law_left", "_law_right"]
def Dd:WS:=(aI (aQ 3 (aU (aC (wC (D.int (0))) (aC (wC (D.int (1))) aA)))) (aI (aZ (bU (iZ (aC (wN 1) (aC (wF zw (aC (wN 0) (aC (wN 2) aA))) aA))) (dH 2 (cD (gN 4) (cD (gN 5) dC))) (aQ 3 (wF lA (aC (wN 3) (aC (wF me (aC (wN 4) (aC (wN 5) aA))) aA)))))) (aM (wN 3))))
abbrev Zg:List Str:=["_law_slants", "_law_size", "_law_rows", "_law_found", "_law_left", "_law_good", "_law_pairs", "_law_i", "_law_j", "_law_row", "_law_here", "_law_top", "_law_bottom", "_law_at", "_law_part"]
def De:WS:=(aI (aQ 1 (w2 fV (w2 gAdd (wB bS (aC (wN 0) aA)) (wC (D.int (1)))) (wC (D.int (2))))) (aI (GY 2 (Ag (eO (aC (wN 1) aA)) 1 [0,1] (gN 0) cM (aLC (eO (aC (wN 2) aA)) 1 [0,1,2] (gN 0) cM (aU (aC (w2 gIx (wN 2) (w2 eS (w2 gAdd (w2 eS (wN 0) (wN 1)) (wN 3)) (wC (D.int (1))))) (aC (wC (D.int (1))) aA)))))) (aI (bW 3 (aX (aC (wC (D.int (0))) (aC (wC (D.int (0))) aA)))) (aI (bW 4 (FH (aC (wN 1) aA))) (aI (aZ (vR (eQ 4 (wT (w2 (gEq true) (wN 4) (wL (aX aA))))) (aI (bW 5 (gE 2 (aBor 4 (aLC (iS (wN 4)) 1 [2] (gN 0) (wT (w2 (gEq true) (w2 gIx (w2 gIx (w2 gIx (wN 1) (wN 0)) (wN 0)) (wC (D.int (0)))) (wC (D.int (0))))) (wN 0))))) (bO 5 (aI (cS (wT (w2 (gEq false) (wN 5) (wL (aX aA)))) (aI (aQ 6 (wL (aX aA))) (aI (aZ (rn 7 4 (aQ 6 (wL (gE 2 (aBor 4 (dS (wN 6) (wL (aLC (iS (wN 4)) 1 [2,7] (gN 0) (dw (wT (w2 fW (wN 2) (wN 0))) (wT (w2 (gEq true) (w2 gIx (w2 gIx (w2 gIx (wN 1) (wN 2)) (wN 0)) (wC (D.int (0)))) (wC (D.int (0)))))) (aU (aC (wN 2) (aC (wN 0) aA)))))))))))) (aI (cS (wT (w2 (gEq false) (wN 6) (wL (aX aA)))) GZ cR) (aI (dI (w2 gIx (wN 6) (wC (D.int (0)))) (dH 2 (cD (gN 7) (cD (gN 8) dC)))) (aI (pF 2 (wN 7) (gE 2 (aLC (iZ (aC (w2 gIx (wN 2) (wN 7)) (aC (w2 gIx (wN 2) (wN 8)) aA))) 2 [] (dH 2 (cD (gN 0) (cD (gN 1) dC))) cM (wF lA (aC (wN 0) (aC (wN 1) aA)))))) (aI (aZ (xg 9 2 (wN 7) (wF lA (aC (w2 gIx (wN 9) (wN 7)) (aC (w2 gIx (wN 9) (wN 8)) aA))))) (aQ 5 (wL (aX (aC (wN 7) aA)))))))))) cR) (bO 5 (aI (aQ 10 (w2 gIx (wN 5) (wC (D.int (0))))) (aI (dI (nE 2 (w2 gIx (w2 gIx (wN 2) (wN 10)) (wN 10))) (dH 2 (cD (gN 11) (cD (gN 12) dC)))) (aI (uq 3 (wB fQ (aC (w2 fW (wN 11) (wC (D.int (0)))) aA)) (wC (D.int (1)))) (aI (lJ 4 (wN 10)) (aZ (rn 13 4 (aI (aQ 14 (nE 2 (wF me (aC (w2 gIx (w2 gIx (wN 2) (wN 13)) (wN 10)) (aC (wF nU (aC (w2 eS (wC (D.int (0))) (wN 12)) (aC (wN 11) aA))) aA))))) (pF 2 (wN 13) (gE 2 (aLC (iZ (aC (w2 gIx (wN 2) (wN 13)) (aC (w2 gIx (wN 2) (wN 10)) aA))) 2 [14] (dH 2 (cD (gN 0) (cD (gN 1) dC))) cM (wF lA (aC (wN 0) (aC (wF me (aC (wN 2) (aC (wN 1) aA))) aA))))))))))))))))))) (bO 3 (aM (aU (aC (w2 gIx (wN 3) (wC (D.int (0)))) (aC (w2 gIx (wN 3) (wC (D.int (1)))) (aC (w2 eS (w2 eS (wN 1) (w2 gIx (wN 3) (wC (D.int (0))))) (w2 gIx (wN 3) (wC (D.int (1))))) aA)))))))))))
abbrev Zho:List Str:=["_law_way", "_law_slants", "_law_row", "_law_e"]
def Hh:WS:=(fq LX 4 3 (aM (jT (wT (w2 (gEq false) (wN 0) (wC (D.int (0))))) (wF wX (aC (wN 1) (aC (wN 2) aA))) (wF wY (aC (wN 1) aA)))) (aM (wF zt (aC (wN 3) aA))))
abbrev Hi:List Str:=["_law_script", "_law_slants", "_law_cell", "_law_pen", "_law_even", "_law_size", "_law_row", "_law_thing", "_law_due", "_law_other", "_law_bad"]
def Am:WS:=(aI (aZ (bU (iS (wL (aX (aC (aU (aC (wC (D.int (0))) aA)) (aC (aU (aC (w1 nr (wC (D.int (3)))) aA)) (aC (aU (aC (wC (D.int (1))) (aC (wC (D.int (0))) (aC (wC (D.int (1))) aA)))) (aC (aU (aC (wC (D.int (0))) (aC (wC (D.int (0))) (aC (wC (D.int (0))) (aC (wC (D.int (0))) (aC (wC (D.int (0))) aA)))))) (aC (aU (aC (wC (D.int (1))) (aC (wC (D.int (0))) (aC (wC (D.int (0))) (aC (wC (D.int (0))) (aC (wC (D.int (0))) (aC (wC (D.int (0))) (aC (wC (D.int (0))) (aC (wC (D.int (0))) (aC (wC (D.int (1))) aA)))))))))) (aC (aU (aC (wC (D.int (2))) (aC (wC (D.int (2))) (aC (wC (D.int (2))) aA)))) aA))))))))) (gN 1) (cS (wT (w2 gNeS (wB Zek (aC (wF wY (aC (wN 1) aA)) aA)) (wB Zek (aC (wF xm (aC (wN 1) aA)) aA)))) (aM (wC (D.bl false))) cR))) (aI (aZ (bU (iS (w2 gAdd (wL (aX (aC (wF zk (aC (wN 0) (aC (wC (D.int (0))) aA))) aA))) (bM (wN 0) (dA (wC (D.int (1)))) (dA (wC (D.int (5))))))) (gN 2) (aI (aQ 3 (wF zm (aC (wN 2) aA))) (aI (aQ 4 (wF Ai (aC (wN 3) aA))) (aI (aQ 5 (w2 fV (w2 gAdd (wB bS (aC (wN 4) aA)) (wC (D.int (1)))) (wC (D.int (2))))) (aI (cS (wT (w2 gNeS (wB Zek (aC (wF rp (aC (wC (D.int (1))) (aC (wN 4) (aC (wC D.non) aA)))) aA)) (wB Zek (aC (wF xm (aC (wN 4) aA)) aA)))) (aM (wC (D.bl false))) cR) (aI (aQ 6 (wF zn (aC (wN 3) (aC (wN 5) aA)))) (aI (aZ (bU (iS (wL (aX (aC (wN 6) (aC (wF tD (aC (wN 3) (aC (wN 6) aA))) (aC (wF tD (aC (wN 3) (aC (wN 6) aA))) aA)))))) (gN 7) (aI (aQ 8 (jT (wT (wF zB (aC (wN 5) (aC (wN 7) aA)))) (wF Aj (aC (wN 4) (aC (wN 7) (aC (wN 7) aA)))) (wC (D.str (PySem.Str.ofString "row"))))) (cS (wT (w2 gNeS (wB Zek (aC (wF rp (aC (wC (D.int (0))) (aC (wN 4) (aC (wN 7) aA)))) aA)) (wB Zek (aC (wN 8) aA)))) (aM (wC (D.bl false))) cR)))) (aI (aQ 9 (wF wq (aC (wN 3) aA))) (aI (cS (dw (wT (w2 (gEq true) (wN 9) (w1 gRev (wN 9)))) (wT (w2 (gEq true) (wL (aLC (eO (aC (wC (D.int (2))) aA)) 1 [9] (gN 0) cM (wF rp (aC (wN 0) (aC (wN 1) (aC (wC D.non) aA)))))) (w2 gMul (wL (aX (aC (wC (D.str (PySem.Str.ofString "even"))) aA))) (wC (D.int (2))))))) (aM (wC (D.bl false))) cR) (aI (aQ 10 (wF zy (aC (wN 3) (aC (wN 4) aA)))) (cS (dw (bV (wT (wF zA (aC (wN 10) aA)))) (wT (w2 (gEq true) (wL (aLC (eO (aC (wC (D.int (2))) aA)) 1 [10] (gN 0) cM (wF rp (aC (wN 0) (aC (wN 1) (aC (wC D.non) aA)))))) (w2 gMul (wL (aX (aC (wC (D.str (PySem.Str.ofString "slants"))) aA))) (wC (D.int (2))))))) (aM (wC (D.bl false))) cR)))))))))))) (aM (wC (D.bl true)))))
end I9
theorem ML(h:IsSl s n):IsSl (s.take n++(s.take (n-1)).reverse) n/\(s.take n++(s.take (n-1)).reverse).reverse=s.take n++(s.take (n-1)).reverse:=by
 have hl:=h.len;have h1:=h.n1;refine⟨⟨by simp;omega,h1,h.n5,λx hx=>?_⟩,?_⟩
 .rcases Yao.mp hx with hx|hx
  .exact h.b x (qF hx)
  .exact h.b x (qF (Ycq.mp hx))
 .have e:s.take n=s.take (n-1)++[s[n-1]'(by omega)]:=by
   have:=List.take_succ_eq_append_getElem (l:=s) (i:=n-1) (by omega);rw[show n-1+1=n by omega] at this;exact this
  generalize s.take (n-1)=x at e ⊢;rw[e];simp
namespace I9
theorem MM:Rd Ai Dc ZeF:=by
 rintro _ E Q ⟨_,rfl,_,q⟩;show Dc E _ [.d .pen,.un,.un];unfold Dc;refine bY (LP.set_rl (λd=>∃s n,d=aP s/\IsSl s n) (λP h=>?_) ?_)
 .walk_at "st"
  exact E4 λs n hs=>h _ ⟨s,n,rfl,hs⟩
 rintro _ ⟨s,n,rfl,h0⟩;have n1:=h0.n1;have n5:=h0.n5;have hl:=h0.len;dsimp only;refine bY (LP.set_by (d:=.int n) (ρ':=[.d .pen,.d (aP s),.d (.int n)]) (by rfl) (λP hP=>G.V5.size_w h0 hP) ?_);dsimp only;obtain⟨h,ev⟩:=ML h0;have q:=q (aP (s.take n++(s.take (n-1)).reverse)) ⟨_,_,h,ev,rfl⟩;unfold aP at q ⊢;walk_at "st";rw[tm (b:=n) rfl,tm (b:=n-1) (by omega),<-nK,<-nK,<-rE];refine zH (eG (by simp;omega)) ?_;rw[<-jb];exact q
theorem MN{E:Ex->Prop}{a b c:SV}(P Q0:List Rat)(hN:N.nx=aM (wN 3) E { nx:=λ_=>Q .non,rt:=Q })(h:Q (aO (cE P Q0))):∀(p' q':List Rat) (s:Rat) (sv sv':SV) (j:Nat),(∀x∈p',Sz 72 x)->(∀x∈q',Sz 400 x)->Sz (j*473+1) s->j+p'.length<=5->s+cE p' q'=cE P Q0->
  Za2 (dH 2 (cD (gN 4) (cD (gN 5) dC))) (aQ 3 (wF lA (aC (wN 3) (aC (wF me (aC (wN 4) (aC (wN 5) aA))) aA)))) No N (dJ (p'.map aO) (q'.map aO)) [a,b,c,.d (aO s),sv,sv']:=by
 intro p'
 induction p' with
 |nil=>
  intro q' s sv sv' j _ _ _ _ he;rw[cE,nJ] at he;simp only[dJ,gx,List.zipWith_nil_left,Za2,hN];show Q (aO s);rw[he];exact h
 |cons x p' ih=>
  intro q' s sv sv' j h1 h2 h3 h4 he;cases q' with
  |nil=>
   rw[cE,nJ] at he;simp only[dJ,gx,List.zipWith_nil_right,Za2,hN];show Q (aO s);rw[he];exact h
  |cons y q'=>
   have hx:=h1 x (by simp);have hy:=h2 y (by simp);rw[dY] at h4;simp only[dJ,cV,AC,Za2];refine⟨rfl,?_⟩;simp only[cD,dC,gN,aQ,wF,aC,aA,wN,cZ,df,eU,eT];refine⟨(x,y),rfl,B2.of hx hy (by omega),?_⟩;refine⟨(s,x*y),rfl,B2.of h3 (hx.mul hy) (by omega),?_⟩;refine ih q' (s+x*y) _ _ (j+1) (λz hz=>h1 z (by simp[hz])) (λz hz=>h2 z (by simp[hz])) ?_ (by omega) ?_
   .exact(h3.add (hx.mul hy)).mono (by omega)
   .rw[cE] at he
    rw[Rat.add_assoc];exact he
theorem MO:Rd Aj Dd Zhr:=by
 rintro _ E Q ⟨⟨⟨s,n⟩,u,v⟩,rfl,⟨h,h1,h2,h3,h4⟩,q⟩;dsimp only at h h1 h2 h3 h4 q;show Dd E _ [.d (aP s),.d (aF u),.d (aF v),.un,.un,.un];unfold Dd;refine bY (LP.set_by (d:=aO 0) (ρ':=[.d (aP s),.d (aF u),.d (aF v),.d (aO 0),.un,.un]) (by rfl) (λP hP=>⟨by decide,hP⟩) ?_);dsimp only;refine bY ?_;simp only[aZ];simp only[bU,iZ,aC,aA,wN,wF,cZ,df];refine KG h h2 h4 ?_;have n5:=h.n5;exact MN (E:=E) u (cT s n v) rfl q u (cT s n v) 0 .un .un 0 h3 (λx hx=>(LZ h h4 x hx).mono (by omega)) (Sz.zero (by decide)) (by omega) (Rat.zero_add _)
def Df:∀L:List Nat,jz (nD L)=true
 |[]=>rfl
 |k::L=>by show(dR (D.int k)&&jz (nD L))=true;rw[Df L];rfl
def Dg:∀r:List Rat,jz (r.map aO)=true
 |[]=>rfl
 |x::r=>by rw[cV,jz,Dg r];rfl
def Dh(h:k<n):jh n (k:Int)=some k:=B.C.ixN_nat h
def Di(h:Lf b m r)(hk:k<m):eD (r.map aO) (k:Int)=some (aO (r.getD k 0)):=by
 refine cC ?_;rw[cI,(h.get hk).1];rfl
theorem Dj{j i:Nat}{L:List Nat}{zb:WS}{E:Ex->Prop}{N:Nds}(I:List Nat->bR->Prop)(hs:∀L1 ρ,I L1 ρ->ρ[i]? = some (.ow (nD L)))
  (hz:∀(L1:List Nat) (k:Nat) (L2:List Nat) ρ,L=L1++k::L2->I L1 ρ->∀nx:bR->Prop,(∀ρ',I (L1++[k]) ρ'->nx ρ')->zb E { nx:=nx,rt:=λ_=>False,bk:=λ_=>False,ct:=λ_=>False } (ρ.set j (.d (.int k))))
  (he:∀ρ,I L ρ->N.nx ρ):∀L2 L1 ρ,L=L1++L2->I L1 ρ->itO j i (nD L) zb E N (nD L2) ρ
 |[],L1,ρ,e,h=>by rw[pI] at e;subst e;exact he ρ h
 |k::L2,L1,ρ,e,h=>by
  show itO j i (nD L) zb E N (D.int k::nD L2) ρ;rw[itO];refine hz L1 k L2 ρ e h _ λρ' h'=>⟨hs _ _ h',Dj I hs hz he L2 (L1++[k]) ρ' (by rw[e,lN];rfl) h'⟩
theorem Hj{j i c:Nat}{wi wv:WE}{E:Ex->Prop}{N:Nds}{ρ:bR}{R:List (List Rat)}{f:List Rat->Rat}(hc:∀r∈R,c<r.length)
  (hv:∀R' r,r∈R->∀P:D->Prop,P (aO (f r))->wv E (xc j i (RD R') (r.map aO) ρ) P) (hi:∀R' r,r∈R->∀P:D->Prop,P (.int c)->wi E (xc j i (RD R') (r.map aO) ρ) P)
  (he:N.nx ((ρ.set j .un).set i (.oo (RD (R.map λr=>r.set c (f r)))))):∀(A B:List (List Rat)),R=A++B->goT j i wi wv E N ρ B.length A.length (RD (A.map (λr=>r.set c (f r))++B))
 |A,[],e=>by rw[pI] at e;subst e;rw[pI];exact he
 |A,r::B,e=>by
  have hr:r∈R:=by rw[e];simp
  have at_:(RD (A.map (λr=>r.set c (f r))++r::B))[A.length]? = some (r.map aO):=by
   unfold RD;rw[cI,jt (by simp),bL,qI];rfl
  show goT j i wi wv E N ρ (B.length+1) A.length _;rw[goT];refine⟨_,at_,hv _ r hr _ ⟨rfl,hi _ r hr _ ⟨c,Dh (by rw[bL];exact hc r hr),?_⟩⟩⟩;have:=Hj hc hv hi he (A++[r]) B (by rw[e,lN];rfl);rw[dM,j7,jb,lN] at this;rw[<-tX,Db,List.set_append_right _ _ (by simp),bL,qI];exact this
def gY(L:List Nat)(M:Nat->Nat->Rat)(L1:List Nat):List (Nat×Nat):=L1.flatMap λi=>(L.filter λj=>decide (i<j)&&decide (M i j≠0)).map λj=>(i,j)
def pD(ps:List (Nat×Nat)):List D:=ps.map λp=>D.tup [.int (p.1:Int),.int (p.2:Int)]
theorem MP(L:List Nat)(M:Nat->Nat->Rat)(L1:List Nat)(k:Nat):gY L M (L1++[k])=gY L M L1++(L.filter λj=>decide (k<j)&&decide (M k j≠0)).map λj=>(k,j):=by unfold gY;rw[List.flatMap_append];simp
theorem Hk(L:List Nat)(M:Nat->Nat->Rat):∀L1:List Nat,(gY L M L1).length<=L1.length*L.length
 |[]=>by simp[gY]
 |k::L1=>by
  have:=Hk L M L1;have e:gY L M (k::L1)=((L.filter λj=>decide (k<j)&&decide (M k j≠0)).map λj=>(k,j))++gY L M L1:=rfl;rw[e,dM,bL,dY,nF];have:=yj (λj=>decide (k<j)&&decide (M k j≠0)) L;omega
theorem Zl6{M:Nat->Nat->Rat}{p:Nat×Nat}:p∈gY L M L1↔p.1∈L1/\p.2∈L/\p.1<p.2/\M p.1 p.2≠0:=by
 unfold gY;rw[List.mem_flatMap];constructor
 .rintro⟨i,hi,h⟩
  obtain⟨j,hj,rfl⟩:=YbS.mp h;obtain⟨h1,h2⟩:=Yag.mp hj;simp only[dj,NI] at h2;exact⟨hi,h1,h2⟩
 .rintro⟨h1,h2,h3,h4⟩
  exact⟨p.1,h1,YbS.mpr ⟨p.2,Yag.mpr ⟨h2,by simp[h3,h4]⟩,rfl⟩⟩
def Dk:∀ps:List (Nat×Nat),jz (pD ps)=true
 |[]=>rfl
 |k::L=>by show(dR (D.tup [.int (k.1:Int),.int (k.2:Int)])&&jz (pD L))=true;rw[Dk L];rfl
theorem Hl{R:List (List Rat)}(rl:R.length=n)(lf:∀r∈R,Lf b n r)(hi:i<n)(hj:j<n){P:D->Prop}(h:P (aO (mt R i j))):gIx (.lst (R.map lq)) (.int i) λx=>gIx x (.int j) P:=
 ⟨_,G.rr_at (by omega),_,Di (lf _ (kH (by omega))) hj,h⟩
def MQ:decide (q.num=0)=decide (q=0):=by rw[g9,NI,NI];exact Ycx
theorem Hm{R:List (List Rat)}(rl:R.length=n)(lf:∀r∈R,Lf b n r)(hi:i<n)(hj:j<n){P:Bool->Prop}(h:P (decide (mt R i j≠0))):gIx (.lst (R.map lq)) (.int i) λx=>gIx x (.int j) λy=>gIx y (.int 0) λz=>gEq true z (.int 0) (isB P):=by
 refine Hl rl lf hi hj ⟨_,rfl,?_⟩;refine D5 ?_;have:(!((mt R i j).num==0))=decide (mt R i j≠0):=by
  have:=MQ (q:=mt R i j);rw[g9] at this ⊢;simp at this ⊢
 rw[if_pos rfl,this];exact h
theorem Hn{α:Type}{we:WA}{tail:bR}{Q:List (List D)->Prop}{g:α->D}{f:α->List D}:∀(L:List α),(∀a∈L,∀Q:List D->Prop,Q (f a)->we No (.d (g a)::tail) Q)->∀(sv:SV) (acc:List (List D)),acc.length+L.length<=small->Q (acc++L.map f)->lcM (gN 0) cM we (L.map g) (sv::tail) acc Q
 |[],_,sv,acc,_,hq=>by simpa[lcM] using hq
 |a::L,h,sv,acc,hl,hq=>by
  rw[cV,lcM];rw[dY] at hl;show we No (.d (g a)::tail) (λy=>acc.length<small/\lcM (gN 0) cM we (L.map g) (.d (g a)::tail) (acc++[y]) Q);refine h a (by simp) _ ⟨by omega,Hn L (λx hx=>h x (by simp[hx])) _ _ (by simp;omega) ?_⟩;rw[lN];exact hq
def Dl{E:Ex->Prop}(e:ρ.set i (.ow xs)=ρ')(ht:∀P:List D->Prop,P xs->t E ρ P)(h:N.nx ρ'):bW i t E N ρ:=ht _ (by rw[e];exact h)
theorem MR{R:List (List Rat)}{E:Ex->Prop}{P:List D->Prop}{s0 s1 s3 s7:SV}(rl:R.length=n)(lf:∀r∈R,Lf b n r)(lt:∀i∈L,i<n)(ll:L.length<=5)(h:P (nD (L.filter λi=>decide (mt R i i≠0)))) :
  gE 2 (aBor 4 (aLC (iS (wN 4)) 1 [2] (gN 0) (wT (w2 (gEq true) (w2 gIx (w2 gIx (w2 gIx (wN 1) (wN 0)) (wN 0)) (wC (D.int (0)))) (wC (D.int (0))))) (wN 0))) E [s0,s1,.oo (RD R),s3,.ow (nD L),s5,s6,s7,s8,s9,s10,s11,s12,s13,s14] P:=by
 show lcW _ _ _ (nD L) [.un,.d (.lst ((RD R).map .lst))] [] _;rw[rq];refine wI (g:=λk:Nat=>D.int (k:Int)) (f:=λk:Nat=>D.int (k:Int)) (p:=λi=>decide (mt R i i≠0)) L (λk hk P' h'=>?_) (λk hk P' h'=>h') .un [] (eG (by simp;omega)) ?_
 .exact Hm rl lf (lt k hk) (lt k hk) h'
 .exact⟨Df _,Df _,h⟩
theorem MS{R:List (List Rat)}{E:Ex->Prop}{P:D->Prop}{s0 s1 s3:SV}(rl:R.length=n)(lf:∀r∈R,Lf b n r)(lt:∀i∈L,i<n)(ll:L.length<=5)(l1:L1.length<=5)(kn:k<n)(h:P (.lst (pD (gY L (mt R) (L1++[k]))))) :
  wL (gE 2 (aBor 4 (dS (wN 6) (wL (aLC (iS (wN 4)) 1 [2,7] (gN 0) (dw (wT (w2 fW (wN 2) (wN 0))) (wT (w2 (gEq true) (w2 gIx (w2 gIx (w2 gIx (wN 1) (wN 2)) (wN 0)) (wC (D.int (0)))) (wC (D.int (0)))))) (aU (aC (wN 2) (aC (wN 0) aA)))))))) E [s0,s1,.oo (RD R),s3,.ow (nD L),s5,.d (.lst (pD (gY L (mt R) L1))),.d (.int k),s8,s9,s10,s11,s12,s13,s14] P:=by
 have hp:=Hk L (mt R) L1;have hp2:L1.length*L.length<=5*5:=ke l1 ll;show lcW _ _ _ (nD L) [.un,.d (.lst ((RD R).map .lst)),.d (.int k)] [] _;rw[rq];refine wI (g:=λk:Nat=>D.int (k:Int)) (f:=λj:Nat=>D.tup [.int (k:Int),.int (j:Int)]) (p:=λj=>decide (k<j)&&decide (mt R k j≠0)) L (λj hj P' h'=>?_) (λj hj P' h'=>⟨eG (by simp),h'⟩) .un [] (eG (by simp;omega)) ?_
 .simp only[dw,wT,w2,wN,wC,cZ,df,fW,e8,kz]
  by_cases z:k<j
  .refine⟨trivial,?_⟩
   rw[NK (show(k:Int)<(j:Int) by omega)];show if true=true then _ else _;rw[if_pos rfl];rw[NK z,tW] at h';exact Hm rl lf kn (lt j hj) h'
  .refine⟨trivial,?_⟩
   rw[NS (show¬(k:Int)<(j:Int) by omega)];show if false=true then _ else _;rw[if_neg (by decide)];rw[NS z,tP] at h';exact h'
 .have e:pD (gY L (mt R) L1)++([]++(L.filter λj=>decide (k<j)&&decide (mt R k j≠0)).map λj:Nat=>D.tup [.int (k:Int),.int (j:Int)])=pD (gY L (mt R) (L1++[k])):=by
   rw[MP];unfold pD;rw[jb,dk,et];rfl
  have fl:=yj (λj=>decide (k<j)&&decide (mt R k j≠0)) L;refine⟨eG (by unfold pD;rw[et,bL,bL];omega),?_⟩;rw[e];exact⟨Dk _,Dk _,h⟩
theorem xv{P:Bool->Prop}(hx:cX (.lst xs) 60=true)(neg:Bool)(h:P (if neg then !xs.isEmpty else xs.isEmpty)):gEq neg (.lst xs) (.lst []) (isB P):=by
 refine rc hx (by decide +kernel) ?_;have e:jA (.lst xs) (.lst [])=xs.isEmpty:=by
  cases xs with
  |nil=>decide +kernel
  |cons x xs=>unfold jA;simp[pd,fG,PyData.eqv,PyData.eqvAll]
 rw[e];exact h
def Dm(L:List Nat)(n:Nat):cX (.lst (nD L)) (n+1)=true:=BK λx hx=>by obtain⟨k,_,rfl⟩:=YbS.mp hx;exact yX _ _
theorem Ho(ps:List (Nat×Nat))(n:Nat):cX (.lst (pD ps)) (n+2)=true:=BK λx hx=>by
 obtain⟨k,_,rfl⟩:=YbS.mp hx;refine vW λy hy=>?_;simp only[Yan,dN,or_false] at hy;rcases hy with rfl|rfl<;>exact yX _ _
theorem xw{R:List (List Rat)}{E:Ex->Prop}{P:List D->Prop}{s0 s1 s3 s4:SV}(rl:R.length=n)(n5:n<=5)(lf:∀r∈R,Lf b n r)(hb:b<4000)(hi:i<n)(hj:j<n)(h:P ((ei (rr R i) (rr R j)).map aO)) :
  gE 2 (aLC (iZ (aC (w2 gIx (wN 2) (wN 7)) (aC (w2 gIx (wN 2) (wN 8)) aA))) 2 [] (dH 2 (cD (gN 0) (cD (gN 1) dC))) cM (wF lA (aC (wN 0) (aC (wN 1) aA)))) E [s0,s1,.oo (RD R),s3,s4,s5,s6,.d (.int i),.d (.int j),s9,s10,s11,s12,s13,s14] P:=by
 show gIx (.lst ((RD R).map .lst)) (.int i) _;rw[rq];refine⟨_,G.rr_at (by omega),?_⟩;show gIx (.lst ((RD R).map .lst)) (.int j) _;rw[rq];refine⟨_,G.rr_at (by omega),?_⟩;have fi:=lf _ (kH (T:=R) (i:=i) (by omega));have fj:=lf _ (kH (T:=R) (i:=j) (by omega));show lcW _ _ _ (dJ ((rr R i).map aO) ((rr R j).map aO)) [.un,.un] [] _;refine zT (f:=λx y=>aO (x+y)) (rr R i) (rr R j) (λx hx y hy Q' q'=>?_) .un .un [] (eG (by simp[fi.len];omega)) ?_
 .exact zp (E:=No) (B2.of (fi.sz x hx) (fj.sz y hy) (by omega)) q'
 .rw[et]
  have e:List.zipWith (λx y=>aO (x+y)) (rr R i) (rr R j)=(ei (rr R i) (rr R j)).map aO:=by unfold ei;rw[yd]
  rw[e];exact⟨Dg _,h⟩
theorem Do{R:List (List Rat)}{x:Nat}{p:Rat}{E:Ex->Prop}{P:List D->Prop}{s0 s1 s3 s4 s7:SV}(rl:R.length=n)(n5:n<=5)(fi:Lf b n (rr R i))(fj:Lf b n (rr R x))(hb:b<1000)(hi:i<n)(hx:x<n)(hp:Sz (3*b) p)(h:P ((List.zipWith (λu v=>u+p*v) (rr R i) (rr R x)).map aO)) :
  gE 2 (aLC (iZ (aC (w2 gIx (wN 2) (wN 13)) (aC (w2 gIx (wN 2) (wN 10)) aA))) 2 [14] (dH 2 (cD (gN 0) (cD (gN 1) dC))) cM (wF lA (aC (wN 0) (aC (wF me (aC (wN 2) (aC (wN 1) aA))) aA)))) E [s0,s1,.oo (RD R),s3,s4,s5,s6,s7,s8,s9,.d (.int x),s11,s12,.d (.int i),.d (aO p)] P:=by
 show gIx (.lst ((RD R).map .lst)) (.int i) _;rw[rq];refine⟨_,G.rr_at (by omega),?_⟩;show gIx (.lst ((RD R).map .lst)) (.int x) _;rw[rq];refine⟨_,G.rr_at (by omega),?_⟩;show lcW _ _ _ (dJ ((rr R i).map aO) ((rr R x).map aO)) [.un,.un,.d (aO p)] [] _;refine zT (f:=λu v=>aO (u+p*v)) (rr R i) (rr R x) (λu hu v hv Q' q'=>?_) .un .un [] (eG (by simp[fi.len];omega)) ?_
 .have zu:=fi.sz u hu
  have zv:=fj.sz v hv;show me [aO p,aO v] No (λy=>lA [aO u,y] No Q');exact B9 (B2.of hp zv (by omega)) (zp (B2.of zu (hp.mul zv) (by omega)) q')
 .rw[et]
  have e:List.zipWith (λu v=>aO (u+p*v)) (rr R i) (rr R x)=(List.zipWith (λu v=>u+p*v) (rr R i) (rr R x)).map aO:=by rw[yd]
  rw[e];exact⟨Dg _,h⟩
def Hq(h:q≠0):Rat.divInt (0-(q.den:Int)) q.num = -q⁻¹:=by
 rw[Rat.inv_def,Int.zero_sub,Rat.neg_divInt]
def Hr(h:Sz b q)(nz:q≠0):Sz b (-q⁻¹):=by
 rw[<-Hq nz];exact uj (λz=>nz (Ycx.mp z)) (by rw[Int.zero_sub,Int.natAbs_neg,kJ];exact h.2) h.1
def xy{l:Nat}(hn:n<=5)(hl:2<=l)(h:l<=n):bs (n-l)<=489:=gv (Hd (show n-l<=3 by omega)) (by decide)
def MT{l:Nat}(hn:n<=5)(hl:1<=l):bs (n-l)<=1961:=gv (Hd (show n-l<=4 by omega)) (by decide)
def Dp:WS:=(bO 5 (aI (aQ 10 (w2 gIx (wN 5) (wC (D.int (0))))) (aI (dI (nE 2 (w2 gIx (w2 gIx (wN 2) (wN 10)) (wN 10))) (dH 2 (cD (gN 11) (cD (gN 12) dC)))) (aI (uq 3 (wB fQ (aC (w2 fW (wN 11) (wC (D.int (0)))) aA)) (wC (D.int (1)))) (aI (lJ 4 (wN 10)) (aZ (rn 13 4 (aI (aQ 14 (nE 2 (wF me (aC (w2 gIx (w2 gIx (wN 2) (wN 13)) (wN 10)) (aC (wF nU (aC (w2 eS (wC (D.int (0))) (wN 12)) (aC (wN 11) aA))) aA))))) (pF 2 (wN 13) (gE 2 (aLC (iZ (aC (w2 gIx (wN 2) (wN 13)) (aC (w2 gIx (wN 2) (wN 10)) aA))) 2 [14] (dH 2 (cD (gN 0) (cD (gN 1) dC))) cM (wF lA (aC (wN 0) (aC (wF me (aC (wN 2) (aC (wN 1) aA))) aA))))))))))))))
theorem Hs{α β:Type}(f:α->β):∀(l:List α) (k:Nat),(l.map f).eraseIdx k=(l.eraseIdx k).map f
 |[],_=>rfl
 |_::_,0=>rfl
 |a::l,k+1=>by rw[cV,List.eraseIdx_cons_succ,Hs f l k,List.eraseIdx_cons_succ,cV]
theorem MU{S:D}{R:List (List Rat)}{gl:List Nat}{c a x:Nat}{E:Ex->Prop}{s7:SV}(rl:R.length=n)(n5:n<=5)(lf:∀r∈R,Lf c n r)(c2:2<=L.length->c<1000)(lt:∀i∈L,i<n)(nd:L.Pairwise (· < ·))(hx:L[k]? = some x)(nz:mt R x x≠0)
  (hn:∀t,t.length=10->N.nx ([.d S,.d (.int n),.oo (RD (fw R x (L.eraseIdx k))),.ow [.int ((a+if 0<mt R x x then 1 else 0:Nat):Int),.int ((b+if mt R x x<0 then 1 else 0:Nat):Int)],.ow (nD (L.eraseIdx k))]++t)) :
  Dp E N [.d S,.d (.int n),.oo (RD R),.ow [.int (a:Int),.int (b:Int)],.ow (nD L),.d (.lst (nD (x::gl))),s6,s7,s8,s9,s10,s11,s12,s13,s14]:=by
 have hxm:x∈L:=ge hx;have xl:=lt x hxm;have hk:k<L.length:=(Yaq.mp hx).1;unfold Dp;refine B.C.pub_by (ρ':=[.d S,.d (.int n),.oo (RD R),.ow [.int (a:Int),.int (b:Int)],.ow (nD L),.d (.lst (nD (x::gl))),s6,s7,s8,s9,s10,s11,s12,s13,s14]) rfl ?_;refine bY (LP.set_by (d:=.int x) (ρ':=[.d S,.d (.int n),.oo (RD R),.ow [.int (a:Int),.int (b:Int)],.ow (nD L),.d (.lst (nD (x::gl))),s6,s7,s8,s9,.d (.int x),s11,s12,s13,s14]) (by rfl) (λP hP=>⟨_,cC (j:=0) rfl,hP⟩) ?_);dsimp only;refine bY (C6 (x:=.int (mt R x x).num) (y:=.int ((mt R x x).den:Int)) (λP hP=>?_) (ρ':=[.d S,.d (.int n),.oo (RD R),.ow [.int (a:Int),.int (b:Int)],.ow (nD L),.d (.lst (nD (x::gl))),s6,s7,s8,s9,.d (.int x),.d (.int (mt R x x).num),.d (.int ((mt R x x).den:Int)),s13,s14]) (by rfl) ?_)
 .show gIx (.lst ((RD R).map .lst)) (.int x) λy=>gIx y (.int x) _
  rw[rq];exact Hl rl lf xl xl ⟨rfl,hP⟩
 dsimp only;have sg:((mt R x x).num<0↔mt R x x<0):=ZiK.2;have sp:(0<(mt R x x).num↔0<mt R x x):=ZiK.1;have nn:(mt R x x).num≠0:=λz=>nz (Ycx.mp z);generalize hF:([.int ((a+if 0<mt R x x then 1 else 0:Nat):Int),.int ((b+if mt R x x<0 then 1 else 0:Nat):Int)]:List D)=F at hn;have item:∃cc j,eD ([.int (a:Int),.int (b:Int)]:List D) (if(mt R x x).num<0 then 1 else 0)=some (.int cc)/\jh 2 (if(mt R x x).num<0 then 1 else 0)=some j/\([.int (a:Int),.int (b:Int)]:List D).set j (.int (cc+1))=F:=by
  subst hF
  by_cases z:(mt R x x).num<0
  .rw[if_pos z]
   refine⟨b,1,rfl,rfl,?_⟩;have z2:=sg.mp z;have z3:¬0<mt R x x:=λy=>by have:=sp.mpr y;omega
   rw[if_pos z2,if_neg z3];rfl
  .rw[if_neg z]
   refine⟨a,0,rfl,rfl,?_⟩;have z2:¬mt R x x<0:=λy=>z (sg.mpr y);have z3:0<mt R x x:=sp.mp (by omega);rw[if_neg z2,if_pos z3];rfl
 obtain⟨cc,jj,i1,i2,i3⟩:=item;have nd':∀i j:Nat,i<k->L[i]?≠some x:=λi _ hi z=>by
  have hil:i<L.length:=by omega
  have:=Yc2.mp nd i k hil hk hi;rw[bG hil] at z;rw[bG hk] at hx;have e1:=NJ z;have e2:=NJ hx;omega
 have el:(L.eraseIdx k).length=L.length-1:=AK hk;have hmem:∀i∈L.eraseIdx k,i∈L:=λi hi=>List.mem_of_mem_eraseIdx hi;have hxn:x∉L.eraseIdx k:=λz=>by
  obtain⟨i,hi,e⟩:=Yc4.mp z;have hil:i<L.length:=(Yaq.mp e).1;have pw:=Yc2.mp nd;rw[bG hil] at e;rw[bG hk] at hx;have e1:=NJ e;have e2:=NJ hx;rcases AJ i k with z|z|z
  .have:=pw i k hil hk z;omega
  .exact hi z
  .have:=pw k i hk hil z;omega
 have nde:(L.eraseIdx k).Nodup:=(nd.sublist (List.eraseIdx_sublist _ _)).imp λh=>fJ h;refine bY ?_;simp only[uq,wB,aC,aA,w2,wN,wC,cZ,df,fW,e8,nw,mf];refine⟨trivial,?_⟩;rw[show(if decide ((mt R x x).num<0)=true then(1:Int) else 0)=if(mt R x x).num<0 then 1 else 0 by simp];refine⟨cc,jj,i1,i2,?_⟩;simp only[eT,eU];rw[i3];refine bY ?_;simp only[lJ,wN,cZ,df,mf];refine⟨L.map λi:Nat=>(i:Int),k,by unfold nD;rw[dk];rfl,by rw[cI,hx];rfl,λi hi=>?_,?_⟩
 .rw[cI]
  intro z;cases e:L[i]? with
  |none=>rw[e] at z;cases z
  |some y=>
   rw[e] at z;have:(y:Int)=(x:Int):=NJ z;exact nd' i i hi (by rw[e];congr 1;omega)
 have e4:((L.map λi:Nat=>(i:Int)).eraseIdx k).map D.int=nD (L.eraseIdx k):=by rw[Hs];unfold nD;rw[dk];rfl
 rw[e4];simp only[eT,eU,aZ,rn,cZ,df];refine Dj (L:=L.eraseIdx k) (λL1 ρ=>∃s13 s14,ρ=[.d S,.d (.int n),.oo (RD (fw R x L1)),.ow F,.ow (nD (L.eraseIdx k)),.d (.lst (nD (x::gl))),s6,s7,s8,s9,.d (.int x),.d (.int (mt R x x).num),.d (.int ((mt R x x).den:Int)),s13,s14]) ?_ ?_ ?_ (L.eraseIdx k) [] _ rfl ⟨s13,s14,by rw[MJ]⟩
 .rintro L1 _ ⟨s13,s14,rfl⟩;rfl
 .rintro L1 i L2 _ eL ⟨s13,s14,rfl⟩ nx hnx
  have iL':i∈L.eraseIdx k:=by rw[eL];simp
  have iL:=hmem i iL';have il:=lt i iL;have l2:2<=L.length:=by
   have:1<=(L.eraseIdx k).length:=AI iL';omega
  have hc:=c2 l2;have ni:i∉L1:=λz=>by
   rw[eL] at nde;have:=(List.nodup_append.mp nde).2.2 i z i (by simp);exact this rfl
  have nx1:x∉L1:=λz=>hxn (by rw[eL];simp[z]);have ri:rr (fw R x L1) i=rr R i:=by rw[rz (by omega),if_neg ni]
  have rx:rr (fw R x L1) x=rr R x:=by rw[rz (by omega),if_neg nx1]
  have fi:Lf c n (rr (fw R x L1) i):=by rw[ri];exact lf _ (kH (by omega))
  have fx:Lf c n (rr (fw R x L1) x):=by rw[rx];exact lf _ (kH (by omega))
  have zi:=(fi.get xl).2;have zx:Sz c (mt R x x):=by have:=(fx.get xl).2;rw[rx] at this;exact this
  have mi:(rr (fw R x L1) i).getD x 0=mt R i x:=by rw[ri];rfl
  rw[mi] at zi;simp only[eT,eU];refine bY (LP.set_by (d:=aO (mt R i x * -(mt R x x)⁻¹)) (ρ':=[.d S,.d (.int n),.oo (RD (fw R x L1)),.ow F,.ow (nD (L.eraseIdx k)),.d (.lst (nD (x::gl))),s6,s7,s8,s9,.d (.int x),.d (.int (mt R x x).num),.d (.int ((mt R x x).den:Int)),.d (.int i),.d (aO (mt R i x * -(mt R x x)⁻¹))]) (by rfl) (λP hP=>?_) ?_)
  .show gIx (.lst ((RD (fw R x L1)).map .lst)) (.int i) λy=>gIx y (.int x) _
   rw[rq];refine⟨_,G.rr_at (by rw[pG];omega),_,Di fi xl,?_⟩;rw[mi];simp only[aC,aA,wF,w2,wC,wN,bT,rows,pub,cZ,df,eT,eU,eS,e8];refine⟨trivial,?_⟩;refine B8 nn (cU zx.1 (j8 (by decide) (by omega))) ?_;rw[Hq nz];exact B9 (B2.of zi (Hr zx nz) (by omega)) ⟨rfl,hP⟩
  dsimp only;simp only[pF,cZ,df];refine Do (n:=n) (b:=c) (p:=mt R i x * -(mt R x x)⁻¹) (by rw[pG,rl]) n5 fi fx hc il xl ((zi.mul (Hr zx nz)).mono (by omega)) ?_;refine⟨i,Dh (by rw[Da,pG];omega),?_⟩;rw[Db];have e5:List.zipWith (λu v=>u+mt R i x * -(mt R x x)⁻¹*v) (rr (fw R x L1) i) (rr (fw R x L1) x)=qB (rr (fw R x L1) i) (rr (fw R x L1) x) x:=by
   unfold qB;rw[mi,show(rr (fw R x L1) x).getD x 0=mt R x x by rw[rx];rfl]
  rw[e5,MK (by omega) ni nx1 (by omega)];exact hnx _ ⟨_,_,rfl⟩
 .rintro _ ⟨s13,s14,rfl⟩
  exact hn [_,_,_,_,_,_,_,_,_,_] rfl
theorem MV:Rd xm De Zg:=by
 rintro _ E Q ⟨⟨s,n⟩,rfl,⟨h,ev⟩,q⟩;dsimp only at h ev q;have n1:=h.n1;have n5:=h.n5;have hsl:=h.len;have q:Q (.tup [.int (jB s n (fH s n)),.int (kG s n (fH s n)),.int ((n:Int)-jB s n (fH s n)-kG s n (fH s n))]):=by
  have:=q;unfold pE at this;rw[(z8 h ev).len] at this;exact this
 show De E _ [.d (aP s),.un,.un,.un,.un,.un,.un,.un,.un,.un,.un,.un,.un,.un,.un];unfold De;refine bY (LP.set_by (d:=.int n) (ρ':=[.d (aP s),.d (.int n),.un,.un,.un,.un,.un,.un,.un,.un,.un,.un,.un,.un,.un]) (by rfl) (λP hP=>G.V5.size_w h hP) ?_);dsimp only;refine bY ?_;have oo:∀P:List (List D)->Prop,P (RD ((tbl s n).map dF))->Ag (eO (aC (wN 1) aA)) 1 [0,1] (gN 0) cM (aLC (eO (aC (wN 2) aA)) 1 [0,1,2] (gN 0) cM (aU (aC (w2 gIx (wN 2) (w2 eS (w2 gAdd (w2 eS (wN 0) (wN 1)) (wN 3)) (wC (D.int (1))))) (aC (wC (D.int (1))) aA)))) E [.d (aP s),.d (.int n),.un,.un,.un,.un,.un,.un,.un,.un,.un,.un,.un,.un,.un] P:=λP hP=>by
  simp only[Ag,eO,aC,aA,wN,cZ,df];refine⟨by omega,by omega,?_⟩;show lcM _ _ _ (rng 0 (n:Int).toNat) [.un,.d (aP s),.d (.int n)] [] _;rw[hJ,lC];refine Hn (g:=λk:Nat=>D.int (k:Int)) (f:=λi=>((List.range n).map λj=>((ent s n i j:Int):Rat)).map aO) (List.range n) (λi hi Q hq=>?_) .un [] (by simp[small];omega) ?_
  .rw[Yah] at hi
   simp only[aLC,eO,aC,aA,wN,cV,gx,cZ,df];refine⟨by omega,by omega,?_⟩;show lcW _ _ _ (rng 0 (n:Int).toNat) [.un,.d (.int i),.d (aP s),.d (.int n)] [] _;rw[hJ,lC];refine md (g:=λk:Nat=>D.int (k:Int)) (f:=λj=>aO ((ent s n i j:Int):Rat)) (List.range n) (λj hj Q hq=>?_) .un [] (by simp[small];omega) ?_
   .rw[Yah] at hj
    walk_at "st";have e1:(s.map D.int)[n-1-i+j]? = some (.int (ent s n i j)):=by
     unfold ent;rw[cI,bD,bG (by omega)];rfl
    rw[show(j:Int)-(i:Int)+(n:Int)-1=((n-1-i+j:Nat):Int) by omega];exact⟨_,cC e1,by decide,hq⟩
   .rw[et]
    rw[dk] at hq;exact hq
  .rw[et]
   have e:(List.range n).map (λi=>((List.range n).map λj=>((ent s n i j:Int):Rat)).map aO)=RD ((tbl s n).map dF):=by
    unfold RD;rw[Ce h,dk,dk];refine ja λi _=>?_;show _=(dF ((List.range n).map λj=>ent s n i j)).map aO;unfold dF;rw[dk,dk,dk];rfl
   rw[e];exact hP
 refine oo _ ⟨rfl,?_⟩;clear oo;dsimp only;show aI _ _ _ _ [.d (aP s),.d (.int n),.oo (RD ((tbl s n).map dF)),.un,.un,.un,.un,.un,.un,.un,.un,.un,.un,.un,.un];refine bY (Dl (xs:=[.int 0,.int 0]) (ρ':=[.d (aP s),.d (.int n),.oo (RD ((tbl s n).map dF)),.ow [.int 0,.int 0],.un,.un,.un,.un,.un,.un,.un,.un,.un,.un,.un]) (by rfl) (λP hP=>⟨by decide,hP⟩) ?_);dsimp only;refine bY (Dl (xs:=nD (List.range n)) (ρ':=[.d (aP s),.d (.int n),.oo (RD ((tbl s n).map dF)),.ow [.int 0,.int 0],.ow (nD (List.range n)),.un,.un,.un,.un,.un,.un,.un,.un,.un,.un]) (by rfl) (λP hP=>⟨by omega,by omega,by rw[hJ,lC];exact hP⟩) ?_);dsimp only;have w0:=Ws.start h;have fin:∀{R:List (List Rat)} {L:List Nat} {a b:Nat},Ws s n R L a b->(∀i∈L,∀j∈L,mt R i j=0)->∀s4 s5 s6 s7 s8 s9 s10 s11 s12 s13 s14,bO 3 (aM (aU (aC (w2 gIx (wN 3) (wC (D.int (0)))) (aC (w2 gIx (wN 3) (wC (D.int (1)))) (aC (w2 eS (w2 eS (wN 1) (w2 gIx (wN 3) (wC (D.int (0))))) (w2 gIx (wN 3) (wC (D.int (1))))) aA))))) E { nx:=λ_=>Q .non,rt:=Q } [.d (aP s),.d (.int n),.oo (RD R),.ow [.int a,.int b],s4,s5,s6,s7,s8,s9,s10,s11,s12,s13,s14]:=λ{R L a b} w h0 s4 s5 s6 s7 s8 s9 s10 s11 s12 s13 s14=>by
  obtain⟨e1,e2⟩:=w.fin h ev h0;rw[e1,e2] at q;refine B.C.pub_by (ρ':=[.d (aP s),.d (.int n),.oo (RD R),.d (.lst [.int a,.int b]),s4,s5,s6,s7,s8,s9,s10,s11,s12,s13,s14]) rfl ?_;walk_at "st";refine⟨_,rfl,_,rfl,_,rfl,?_⟩;walk_at "st";refine⟨_,rfl,?_⟩;walk_at "st";exact⟨by decide,q⟩
 refine bY ?_;simp only[aZ];refine⟨λm ρ=>∃R L a b s5 s6 s7 s8 s9 s10 s11 s12 s13 s14,m=L.length/\Ws s n R L a b/\ρ=[.d (aP s),.d (.int n),.oo (RD R),.ow [.int (a:Int),.int (b:Int)],.ow (nD L),s5,s6,s7,s8,s9,s10,s11,s12,s13,s14],⟨_,_,_,0,0,_,_,_,_,_,_,_,_,_,_,rfl,w0,rfl⟩,?_⟩;rintro m _ ⟨R,L,a,b,s5,s6,s7,s8,s9,s10,s11,s12,s13,s14,rfl,w,rfl⟩;show([]:List D).length<=small/\gEq true (.lst (nD L)) (.lst []) (isB _);refine⟨by decide,xv (Dm L 59) true ?_⟩;cases L with
 |nil=>exact fin w (λi hi=>NH hi (by simp)) _ _ _ _ _ _ _ _ _ _ _
 |cons x0 L0=>
 rw[if_pos (by rfl)];generalize hL:x0::L0=L at *;have l1:1<=L.length:=by rw[<-hL];simp
 clear hL x0 L0;have ll:L.length<=5:=gv w.ln n5;have bb:=MT n5 l1;refine bY (Dl (xs:=nD (L.filter λi=>decide (mt R i i≠0))) (ρ':=[.d (aP s),.d (.int n),.oo (RD R),.ow [.int (a:Int),.int (b:Int)],.ow (nD L),.ow (nD (L.filter λi=>decide (mt R i i≠0))),s6,s7,s8,s9,s10,s11,s12,s13,s14]) (by rfl) (λP hP=>MR w.rl w.lf w.lt ll hP) ?_);dsimp only;refine B.C.pub_by (ρ':=[.d (aP s),.d (.int n),.oo (RD R),.ow [.int (a:Int),.int (b:Int)],.ow (nD L),.d (.lst (nD (L.filter λi=>decide (mt R i i≠0)))),s6,s7,s8,s9,s10,s11,s12,s13,s14]) rfl ?_;have dn:∀{R2:List (List Rat)} {U:Nat->Nat->Rat},Il (Pj.cA (sA s n)) n L (mt R2) U a b->R2.length=n->(∀r∈R2,Lf (2*bs (n-L.length)+2) n r)->∀{x k:Nat} {gl:List Nat},L[k]? = some x->mt R2 x x≠0->∀{N:Nds},(∀ρ',(∃m',m'<L.length/\∃R L a b s5 s6 s7 s8 s9 s10 s11 s12 s13 s14,m'=L.length/\Ws s n R L a b/\ρ'=[.d (aP s),.d (.int n),.oo (RD R),.ow [.int (a:Int),.int (b:Int)],.ow (nD L),s5,s6,s7,s8,s9,s10,s11,s12,s13,s14])->N.nx ρ')->∀s6 s7 s8 s9 s10 s11 s12 s13 s14,
   Dp No N [.d (aP s),.d (.int n),.oo (RD R2),.ow [.int (a:Int),.int (b:Int)],.ow (nD L),.d (.lst (nD (x::gl))),s6,s7,s8,s9,s10,s11,s12,s13,s14]:=λ{R2 U} I2 r2 lf2 {x k gl} hx nz {N} hN s6 s7 s8 s9 s10 s11 s12 s13 s14=>by
  have hk:k<L.length:=(Yaq.mp hx).1;refine MU r2 n5 lf2 (λl2=>by have:=xy n5 l2 w.ln;omega) w.lt w.asc hx nz λt ht=>hN _ ⟨(L.eraseIdx k).length,?_,?_⟩
  .rw[AK hk];omega
  .match t,ht with
   |[t5,t6,t7,t8,t9,t10,t11,t12,t13,t14],_=>exact⟨_,_,_,_,t5,t6,t7,t8,t9,t10,t11,t12,t13,t14,rfl,xu h ev I2 r2 lf2 w.asc w.ln hx nz,rfl⟩
 obtain⟨U,I⟩:=w.il;have lf2:∀r∈R,Lf (2*bs (n-L.length)+2) n r:=λr hr=>(w.lf r hr).mono (by omega);cases hG:L.filter λi=>decide (mt R i i≠0) with
 |cons x gl=>
  have hx:x∈L.filter λi=>decide (mt R i i≠0):=by rw[hG];simp
  obtain⟨hxL,hxn⟩:=Yag.mp hx;obtain⟨k,hk⟩:=List.mem_iff_getElem?.mp hxL;refine bY (jo (b:=false) (λP hP=>?_) (λe=>nomatch e) λ_=>?_)
  .show([]:List D).length<=small/\gEq false (.lst (nD (x::gl))) (.lst []) (isB P)
   exact⟨by decide,xv (Dm _ 59) false hP⟩
  .exact dn I w.rl lf2 hk (by simpa using hxn) (λρ' h'=>h') _ _ _ _ _ _ _ _ _
 |nil=>
  have d0:∀i∈L,mt R i i=0:=λi hi=>by
   have:=List.filter_eq_nil_iff.mp hG i hi;simpa using this
  refine bY (jo (b:=true) (λP hP=>?_) (λ_=>?_) λe=>nomatch e)
  .show([]:List D).length<=small/\gEq false (.lst (nD [])) (.lst []) (isB P)
   exact⟨by decide,xv (Dm _ 59) false hP⟩
  dsimp only;refine bY (LP.set_by (d:=.lst (pD (gY L (mt R) []))) (ρ':=[.d (aP s),.d (.int n),.oo (RD R),.ow [.int (a:Int),.int (b:Int)],.ow (nD L),.d (.lst (nD [])),.d (.lst (pD (gY L (mt R) []))),s7,s8,s9,s10,s11,s12,s13,s14]) (by rfl) (λP hP=>⟨by decide,hP⟩) ?_);dsimp only;refine bY ?_;simp only[aZ,rn,cZ,df];refine Dj (L:=L) (λL1 ρ=>∃s7,ρ=[.d (aP s),.d (.int n),.oo (RD R),.ow [.int (a:Int),.int (b:Int)],.ow (nD L),.d (.lst (nD [])),.d (.lst (pD (gY L (mt R) L1))),s7,s8,s9,s10,s11,s12,s13,s14]) ?_ ?_ ?_ L [] _ rfl ⟨_,rfl⟩
  .rintro L1 _ ⟨s7,rfl⟩;rfl
  .rintro L1 k L2 _ eL ⟨s7,rfl⟩ nx hnx
   have kL:k∈L:=by rw[eL];simp
   have l1':L1.length<=5:=by have:=congrArg List.length eL;simp at this;omega
   simp only[eT,eU];refine LP.set_by (d:=.lst (pD (gY L (mt R) (L1++[k])))) (ρ':=[.d (aP s),.d (.int n),.oo (RD R),.ow [.int (a:Int),.int (b:Int)],.ow (nD L),.d (.lst (nD [])),.d (.lst (pD (gY L (mt R) (L1++[k])))),.d (.int k),s8,s9,s10,s11,s12,s13,s14]) (by rfl) (λP hP=>?_) (hnx _ ⟨_,rfl⟩);exact MS w.rl w.lf w.lt ll l1' (w.lt k kL) hP
  rintro _ ⟨s7,rfl⟩;dsimp only;cases hP:gY L (mt R) L with
  |nil=>
   have p0:∀i∈L,∀j∈L,i<j->mt R i j=0:=λi hi j hj ij=>Classical.byContradiction λz=>by
    have:(i,j)∈gY L (mt R) L:=Zl6.mpr ⟨hi,hj,ij,z⟩;rw[hP] at this;cases this
   have z0:∀i∈L,∀j∈L,mt R i j=0:=λi hi j hj=>by
    rcases AJ i j with z|z|z
    .exact p0 i hi j hj z
    .rw[<-z];exact d0 i hi
    .rw[w.sym h ev hi hj];exact p0 j hj i hi z
   refine bY (jo (b:=true) (λP hP=>?_) (λ_=>?_) λe=>nomatch e)
   .show([]:List D).length<=small/\gEq false (.lst (pD [])) (.lst []) (isB P)
    exact⟨by decide,xv (Ho _ 58) false hP⟩
   .exact fin w z0 _ _ _ _ _ _ _ _ _ _ _
  |cons ij pr=>
   obtain⟨i,j⟩:=ij;have hm:(i,j)∈gY L (mt R) L:=by rw[hP];simp
   obtain⟨hi,hj,ij,nz⟩:=Zl6.mp hm;dsimp only at hi hj ij nz;have il:=w.lt i hi;have jl:=w.lt j hj;have rl:=w.rl;refine bY (jo (b:=false) (λP hP=>?_) (λe=>nomatch e) λ_=>?_)
   .show([]:List D).length<=small/\gEq false (.lst (pD ((i,j)::pr))) (.lst []) (isB P)
    exact⟨by decide,xv (Ho _ 58) false hP⟩
   dsimp only;refine bY (C6 (x:=.int i) (y:=.int j) (λP hP=>⟨_,cC (j:=0) rfl,hP⟩) (ρ':=[.d (aP s),.d (.int n),.oo (RD R),.ow [.int (a:Int),.int (b:Int)],.ow (nD L),.d (.lst (nD [])),.d (.lst (pD ((i,j)::pr))),.d (.int i),.d (.int j),s9,s10,s11,s12,s13,s14]) (by rfl) ?_);dsimp only;have lf1:∀r∈R.set i (ei (rr R i) (rr R j)),Lf (2*bs (n-L.length)+1) n r:=λr hr=>by
    rcases pM hr with hr|rfl
    .exact(w.lf r hr).mono (by omega)
    .exact He (w.lf _ (kH (by omega))) (w.lf _ (kH (by omega)))
   obtain⟨⟨U2,I2⟩,lf3⟩:=w.pair h ev hi hj (fJ ij);refine bY ?_;simp only[pF,cZ,df];refine xw w.rl n5 w.lf (by omega) il jl ⟨i,Dh (by rw[Da];omega),?_⟩;rw[Db];generalize hR1:R.set i (ei (rr R i) (rr R j))=R1 at lf1 I2 lf3;have r1:R1.length=n:=by rw[<-hR1,cL,rl]
   simp only[eT,eU];refine bY ?_;simp only[aZ,xg,cZ,df];refine⟨by decide,by simp,?_⟩;rw[Da];have at9:∀r∈R1,∀k,k<n->∀P:D->Prop,P (aO (r.getD k 0))->gIx (.lst (r.map aO)) (.int k) P:=λr hr k hk P hP=>⟨_,Di (lf1 r hr) hk,hP⟩;refine Hj (c:=i) (f:=λr=>r.getD i 0+r.getD j 0) (λr hr=>by rw[(lf1 r hr).len];exact il) (λR' r hr P hP=>?_) (λR' r hr P hP=>hP) ?_ [] R1 rfl
   .refine at9 r hr i il _ (at9 r hr j jl _ ?_)
    have fr:=lf1 r hr;exact zp (B2.of (fr.get il).2 (fr.get jl).2 (by omega)) hP
   simp only[eT,eU];refine LP.set_by (d:=.lst (nD [i])) (ρ':=[.d (aP s),.d (.int n),.oo (RD (pH R1 i j)),.ow [.int (a:Int),.int (b:Int)],.ow (nD L),.d (.lst (nD [i])),.d (.lst (pD ((i,j)::pr))),.d (.int i),.d (.int j),.un,s10,s11,s12,s13,s14]) (by rfl) (λP hP=>⟨eG (by simp),hP⟩) ?_;obtain⟨k,hk⟩:=List.mem_iff_getElem?.mp hi;have nz2:mt (pH R1 i j) i i≠0:=by
    rw[<-hR1,Hg w.rl w.wd il jl i i il il];unfold wS pC;rw[if_pos rfl,if_pos rfl,if_pos rfl,d0 i hi,d0 j hj,w.sym h ev hj hi];intro z;apply nz;grind
   exact dn I2 (by unfold pH;rw[bL,r1]) lf3 hk nz2 (λρ' h'=>h') _ _ _ _ _ _ _ _ _
def MW{x:D}{e:Str}(h:qz x=.error e):e∈LX:=by
 unfold qz at h;refine LY (λe z=>?_) h;split at z
 .cases z
 .injection z with z;rw[<-z];simp
theorem MY{x z:D}{e:Str}(h:pz x y z=.error e):e∈LX:=by
 unfold pz ir wE at h;split at h
 .split at h
  .split at h
   .cases h
   .injection h with h;rw[<-h];simp
  .injection h with h;rw[<-h];simp
 .injection h with h;rw[<-h];simp
theorem MZ:Rd rp Hh Zho:=by
 rintro _ E Q ⟨⟨n,x,y⟩,rfl,⟨h1,h2,h3⟩,q⟩;dsimp only at h1 h2 h3 q;unfold Hh;simp only[fq];refine⟨λex=>ex∈LX/\Q (.str (uk ex)),λex ⟨he,hq⟩=>⟨he,?_⟩,?_⟩
 .unfold ug
  walk_at "st";exact KD he hq
 .walk_at "st"
  unfold mn at q
  by_cases hn:n=0
  .subst hn
   rw[if_pos rfl] at q;rw[if_pos (by rfl)];exact⟨(x,y),rfl,⟨h1,h2,FS (m:=72) (by decide) _ h3⟩,Gi (λe he=>MY he) q⟩
  .rw[if_neg hn] at q
   rw[if_neg (by simpa using hn)];exact⟨x,rfl,h1,Gi (λe he=>MW he) q⟩
theorem An(h:IsSl s n)(ev:s.reverse=s)(q:Q (.str (pd (pE s n (fH s n))).shown)):Zek [pE s n (fH s n)] Q:=by
 have pa:=z8 h ev;have n5:=h.n5;have b1:jB s n (fH s n)<=5:=by unfold jB;exact gv (yj _ _) (by rw[pa.len];exact n5)
 have b2:kG s n (fH s n)<=5:=by unfold kG;exact gv (yj _ _) (by rw[pa.len];exact n5)
 have b3:=pa.len;refine Ha (xs:=[(jB s n (fH s n):Int),(kG s n (fH s n):Int),((fH s n).length:Int)-(jB s n (fH s n):Int)-(kG s n (fH s n):Int)]) (λx hx=>?_) (by simp) q;have:x.natAbs<=15:=by
  simp only[Yan,dN,or_false] at hx;rcases hx with rfl|rfl|rfl<;>omega
 exact lP this (cU (show 15<2^4 by decide) (j8 (by decide) (by decide)))
theorem M0:Rd xn Am Hi:=by
 rintro _ E Q ⟨xs,rfl,hx,q⟩;dsimp only at hx q;show Am E _ [.d (.scr (xs.map .int)),.un,.un,.un,.un,.un,.un,.un,.un,.un,.un];generalize hS:D.scr (xs.map .int)=S;unfold Am;refine bY ?_;simp only[aZ];refine LP.for_seq (xs:=[aP [0],aP [-3],aP [1,0,1],aP [0,0,0,0,0],aP [1,0,0,0,0,0,0,0,1],aP [2,2,2]]) (λP hP=>?_) ?_
 .walk_at "st"
  exact⟨by decide,by decide,by decide,by decide,by decide,by decide,by decide,hP⟩
 refine zE (λρ=>∃s1,ρ=[.d S,s1,.un,.un,.un,.un,.un,.un,.un,.un,.un]) _ ?_ ?_ _ ⟨_,rfl⟩
 .rintro d hd _ ⟨s1,rfl⟩ nx hnx
  have hd:∃s n,d=aP s/\IsSl s n/\s.reverse=s:=by
   simp only[Yan,dN,or_false] at hd;rcases hd with rfl|rfl|rfl|rfl|rfl|rfl
   .exact⟨[0],1,rfl,⟨rfl,by decide,by decide,by decide⟩,rfl⟩
   .exact⟨[-3],1,rfl,⟨rfl,by decide,by decide,by decide⟩,rfl⟩
   .exact⟨[1,0,1],2,rfl,⟨rfl,by decide,by decide,by decide⟩,rfl⟩
   .exact⟨[0,0,0,0,0],3,rfl,⟨rfl,by decide,by decide,by decide⟩,rfl⟩
   .exact⟨[1,0,0,0,0,0,0,0,1],5,rfl,⟨rfl,by decide,by decide,by decide⟩,rfl⟩
   .exact⟨[2,2,2],2,rfl,⟨rfl,by decide,by decide,by decide⟩,rfl⟩
  obtain⟨s,n,rfl,h,ev⟩:=hd;simp only[gN,eU,eT];refine jo (b:=false) (λP hP=>?_) (λe=>nomatch e) λ_=>hnx _ ⟨_,rfl⟩;simp only[wT,w2,wB,wF,aC,aA,wN,cZ,df];exact Mg h ev (An h ev (G7 h ev (An h ev (zI hP))))
 rintro _ ⟨s1,rfl⟩;dsimp only;refine bY ?_;simp only[aZ];have ec:∃cs:List Int,aY (xs.map D.int) (some 1) (some 5)=cs.map D.int/\cs.length<=63:=by
  refine⟨aY xs (some 1) (some 5),?_,?_⟩
  .unfold aY
   rw[bL,nK,qE]
  .unfold aY
   rw[jr,kI];omega
 obtain⟨cs,ec,hcs⟩:=ec;refine LP.for_seq (xs:=(xs.getD 0 0::cs).map D.int) (λP h=>?_) ?_
 .subst hS
  walk_at "st";refine Ko (i:=0) ?_;walk_at "st";rw[ec];exact⟨by decide,by simp[small];omega,h⟩
 clear ec hcs;refine zE (λρ=>∃s1 s2 s3 s4 s5 s6 s7 s8 s9 s10,ρ=[.d S,s1,s2,s3,s4,s5,s6,s7,s8,s9,s10]) _ ?_ ?_ _ ⟨_,_,_,_,_,_,_,_,_,_,rfl⟩
 rotate_left
 .rintro _ ⟨s1,s2,s3,s4,s5,s6,s7,s8,s9,s10,rfl⟩
  exact q
 clear q hS hx;rintro d hd _ ⟨s1,s2,s3,s4,s5,s6,s7,s8,s9,s10,rfl⟩ nx hnx;obtain⟨c,_,rfl⟩:=YbS.mp hd;clear hd;show aI _ _ _ _ [.d S,s1,.d (.int c),s3,s4,s5,s6,s7,s8,s9,s10];refine bY (LP.set_by (d:=.pen) (ρ':=[.d S,s1,.d (.int c),.d .pen,s4,s5,s6,s7,s8,s9,s10]) (by rfl) (λP h=>?_) ?_)
 .walk_at "st"
  exact Kp h
 dsimp only;refine bY (LP.set_rl (λd=>∃s n,d=aP s/\IsSl s n/\s.reverse=s) (λP h=>?_) ?_)
 .walk_at "st"
  exact MF λs n hs ev=>h _ ⟨s,n,rfl,hs,ev⟩
 rintro _ ⟨s,n,rfl,h,ev⟩;have n1:=h.n1;have n5:=h.n5;have hl:=h.len;dsimp only;refine bY (LP.set_by (d:=.int n) (ρ':=[.d S,s1,.d (.int c),.d .pen,.d (aP s),.d (.int n),s6,s7,s8,s9,s10]) (by rfl) (λP hP=>G.V5.size_w h hP) ?_);dsimp only;have eev:iw (aP s)=true:=by unfold iw;rw[gR];simpa using ev
 refine bY (jo (b:=false) (λP hP=>?_) (λe=>nomatch e) λ_=>?_)
 .simp only[wT,w2,wB,wF,aC,aA,wN,wC,cZ,df]
  refine Ak (k:=1) h.kd (by rw[kd]) rfl ?_;have e:j3 (mn 1 (aP s) .non)=pE s n (fH s n):=by
   unfold mn qz;rw[if_neg (by decide),iu h,eev,gR,h.sN];rfl
  rw[e];exact An h ev (G7 h ev (An h ev (zI hP)))
 dsimp only;refine bY (LP.set_rl (λd=>∃r:List Rat,d=aF r/\r.length=n/\∀x∈r,Sz 72 x) (λP hP=>?_) ?_)
 .walk_at "st"
  exact Kq n5 λr h1 h2=>hP _ ⟨r,rfl,h1,h2⟩
 rintro _ ⟨r,rfl,hr,hsz⟩;dsimp only;refine bY ?_;simp only[aZ];show wL (aX (aC (wN 6) (aC (wF tD (aC (wN 3) (aC (wN 6) aA))) (aC (wF tD (aC (wN 3) (aC (wN 6) aA))) aA)))) No [.d S,s1,.d (.int c),.d .pen,.d (aP s),.d (.int n),.d (aF r),s7,s8,s9,s10] (isS _);simp only[wL,aX,aC,aA,wN,wF,cZ,df];refine Fe (by omega) (by omega) hsz λx hx1 hx2=>Fe (by omega) (by omega) hsz λy hy1 hy2=>⟨eG (by simp),?_⟩;refine zE (λρ=>∃s7 s8,ρ=[.d S,s1,.d (.int c),.d .pen,.d (aP s),.d (.int n),.d (aF r),s7,s8,s9,s10]) _ ?_ ?_ _ ⟨_,_,rfl⟩
 .rintro t ht _ ⟨s7,s8,rfl⟩ nx3 hnx3
  have hgt:kd t=true/\dG 72 t=true:=by
   simp only[Yan,dN,or_false] at ht;rcases ht with rfl|rfl|rfl
   .exact⟨sU (by omega),ZbZ.mpr hsz⟩
   .exact⟨hx1,hx2⟩
   .exact⟨hy1,hy2⟩
  clear ht hx1 hx2 hy1 hy2;obtain⟨hk,hs⟩:=hgt;simp only[gN,eU,eT];cases er:fY n t with
  |false=>
   refine bY (LP.set_by (d:=.str "row") (ρ':=[.d S,s1,.d (.int c),.d .pen,.d (aP s),.d (.int n),.d (aF r),.d t,.d (.str "row"),s9,s10]) (by rfl) (λP hP=>?_) ?_)
   .walk_at "st"
    refine Ff hk hs ?_;rw[er];exact hP
   dsimp only;refine jo (b:=false) (λP hP=>?_) (λe=>nomatch e) λ_=>hnx3 _ ⟨_,_,rfl⟩;simp only[wT,w2,wB,wF,aC,aA,wN,wC,cZ,df];refine Ak (k:=0) h.kd hk hs ?_;have e:j3 (mn 0 (aP s) t)=.str "row" :=by
    unfold mn pz wE;rw[if_pos rfl,iu h,eev,gR,h.sN,er];rfl
   rw[e];exact Fy (by decide +kernel) (Fy (by decide +kernel) (zI hP))
  |true=>
   obtain⟨r',rfl,hl'⟩:=ze er;have hl2:r'.length=n:=by omega
   have hsz':=ZbZ.mp hs;refine bY (LP.set_by (d:=aO (bZ s n r' r')) (ρ':=[.d S,s1,.d (.int c),.d .pen,.d (aP s),.d (.int n),.d (aF r),.d (aF r'),.d (aO (bZ s n r' r')),s9,s10]) (by rfl) (λP hP=>?_) ?_)
   .walk_at "st"
    refine Ff hk hs ?_;rw[er];walk_at "st";exact MG h hl2 hl2 hsz' hsz' hP
   dsimp only;refine jo (b:=false) (λP hP=>?_) (λe=>nomatch e) λ_=>hnx3 _ ⟨_,_,rfl⟩;simp only[wT,w2,wB,wF,aC,aA,wN,wC,cZ,df];refine Ak (k:=0) h.kd hk hs ?_;have e:j3 (mn 0 (aP s) (aF r'))=aO (bZ s n r' r'):=by
    unfold mn;rw[if_pos rfl,C0 h ev hl2 hl2];rfl
   rw[e];have lf:=G8 r' hsz';rw[hl2] at lf;have z:Sz 900 (bZ s n r' r'):=(Zm h lf lf).mono (by omega);exact Hb z (Hb z (zI hP))
 rintro _ ⟨s7,s8,rfl⟩;dsimp only;refine bY (LP.set_rl (λd=>∃s n,d=aP s/\IsSl s n) (λP h=>?_) ?_)
 .walk_at "st"
  exact E4 λs n hs=>h _ ⟨s,n,rfl,hs⟩
 rintro _ ⟨o,m,rfl,ho⟩;dsimp only;have two:∀(x:D) (w:Str) (P:D->Prop),kd x=true->cX (.str w) 59=true->(∀k,j3 (mn k x .non)=.str w)->P (.bl false)->∀(ρ:bR) (i:Nat),ρ[i]? = some (.d x)->w2 (gEq true) (wL (aLC (eO (aC (wC (D.int (2))) aA)) 1 [i] (gN 0) cM (wF rp (aC (wN 0) (aC (wN 1) (aC (wC D.non) aA)))))) (w2 gMul (wL (aX (aC (wC (D.str w)) aA))) (wC (D.int (2)))) No ρ P:=λx w P hk ho ha hP ρ i hi=>by
  simp only[w2,wL,aLC,eO,aC,aA,wC];refine⟨by decide,by decide,?_⟩;rw[show rng 0 (2:Int).toNat=(List.range 2).map λ(k:Nat)=>D.int (k:Int) from lC 2];show lcW _ _ _ _ (.un::[match ρ[i]? with|some (.d y)=>SV.d y|_=>.un]) [] _;rw[hi];refine md (g:=λk:Nat=>D.int (k:Int)) (f:=λ_=>.str w) (List.range 2) (λk _ P' h'=>?_) .un [] (by decide) ?_
  .simp only[wF,aC,aA,wN,wC,cZ,df]
   refine Ak hk (by rw[kd]) rfl ?_;rw[ha k];exact h'
  .refine⟨eG (by simp),?_⟩
   refine⟨by decide,by decide,eG (by simp),?_⟩;refine JE (BK (n:=59) λy hy=>?_) hP;have:y=.str w:=by
    rw[et] at hy;obtain⟨_,_,e⟩:=YbS.mp hy;exact e.symm
   rw[this];exact ho
 refine bY (jo (b:=false) (λP hP=>?_) (λe=>nomatch e) λ_=>?_)
 .by_cases eo:o.reverse=o
  .walk_at "st"
   refine rc (sT _ 59) (sT _ 59) ?_;rw[Cv,eo];simp only[decide_true,fb,if_true,kz,dX,if_false];exact hP
  .simp only[dw,wT,w2,w1,wN,cZ,df]
   show gEq true (aP o) (.tup (o.map D.int).reverse) _;rw[<-rE];refine rc (sT _ 59) (sT _ 59) ?_;rw[show jA (aP o) (.tup (o.reverse.map D.int))=decide (o=o.reverse) from Cv _ _,NS λz=>eo z.symm];simp only[if_true,lQ,kz];refine two (aP o) "even" _ ho.kd (by decide +kernel) (λk=>?_) hP _ 9 rfl;have ne:iw (aP o)=false:=by unfold iw;rw[gR];simpa using eo
   unfold mn pz qz;rw[iu ho,iu ho,ne];split<;>rfl
 dsimp only;refine bY (LP.set_rl (λd=>kd d=true) (λP hP=>?_) ?_)
 .walk_at "st"
  exact KH h λd hd=>hP d hd
 intro bad kb;dsimp only;refine jo (b:=false) (λP hP=>?_) (λe=>nomatch e) λ_=>hnx _ ⟨_,_,_,_,_,_,_,_,_,_,rfl⟩;simp only[dw,bV,wT,wF,aC,aA,wN,cZ,df];refine KI kb ?_;cases eb:fZ bad with
 |true=>exact hP
 |false=>
  simp only[kz,lQ,if_true];refine two bad "slants" _ kb (by decide +kernel) (λk=>?_) hP _ 10 rfl;unfold mn pz qz;rw[nR eb,nR eb];split<;>rfl
theorem M1{ns:List Int}(hl:ns.length<=63)(hO:qj H)(hS:SqL K H a (ns.map V.int)):fN K xn [.ref a] H (λv _=>v=.bl true) λ_ _ _=>False:=by
 have rv:∀W:Wd,Reps K W (ns.map V.int) (ns.map D.int):=λW=>by
  clear hl hS
  induction ns with
  |nil=>exact .nil
  |cons n ns ih=>exact .cons (.int n) ih
 have ok:WOk ⟨H,λ_=>False⟩ H:=⟨λ_ _ e=>e,λ_ e=>e.elim⟩
 refine⟨[.scr (ns.map .int)],⟨H,λ_=>False⟩,ok,.cons (.scr ?_ (rv _)) .nil,ns,rfl,hl,λv W' H' _ r=>?_⟩
 .rcases hS with(h|h)|h
  .rcases hO a with z|⟨o,xs,z⟩
   .rw[h] at z;cases z
   .rw[h] at z;cases z
  .exact .inl h
  .exact .inr h
 .cases r;rfl
def top(i:Nat):Stmt:=PySem.Challenge.pw_slanttables_k49_forms_and_signs.main.body.getD i (.Pass ⟨0,0,0,0⟩)
structure Bs(K:NF)(mg:Str->Option Value):Prop where
 aa:FnAt K mg "is_whole" (top 3)
 ab:FnAt K mg "is_within" (top 4)
 ac:FnAt K mg "are_within" (top 5)
 ad:FnAt K mg "common_divisor" (top 6)
 ae:FnAt K mg "is_share" (top 7)
 af:FnAt K mg "is_row_within" (top 8)
 ag:FnAt K mg "is_row" (top 9)
 ah:FnAt K mg "share_by" (top 10)
 ai:FnAt K mg "plus" (top 11)
 aj:FnAt K mg "minus" (top 12)
 ak:FnAt K mg "times" (top 13)
 al:FnAt K mg "by" (top 14)
 am:FnAt K mg "row_of" (top 15)
 an:FnAt K mg "one_at" (top 16)
 ao:FnAt K mg "row_by" (top 17)
 ap:FnAt K mg "row_less" (top 18)
 aq:FnAt K mg "sum_of_products" (top 19)
 ar:FnAt K mg "first_with" (top 21)
 as:FnAt K mg "without_place" (top 22)
 au:FnAt K mg "cleared" (top 23)
 av:FnAt K mg "are_independent" (top 24)
 aw:FnAt K mg "size_of" (top 40)
 ax:FnAt K mg "slants_good" (top 41)
 ay:FnAt K mg "need_slants" (top 42)
 az:FnAt K mg "table_of" (top 43)
 a0:FnAt K mg "turned_slants" (top 44)
 a1:FnAt K mg "row_good" (top 45)
 a2:FnAt K mg "share_rows" (top 46)
 a3:FnAt K mg "times_row" (top 47)
 a4:FnAt K mg "is_even" (top 49)
 a5:FnAt K mg "need_even" (top 50)
 a6:FnAt K mg "pair_at" (top 51)
 a7:FnAt K mg "lead_among" (top 52)
 a8:FnAt K mg "apart_from" (top 53)
 a9:FnAt K mg "apart_rows" (top 54)
 ba:FnAt K mg "form_at" (top 56)
 bb:FnAt K mg "are_apart" (top 57)
 bc:FnAt K mg "sign_paper_good" (top 58)
 bd:FnAt K mg "signs_by" (top 59)
 be:FnAt K mg "sign_paper" (top 60)
 bf:FnAt K mg "signs_of" (top 61)
 bg:FnAt K mg "_law_cell_at" (top 63)
 bh:FnAt K mg "_law_next" (top 64)
 bi:FnAt K mg "_law_pen_of" (top 65)
 bj:FnAt K mg "_law_draw" (top 66)
 bk:FnAt K mg "_law_whole" (top 67)
 bl:FnAt K mg "_law_kind_of" (top 68)
 bm:FnAt K mg "_law_share" (top 69)
 bn:FnAt K mg "_law_add" (top 70)
 bo:FnAt K mg "_law_times" (top 71)
 bp:FnAt K mg "_law_made" (top 72)
 bq:FnAt K mg "_law_slants_by" (top 73)
 br:FnAt K mg "_law_row_by" (top 74)
 bs:FnAt K mg "_law_even_by" (top 75)
 bt:FnAt K mg "_law_form" (top 76)
 bu:FnAt K mg "_law_no_slants" (top 77)
 bv:FnAt K mg "_law_slants_good" (top 78)
 bw:FnAt K mg "_law_no_row" (top 79)
 bx:FnAt K mg "_law_row_good" (top 80)
 bz:FnAt K mg "_law_signs" (top 81)
 b0:FnAt K mg "_law_told" (top 82)
 b1:FnAt K mg "law" (top 83)
 b2:mg "len" = none
 b3:mg "range" = none
 b4:mg "tuple" = none
 b5:mg "abs" = none
 b6:mg "zip" = none
 b7:mg "list" = none
 b8:mg "int" = none
 b9:mg "max" = none
 ca:mg "bool" = none
 cb:mg "isinstance" = none
 cd:mg "all" = none
 ce:mg "ValueError" = none
 cf:CC K mg "NoLine"
 cg:CC K mg "NoNumber"
 ch:CC K mg "NoRow"
 ci:CC K mg "NoSlants"
 cj:CC K mg "NoText"
 ck:CC K mg "NotEven"
 cl:CC K mg "NotFull"
 cm:CC K mg "NotStrong"
 cn:CC K mg "TooGreat"
 xi:XI K LX MX
 co:CI mg "GREATEST_SIZE" (5)
 cp:CI mg "LEAST" (-50)
 cq:CI mg "MOST" (50)
 cr:XC K mg "NoSlants"
 cs:XC K mg "NotEven"
 ct:CT K mg "NOUGHT" [(D.int (0)),(D.int (1))]
 cu:XC K mg "NoRow"
 cv:mg "enumerate" = none
 cw:CT K mg "ONE" [(D.int (1)),(D.int (1))]
 cx:XT K mg "SlantError" LX
 cy:mg "repr" = none
section
variable{P:Program}{w:World}{base:Heap}(Z:Bs K mg)
include Z
theorem M2:Fp P w K mg base 1 "_law_cell_at" (ZeG.take 2) zk:=cH Kt Z.bg λsc hr hx hw=>aT (ef (dE jU (aE 1) (cK gP Z.b2 NU (Za (aE 0) aH))) (aV (bH (bK aR (aE 0) (aE 1)))) ed) (aV (bH aL))
theorem Ht:Fp P w K mg base 1 "_law_next" (Zhp.take 1) wn:=cH Ku Z.bh λsc hr hx hw=>aT (cQ 0 (aW qX (aW dB (aE 0) aL) aL) sc) (aV (bH (aW qX (aW dB (aW dB (aW fO (aE 0) (aE 0)) (aW fO aL (aE 0))) aL) aL)))
theorem lK:Fp P w K mg base 2 "_law_draw" (Zhs.take 2) i9:=cH Kw Z.bj λsc hr hx hw=>aT (ef (dE (eE hr.units) (bK vU (aE 0) aL) aL) (aT (cQ 2 (aW qX (bK vU (aE 0) aL) (aE 1)) sc) (aT (D6 0 0 (aW m9 (bK vU (aE 0) aL) (aE 1))) (aV (bH (aE 2))))) ed) (aT (D6 0 2 (aS (Ht Z) hr hx (Za (aW dB (aS (Ht Z) hr hx (Za (bK vU (aE 0) aL) aH)) aL) aH))) (aV (bH (aW qX (aW m9 (bK vU (aE 0) aL) aL) (aE 1)))))
theorem Hu:Fp P w K mg base 3 "_law_slants_by" (ZdH.take 1) wq:=cH KC Z.bq λsc hr hx hw=>aT (cQ 1 (aW dB aL (aS (lK Z) hr hx (Za (aE 0) (Za aL aH)))) sc) (aT (cQ 2 (aS (lK Z) hr hx (Za (aE 0) (Za aL aH))) sc) (aT (cQ 3 (bK aR (PXL.px (eM (Za aL (Za aL (Za aL (Za aL aH)))))) (aS (lK Z) hr hx (Za (aE 0) (Za aL aH)))) sc) (aT (vP 4 ["_law_place"] [0,3] rfl sc (lW Z.b3 (Za (aW gp (aW fO aL (aE 1)) aL) aH)) (λ_ _ _=>(cJ 0 (by decide +kernel:List.Nodup (["_law_place", "_law_pen", "_law_span"]:List Str)))) (λ_ _ _=>fS) (λ_ _ _=>(aW gp (aS (lK Z) hr cF (Za (aE 1) (Za (aW dB (aW fO aL (aE 2)) aL) aH))) (aE 2)))) (aT (ef (dE (eE hr.units) (aE 2) aL) (aV (nQ 4 (vT 4 (yW (gC (aE 4) ik (fE (aE 1))) (yM (gC (aE 4) ik (fE (aW gp (aE 1) aL)))))) sc)) ed) (aT (ef (dE (eE hr.units) (aE 2) aL) (aV (nQ 4 (vT 4 (yW (gC (aE 4) (fE aL) (fE (aE 1))) (gC (aE 4) ik (fE (aE 1))))) sc)) ed) (aT (ef (dE (eE hr.units) (aE 2) aL) (aV (nQ 4 (vT 4 (yW (gC (aE 4) ik (fE (aE 1))) (aW fO (PXL.px (eM (Za aL aH))) (aW gp (aE 1) aL)))) sc)) ed) (aT (ef (dE (eE hr.units) (aE 2) aL) (aV (Jz 4 (aW gp (aE 1) aL) aL)) ed) (aT (ef (dE (eE hr.units) (aE 2) aL) (aV (nQ 4 (vT 4 (JB (gC (aE 4) ik (fE aL)) (aW gp (aW fO aL (aE 1)) aL))) sc)) ed) (i6 4 (aV (bH (m7 sR Z.b4 NY (Za (aE 4) aH)))))))))))))
theorem M3:Fp P w K mg base 4 "_law_even_by" (ZeF.take 1) Ai:=cH MM Z.bs λsc hr hx hw=>aT (cQ 1 (aS (Hu Z) hr hx (Za (aE 0) aH)) sc) (aT (cQ 2 (aW m9 (aW dB (cK gP Z.b2 NU (Za (aE 1) aH)) aL) aL) sc) (aV (bH (aW dB (gC (aE 1) ik (fE (aE 2))) (yM (gC (aE 1) ik (fE (aW gp (aE 2) aL))))))))
theorem xz:Fp P w K mg base 1 "_law_share" (Zga.take 2) nU:=cH Kx Z.bm λsc hr hx hw=>aT (BF 2 3 sc (Za (cK BD Z.b5 boot_abs (Za (aE 0) aH)) (Za (cK BD Z.b5 boot_abs (Za (aE 1) aH)) aH))) (aT (iq (yU PassesOwn.never (dE (d9 hr.units) (aE 3) aL) (aV (BF 2 3 sc (Za (aE 3) (Za (aW qX (aE 2) (aE 3)) aH)))))) (aT (ef (dE jU (aE 1) aL) (aV (cQ 2 (aW gp aL (aE 2)) sc)) ed) (aV (bH (dP (Za (aW m9 (aE 0) (aE 2)) (Za (aW m9 (aE 1) (aE 2)) aH)))))))
theorem xC:Fp P w K mg base 2 "_law_add" (Zi.take 2) lA:=cH Ky Z.bn λsc hr hx hw=>aV (bH (aS (xz Z) hr hx (Za (aW dB (aW fO (bK aR (aE 0) aL) (bK aR (aE 1) aL)) (aW fO (bK aR (aE 1) aL) (bK aR (aE 0) aL))) (Za (aW fO (bK aR (aE 0) aL) (bK aR (aE 1) aL)) aH))))
theorem Ao:Fp P w K mg base 2 "_law_times" (Zf9.take 2) me:=cH Kz Z.bo λsc hr hx hw=>aV (bH (aS (xz Z) hr hx (Za (aW fO (bK aR (aE 0) aL) (bK aR (aE 1) aL)) (Za (aW fO (bK aR (aE 0) aL) (bK aR (aE 1) aL)) aH))))
theorem M4:Fp P w K mg base 3 "_law_made" (Zhq.take 2) zw:=cH KZ Z.bp λsc hr hx hw=>aT (cQ 2 (aW m9 (aW dB (cK gP Z.b2 NU (Za (aE 0) aH)) aL) aL) sc) (aT (nQ 3 (eM aH) sc) (aT (iq (lm PassesOwn.never rfl (lW Z.b3 (Za (aE 2) aH)) (cJ 4 sc) (aT (cQ 5 (dP (Za aL (Za aL aH))) sc) (aT (iq (lm PassesOwn.never rfl (lW Z.b3 (Za (aE 2) aH)) (cJ 6 sc) (aV (cQ 5 (aS (xC Z) hr cF (Za (aE 5) (Za (aS (Ao Z) hr cF (Za (dP (Za (bK aR (aE 0) (aW gp (aW dB (aW gp (aE 6) (aE 4)) (aE 2)) aL)) (Za aL aH))) (Za (bK aR (aE 1) (aE 6)) aH))) aH))) sc)))) (aV (yV 3 (aE 5))))))) (i6 3 (aV (bH (m7 sR Z.b4 NY (Za (aE 3) aH)))))))
theorem M5:Fp P w K mg base 4 "_law_form" (Zhr.take 3) Aj:=cH MO Z.bt λsc hr hx hw=>aT (cQ 3 (dP (Za aL (Za aL aH))) sc) (aT (iq (lm PassesOwn.never rfl (vS Z.b6 (Za (aE 1) (Za (aS (M4 Z) hr cF (Za (aE 0) (Za (aE 2) aH))) aH))) (l6 rfl (gu (cJ 4 sc) (gu (cJ 5 sc) l5))) (aV (cQ 3 (aS (xC Z) hr cF (Za (aE 3) (Za (aS (Ao Z) hr cF (Za (aE 4) (Za (aE 5) aH))) aH))) sc)))) (aV (bH (aE 3))))
theorem Hv:Fp P w K mg base 3 "_law_no_row" (Zft.take 2) tD:=cH KY Z.bw λsc hr hx hw=>aT (cQ 2 (aS (lK Z) hr hx (Za (aE 0) (Za (cK gP Z.b2 NU (Za (aE 1) aH)) aH))) sc) (aT (cQ 3 (PXL.px (eM (Za (dP (Za aL (Za aL aH))) (Za (dP (Za aL (Za aL aH))) (Za (dP (Za aL (Za (vJ vL aL) aH))) (Za (dP (Za aL (Za aL aH))) (Za (dP (Za gG (Za aL aH))) (Za (dP (Za aL (Za gG aH))) (Za aL (Za m6 (Za (PXL.px (eM (Za aL (Za aL aH)))) (Za jv (Za (dP (Za aL aH)) (Za (dP (Za aL (Za aL (Za aL aH)))) aH)))))))))))))) sc) (aT (cQ 3 (bK aR (aE 3) (aS (lK Z) hr hx (Za (aE 0) (Za aL aH)))) sc) (aT (cQ 4 (PXL.px (eM (Za (aW dB (aW dB (gC (aE 1) ik (fE (aE 2))) (dP (Za (aE 3) aH))) (gC (aE 1) (fE (aW dB (aE 2) aL)) ik)) (Za (aW dB (aE 1) (dP (Za (aE 3) aH))) (Za (gC (aE 1) (fE aL) ik) (Za (aW dB (aE 1) (gC (aE 1) ik (fE aL))) (Za (PXL.px (yJ yN Z.b7 Oc (Za (aE 1) aH))) (Za m6 (Za aL (Za Eu (Za (dP (Za (aE 1) aH)) aH))))))))))) sc) (aV (bH (bK aR (aE 4) (aS (lK Z) hr hx (Za (aE 0) (Za aL aH)))))))))
theorem M6:Fp P w K mg base 3 "_law_no_slants" (ZdI.take 2) zy:=cH KR Z.bu λsc hr hx hw=>aT (cQ 2 (aS (lK Z) hr hx (Za (aE 0) (Za (aW dB (cK gP Z.b2 NU (Za (aE 1) aH)) aL) aH))) sc) (aT (cQ 3 (bK aR (PXL.px (eM (Za aL (Za (vJ vL aL) (Za gG (Za m6 (Za jv (Za (dP (Za aL aH)) (Za (aW BA aL aL) aH))))))))) (aS (lK Z) hr hx (Za (aE 0) (Za aL aH)))) sc) (aT (cQ 4 (PXL.px (eM (Za (aW dB (aW dB (aW dB (gC (aE 1) ik (fE (aE 2))) (dP (Za (aE 3) aH))) (gC (aE 1) (fE (aW dB (aE 2) aL)) ik)) (aW B0 (dP (Za (aE 3) aH)) (m7 yO Z.b8 boot_int (Za (nN (eE hr.units) (aE 2) (cK gP Z.b2 NU (Za (aE 1) aH))) aH)))) (Za (aW dB (aE 1) (dP (Za aL aH))) (Za (PXL.px (yJ yN Z.b7 Oc (Za (aE 1) aH))) aH))))) sc) (aT (cQ 4 (aW dB (aE 4) (PXL.px (eM (Za (dP aH) (Za (aW B0 (dP (Za aL aH)) aL) (Za (aW B0 (dP (Za aL aH)) aL) (Za m6 (Za aL (Za Eu (Za jv (Za (dP (Za (aE 1) aH)) (Za (gC (aE 1) (fE aL) ik) aH)))))))))))) sc) (aV (bH (bK aR (aE 4) (aS (lK Z) hr hx (Za (aE 0) (Za aL aH)))))))))
theorem M7:Fp P w K mg base 1 "_law_pen_of" (Zfs.take 1) zm:=cH Kv Z.bi λsc hr hx hw=>aT (cQ 1 (cK (vN rfl) Z.b9 boot_max (Za (aE 0) (Za (aW gp aL (aE 0)) aH))) sc) (aV (bH (JC (eM (Za (aE 1) (Za (m7 yO Z.b8 boot_int (Za (nN BB (aE 1) (aW BA aL aL)) aH)) (Za (aW qX (aE 1) aL) aH)))))))
theorem M8:Fp P w K mg base 3 "_law_row_by" (Zfr.take 2) zn:=cH KA Z.br λsc hr hx hw=>aT (cQ 2 (bK aR (PXL.px (eM (Za aL (Za aL (Za aL (Za aL (Za aL (Za aL (Za aL (Za (aW BA aL aL) aH)))))))))) (aS (lK Z) hr hx (Za (aE 0) (Za aL aH)))) sc) (aT (nQ 3 (eM aH) sc) (aT (iq (lm PassesOwn.never rfl (lW Z.b3 (Za (aE 1) aH)) (cJ 4 sc) (aV (yV 3 (aS (xz Z) hr cF (Za (aW fO (aW gp (aS (lK Z) hr cF (Za (aE 0) (Za aL aH))) aL) (aE 2)) (Za (aW dB aL (aS (lK Z) hr cF (Za (aE 0) (Za aL aH)))) aH))))))) (i6 3 (aV (bH (m7 sR Z.b4 NY (Za (aE 3) aH)))))))
theorem Dq:Fp P w K mg base 1 "_law_whole" (Zf8.take 1) ul:=cH KM Z.bk λsc hr hx hw=>aV (bH (sQ (cK nc Z.cb NM (Za (aE 0) (Za (lY Z.b8 boot_int) aH))) (sP (DZ (cK nc Z.cb NM (Za (aE 0) (Za (lY Z.ca boot_bool) aH)))))))
theorem M9:Fp P w K mg base 2 "_law_row_good" (Ze.take 2) zB:=cH KQ Z.bx λsc hr hx hw=>aT (ef (PXW.pxt (lS (ig (ic (cK nc Z.cb NM (Za (aE 1) (Za (lY Z.b4 NY) aH))))) (nO (dE (d9 hr.units) (cK gP Z.b2 NU (Za (aE 1) aH)) (aE 0))))) (aV (bH gG)) ed) (aT (iq (lm PassesOwn.never rfl (gH (aE 1)) (cJ 2 sc) (aT (ef (PXW.pxt (lS (ig (ic (cK nc Z.cb NM (Za (aE 2) (Za (lY Z.b4 NY) aH))))) (lS (dE (d9 hr.units) (cK gP Z.b2 NU (Za (aE 2) aH)) aL) (lS (ig (ic (aS (Dq Z) hr cF (Za (bK aR (aE 2) aL) aH)))) (nO (ig (ic (aS (Dq Z) hr cF (Za (bK aR (aE 2) aL) aH))))))))) (aV (bH gG)) ed) (aV (ef (PXW.pxt (lS (dE jU (bK aR (aE 2) aL) aL) (nO (dE (d9 hr.units) (aS (xz Z) hr cF (Za (bK aR (aE 2) aL) (Za (bK aR (aE 2) aL) aH))) (aE 2))))) (aV (bH gG)) ed))))) (aV (bH gG)))
theorem Hw:Fp P w K mg base 3 "_law_signs" (Zg.take 1) xm:=cH MV Z.bz λsc hr hx hw=>aT (cQ 1 (aW m9 (aW dB (cK gP Z.b2 NU (Za (aE 0) aH)) aL) aL) sc) (aT (w8 2 (Mx ["_law_i"] [0,1] rfl (lW Z.b3 (Za (aE 1) aH)) (λ_ _ _=>(cJ 0 (by decide +kernel:List.Nodup (["_law_i", "_law_slants", "_law_size"]:List Str)))) (λ_ _ _=>fS) (λ_ _ _=>(ip ["_law_j"] [0,1,2] rfl (lW Z.b3 (Za (aE 2) aH)) (λ_ _ _=>(cJ 0 (by decide +kernel:List.Nodup (["_law_j", "_law_i", "_law_slants", "_law_size"]:List Str)))) (λ_ _ _=>fS) (λ_ _ _=>(dP (Za (bK aR (aE 2) (aW gp (aW dB (aW gp (aE 0) (aE 1)) (aE 3)) aL)) (Za aL aH))))))) sc) (aT (nQ 3 (eM (Za aL (Za aL aH))) sc) (aT (nQ 4 (Lc Z.b7 Z.b3 (Za (aE 1) aH)) sc) (aT (iq (yU PassesOwn.never (JA 4 (dE (d9 hr.units) (aE 4) (PXL.px (eM aH)))) (aT (ME 5 2 4 ["_law_at"] [2] rfl sc (gH (aE 4)) (λ_ _ _=>(cJ 0 (by decide +kernel:List.Nodup (["_law_at", "_law_rows"]:List Str)))) (λ_ _ _=>(yS (dE (d9 hr.units) (bK aR (bK aR (bK aR (aE 1) (aE 0)) (aE 0)) aL) aL))) (λ_ _ _=>(aE 0))) (i6 5 (aT (ef (dE (eE hr.units) (aE 5) (PXL.px (eM aH))) (aT (cQ 6 (PXL.px (eM aH)) sc) (aT (iq (G6 7 4 PassesOwn.never rfl sc (G4 (G5 6 (PXL.px (C9 2 (vT 4 (yW (aE 6) (PXL.px (ip ["_law_j"] [2,7] rfl (gH (aE 4)) (λ_ _ _=>(cJ 0 (by decide +kernel:List.Nodup (["_law_j", "_law_rows", "_law_i"]:List Str)))) (λ_ _ _=>(yS (PXW.pxt (Bx (dE jU (aE 2) (aE 0)) (Bw (dE (d9 hr.units) (bK aR (bK aR (bK aR (aE 1) (aE 2)) (aE 0)) aL) aL)))))) (λ_ _ _=>(dP (Za (aE 2) (Za (aE 0) aH)))))))))) sc)))) (aT (ef (dE (eE hr.units) (aE 6) (PXL.px (eM aH))) (aV Mz) ed) (aT (yT (bK aR (aE 6) aL) (l6 rfl (gu (cJ 7 sc) (gu (cJ 8 sc) l5)))) (aT (G3 2 (aE 7) (C9 2 (ip ["_law_one", "_law_other"] [] rfl (vS Z.b6 (Za (bK aR (aE 2) (aE 7)) (Za (bK aR (aE 2) (aE 8)) aH))) (λ_ _ _=>(l6 rfl (gu (cJ 0 (by decide +kernel:List.Nodup (["_law_one", "_law_other"]:List Str))) (gu (cJ 1 (by decide +kernel:List.Nodup (["_law_one", "_law_other"]:List Str))) l5)))) (λ_ _ _=>fS) (λ_ _ _=>(aS (xC Z) hr cF (Za (aE 0) (Za (aE 1) aH))))))) (aT (iq (MB 9 2 PassesOwn.never rfl sc (aE 7) (aS (xC Z) hr cF (Za (bK aR (aE 9) (aE 7)) (Za (bK aR (aE 9) (aE 8)) aH))))) (aV (cQ 5 (PXL.px (eM (Za (aE 7) aH))) sc)))))))) ed) (i6 5 (aT (cQ 10 (bK aR (aE 5) aL) sc) (aT (yT (G0 2 (bK aR (bK aR (aE 2) (aE 10)) (aE 10))) (l6 rfl (gu (cJ 11 sc) (gu (cJ 12 sc) l5)))) (aT (K7 3 (m7 yO Z.b8 boot_int (Za (nN jU (aE 11) aL) aH)) aL) (aT (MA 4 (aE 10)) (aV (iq (G6 13 4 PassesOwn.never rfl sc (MC (G5 14 (G0 2 (aS (Ao Z) hr cF (Za (bK aR (bK aR (aE 2) (aE 13)) (aE 10)) (Za (aS (xz Z) hr cF (Za (aW gp aL (aE 12)) (Za (aE 11) aH))) aH)))) sc) (G4 (MD 2 (aE 13) (C9 2 (ip ["_law_one", "_law_two"] [14] rfl (vS Z.b6 (Za (bK aR (aE 2) (aE 13)) (Za (bK aR (aE 2) (aE 10)) aH))) (λ_ _ _=>(l6 rfl (gu (cJ 0 (by decide +kernel:List.Nodup (["_law_one", "_law_two", "_law_part"]:List Str))) (gu (cJ 1 (by decide +kernel:List.Nodup (["_law_one", "_law_two", "_law_part"]:List Str))) l5)))) (λ_ _ _=>fS) (λ_ _ _=>(aS (xC Z) hr cF (Za (aE 0) (Za (aS (Ao Z) hr cF (Za (aE 2) (Za (aE 1) aH))) aH)))))))))))))))))))))) (i6 3 (aV (bH (dP (Za (bK aR (aE 3) aL) (Za (bK aR (aE 3) aL) (Za (aW gp (aW gp (aE 1) (bK aR (aE 3) aL)) (bK aR (aE 3) aL)) aH)))))))))))
theorem Na:Fp P w K mg base 2 "_law_slants_good" (Zco.take 1) zA:=cH KO Z.bv λsc hr hx hw=>aT (ef (PXW.pxt (lS (ig (ic (cK nc Z.cb NM (Za (aE 0) (Za (lY Z.b4 NY) aH))))) (nO (dE wj (cK gP Z.b2 NU (Za (aE 0) aH)) (dP (Za aL (Za aL (Za aL (Za aL (Za aL aH)))))))))) (aV (bH gG)) ed) (aV (bH (cK (vO rfl) Z.cd boot_all (Za (PXL.px (ip ["_law_one"] [] rfl (gH (aE 0)) (λ_ _ _=>(cJ 0 (by decide +kernel:List.Nodup (["_law_one"]:List Str)))) (λ_ _ _=>fS) (λ_ _ _=>(sQ (aS (Dq Z) hr cF (Za (aE 0) aH)) (sP (D1 jV jV (vJ vL aL) (aE 0) aL)))))) aH))))
theorem Nb:BV P w K mg base 1 "_law_kind_of" (Zc0.take 1) zt:=CM (z:=Cb) (N:=Zc0) Z.bl (λsc _ _ _ _ _ _ hr=>(aT (cQ 1 (PXL.px (eM (Za (cK (nS Z.xi) Z.cb NM (Za (aE 0) (Za (qx Z.ci) aH))) (Za (cK (nS Z.xi) Z.cb NM (Za (aE 0) (Za (qx Z.ch) aH))) (Za (cK (nS Z.xi) Z.cb NM (Za (aE 0) (Za (qx Z.cg) aH))) (Za (cK (nS Z.xi) Z.cb NM (Za (aE 0) (Za (qx Z.cf) aH))) aH)))))) sc) (aT (cQ 1 (aW dB (aE 1) (PXL.px (eM (Za (cK (nS Z.xi) Z.cb NM (Za (aE 0) (Za (qx Z.ck) aH))) (Za (cK (nS Z.xi) Z.cb NM (Za (aE 0) (Za (qx Z.cl) aH))) (Za (cK (nS Z.xi) Z.cb NM (Za (aE 0) (Za (qx Z.cm) aH))) aH)))))) sc) (aT (cQ 1 (aW dB (aE 1) (PXL.px (eM (Za (cK (nS Z.xi) Z.cb NM (Za (aE 0) (Za (qx Z.cj) aH))) (Za (cK (nS Z.xi) Z.cb NM (Za (aE 0) (Za (qx Z.cn) aH))) aH))))) sc) (aT (ef (PXW.pxt (lS (ig (ic (cK (nS Z.xi) Z.cb NM (Za (aE 0) (Za (lY Z.ce K0) aH))))) (nO (dE (d9 hr.units) (Es PySem.F.slot_list_count PySem.F.type_list_count JX (aE 1) (Za gG aH)) aL)))) (aV (bH jv)) ed) (aV (bH (bK aR (PXL.px (eM (Za jv (Za jv (Za jv (Za jv (Za jv (Za jv (Za jv (Za jv (Za jv aH))))))))))) (Es PySem.F.slot_list_index PySem.F.type_list_index JY (aE 1) (Za gG aH)))))))))) KN
theorem Dr:Fp P w K mg base 1 "is_whole" (Zh8.take 1) ue:=cH ER Z.aa λsc hr hx hw=>aV (bH (sQ (cK nc Z.cb NM (Za (aE 0) (Za (lY Z.b8 boot_int) aH))) (sP (DZ (cK nc Z.cb NM (Za (aE 0) (Za (lY Z.ca boot_bool) aH)))))))
theorem Nc:Fp P w K mg base 2 "is_within" (Zhm.take 3) BO:=cH JZ Z.ab λsc hr hx hw=>aV (bH (sQ (aS (Dr Z) hr hx (Za (aE 0) aH)) (sP (D1 jV jV (aE 1) (aE 0) (aE 2)))))
theorem Nd:Fp P w K mg base 3 "are_within" (Zf5.take 3) yY:=cH J0 Z.ac λsc hr hx hw=>aV (bH (sQ (cK nc Z.cb NM (Za (aE 0) (Za (lY Z.b4 NY) aH))) (sP (cK (vO rfl) Z.cd boot_all (Za (PXL.px (ip ["number"] [1,2] rfl (gH (aE 0)) (λ_ _ _=>(cJ 0 (by decide +kernel:List.Nodup (["number", "least", "most"]:List Str)))) (λ_ _ _=>fS) (λ_ _ _=>(aS (Nc Z) hr cF (Za (aE 0) (Za (aE 1) (Za (aE 2) aH))))))) aH)))))
def xD:Fp P w K mg base 1 "size_of" (ZjH.take 1) qp:=cH Kg Z.aw λsc hr hx hw=>aV (bH (aW m9 (aW dB (cK gP Z.b2 NU (Za (aE 0) aH)) aL) aL))
theorem Nf:Fp P w K mg base 4 "slants_good" (Zfp.take 1) v6:=cH Kh Z.ax λsc hr hx hw=>aT (ef (PXW.pxt (lS (ig (ic (aS (Nd Z) hr hx (Za (aE 0) (Za (CN Z.cp) (Za (CN Z.cq) aH)))))) (nO (dE (eE hr.units) (aW qX (cK gP Z.b2 NU (Za (aE 0) aH)) aL) aL)))) (aV (bH gG)) ed) (aV (bH (nN jV (aS (xD Z) hr hx (Za (aE 0) aH)) (CN Z.co))))
theorem Ds:Fp P w K mg base 5 "need_slants" (Zfq.take 1) rf:=cH Ki Z.ay λsc hr hx hw=>aV (ef (ig (ic (aS (Nf Z) hr hx (Za (aE 0) aH)))) (aV (v9 hw Z.cr)) ed)
theorem Ng:Fp P w K mg base 6 "turned_slants" (Zd8.take 1) y6:=cH Kk Z.a0 λsc hr hx hw=>aT (uc (aS (Ds Z) hr hx (Za (aE 0) aH))) (aV (bH (yM (aE 0))))
theorem Nh:Fp P w K mg base 7 "is_even" (ZjJ.take 1) Cu:=cH Ls Z.a4 λsc hr hx hw=>aV (bH (nN (eE hr.units) (aS (Ng Z) hr hx (Za (aE 0) aH)) (aE 0)))
theorem Du:Fp P w K mg base 8 "need_even" (Zhl.take 1) ur:=cH Lu Z.a5 λsc hr hx hw=>aV (ef (ig (ic (aS (Nh Z) hr hx (Za (aE 0) aH)))) (aV (v9 hw Z.cs)) ed)
theorem Zd:Fp P w K mg base 1 "common_divisor" (ZdG.take 2) yZ:=cH J1 Z.ad λsc hr hx hw=>aT (iq (yU PassesOwn.never (dE (d9 hr.units) (aE 1) aL) (aV (BF 0 1 sc (Za (aE 1) (Za (aW qX (aE 0) (aE 1)) aH)))))) (aV (bH (cK BD Z.b5 boot_abs (Za (aE 0) aH))))
theorem Ni:Fp P w K mg base 2 "is_share" (Zh9.take 1) BP:=cH J3 Z.ae λsc hr hx hw=>aT (ef (PXW.pxt (lS (ig (ic (cK nc Z.cb NM (Za (aE 0) (Za (lY Z.b4 NY) aH))))) (nO (dE (d9 hr.units) (cK gP Z.b2 NU (Za (aE 0) aH)) aL)))) (aV (bH gG)) ed) (aT (yT (aE 0) (l6 rfl (gu (cJ 1 sc) (gu (cJ 2 sc) l5)))) (aT (ef (PXW.pxt (lS (ig (ic (aS (Dr Z) hr hx (Za (aE 1) aH)))) (nO (ig (ic (aS (Dr Z) hr hx (Za (aE 2) aH))))))) (aV (bH gG)) ed) (aV (bH (sQ (nN vK (aE 2) aL) (sP (nN (eE hr.units) (aS (Zd Z) hr hx (Za (aE 1) (Za (aE 2) aH))) aL)))))))
theorem Nj:Fp P w K mg base 3 "is_row_within" (Zd9.take 3) y0:=cH J4 Z.af λsc hr hx hw=>aT (ef (PXW.pxt (lS (ig (ic (cK nc Z.cb NM (Za (aE 0) (Za (lY Z.b4 NY) aH))))) (nO (ig (Jh jV jV (aE 1) (cK gP Z.b2 NU (Za (aE 0) aH)) (aE 2)))))) (aV (bH gG)) ed) (aV (bH (cK (vO rfl) Z.cd boot_all (Za (PXL.px (ip ["part"] [] rfl (gH (aE 0)) (λ_ _ _=>(cJ 0 (by decide +kernel:List.Nodup (["part"]:List Str)))) (λ_ _ _=>fS) (λ_ _ _=>(aS (Ni Z) hr cF (Za (aE 0) aH))))) aH))))
def Nk:Fp P w K mg base 4 "is_row" (Zlh.take 2) y2:=cH Kb Z.ag λsc hr hx hw=>aV (bH (aS (Nj Z) hr hx (Za (aE 0) (Za (aE 1) (Za (aE 1) aH)))))
theorem Dv:Fp P w K mg base 6 "row_good" (Zh7.take 2) sY:=cH Kl Z.a1 λsc hr hx hw=>aT (uc (aS (Ds Z) hr hx (Za (aE 0) aH))) (aV (bH (aS (Nk Z) hr hx (Za (aE 1) (Za (aS (xD Z) hr hx (Za (aE 0) aH)) aH)))))
theorem Aq:Fp P w K mg base 2 "share_by" (Zh5.take 2) sV:=cH Kc Z.ah λsc hr hx hw=>aT (Jy (dE (d9 hr.units) (aE 1) aL)) (aT (cQ 2 (aS (Zd Z) hr hx (Za (aE 0) (Za (aE 1) aH))) sc) (aT (ef (dE jU (aE 1) aL) (aV (cQ 2 (vJ vL (aE 2)) sc)) ed) (aV (bH (dP (Za (aW m9 (aE 0) (aE 2)) (Za (aW m9 (aE 1) (aE 2)) aH)))))))
theorem Nl:Fp P w K mg base 3 "plus" (Zok.take 2) vZ:=cH EY Z.ai λsc hr hx hw=>aV (bH (aS (Aq Z) hr hx (Za (aW dB (aW fO (bK aR (aE 0) aL) (bK aR (aE 1) aL)) (aW fO (bK aR (aE 1) aL) (bK aR (aE 0) aL))) (Za (aW fO (bK aR (aE 0) aL) (bK aR (aE 1) aL)) aH))))
theorem Hx:Fp P w K mg base 3 "times" (Zm2.take 2) sW:=cH EZ Z.ak λsc hr hx hw=>aV (bH (aS (Aq Z) hr hx (Za (aW fO (bK aR (aE 0) aL) (bK aR (aE 1) aL)) (Za (aW fO (bK aR (aE 0) aL) (bK aR (aE 1) aL)) aH))))
theorem Hy:Fp P w K mg base 4 "sum_of_products" (Zdg.take 2) v4:=cH Ke Z.aq λsc hr hx hw=>aT (cQ 2 (uv Z.ct) sc) (aT (iq (lm PassesOwn.never rfl (vS Z.b6 (Za (aE 0) (Za (aE 1) aH))) (l6 rfl (gu (cJ 3 sc) (gu (cJ 4 sc) l5))) (aV (cQ 2 (aS (Nl Z) hr cF (Za (aE 2) (Za (aS (Hx Z) hr cF (Za (aE 3) (Za (aE 4) aH))) aH))) sc)))) (aV (bH (aE 2))))
theorem Hz:Fp P w K mg base 1 "row_of" (Zle.take 1) v3:=cH Kd Z.am λsc hr hx hw=>aV (bH (m7 sR Z.b4 NY (Za (PXL.px (ip ["number"] [] rfl (gH (aE 0)) (λ_ _ _=>(cJ 0 (by decide +kernel:List.Nodup (["number"]:List Str)))) (λ_ _ _=>fS) (λ_ _ _=>(dP (Za (aE 0) (Za aL aH)))))) aH)))
theorem Zk:Fp P w K mg base 6 "table_of" (Zh2.take 1) y4:=cH Kj Z.az λsc hr hx hw=>aT (uc (aS (Ds Z) hr hx (Za (aE 0) aH))) (aT (cQ 1 (aS (xD Z) hr hx (Za (aE 0) aH)) sc) (aV (bH (PXL.px (ip ["i"] [0,1] rfl (lW Z.b3 (Za (aE 1) aH)) (λ_ _ _=>(cJ 0 (by decide +kernel:List.Nodup (["i", "slants", "size"]:List Str)))) (λ_ _ _=>fS) (λ_ _ _=>(PXL.px (yJ yN Z.b7 Oc (Za (gC (aE 1) (fE (aW gp (aW gp (aE 2) aL) (aE 0))) (fE (aW gp (aW gp (aW fO aL (aE 2)) aL) (aE 0)))) aH)))))))))
theorem Nm:Fp P w K mg base 7 "share_rows" (Zf2.take 1) y8:=cH Km Z.a2 λsc hr hx hw=>aV (bH (PXL.px (ip ["numbers"] [] rfl (gH (aS (Zk Z) hr hx (Za (aE 0) aH))) (λ_ _ _=>(cJ 0 (by decide +kernel:List.Nodup (["numbers"]:List Str)))) (λ_ _ _=>fS) (λ_ _ _=>(aS (Hz Z) hr cF (Za (aE 0) aH))))))
theorem Nn:Fp P w K mg base 8 "times_row" (Zhk.take 2) za:=cH Kn Z.a3 λsc hr hx hw=>aT (ef (ig (ic (aS (Dv Z) hr hx (Za (aE 0) (Za (aE 1) aH))))) (aV (v9 hw Z.cu)) ed) (aV (bH (m7 sR Z.b4 NY (Za (PXL.px (ip ["line"] [1] rfl (gH (aS (Nm Z) hr hx (Za (aE 0) aH))) (λ_ _ _=>(cJ 0 (by decide +kernel:List.Nodup (["line", "row"]:List Str)))) (λ_ _ _=>fS) (λ_ _ _=>(aS (Hy Z) hr cF (Za (aE 0) (Za (aE 1) aH)))))) aH))))
theorem xE:Fp P w K mg base 9 "pair_at" (ZjI.take 3) Zb:=cH Lv Z.a6 λsc hr hx hw=>aT (uc (aS (Du Z) hr hx (Za (aE 0) aH))) (aT (ef (ig (ic (aS (Dv Z) hr hx (Za (aE 0) (Za (aE 1) aH))))) (aV (v9 hw Z.cu)) ed) (aV (bH (aS (Hy Z) hr hx (Za (aE 1) (Za (aS (Nn Z) hr hx (Za (aE 0) (Za (aE 2) aH))) aH))))))
def HC:Fp P w K mg base 10 "form_at" (ZjK.take 2) wX:=cH Ml Z.ba λsc hr hx hw=>aV (bH (aS (xE Z) hr hx (Za (aE 0) (Za (aE 1) (Za (aE 1) aH)))))
theorem HD:Fp P w K mg base 3 "by" (N_by.take 2) nu:=cH wz Z.al λsc hr hx hw=>aV (bH (aS (Aq Z) hr hx (Za (aW fO (bK aR (aE 0) aL) (bK aR (aE 1) aL)) (Za (aW fO (bK aR (aE 0) aL) (bK aR (aE 1) aL)) aH))))
theorem HE:Fp P w K mg base 3 "minus" (Zm3.take 2) uf:=cH Lg Z.aj λsc hr hx hw=>aV (bH (aS (Aq Z) hr hx (Za (aW gp (aW fO (bK aR (aE 0) aL) (bK aR (aE 1) aL)) (aW fO (bK aR (aE 1) aL) (bK aR (aE 0) aL))) (Za (aW fO (bK aR (aE 0) aL) (bK aR (aE 1) aL)) aH))))
theorem Dw:Fp P w K mg base 4 "row_less" (Zh6.take 3) tJ:=cH LH Z.ap λsc hr hx hw=>aV (bH (m7 sR Z.b4 NY (Za (PXL.px (ip ["left", "right"] [1] rfl (vS Z.b6 (Za (aE 0) (Za (aE 2) aH))) (λ_ _ _=>(l6 rfl (gu (cJ 0 (by decide +kernel:List.Nodup (["left", "right", "share"]:List Str))) (gu (cJ 1 (by decide +kernel:List.Nodup (["left", "right", "share"]:List Str))) l5)))) (λ_ _ _=>fS) (λ_ _ _=>(aS (HE Z) hr cF (Za (aE 0) (Za (aS (Hx Z) hr cF (Za (aE 2) (Za (aE 1) aH))) aH)))))) aH)))
theorem Np:Fp P w K mg base 10 "apart_from" (Zf7.take 3) Ab:=cH Mm Z.a8 λsc hr hx hw=>aV (bH (aS (Dw Z) hr hx (Za (aE 1) (Za (aS (HD Z) hr hx (Za (aS (xE Z) hr hx (Za (aE 0) (Za (aE 1) (Za (aE 2) aH)))) (Za (aS (xE Z) hr hx (Za (aE 0) (Za (aE 2) (Za (aE 2) aH)))) aH))) (Za (aE 2) aH)))))
theorem HF:Fp P w K mg base 10 "lead_among" (Zf3.take 2) wV:=cH Mn Z.a7 λsc hr hx hw=>i6 4 (aT (iq (lm PassesOwn.never rfl (Co Z.cv (Za (aE 1) aH)) (l6 rfl (gu (cJ 2 sc) (gu (cJ 3 sc) l5))) (aT (vP 4 ["other"] [3] rfl sc (gH (gC (aE 1) (fE (aW dB (aE 2) aL)) ik)) (λ_ _ _=>(cJ 0 (by decide +kernel:List.Nodup (["other", "row"]:List Str)))) (λ_ _ _=>fS) (λ_ _ _=>(aS (Dw Z) hr cF (Za (aE 1) (Za (aS (HE Z) hr cF (Za (uv Z.ct) (Za (uv Z.cw) aH))) (Za (aE 0) aH)))))) (i6 4 (aV (iq (lm PassesOwn.never rfl (gH (aW dB (PXL.px (eM (Za (aE 3) aH))) (aE 4))) (cJ 5 sc) (aV (ef (dE (d9 hr.units) (aS (xE Z) hr cF (Za (aE 0) (Za (aE 5) (Za (aE 5) aH)))) (uv Z.ct)) (aV (bH (dP (Za (aE 2) (Za (aE 5) aH))))) ed))))))))) (aV (bH m6)))
theorem Nq:Fp P w K mg base 2 "one_at" (Zlg.take 2) zO:=cH Lz Z.an λsc hr hx hw=>aV (bH (aS (Hz Z) hr hx (Za (PXL.px (ip ["at"] [0] rfl (lW Z.b3 (Za (aE 1) aH)) (λ_ _ _=>(cJ 0 (by decide +kernel:List.Nodup (["at", "place"]:List Str)))) (λ_ _ _=>fS) (λ_ _ _=>(m7 yO Z.b8 boot_int (Za (nN (eE hr.units) (aE 0) (aE 1)) aH))))) aH)))
theorem Nr:Fp P w K mg base 11 "apart_rows" (Zf6.take 1) wW:=cH Mo Z.a9 λsc hr hx hw=>aT (uc (aS (Du Z) hr hx (Za (aE 0) aH))) (aT (cQ 1 (aS (xD Z) hr hx (Za (aE 0) aH)) sc) (aT (nQ 2 (eM aH) sc) (aT (vP 3 ["place"] [1] rfl sc (lW Z.b3 (Za (aE 1) aH)) (λ_ _ _=>(cJ 0 (by decide +kernel:List.Nodup (["place", "size"]:List Str)))) (λ_ _ _=>fS) (λ_ _ _=>(aS (Nq Z) hr cF (Za (aE 0) (Za (aE 1) aH))))) (i6 3 (aT (cQ 4 (aS (HF Z) hr hx (Za (aE 0) (Za (aE 3) aH))) sc) (i6 3 (aT (iq (yU PassesOwn.never (dE FA (aE 4) m6) (aT (yT (aE 4) (l6 rfl (gu (cJ 5 sc) (gu (cJ 6 sc) l5)))) (aT (yV 2 (aE 6)) (i6 3 (aT (vP 3 ["row"] [0,6] rfl sc (gH (aW dB (gC (aE 3) ik (fE (aE 5))) (gC (aE 3) (fE (aW dB (aE 5) aL)) ik))) (λ_ _ _=>(cJ 0 (by decide +kernel:List.Nodup (["row", "slants", "lead"]:List Str)))) (λ_ _ _=>fS) (λ_ _ _=>(aS (Np Z) hr cF (Za (aE 1) (Za (aE 0) (Za (aE 2) aH)))))) (i6 3 (aV (cQ 4 (aS (HF Z) hr cF (Za (aE 0) (Za (aE 3) aH))) sc))))))))) (i6 2 (i6 3 (aV (bH (aW dB (aE 2) (aE 3)))))))))))))
def Nt:Fp P w K mg base 12 "sign_paper" (Zf1.take 1) CZ:=cH Mr Z.be λsc hr hx hw=>aV (bH (aS (Nr Z) hr hx (Za (aE 0) aH)))
theorem Nu:Fp P w K mg base 10 "are_apart" (Zhn.take 2) Ac:=cH Mp Z.bb λsc hr hx hw=>aV (bH (cK (vO rfl) Z.cd boot_all (Za (PXL.px (Md ["at", "row", "other"] [0,1] rfl (Co Z.cv (Za (aE 1) aH)) (λ_ _ _=>(l6 rfl (gu (cJ 0 (by decide +kernel:List.Nodup (["at", "row", "other", "slants", "rows"]:List Str))) (gu (cJ 1 (by decide +kernel:List.Nodup (["at", "row", "other", "slants", "rows"]:List Str))) l5)))) (λ_ _ _=>fS) (λ_ _ _=>(gH (gC (aE 4) (fE (aW dB (aE 0) aL)) ik))) (λ_ _ _=>(cJ 2 (by decide +kernel:List.Nodup (["at", "row", "other", "slants", "rows"]:List Str)))) (λ_ _ _=>fS) (λ_ _ _=>(nN (eE hr.units) (aS (xE Z) hr cF (Za (aE 3) (Za (aE 1) (Za (aE 2) aH)))) (uv Z.ct))))) aH)))
theorem Nv:Fp P w K mg base 1 "first_with" (Zf4.take 2) zR:=cH LJ Z.ar λsc hr hx hw=>aT (iq (lm PassesOwn.never rfl (Co Z.cv (Za (aE 0) aH)) (l6 rfl (gu (cJ 2 sc) (gu (cJ 3 sc) l5))) (aV (ef (dE (d9 hr.units) (bK aR (aE 3) (aE 1)) (uv Z.ct)) (aV (bH (aE 2))) ed)))) (aV (bH m6))
theorem Nw:Fp P w K mg base 4 "row_by" (Zlf.take 2) zQ:=cH LG Z.ao λsc hr hx hw=>aV (bH (m7 sR Z.b4 NY (Za (PXL.px (ip ["part"] [1] rfl (gH (aE 0)) (λ_ _ _=>(cJ 0 (by decide +kernel:List.Nodup (["part", "share"]:List Str)))) (λ_ _ _=>fS) (λ_ _ _=>(aS (HD Z) hr cF (Za (aE 0) (Za (aE 1) aH)))))) aH)))
theorem HG:Fp P w K mg base 5 "without_place" (Zd7.take 3) wG:=cH LK Z.as λsc hr hx hw=>aV (bH (PXL.px (ip ["row"] [1,2] rfl (gH (aE 0)) (λ_ _ _=>(cJ 0 (by decide +kernel:List.Nodup (["row", "lead", "place"]:List Str)))) (λ_ _ _=>fS) (λ_ _ _=>(aS (Dw Z) hr cF (Za (aE 0) (Za (bK aR (aE 0) (aE 2)) (Za (aE 1) aH))))))))
theorem Nx:Fp P w K mg base 6 "cleared" (ZjL.take 2) zS:=cH LM Z.au λsc hr hx hw=>aT (cQ 2 (PXL.px (eM aH)) sc) (aT (nQ 3 (eM aH) sc) (aT (cQ 4 (PXL.px (yJ yN Z.b7 Oc (Za (aE 0) aH))) sc) (aT (iq (lm PassesOwn.never rfl (lW Z.b3 (Za (aE 1) aH)) (cJ 5 sc) (aT (cQ 6 (aS (Nv Z) hr cF (Za (aE 4) (Za (aE 5) aH))) sc) (aV (ef (dE FA (aE 6) m6) (aT (cQ 7 (aS (Nw Z) hr cF (Za (bK aR (aE 4) (aE 6)) (Za (bK aR (bK aR (aE 4) (aE 6)) (aE 5)) aH))) sc) (aT (cQ 2 (aW dB (aS (HG Z) hr cF (Za (aE 2) (Za (aE 7) (Za (aE 5) aH)))) (PXL.px (eM (Za (aE 7) aH)))) sc) (aT (cQ 4 (aS (HG Z) hr cF (Za (aW dB (gC (aE 4) ik (fE (aE 6))) (gC (aE 4) (fE (aW dB (aE 6) aL)) ik)) (Za (aE 7) (Za (aE 5) aH)))) sc) (aV (yV 3 (aE 5)))))) ed))))) (i6 3 (aV (bH (dP (Za (aE 2) (Za (aE 3) aH)))))))))
theorem Ny:Fp P w K mg base 7 "are_independent" (Zdi.take 2) Aa:=cH Zf Z.av λsc hr hx hw=>aV (bH (nN (eE hr.units) (cK gP Z.b2 NU (Za (bK aR (aS (Nx Z) hr hx (Za (aE 0) (Za (aE 1) aH))) aL) aH)) (cK gP Z.b2 NU (Za (aE 0) aH))))
theorem Nz:Fp P w K mg base 11 "sign_paper_good" (Zdh.take 2) Ad:=cH Mq Z.bc λsc hr hx hw=>aT (uc (aS (Du Z) hr hx (Za (aE 0) aH))) (aT (cQ 2 (aS (xD Z) hr hx (Za (aE 0) aH)) sc) (aT (ef (PXW.pxt (lS (ig (ic (cK nc Z.cb NM (Za (aE 1) (Za (lY Z.b7 Oc) aH))))) (nO (dE (d9 hr.units) (cK gP Z.b2 NU (Za (aE 1) aH)) (aE 2))))) (aV (bH gG)) ed) (aT (ef (ig (ic (cK (vO rfl) Z.cd boot_all (Za (PXL.px (ip ["row"] [0] rfl (gH (aE 1)) (λ_ _ _=>(cJ 0 (by decide +kernel:List.Nodup (["row", "slants"]:List Str)))) (λ_ _ _=>fS) (λ_ _ _=>(aS (Dv Z) hr cF (Za (aE 1) (Za (aE 0) aH)))))) aH)))) (aV (bH gG)) ed) (aV (bH (sQ (aS (Ny Z) hr hx (Za (aE 1) (Za (aE 2) aH))) (sP (aS (Nu Z) hr hx (Za (aE 0) (Za (aE 1) aH))))))))))
theorem NA:Fp P w K mg base 12 "signs_by" (Zh4.take 2) Ae:=cH Ms Z.bd λsc hr hx hw=>aT (ef (ig (ic (aS (Nz Z) hr hx (Za (aE 0) (Za (aE 1) aH))))) (aV (v9 hw Z.cu)) ed) (aT (vP 2 ["row"] [0] rfl sc (gH (aE 1)) (λ_ _ _=>(cJ 0 (by decide +kernel:List.Nodup (["row", "slants"]:List Str)))) (λ_ _ _=>fS) (λ_ _ _=>(bK aR (aS (HC Z) hr cF (Za (aE 1) (Za (aE 0) aH))) aL))) (i6 2 (aT (cQ 3 (cK gP Z.b2 NU (Za (PXL.px (ip ["top"] [] rfl (gH (aE 2)) (λ_ _ _=>(cJ 0 (by decide +kernel:List.Nodup (["top"]:List Str)))) (λ_ _ _=>(yS (dE vK (aE 0) aL))) (λ_ _ _=>(aE 0)))) aH)) sc) (i6 2 (aT (cQ 4 (cK gP Z.b2 NU (Za (PXL.px (ip ["top"] [] rfl (gH (aE 2)) (λ_ _ _=>(cJ 0 (by decide +kernel:List.Nodup (["top"]:List Str)))) (λ_ _ _=>(yS (dE jU (aE 0) aL))) (λ_ _ _=>(aE 0)))) aH)) sc) (i6 2 (aV (bH (dP (Za (aE 3) (Za (aE 4) (Za (aW gp (aW gp (cK gP Z.b2 NU (Za (aE 2) aH)) (aE 3)) (aE 4)) aH))))))))))))
theorem HH:Fp P w K mg base 13 "signs_of" (Zh3.take 1) wY:=cH Mu Z.bf λsc hr hx hw=>aV (bH (aS (NA Z) hr hx (Za (aE 0) (Za (aS (Nt Z) hr hx (Za (aE 0) aH)) aH))))
theorem Ar:Fp P w K mg base 14 "_law_told" (Zho.take 3) rp:=cH MZ Z.b0 λsc hr hx hw=>aV (JU LX 3 Z.cx sc (λ_ _ _ hx1=>(aV (bH (D0 (dE (eE hr.units) (aE 0) aL) (aS (HC Z) hr hx1 (Za (aE 1) (Za (aE 2) aH))) (aS (HH Z) hr hx1 (Za (aE 1) aH)))))) (λ_ _=>(aV (bH (JV (Nb Z) (hr.u.mark) (Za (aE 3) aH))))))
theorem all_mk{l:PySem.W.OpenLaw}(hfa:mg "law" = some (.ref fa)):∃fd:FuncData,(∀(s:Shared) (v:Value),BindsTo s fd ⟨[v],[]⟩ [("_law_script",v)])/\∀base:Heap,K.In base->base.Ns mainGlobals mg->FnOk l.prog w K mg base (eY l.prog w) 15 fa fd ["_law_script"] (fN K xn):=
 LW (z:=Am) (N:=Hi) Z.b1 hfa (λ_ sc _ _ _ _ _ _ _ hr hx hw=>(aT (iq (lm PassesOwn.never rfl (gH (PXL.px (eM (Za (dP (Za aL aH)) (Za (dP (Za (vJ vL aL) aH)) (Za (dP (Za aL (Za aL (Za aL aH)))) (Za (dP (Za aL (Za aL (Za aL (Za aL (Za aL aH)))))) (Za (dP (Za aL (Za aL (Za aL (Za aL (Za aL (Za aL (Za aL (Za aL (Za aL aH)))))))))) (Za (dP (Za aL (Za aL (Za aL aH)))) aH))))))))) (cJ 1 sc) (aV (ef (dE Ck (cK (uh hr.gd hr.units) Z.cy uo (Za (aS (HH Z) hr cF (Za (aE 1) aH)) aH)) (cK (uh hr.gd hr.units) Z.cy uo (Za (aS (Hw Z) hr cF (Za (aE 1) aH)) aH))) (aV (bH gG)) ed)))) (aT (iq (lm PassesOwn.never rfl (gH (aW dB (PXL.px (eM (Za (aS (M2 Z) hr cF (Za (aE 0) (Za aL aH))) aH))) (gC (aE 0) (fE aL) (fE aL)))) (cJ 2 sc) (aT (cQ 3 (aS (M7 Z) hr cF (Za (aE 2) aH)) sc) (aT (cQ 4 (aS (M3 Z) hr cF (Za (aE 3) aH)) sc) (aT (cQ 5 (aW m9 (aW dB (cK gP Z.b2 NU (Za (aE 4) aH)) aL) aL) sc) (aT (ef (dE Ck (cK (uh hr.gd hr.units) Z.cy uo (Za (aS (Ar Z) hr cF (Za aL (Za (aE 4) (Za m6 aH)))) aH)) (cK (uh hr.gd hr.units) Z.cy uo (Za (aS (Hw Z) hr cF (Za (aE 4) aH)) aH))) (aV (bH gG)) ed) (aT (cQ 6 (aS (M8 Z) hr cF (Za (aE 3) (Za (aE 5) aH))) sc) (aT (iq (lm PassesOwn.never rfl (gH (PXL.px (eM (Za (aE 6) (Za (aS (Hv Z) hr cF (Za (aE 3) (Za (aE 6) aH))) (Za (aS (Hv Z) hr cF (Za (aE 3) (Za (aE 6) aH))) aH)))))) (cJ 7 sc) (aT (cQ 8 (D0 (ic (aS (M9 Z) hr cF (Za (aE 5) (Za (aE 7) aH)))) (aS (M5 Z) hr cF (Za (aE 4) (Za (aE 7) (Za (aE 7) aH)))) jv) sc) (aV (ef (dE Ck (cK (uh hr.gd hr.units) Z.cy uo (Za (aS (Ar Z) hr cF (Za aL (Za (aE 4) (Za (aE 7) aH)))) aH)) (cK (uh hr.gd hr.units) Z.cy uo (Za (aE 8) aH))) (aV (bH gG)) ed))))) (aT (cQ 9 (aS (Hu Z) hr cF (Za (aE 3) aH)) sc) (aT (ef (PXW.pxt (Bx (dE (d9 hr.units) (aE 9) (yM (aE 9))) (Bw (dE (d9 hr.units) (PXL.px (ip ["_law_way"] [9] rfl (lW Z.b3 (Za aL aH)) (λ_ _ _=>(cJ 0 (by decide +kernel:List.Nodup (["_law_way", "_law_other"]:List Str)))) (λ_ _ _=>fS) (λ_ _ _=>(aS (Ar Z) hr cF (Za (aE 0) (Za (aE 1) (Za m6 aH))))))) (aW fO (PXL.px (eM (Za jv aH))) aL))))) (aV (bH gG)) ed) (aT (cQ 10 (aS (M6 Z) hr cF (Za (aE 3) (Za (aE 4) aH))) sc) (aV (ef (PXW.pxt (Bx (ig (ic (aS (Na Z) hr cF (Za (aE 10) aH)))) (Bw (dE (d9 hr.units) (PXL.px (ip ["_law_way"] [10] rfl (lW Z.b3 (Za aL aH)) (λ_ _ _=>(cJ 0 (by decide +kernel:List.Nodup (["_law_way", "_law_bad"]:List Str)))) (λ_ _ _=>fS) (λ_ _ _=>(aS (Ar Z) hr cF (Za (aE 0) (Za (aE 1) (Za m6 aH))))))) (aW fO (PXL.px (eM (Za jv aH))) aL))))) (aV (bH gG)) ed))))))))))))) (aV (bH gG))))) M0
end
theorem walk{l:PySem.W.OpenLaw}{q:Program}{loose:List Str}{d:DefRec}{K:Params->NF}(hn:l.most=some 63)(hdf:d.params.defaults=[])
  (hY:∀(w:World) (h:Heap),YP w h->(K w.params).In h)
  (F:∀ (w:World) (mg:Str->Option Value) (fa:Addr) (h:Heap),(K w.params).In h->h.Ns mainGlobals mg->mg d.name=some (.ref fa)->
   ∃fd:FuncData,(∀(s:Shared) (u:Value),BindsTo s fd ⟨[u],[]⟩ [("_law_script",u)])/\∀base:Heap,(K w.params).In base->base.Ns mainGlobals mg->FnOk l.prog w (K w.params) mg base (eY l.prog w) 15 fa fd ["_law_script"] (fN (K w.params) xn)) :
  PySem.W.WalkO q loose XP YP l.row.toRowW d [] (λf vs=>PySem.call f vs):=
 L2.walk_of (n:=63) (k:=15) (x:= "_law_script") (CX:=λw=>eY l.prog w) (sp:=λw=>fN (K w.params) xn) hn (by decide) hdf ⟨rfl,rfl,by decide,by decide⟩ hY F (λ_ _ a ns hl hO hS=>M1 hl hO hS) λ_ _ _ _ _ ⟨_,_,_,_,_,_,_,_,_,_,_,_,_,z⟩=>z
end I9
end LP
namespace PySem.W.Fast
def tw10234279982672525768:=0
def tw6913343927769095377:=0
def tw8775200814430059789:=0
def tw18421498277621486438:=0
def tw3829283461426229570:=0
def tw13427183621993426740:=0
def tw15179859948352618582:=0
def tw6087701708373990065:=0
def tw3825059764727171598:=0
def tw7417044995327249116:=0
def tw5592813206056661303:=0
def tw1374002115269917147:=0
def tw5161099302787144973:=0
def tw16563557822289293537:=0
def tw15581375123004908216:=0
def tw550531526866073837:=0
def tw11809439315972677377:=0
def tw1403532499844940989:=0
def tw16729620919378809965:=0
def tw16277643112635028332:=0
def tw15636778372740814759:=0
def tw8375943231471560516:=0
def tw3225588147136344733:=0
def tw2221119572804243091:=0
def tw6049239572827523314:=0
def tw7127325278421742383:=0
def tw2693397739341091583:=0
def tw16470949929984596047:=0
def tw2001060497791605845:=0
def tw1764377939553410081:=0
def tw8954718093142733868:=0
def tw11334375133148633987:=0
def tw231128400034950842:=0
def tw16030926245784892946:=0
def tw7642828983594185690:=0
def tw1966609042482418510:=0
def tw1041393477310398752:=0
def tw10916737356688226964:=0
def tw3060802119554317268:=0
def tw9285002424696915782:=0
def tw15192997277676979321:=0
def tw68993783352711098:=0
def tw9381028492538702233:=0
def tw16624748252340892259:=0
def tw6910614959067097643:=0
def tw15008903969657314070:=0
def tw1450469030979455086:=0
def tw11253991640758681226:=0
def tw2098207484248347630:=0
def tw13816230516902045891:=0
def tw1972307538051222936:=0
def tw14938032578146896930:=0
def tw18161119590106638966:=0
def tw4960623640407946544:=0
def tw2326908665875648231:=0
def tw18074273924595729683:=0
def tw5989194072996181862:=0
def tw10881950211884883796:=0
def tw9636321581593681828:=0
def tw182477311665818096:=0
def tw849962536347575604:=0
def tw11541958261063275142:=0
def tw7981613147881990404:=0
def tw7458312246446837240:=0
def tw15513830172366700034:=0
def tw11775309309394204186:=0
def tw7359106417071138516:=0
def tw4794100573494908072:=0
def tw10590927230894967041:=0
def tw16943653072636023198:=0
def tw9444643932631926859:=0
def tw8642185939256274646:=0
def tw4254938864684622774:=0
def tw5963273300111840091:=0
def tw12601224461499967548:=0
def tw17305198855455183072:=0
def tw16160435779496845162:=0
def tw5838409583773979633:=0
def tw10886030420370162334:=0
def tw17153045413118515143:=0
def tw2220821938795328497:=0
def tw15452620258658854644:=0
def tw14540691575866369231:=0
def tw14015134957593966493:=0
def tw9819915650836115560:=0
def tw18398541035199271171:=0
def tw17063540115614106417:=0
def tw9257029576766261386:=0
def tw5589879843535762713:=0
def tw17457005625597027099:=0
def tw2211748056257086245:=0
def tw16540552411804571152:=0
def tw3385831564994479487:=0
def tw5380742892466780366:=0
def tw11300724018416809008:=0
def tw9650595655074073693:=0
def tw8237868442471991054:=0
def tw7093894814116605501:=0
def tw16173065516314603885:=0
def tw6175848224510893876:=0
def tw4506612895052167674:=0
def tw2509945209054562284:=0
def tw17181371636314000128:=0
def tw16873604472896314926:=0
def tw16953945631740968084:=0
def tw11901883093465132795:=0
def tw1523806221184805494:=0
def tw4061769442942156774:=0
def tw545150993454473568:=0
def tw11137672406555400230:=0
def tw9854488551075363109:=0
def tw5110869977082025556:=0
def tw9724770400155851494:=0
def tw10414699044820515342:=0
def tw17951206748907885225:=0
def tw9681793689336378927:=0
def tw3736549710361175023:=0
def tw13552787261476079380:=0
def tw16989464953193711183:=0
def tw17813985434003901874:=0
def tw9150970177110745417:=0
def tw2466911838561528763:=0
def tw11964122732296143:=0
def tw6738717852318623107:=0
def tw17687685323551466073:=0
def tw11046410095672857871:=0
def tw6983443838965885984:=0
def tw4987080537634664628:=0
def tw15842099688319805976:=0
def tw4200456040004623952:=0
def tw12393809216996380981:=0
def tw11876555467039116891:=0
def tw12938365614249467085:=0
def tw8762136857196317000:=0
def tw10592690011338108462:=0
def tw3205029608556747898:=0
def tw14742424656612316657:=0
def tw11985312991800010288:=0
def tw2017158978936481661:=0
def tw16981734932613249659:=0
def tw1438676774762301279:=0
def tw1336803080499037697:=0
def tw11036966721063676964:=0
def tw4420810294165046096:=0
def tw15050763418459566826:=0
def tw11658895055095157034:=0
def tw8287395722247816580:=0
def tw11284414112872376107:=0
def tw15160401185450362437:=0
def tw16911412503001361581:=0
def tw17873832562391770246:=0
def tw2496341013152397576:=0
def tw11855432885894024309:=0
def tw13129603958932857713:=0
def tw3517933970139962715:=0
def tw6574399215801204203:=0
def tw3492333879714128581:=0
def tw9924140950205580523:=0
def tw3762453151263573699:=0
def tw2588404148339661533:=0
def tw16749044310854271505:=0
def tw17998737497589365996:=0
def tw12163150042534506422:=0
def tw13073483976178618181:=0
def tw10497370689197246939:=0
def tw2519933883012555384:=0
def tw8215996158780865644:=0
def tw7389670460095475028:=0
def tw5752870451066616220:=0
def tw12510545336923527791:=0
def tw7513005269405930245:=0
def tw1104151302501922413:=0
def tw16216162970016054103:=0
def tw15508545069826165287:=0
def tw14518548613222669654:=0
def tw10534785296105743915:=0
def tw17813795937118877715:=0
def tw7777645939677473637:=0
def tw11449257498647281463:=0
def tw15734748906357165040:=0
def tw16224680727238281095:=0
def tw14589986657294997260:=0
def tw6547816261035230590:=0
def tw12524810881065693197:=0
def tw10608903653840745471:=0
def tw15709291469346842621:=0
def tw9325398966162783738:=0
def tw15669831006861911126:=0
def tw14810987399008104195:=0
def tw9663326543723738670:=0
def tw9191545256776140835:=0
def tw9152377734707934468:=0
def tw8999706766550225474:=0
def tw8332854949385329413:=0
def tw7756066823430003281:=0
def tw663977537349477505:=0
def tw5970848953070485148:=0
def tw5931612630389246441:=0
def tw5816344979602155592:=0
def tw4309057949149181043:=0
def tw4178471375025996853:=0
def tw3462232659466369126:=0
def tw3202721074218572978:=0
def tw3115365237287048063:=0
def tw2068919203201441782:=0
def tw18224116997251602886:=0
def tw17101571818939286403:=0
def tw16578075947050498343:=0
def tw1615513987233734144:=0
def tw15993668221800648374:=0
def tw15854072526421184137:=0
def tw15802738576212213994:=0
def tw15411661954093752073:=0
def tw15309581545876758250:=0
def tw14729194442415525898:=0
def tw13998465259019056974:=0
def tw13775396472386975761:=0
def tw13714824825392614334:=0
def tw13580643131941605856:=0
def tw13002090927188075744:=0
def tw12380147880128477091:=0
def tw12345068723664650306:=0
def tw12029475270857464264:=0
def tw12022424430751020205:=0
def tw11811408785913582884:=0
def tw10524894001228980755:=0
def tw10524067343616803458:=0
def tw5382326090806447148:=0
def tw4354977606547724221:=0
def tw4309418467397493533:=0
def tw4242611406108086493:=0
def tw18178833148052299033:=0
def tw1359415654973457770:=0
def tw13311918834713620891:=0
def tw3681443196290522510:=0
def tw8630956396907934812:=0
def tw8302661552635489642:=0
def tw7311442633834838997:=0
def tw5174853338014187511:=0
def tw4666719170587095074:=0
def tw3825646330603927236:=0
def tw290700806574265210:=0
def tw2738574843445165006:=0
def tw17070344479739734893:=0
def tw16453972700461703875:=0
def tw15077379719731863633:=0
def tw14869023778999199169:=0
def tw12141818436373920040:=0
def tw12004285630080955207:=0
def tw11875503082321127770:=0
def tw3890647102659908744:=0
def tw17950690398991825159:=0
def tw15919151207948767082:=0
def tw15115634254726857544:=0
def tw6601250207004105146:=0
def tw8971501516225245099:=0
def tw3247914310828431262:=0
def tw15277348885252380484:=0
def tw11222765530435099765:=0
def tw3600354921215456643:=0
def tw3281558397356733173:=0
def tw16398143676174702974:=0
def tw11458699367580757336:=0
def tw833975806531139052:=0
def tw7644742735582909948:=0
def tw6422133848839619087:=0
def tw2480863633684531127:=0
def tw2216817626997922822:=0
def tw18260739508736407379:=0
def tw15635156104070980829:=0
def tw14993782490791956912:=0
def tw14276391464162493890:=0
def tw13911874619438974251:=0
def tw11902687444022880306:=0
def tw11225255944149381683:=0
def tw10986294027779437634:=0
def tw10038517633528648783:=0
def tw9357844497417996518:=0
def tw4260612714983611380:=0
def tw2683015598112270926:=0
def tw2259727641623138671:=0
def tw16346530073100570845:=0
def tw1590927330775422711:=0
def tw14807742899169387526:=0
def tw9655150775555019441:=0
def tw6866179449737363250:=0
def tw6741800946742917824:=0
def tw6343308025259018201:=0
def tw5367290825113134609:=0
def tw297402837929621085:=0
def tw18051320126607155607:=0
def tw13849782376103371247:=0
def tw10688625481715577329:=0
def tw10138269537841994423:=0
def tw6826100906303076260:=0
def tw6199259326953048872:=0
def tw1815640451356051953:=0
def tw17812080385756677195:=0
def tw17462469737345010399:=0
def tw1493710093729678504:=0
def tw9186512772071771969:=0
def tw11208792119247085308:=0
def tw884226124581857357:=0
def tw203500041775997981:=0
def tw17559602968365289287:=0
def tw17488416507883973952:=0
def tw15395893867806004525:=0
def tw5862212395993637575:=0
def tw1934894373433458048:=0
def tw15849876532749852403:=0
def tw15548631473525500425:=0
def tw15330871969728426035:=0
def tw15976345653162023186:=0
def tw9360690732850929723:=0
def tw6030408524395175044:=0
def tw5867046381901467133:=0
def tw467074157638093036:=0
def tw2954004996620720342:=0
def tw17088828170016142464:=0
def tw16204907605177255500:=0
def tw13514526027742011308:=0
def tw12631448395474415004:=0
def tw12344845502624500284:=0
def tw7361737705534928307:=0
def tw1515865745082850761:=0
def tw11832573988318290407:=0
def tw16732420037114281928:=0
def tw9640401649581685401:=0
def tw9386482235013816669:=0
def tw7680554710590108881:=0
def tw3903125293147212617:=0
def tw1903137557367847596:=0
def tw188086364437627530:=0
def tw15057260835896489349:=0
def tw14984883572667822826:=0
def tw1143440944450157421:=0
def tw11271468180743230592:=0
def tw3178966505408836538:=0
def tw12786378421110635300:=0
def tw10749482891164339492:=0
def tw1569041378567290577:=0
def tw13116937997320819245:=0
def tw9398990867978017996:=0
def tw7516571811098571477:=0
def tw7335557819811518442:=0
def tw6231317998002464339:=0
def tw5642576821126407778:=0
def tw3761180894670473636:=0
def tw3468925698516969265:=0
def tw17833797905706382945:=0
def tw16984561551140503461:=0
def tw16906441659141839549:=0
def tw14705374270328644796:=0
def tw14252467291184501816:=0
def tw11115312463711909291:=0
def tw10814340447629620071:=0
def tw10300208959095700458:=0
def tw10213554796557201131:=0
def tw10195737288694204630:=0
def tw7594111557616571134:=0
def tw9065190664132129584:=0
def tw9002581260241537142:=0
def tw8293456886737594984:=0
def tw5568172176467606722:=0
def tw4654662876901085604:=0
def tw3855271147018648637:=0
def tw2327098594397180526:=0
def tw15533534392461908644:=0
def tw14910444582433910624:=0
def tw14833783955697798945:=0
def tw13206132953507822350:=0
def tw10253517220006408764:=0
def tw10099453317560122501:=0
def tw9717128829455812045:=0
def tw7882388267644832978:=0
def tw5725744113674397881:=0
def tw4086436185812377127:=0
def tw3805175762567096559:=0
def tw2247041236653293521:=0
def tw17374959624334422617:=0
def tw16722375892123567197:=0
def tw15776217762621759850:=0
def tw15730537553343621671:=0
def tw15235583217584492008:=0
def tw14244423289811467643:=0
def tw12572369484671457652:=0
def tw12268514918627748759:=0
def tw11672145359988218684:=0
def tw11414679226069704727:=0
def tw1034904259053611772:=0
def tw10238139793260983221:=0
end PySem.W.Fast
open PySem PySem.W PyProof.Rows
set_option maxRecDepth 100000 in
set_option maxHeartbeats 0 in
theorem PySem.Challenge.cw_slanttables_k49_forms_and_signs_holds : PySem.Challenge.rw_slanttables_k49_forms_and_signs.Holds := by
  w_on;o_law;k_head;(case hw=>w_witness2)
  k_fill
  refine LP.I9.walk (l:=PySem.Challenge.rw_slanttables_k49_forms_and_signs) rfl rfl (λw h Y=>PySem.W.kIn_of Y) ?F
  case F=>
    intro w mg fa h KX G hmg;refine LP.I9.all_mk ?_ hmg;constructor
    all_goals first
      |(refine' LP.mkF KX G ?a ?l ?c ?k;(case a=>k_is);(case l=>k_is);(case c=>k_is);(case k=>k_is))
      |(refine' mg_none_of KX G ?a;case a=>k_is)
      |(refine' LP.mkC KX G ?a;case a=>k_is)
      |(refine' LP.mkI KX G ?a;case a=>k_is)
      |(refine' LP.mkT KX G ?a ?l;(case a=>k_is);(case l=>k_is))
      |(refine' LP.mkX KX G ?a ?e;(case a=>k_is);(case e=>k_exc))
      |(refine' LP.mkH KX G ?a ?e ?_;(case a=>k_is);(case e=>k_exc);intro n hn;simp only[LP.LX,Yan,dN,or_false] at hn;first|(rcases hn with rfl|rfl|rfl|rfl|rfl|rfl|rfl|rfl|rfl|rfl|rfl<;>(refine' LP.exD ?a ?b;(case a=>k_is);(case b=>k_is)))|(rcases hn with rfl|rfl|rfl|rfl|rfl|rfl<;>(refine' LP.exD ?a ?b;(case a=>k_is);(case b=>k_is)))|(rcases hn with rfl|rfl|rfl<;>(refine' LP.exD ?a ?b;(case a=>k_is);(case b=>k_is)))|(subst hn;refine' LP.exD ?a ?b;(case a=>k_is);(case b=>k_is)))
      | (refine ⟨λn hn=>?_⟩;simp only [LP.LX,Yan,dN,or_false] at hn;rcases hn with rfl | rfl | rfl | rfl | rfl | rfl<;>
         (refine' LP.exX ?a (LP.clsX_of ?g ?n ?b ?h ?c ?d ?t ?o) ?k ?_;(case a=>k_is);(case g=>k_is);(case n=>k_is);(case b=>k_is);(case h=>k_is);(case c=>k_is);(case d=>k_is);(case t=>k_is);(case o=>k_is);(case k=>kit_is)
          intro m hm;simp only[LP.MX,LP.LX,Yan,dN,or_false] at hm;rcases hm with rfl|rfl|rfl|rfl|rfl|rfl|rfl|rfl|rfl<;>
           (refine' LP.exC ?a ?b;(case a=>k_is);(case b=>first|(refine Eq.trans (b:=some true) ?_ (by decide +kernel);kit_is)|(refine Eq.trans (b:=some false) ?_ (by decide +kernel);kit_is)))))
