import PyProof.Rows.All
import Wide.All
import OpenK.AllK
import Wide.FinOn
import Lean
import PyProof.EqAt
import PyProof.EqKinds
import PyProof.TupleCall
import PyProof.ZipIter
import PyProof.ExcInit
import PyProof.InstStoreFacts
import PyProof.ExcArgsOwn
import PyProof.ExcAttrAll.ValueError
import PyProof.Draws
import PyProof.EnumMake
import PyProof.Rows.SumAny
import PyProof.Rows.EnumRows
import PyProof.SeqI3
import PyProof.ListRange
import KE.KUnpack
import KE.KIntText
import KE.KxWritten
import PyProof.Rows.StrWeight2
import KE.KxText
import PyProof.CallType
import PyProof.Rows.CallKwBuiltin
import PyProof.WalkInts
import PySem.Challenge.RW_slanttables_k43_being_above_told
set_option compiler.extract_closed false
set_option Elab.async false
set_option linter.all false
set_option maxRecDepth 100000
set_option exponentiation.threshold 2000
set_option exponentiation.threshold 400
set_option maxHeartbeats 8000000
def du:=@PySem.Heap.lt_size
def de:=@Nat.lt_of_lt_of_le
def gQ:=@Nat.lt_irrefl
def zP:=@Array.append_assoc
def hZ:=@Nat.ne_of_lt
def wW:=@Nat.lt_trans
def Yag:=@List.mem_filter
def Yah:=@List.mem_range
def fQ:=@Nat.le_trans
def ge:=@Nat.le_of_lt
def wX:=@List.filterMap_cons
def ju:=@List.mem_cons_self
def gR:=@List.mem_cons_of_mem
def Yan:=@List.mem_cons
def Yao:=@List.mem_append
def zQ:=@List.mem_append_left
def Yaq:=@List.getElem?_eq_some_iff
def eI:=@List.getElem?_set_self
def d7:=@List.getElem?_set_ne
def wY:=@Array.length_toList
def dH:=@PySem.Heap.get?_push_of_some
def lC:=@Bool.false_ne_true
def wZ:=@Nat.ne_of_gt
def gK:=@PySem.Heap.get?_push_size
def cB:=@Nat.le_refl
def Yaz:=@List.mem_filterMap
def lD:=@List.mem_append_right
def eC:=@List.size_toArray
def mY:=@PySem.Heap.size_push
def zR:=@Nat.lt_succ_self
def i6:=@Nat.zero_le
def qh:=@List.append_nil
def YaG:=@List.nodup_cons
def w4:=@List.of_mem_zip
def gS:=@List.length_take
def kJ:=@List.getElem?_append_right
def lE:=@List.getElem?_replicate
def lF:=@List.getElem?_append_left
def cK:=@List.getElem?_map
def zS:=@List.getElem?_take_of_lt
def h8:=@List.mem_of_getElem?
def dX:=@List.length_append
def bC:=@List.length_map
def o5:=@List.length_replicate
theorem iU(n:Nat):(n:Int).toNat=n:=rfl
def jv:=@List.length_drop
def c6:=@Bool.and_eq_true
def w6:=@PySem.Heap.get?_update_self
def qS:=@PySem.Heap.get?_update_other
def d8:=@List.length_set
def qT:=@List.all_cons
def w8:=@List.any_cons
def td:=@List.reverse_cons
theorem gT{α}{a:α}{n}:List.replicate (n+1) a=a::List.replicate n a:=rfl
def tm:=@List.flatten_cons
def mZ:=@List.append_assoc
def j6:=@List.length_singleton
def m6:=@Nat.succ_mul
theorem dI{α}(l:List α):[]++l=l:=rfl
def xa:=@Nat.mul_comm
def gL:=@List.map_nil
def cR:=@List.map_cons
def oD:=@List.lookup_cons
def tu:=@Bool.not_eq_true'
def zT:=@List.forIn_cons
def dO:=@Bool.false_eq_true
def o6:=@Option.map_some
def Ybf:=@List.all_eq_true
def xb:=@Bool.or_eq_true
def zW:=@Nat.le_of_succ_le
def gp:=@Nat.lt_or_ge
def aY:=@List.getD_eq_getElem?_getD
def tx:=@List.ext_getElem?
def jG:=@List.getElem?_range
def zX:=@List.getElem?_reverse
def eP:=@List.getElem?_eq_none
def xc:=@List.length_reverse
def Ybp:=@Array.getElem?_eq_some_iff
def gu:=@List.not_mem_nil
def zY:=@Int.toNat_of_nonneg
def Ybs:=@Nat.le_zero
def bW:=@List.getElem?_eq_getElem
def Ybu:=@List.mem_iff_getElem
def o7:=@Bool.eq_iff_iff
def gU:=@List.getElem_mem
def tz:=@List.drop_zero
def tB:=@List.drop_eq_getElem_cons
def iV:=@List.length_zipWith
theorem dS{α}{a:α}{l:List α}:(a::l).length=l.length+1:=rfl
def j7:=@Nat.pow_le_pow_right
def zZ:=@Int.mul_ediv_cancel_left
def d9:=@Int.natAbs_mul
theorem oE(n:Nat):(n:Int).natAbs=n:=rfl
def jH:=@Nat.pow_add
def xg:=@Nat.pow_pos
def lG:=@Nat.mul_le_mul_right
def z5:=@Nat.mul_ne_zero
def qU:=@Nat.pow_succ
def qi:=@Int.natAbs_add_le
def C7:=@Int.sign_eq_neg_one_of_neg
def eJ:=@Rat.div_def
def xh:=@Rat.num_intCast
def xj:=@Rat.den_intCast
def uf:=@Nat.one_lt_two_pow
def YbQ:=@List.mem_map
def z6:=@Int.gcd_pos_of_ne_zero_right
def xk:=@Int.le_of_lt
def xm:=@Int.neg_mul_neg
def xo:=@Int.mul_fdiv_cancel_left
def tD:=@Int.one_mul
def xp:=@Int.mul_zero
def h9:=@List.map_congr_left
def xq:=@List.map_id
def tE:=@Rat.num_divInt_den
def xr:=@List.getElem_map
theorem i7{α}:([]:List α).length=0:=rfl
theorem ia{α}{a:α}{l k:List α}:(a::l)++k=a::(l++k):=rfl
theorem eK{α}{a:α}{l:List α}:(a::l)[0]? = some a:=rfl
theorem fk{α}{a:α}{n:Nat}{l:List α}:(a::l)[n+1]? = l[n]? :=rfl
def j8:=@List.replicate_zero
def ug:=@List.all_map
def C8:=@Int.fmod_eq_emod_of_nonneg
def eT:=@Bool.not_true
def uh:=@Bool.true_and
def oF:=@Nat.lt_of_le_of_lt
def z7:=@Rat.divInt_ofNat
def j9:=@Rat.add_zero
theorem z8{α}{β}{γ}{f:α->β->γ}{a b l k}:List.zipWith f (a::l) (b::k)=f a b::List.zipWith f l k:=rfl
def ui:=@Nat.min_eq_left
def xu:=@Int.fdiv_eq_ediv_of_nonneg
def tF:=@List.map_drop
def kK:=@List.map_take
def qV:=@List.mem_of_mem_drop
def m7:=@List.mem_of_mem_take
def qj:=@List.map_reverse
def z9:=@Int.fmod_nonneg_of_pos
def m8:=@List.mem_map_of_mem
def fL:=@Rat.mul_zero
def Yco:=@List.mem_reverse
def lH:=@Bool.not_false
def o8:=@Rat.divInt_mul_divInt
def jI:=@Int.mul_ne_zero
def iX:=@List.length_range
def uj:=@List.map_replicate
def xv:=@Nat.mul_le_mul_left
def xw:=@List.map_set
def Aa:=@List.mem_or_eq_of_mem_set
def m9:=@List.map_append
def oG:=@Nat.mul_lt_mul''
def xy:=@Int.natAbs_sub_le
def Ab:=@List.getElem?_set
def i8:=@Nat.mul_le_mul
def uk:=@Rat.zero_divInt
def o9:=@Int.mul_comm
def tG:=@Rat.divInt_mul_right
def fS:=@Rat.zero_mul
def oH:=@List.getElem_zipWith
def ul:=@List.map_zipWith
def xz:=@Nat.lt_succ_of_lt
def YcJ:=@List.mem_singleton
def tH:=@Nat.min_self
def nb:=@Option.getD_some
def Ac:=@List.ext_getElem
def Ad:=@List.flatten_replicate_singleton
def qW:=@Rat.mul_one
def jw:=@Rat.mul_inv_cancel
def YcQ:=@List.pairwise_append
def YcR:=@List.pairwise_cons
def um:=@List.getD_cons_zero
def Ae:=@List.getD_cons_succ
def tI:=@Rat.intCast_add
def ft:=@Rat.intCast_mul
def qX:=@Rat.mul_comm
def uo:=@List.getElem?_take
def Af:=@List.length_pos_of_mem
def qY:=@Rat.one_mul
def nc:=@Rat.divInt_eq_div
def Yc1:=@Rat.mul_eq_zero
def pj:=@Rat.mul_nonneg
def qk:=@Rat.intCast_sub
section
open PySem PySem.Spec PyProof.Rows PySem.W
def Nm:=@wpAny_bind
abbrev Nn:=PySem.W.Frag
def Np:=@wpAny_pure
def Nq:=@absurd
def Nr:=@decide_eq_true
def Nt:=@decide_eq_true_eq
def Nu:=@boot_isinstance
def Nv:=@Option.some.inj
def Nw:=@decide_eq_false
def Nx:=@PySem.mem_of_lookup
def Ny:=@wpAny_field
def Nz:=@boot_len
def NA:=@wpAny_newObj_type
def NB:=@Ne.symm
def NC:=@False.elim
def ND:=@wpAny_mono
def NE:=@boot_tuple
def NF:=@beq_self_eq_true
def NG:=@wpAny_truthy_bool
def NH:=@wpAny_call_entry
def NI:=@wpAny_seqItems
def NJ:=@wpAny_setField_rec
def NK:=@wpAny_passesOwn
def NM:=@wpAny_holding
def NN:=@wpAny_execs_nil
def NO:=@wpAny_Call_Name_kw
def NP:=@wpAny_rule
def NQ:=@wpAny_setField
def NR:=@of_decide_eq_true
def NS:=@wpAny_standAt
def NT:=@wpAny_updateSeq_pair
def NU:=@beq_iff_eq
def NV:=@boot_int
def NW:=@wpAny_onRaise
end
namespace L2
open PySem PySem.Spec PyProof.Rows
variable{κ:Type}{a b it dx:Addr}{o:Obj}{P:Program}{w:World}{h h' base:Heap}{x name qual:Str}{e c tg:Expr}{pins:List (Addr×Obj)}{s s':Shared}{g':Array GenState}{t' i j k n:Nat}{d':Drawn}{ch fp:List Addr}{N ps:List Str}{A:Around}{Q:Value->Shared->Prop}{f:Value->Value->Sem Value}{K:Nn}{es:List Expr}{g:Int->Int->Int}{pos' p:Pos}{body:List Stmt}{op:CmpOp}{us:List Value}{mA mg:Str->Option Value}{kw:List (Str×Value)}{outer:List Env}{fd:FuncData}{scope:Scope}{osl:Array (Option Value)}
abbrev jx:=Sum Int Str
def ql:jx->Value->Bool
 |.inl k,v=>Value.isInt k v
 |.inr x,v=>Value.isStrOf x v
def Ag(w:World):jx->Int
 |.inl k=>hashInt k
 |.inr x=>hashStr w x
theorem bG:∀{k:jx} {v:Value},ql k v=true->(∃i t,k=Sum.inl i/\v=Value.int i t)\/(∃x t,k=Sum.inr x/\v=Value.str x t)
 |.inl i,v,h=>by
  obtain⟨t,e⟩:=Value.isInt_shape (k:=i) (v:=v) h;exact .inl ⟨i,t,rfl,e⟩
 |.inr x,v,h=>by
  obtain⟨t,e⟩:=Value.isStrOf_shape (x:=x) (v:=v) h;exact .inr ⟨x,t,rfl,e⟩
theorem qZ(a b:Int):decide ((Sum.inl a:jx)=Sum.inl b)=(a==b):=by
 by_cases e:a=b
 .subst e;simp
 .have h:¬(Sum.inl a:jx)=Sum.inl b:=λq=>e (Sum.inl.inj q)
  rw[Nw h];exact(beq_eq_false_iff_ne.mpr e).symm
theorem rc(a b:Str):decide ((Sum.inr a:jx)=Sum.inr b)=decide (a=b):=by
 by_cases e:a=b
 .subst e;simp
 .have h:¬(Sum.inr a:jx)=Sum.inr b:=λq=>e (Sum.inr.inj q)
  rw[Nw h,Nw e]
theorem re(a:Int)(b:Str):decide ((Sum.inl a:jx)=Sum.inr b)=false:=Nw (λq=>nomatch q)
theorem rf(a:Str)(b:Int):decide ((Sum.inr a:jx)=Sum.inl b)=false:=Nw (λq=>nomatch q)
def iq(prog:Program)(w:World):PySem.KeyKind prog w jx where
 is:=ql
 hash:=Ag w
 inj:=λv a b ha hb=>by
  rcases bG ha with⟨i,t,rfl,rfl⟩|⟨x,t,rfl,rfl⟩
  .rcases bG hb with⟨j,u,rfl,e⟩|⟨y,u,rfl,e⟩
   .injection e with e1 _;rw[e1]
   .exact nomatch e
  .rcases bG hb with⟨j,u,rfl,e⟩|⟨y,u,rfl,e⟩
   .exact nomatch e
   .injection e with e1 _;rw[e1]
 byValue:=λk v h=>by
  rcases bG h with⟨i,t,rfl,rfl⟩|⟨x,t,rfl,rfl⟩<;>rfl
 pyHash:=λhv h=>by
  rcases bG hv with⟨i,t,rfl,rfl⟩|⟨x,t,rfl,rfl⟩
  .exact wpAny_pyHash_int h
  .exact wpAny_pyHash_str h
 eqBool:=λhu hv h=>by
  rcases bG hu with⟨i,t,rfl,rfl⟩|⟨x,t,rfl,rfl⟩
  .rcases bG hv with⟨j,u,rfl,rfl⟩|⟨y,u,rfl,rfl⟩
   .rw[qZ] at h;exact wpAny_eqBool_int h
   .rw[re] at h;exact SeqAt.EqAt.int_str i t y u _ _ _ _ h
  .rcases bG hv with⟨j,u,rfl,rfl⟩|⟨y,u,rfl,rfl⟩
   .rw[rf] at h;exact SeqAt.EqAt.str_int x t j u _ _ _ _ h
   .rw[rc] at h;exact wpAny_eqBool_str h
 «strs»:=λk x t v h=>by
  rcases bG h with⟨i,u,rfl,e⟩|⟨y,u,rfl,e⟩
  .exact nomatch e
  .injection e with e1 _
   subst e1;cases v<;>rfl
inductive V where
 |non|bl (b:Bool)|int (i:Int)|str (x:Str)|byt (b:Array UInt8)|flt (b:UInt64)|ref (a:Addr)|ty (n:String)
 deriving DecidableEq
variable{xs vs:List V}{gV:List V->List V->List V}
def RelV:V->Value->Prop
 |.non,u=>u=Value.none
 |.bl b,u=>u=Value.bool b
 |.int i,u=>∃t,u=Value.int i t
 |.str x,u=>∃t,u=Value.str x t
 |.byt b,u=>∃t,u=Value.bytes b t
 |.flt b,u=>∃t,u=Value.float b t
 |.ref a,u=>u=Value.ref a
 |.ty n,u=>u=Value.type n
abbrev Vals:List V->List Value->Prop:=Paired RelV
theorem Vals.length{xs:List V}{us:List Value}(r:Vals xs us):xs.length=us.length:=Paired.length r
theorem Vals.get:∀{xs:List V} {us:List Value} {i:Nat} {x:V},Vals xs us->xs[i]? = some x->∃u,us[i]? = some u/\RelV x u
 |_,_,_,_,.nil,e=>by simp at e
 |_,_,0,_,.cons r _,e=>by simp at e;subst e;exact⟨_,rfl,r⟩
 |_,_,i+1,x,.cons _ t,e=>by
  obtain⟨u,h1,h2⟩:=Vals.get (i:=i) (x:=x) t (by simpa using e);exact⟨u,by simpa using h1,h2⟩
theorem Vals.set{x:V}{u:Value}(r:RelV x u):∀{xs:List V} {us:List Value} (i:Nat),Vals xs us->Vals (xs.set i x) (us.set i u)
 |_,_,_,.nil=>.nil
 |_,_,0,.cons _ t=>.cons r t
 |_,_,i+1,.cons q t=>.cons q (Vals.set r i t)
theorem Vals.append:∀{xs ys:List V} {us ws:List Value},Vals xs us->Vals ys ws->Vals (xs++ys) (us++ws)
 |_,_,_,_,.nil,s=>s
 |_,_,_,_,.cons r t,s=>.cons r (Vals.append t s)
theorem Vals.take:∀{xs:List V} {us:List Value} (n:Nat),Vals xs us->Vals (xs.take n) (us.take n)
 |_,_,0,_=>.nil
 |_,_,_+1,.nil=>.nil
 |_,_,n+1,.cons r t=>.cons r (Vals.take n t)
theorem Vals.drop:∀{xs:List V} {us:List Value} (n:Nat),Vals xs us->Vals (xs.drop n) (us.drop n)
 |_,_,0,r=>r
 |_,_,_+1,.nil=>.nil
 |_,_,n+1,.cons _ t=>Vals.drop n t
def uq:Option V->Option Value->Prop
 |some v,some u=>RelV v u
 |none,none=>True
 |_,_=>False
def KV:List (κ×V)->List (κ×Value)->Prop:=Paired λ(p:κ×V) (q:κ×Value)=>p.1=q.1/\RelV p.2 q.2
def kV:jx->V
 |.inl i=>.int i
 |.inr x=>.str x
inductive HO where
 |lst (xs:List V)
 |tup (xs:List V)
 |dK (kvs:List (jx×V))|dT (kvs:List (List jx×V))
 |set (S:Int->Bool) (n:Nat)
 |ins (C dx:Addr) (fs:List (Str×V))
 |own (x:Addr)
 |xd (fs:List (Str×V))
 |met (f x:Addr)
 |rng (lo hi:Int)
 |frz (o:Obj) (u:HO)
 |tbl (ps:Array Value)
 |ext (φ:Heap->Prop)
abbrev Hp:=Addr->Option HO
variable{H H':Hp}
def upd(H:Hp)(a:Addr)(o:HO):Hp:=λb=>if b=a then some o else H b
theorem aP{o:HO}:upd H a o a=some o:=by unfold upd;rw[if_pos rfl]
theorem aI{o:HO}(h:b≠a):upd H a o b=H b:=by unfold upd;rw[if_neg h]
theorem df{o:HO}(h:H a=some o)(h':H b=none):a≠b:=by
 intro e;subst e;rw[h] at h';cases h'
section
variable(P:Program)(w:World)
def ObjOk(H:Hp)(h:Heap)(a:Addr):HO->Prop
 |.lst xs=>xs.length<=sizeLine/\∃(its:List Value) (n:Nat),Vals xs its/\h.get? a=some { cls:=.type "list",data:=.seq its.toArray n }
 |.tup xs=>xs.length<=sizeLine/\∃its:List Value,Vals xs its/\IsTup h a its.toArray
 |.dK kvs=>kvs.length<=sizeLine/\(a==sysModules)=false/\∃vs,KV kvs vs/\h.DictOf (iq P w) a vs
 |.dT kvs=>kvs.length<=sizeLine/\(a==sysModules)=false/\∃xs:List (List jx×Addr×Value),
   Paired (λ(p:List jx×V) (q:List jx×Addr×Value)=>p.1=q.1/\H q.2.1=some (.tup (p.1.map kV))/\RelV p.2 q.2.2) kvs xs/\
   ∃o es ep,h.get? a=some o/\o.ExactDict/\o.data=.dict es ep/\es.toList=xs.map (entryOfKey (tupleKind (iq P w)))/\(xs.map (·.1)).Nodup
 |.set S n=>h.SetOf (intKind P w) a S n
 |.ins C dx fs=>H dx=some (.own a)/\fs.length<=1000/\dx≠a/\h.get? a=some (PySem.W.instObj C dx)/\
   ∃mA,h.Ns1 dx mA/\(∀f,uq (fs.lookup f) (mA f))/\PySem.Within mA (fs.map (·.1))
 |.own _=>∃o,h.get? a=some o
 |.xd fs=>∃mA,h.Ns1 a mA/\∀f,uq (fs.lookup f) (mA f)
 |.rng lo hi=>∃t u v,h.get? a=some { cls:=.type "range",data:=.fields #[.int lo t,.int hi u,.int 1 v] }
 |.frz o u=>h.get? a=some o/\ObjOk H h a u
 |.tbl ps=>h.get? a=some { cls:=.none,data:=.fields ps }
 |.met f x=>h.get? a=some (PySem.W.methodObj (.ref f) (.ref x))
 |.ext φ=>φ h/\(∃o,h.get? a=some o)/\∀h1 h2:Heap,φ h1->(∀o,h1.get? a=some o->h2.get? a=some o)->φ h2
def HOk(H:Hp)(h:Heap):Prop:=∀a o,H a=some o->ObjOk P w H h a o
end
section
variable{o:HO}
theorem ObjOk.lt(x:ObjOk P w H h a o):a<h.objs.size:=by
 cases o with
 |lst xs=>obtain⟨_,_,_,_,e⟩:=x;exact du e
 |tup xs=>obtain⟨_,_,_,p⟩:=x;exact p.lt
 |dK kvs=>obtain⟨_,_,_,_,o,_,_,e,_⟩:=x;exact du e
 |dT kvs=>obtain⟨_,_,_,_,o,_,_,e,_⟩:=x;exact du e
 |set S n=>obtain⟨o,_,_,_,e,_⟩:=x;exact du e
 |ins C dx fs=>obtain⟨_,_,_,e,_⟩:=x;exact du e
 |own y=>obtain⟨_,e⟩:=x;exact du e
 |xd fs=>obtain⟨_,⟨_,_,_,e,_⟩,_⟩:=x;exact du e
 |rng lo hi=>obtain⟨_,_,_,e⟩:=x;exact du e
 |frz ob u=>obtain⟨e,_⟩:=x;exact du e
 |tbl ps=>exact du (show h.get? a=some _ from x)
 |met f y=>exact du (show h.get? a=some _ from x)
 |ext φ=>obtain⟨_,⟨_,e⟩,_⟩:=x;exact du e
theorem Paired.mapP{α β:Type}{F G:α->β->Prop}:∀{l₁:List α} {l₂:List β},Paired F l₁ l₂->(∀a b,F a b->G a b)->Paired G l₁ l₂
 |_,_,.nil,_=>.nil
 |_,_,.cons r t,f=>.cons (f _ _ r) (Paired.mapP t f)
theorem ObjOk.stay(x:ObjOk P w H h a o)(k:∀b u,(b=a\/H b=some (.own a))->h.get? b=some u->h'.get? b=some u)
  (ho:∀b,H b=some (.own a)->H' b=some (.own a)) (ht:∀b xs,H b=some (.tup xs)->H' b=some (.tup xs)):ObjOk P w H' h' a o:=by
 induction o with
 |lst xs=>obtain⟨z,its,n,r,e⟩:=x;exact⟨z,its,n,r,k _ _ (.inl rfl) e⟩
 |tup xs=>obtain⟨z,its,r,ob,e,c⟩:=x;exact⟨z,its,r,ob,k _ _ (.inl rfl) e,c⟩
 |dK kvs=>obtain⟨z,y,vs,r,ob,es,ep,e,c⟩:=x;exact⟨z,y,vs,r,ob,es,ep,k _ _ (.inl rfl) e,c⟩
 |dT kvs=>
  obtain⟨z,y,xs,r,ob,es,ep,e,c⟩:=x;exact⟨z,y,xs,Paired.mapP r λp q z=>⟨z.1,ht _ _ z.2.1,z.2.2⟩,ob,es,ep,k _ _ (.inl rfl) e,c⟩
 |set S n=>obtain⟨ob,es,ep,t,e,c⟩:=x;exact⟨ob,es,ep,t,k _ _ (.inl rfl) e,c⟩
 |ins C dx fs=>
  obtain⟨d,z,ne,e,mA,⟨od,es,ep,e2,c⟩,r⟩:=x;exact⟨ho _ d,z,ne,k _ _ (.inl rfl) e,mA,⟨od,es,ep,k _ _ (.inr d) e2,c⟩,r⟩
 |own y=>obtain⟨ob,e⟩:=x;exact⟨ob,k _ _ (.inl rfl) e⟩
 |xd fs=>obtain⟨mA,⟨od,es,ep,e,c⟩,r⟩:=x;exact⟨mA,⟨od,es,ep,k _ _ (.inl rfl) e,c⟩,r⟩
 |rng lo hi=>obtain⟨t,u,v,e⟩:=x;exact⟨t,u,v,k _ _ (.inl rfl) e⟩
 |frz ob u ih=>obtain⟨e,q⟩:=x;exact⟨k _ _ (.inl rfl) e,ih q⟩
 |tbl ps=>
  have e:h.get? a=some { cls:=.none,data:=.fields ps }:=x;show h'.get? a=some { cls:=.none,data:=.fields ps };exact k a _ (.inl rfl) e
 |met f y=>
  have e:h.get? a=some (PySem.W.methodObj (.ref f) (.ref y)):=x;show h'.get? a=some (PySem.W.methodObj (.ref f) (.ref y));exact k a _ (.inl rfl) e
 |ext φ=>obtain⟨p,⟨o,e⟩,st⟩:=x;exact⟨st _ _ p λo q=>k _ _ (.inl rfl) q,⟨o,k _ _ (.inl rfl) e⟩,st⟩
theorem HOk.lt(x:HOk P w H h)(e:H a=some o):a<h.objs.size:=(x a o e).lt
theorem HOk.fresh(x:HOk P w H h)(e:h.objs.size<=a):H a=none:=by
 cases q:H a with
 |none=>rfl
 |some u=>exact Nq (de (x.lt q) e) (gQ _)
theorem HOk.kept(x:HOk P w H h)(k:∀b u,h.get? b=some u->h'.get? b=some u):HOk P w H h':=λa o e=>
 (x a o e).stay (λb u _ q=>k b u q) (λ_ q=>q) λ_ _ q=>q
theorem HOk.laid(x:HOk P w H h)(k:∀b u,h.get? b=some u->h'.get? b=some u)(hp:h.objs.size<=a)(new:ObjOk P w (upd H a o) h' a o):HOk P w (upd H a o) h':=λb u e=>by
 have hn:=x.fresh hp
 by_cases hb:b=a
 .subst hb;rw[aP] at e;cases e;exact new
 .rw[aI hb] at e
  exact(x b u e).stay (λc v _ q=>k c v q) (λc q=>by rw[aI (df q hn)];exact q) λc xs q=>by rw[aI (df q hn)];exact q
end
def Rd(H:Hp)(a:Addr)(u:HO):Prop:=H a=some u\/∃o,H a=some (.frz o u)
theorem Rd.of{u:HO}(h:H a=some u):Rd H a u:=.inl h
theorem Rd.ok{u:HO}(r:Rd H a u)(x:HOk P w H h):ObjOk P w H h a u:=by
 rcases r with r|⟨o,r⟩
 .exact x a u r
 .obtain⟨_,q⟩:=x a _ r
  exact q
def xA:Option HO->Prop
 |some (.lst _)=>True
 |some (.dK _)=>True
 |some (.dT _)=>True
 |some (.set _ _)=>True
 |some (.ins _ _ _)=>True
 |some (.ext _)=>True
 |_=>False
section
variable{x e:Addr}{o':HO}
theorem HOk.write(ok:HOk P w H h)(mu:xA (H x))(he:e=x\/H e=some (.own x))(k:∀b u,b≠e->h.get? b=some u->h'.get? b=some u)(heo:∃u,h'.get? e=some u)
  (new:ObjOk P w (upd H x o') h' x o'):HOk P w (upd H x o') h':=λb u q=>by
 have nown:∀c y,H c=some (.own y)->c≠x:=λc y r z=>by subst z;rw[r] at mu;exact mu
 have ntup:∀c xs,H c=some (.tup xs)->c≠x:=λc xs r z=>by subst z;rw[r] at mu;exact mu
 by_cases hb:b=x
 .subst hb;rw[aP] at q;cases q;exact new
 .rw[aI hb] at q
  by_cases hbe:b=e
  .have q':H b=some (.own x):=by
    rcases he with z|z
    .exact Nq (hbe.trans z) hb
    .rw[hbe];exact z
   rw[q] at q';cases q';obtain⟨v,hv⟩:=heo;exact⟨v,by rw[hbe];exact hv⟩
  .refine(ok b u q).stay (λc v hc r=>k c v ?_ r) (λc r=>by rw[aI (nown c b r)];exact r) λc xs r=>by rw[aI (ntup c xs r)];exact r
   rcases hc with rfl|hc
   .exact hbe
   .rintro rfl
    rcases he with z|z
    .exact nown c b hc z
    .rw[hc] at z;cases z;exact hb rfl
end
structure Un(fs ex:List Addr)(H H':Hp)(h h':Heap):Prop where
 keep:∀b o,h.get? b=some o->H b=none->b∉fs->b∉ex->h'.get? b=some o
 slot:∀b o,h.get? b=some o->H b=none->b∈fs->b∉ex->∃sl,h'.get? b=some { o with slots:=sl }
 free:∀b o,h.get? b=some o->H b=none->b∉ex->H' b=none
 there:∀b o,h.get? b=some o->b∉ex->∃o',h'.get? b=some o'
 tups:∀b xs,H b=some (.tup xs)->H' b=some (.tup xs)
 frzs:∀b o u,H b=some (.frz o u)->H' b=some (.frz o u)
 tbls:∀b ps,H b=some (.tbl ps)->∃more,H' b=some (.tbl (ps++more))
 sys:mainGlobals∉ex->(∃o,h.get? mainGlobals=some o)->(∀xs,H sysModules≠some (.lst xs))->∀xs,H' sysModules≠some (.lst xs)
section
variable{fs fs' ex ex':List Addr}{H1 H2:Hp}{h1 h2:Heap}{x e:Addr}{o:HO}
theorem Un.any(u:Un fs ex H H1 h h1){ob:Obj}(q:h.get? b=some ob)(n:H b=none)(hx:b∉ex):∃sl,h1.get? b=some { ob with slots:=sl }:=by
 by_cases hb:b∈fs
 .exact u.slot b ob q n hb hx
 .exact⟨ob.slots,u.keep b ob q n hb hx⟩
theorem Un.trans(a:Un fs ex H H1 h h1)(b:Un fs ex H1 H2 h1 h2):Un fs ex H H2 h h2 where
 keep:=λc ob q n hc hx=>b.keep c ob (a.keep c ob q n hc hx) (a.free c ob q n hx) hc hx
 slot:=λc ob q n hc hx=>by
  obtain⟨sl,e1⟩:=a.slot c ob q n hc hx;obtain⟨sl',e2⟩:=b.slot c _ e1 (a.free c ob q n hx) hc hx;exact⟨sl',e2⟩
 free:=λc ob q n hx=>by
  obtain⟨o',e1⟩:=a.there c ob q hx;exact b.free c o' e1 (a.free c ob q n hx) hx
 there:=λc ob q hx=>by
  obtain⟨o',e1⟩:=a.there c ob q hx;exact b.there c o' e1 hx
 tups:=λc xs q=>b.tups c xs (a.tups c xs q)
 frzs:=λc ob xs q=>b.frzs c ob xs (a.frzs c ob xs q)
 tbls:=λc ps q=>by
  obtain⟨m1,e1⟩:=a.tbls c ps q;obtain⟨m2,e2⟩:=b.tbls c _ e1;exact⟨m1++m2,by rw[e2,zP]⟩
 sys:=λhx ⟨o,e⟩ n=>b.sys hx (a.there _ o e hx) (a.sys hx ⟨o,e⟩ n)
theorem Un.kept(k:∀b u,h.get? b=some u->h'.get? b=some u):Un fs ex H H h h':=
 ⟨λb ob q _ _ _=>k b ob q,λb ob q _ _ _=>⟨ob.slots,k b ob q⟩,λ_ _ _ n _=>n,λb ob q _=>⟨ob,k b ob q⟩,λ_ _ q=>q,λ_ _ _ q=>q,λ_ ps q=>⟨#[],by rw[q];simp⟩,λ_ _ n=>n⟩
theorem Un.refl:Un fs ex H H h h:=Un.kept λ_ _ q=>q
theorem Un.laid(k:∀b u,h.get? b=some u->h'.get? b=some u)(hp:h.objs.size<=a)(hn:H a=none):Un fs ex H (upd H a o) h h' where
 keep:=λb u q _ _ _=>k b u q
 slot:=λb u q _ _ _=>⟨u.slots,k b u q⟩
 free:=λb u q n _=>by rw[aI (hZ (de (du q) hp))];exact n
 there:=λb u q _=>⟨u,k b u q⟩
 tups:=λb xs q=>by rw[aI (df q hn)];exact q
 frzs:=λb u xs q=>by rw[aI (df q hn)];exact q
 tbls:=λb ps q=>⟨#[],by rw[aI (df q hn),q];simp⟩
 sys:=λ_ ⟨_,q⟩ n=>by rw[aI (hZ (de (wW (by decide) (du q)) hp))];exact n
theorem Un.write(mu:xA (H x))(he:e=x\/H e=some (.own x))(k:∀b u,b≠e->h.get? b=some u->h'.get? b=some u)(heo:∃u,h'.get? e=some u)(hk:(∃us,H x=some (.lst us))\/∀us,o≠.lst us):Un fs ex H (upd H x o) h h':=by
 have hx:∀b,H b=none->b≠x:=λb n z=>by subst z;rw[n] at mu;exact mu
 have hb:∀b,H b=none->b≠e:=λb n z=>by
  subst z;rcases he with r|r
  .exact hx b n r
  .rw[n] at r;cases r
 have hm:∀b u,H b=some u->¬xA (some u)->b≠x:=λb u q nm z=>by subst z;rw[q] at mu;exact nm mu
 refine ⟨λb u q n _ _=>k b u (hb b n) q,λb u q n _ _=>⟨u.slots,k b u (hb b n) q⟩,λb u q n _=>by rw [aI (hx b n)];exact n,λb u q _=>?_,
  λb xs q=>by rw[aI (hm b _ q λz=>z)];exact q,λb u xs q=>by rw[aI (hm b _ q λz=>z)];exact q,λb ps q=>⟨#[],by rw[aI (hm b _ q λz=>z),q];simp⟩,λ_ _ n ys=>by
   by_cases z:sysModules=x
   .rw[z,aP]
    rcases hk with⟨us,hk⟩|hk
    .exact Nq (z▸hk) (n us)
    .exact λy=>hk ys (Nv y)
   .rw[aI z];exact n ys⟩
 by_cases hbe:b=e
 .subst hbe;exact heo
 .exact⟨u,k b u hbe q⟩
theorem Un.mono(u:Un fs ex H H1 h h1)(hs:∀b∈fs,b∈fs')(hx:∀b∈ex,b∈ex'):Un fs' ex' H H1 h h1:=
 ⟨λb ob q n hb he=>u.keep b ob q n (λz=>hb (hs b z)) λz=>he (hx b z),λ_ _ q n _ he=>u.any q n λz=>he (hx _ z),λb ob q n he=>u.free b ob q n λz=>he (hx b z),λb ob q he=>u.there b ob q λz=>he (hx b z),u.tups,u.frzs,u.tbls,λhe=>u.sys λz=>he (hx _ z)⟩
end
def xB(h:Heap)(H:Hp):List Addr:=(List.range h.objs.size).filter λa=>(H a).isSome
def iu(h:Heap)(H:Hp):Heap:=PySem.W.hideAll h (xB h H)
theorem kL(h:Heap)(H:Hp):(iu h H).objs.size=h.objs.size:=PySem.W.hideAll_size _ _
theorem nh(e:h.get? b=some o)(n:H b=none):(iu h H).get? b=some o:=
 PySem.W.hideAll_get _ e λhm=>by
  have q:(H b).isSome=true:=(Yag.mp hm).2;rw[n] at q;simp at q
theorem pk(e:(iu h H).get? b=some o):h.get? b=some o/\H b=none:=by
 have e':h.get? b=some o:=PySem.W.of_hideAll (xB h H) e;refine⟨e',?_⟩;cases q:H b with
 |none=>rfl
 |some x=>
  have hm:b∈xB h H:=Yag.mpr ⟨Yah.mpr (du e'),by simp[q]⟩;have z:(iu h H).get? b=none:=PySem.W.hideAll_none (xB h H) hm;rw[z] at e;cases e
def pp(g h:Heap)(L:Addr):List (Addr×Obj):=(List.range h.objs.size).filterMap λa=>if a=L\/(g.get? a).isSome=true then none else(h.get? a).map λo=>(a,o)
def rest(g h:Heap)(L d:Addr):List (Addr×Obj):=(pp g h L).filter λp=>decide (p.1≠d)
structure Mod(K:Nn)(mg:Str->Option Value)(base:Heap):Prop where
 kin:K.In base
 glob:base.Ns mainGlobals mg
 blt:∃mb,base.Ns builtinsNs mb/\∀x:Str,x≠ "__name__" ->mb x=bootBuiltins x
 nolimit:base.NoLimit
structure Cx where
 prog:Program
 w:World
 K:Nn
 mg:Str->Option Value
 base:Heap
 A:Around
 N:List Str
 s₀:Shared
 H₀:Hp
 env:Env
 outer:List Env
 stack:List Env
 ex:List Addr
 fn:Str->Bool
 calm:Bool
 pn:List (Addr×Obj)
 xe:Value->Shared->Prop
variable{X:Cx}
def dn(l:List Env):List Addr:=l.filterMap (·.frame)
abbrev Cx.fs(X:Cx):List Addr:=dn X.outer
def pq(sc:Scope)(x:Str):Prop:=sc.names.lookup x=some .local\/sc.names.lookup x=some .cell\/sc.names.lookup x=some .free
def oJ(sc:Scope)(x:Str):Prop:=sc.names.lookup x=some .local\/sc.names.lookup x=some .cell
def Ah(env:Env)(h:Heap)(m:Str->Option Value)(x:Str)(u:Value):Prop:=
 (env.kindOf x=some .local/\m x=some u)\/((env.kindOf x=some .cell\/env.kindOf x=some .free)/\∃c,env.cells.lookup x=some c/\h.IsCell c (some u))
structure Cx.Ok(X:Cx):Prop where
 mod:Mod X.K X.mg X.base
 kind:X.env.scope.kind=.function
 glob:X.env.globals=mainGlobals
 blt:X.env.builtins=builtinsNs
 above:X.s₀.heap.objs.size<=X.env.locals
 inj:∀x y c,X.env.cells.lookup x=some c->X.env.cells.lookup y=some c->x=y
 has:∀x,(X.env.kindOf x=some .cell\/X.env.kindOf x=some .free)->∃c,X.env.cells.lookup x=some c
 cab:∀x c,X.fn x=true->X.env.cells.lookup x=some c->X.s₀.heap.objs.size<=c
 hd:X.calm=true->X.A.handled=none
 frames:X.A.frames=some X.stack
 stk:X.stack=X.outer\/(X.stack=X.env::X.outer/\X.env.frame=some X.env.locals)
 exf:∀b∈X.ex,b≠X.env.locals/\∀x c,X.env.cells.lookup x=some c->c≠b
 bs:∀b o,X.base.get? b=some o->X.s₀.heap.get? b=some o/\X.H₀ b=none
 bsz:X.base.objs.size<=X.s₀.heap.objs.size
 noex:∀b o,X.base.get? b=some o->b∉X.ex
 exfs:∀b∈X.ex,b∉X.fs
 funs:X.s₀.heap.FunFrames X.base X.outer
 frf:∀b∈X.fs,X.H₀ b=none
 sys0:∀xs,X.H₀ sysModules≠some (.lst xs)
structure Inv(X:Cx)(pins:List (Addr×Obj))(σ:List (Option V))(H:Hp)(s:Shared):Prop where
 ok:X.Ok
 os:s.os=X.s₀.os
 bare:AllBare s.gens
 base:Un X.fs X.ex X.H₀ H X.s₀.heap s.heap
 loc:∃m,s.heap.Ns X.env.locals m/\∀(i:Nat) (x:Str) (v:V),X.N[i]? = some x->σ[i]? = some (some v)->pq X.env.scope x->∃u,RelV v u/\Ah X.env s.heap m x u
 cell:∀x c,X.env.cells.lookup x=some c->∃v,s.heap.IsCell c v
 free:H X.env.locals=none
 freeC:∀x c,X.env.cells.lookup x=some c->H c=none
 pin:∀p∈X.pn++pins,s.heap.get? p.1=some p.2/\H p.1=none/\p.1≠X.env.locals/\p.1∉X.fs/\∀v,p.2.data≠.cell v
 hok:HOk X.prog X.w H s.heap
 len:σ.length=X.N.length
section
variable{σ:List (Option V)}
theorem Cx.Ok.nofr(ok:X.Ok)(e:X.base.get? b=some o):b∉X.fs:=λhb=>by
 have:=(ok.funs.mem hb).1;rw[e] at this;cases this
theorem Inv.bs(I:Inv X pins σ H s):∀b o,X.base.get? b=some o->s.heap.get? b=some o/\H b=none:=λb o e=>
 ⟨I.base.keep b o (I.ok.bs b o e).1 (I.ok.bs b o e).2 (I.ok.nofr e) (I.ok.noex b o e),I.base.free b o (I.ok.bs b o e).1 (I.ok.bs b o e).2 (I.ok.noex b o e)⟩
theorem Inv.bk(I:Inv X pins σ H s):∀b o,X.base.get? b=some o->s.heap.get? b=some o:=λb o e=>(I.bs b o e).1
theorem Inv.mod(I:Inv X pins σ H s):Mod X.K X.mg X.base:=I.ok.mod
theorem Inv.hasG(I:Inv X pins σ H s):∃o,s.heap.get? mainGlobals=some o:=by
 obtain⟨o,_,_,e,_⟩:=I.ok.mod.glob;exact⟨o,I.bk _ _ e⟩
theorem Inv.sysn(I:Inv X pins σ H s):∀xs,H sysModules≠some (.lst xs):=by
 obtain⟨o,_,_,e,_⟩:=I.ok.mod.glob;exact I.base.sys (I.ok.noex _ _ e) ⟨o,(I.ok.bs _ _ e).1⟩ I.ok.sys0
theorem Inv.kIn(I:Inv X pins σ H s):X.K.In s.heap:=I.ok.mod.kin.keeps I.bk
theorem Inv.fr(I:Inv X pins σ H s):∃m,Fr X.base X.env.locals s.heap m:=
 let⟨m,hn,_⟩:=I.loc
 ⟨m,hn,I.bk,fQ I.ok.bsz I.ok.above⟩
theorem Inv.lt(I:Inv X pins σ H s):X.env.locals<s.heap.objs.size:=let⟨_,hn,_⟩:=I.loc;hn.lt
theorem Inv.sz(I:Inv X pins σ H s):X.s₀.heap.objs.size<=s.heap.objs.size:=fQ I.ok.above (ge I.lt)
theorem Inv.nofs(I:Inv X pins σ H s)(h:s.heap.objs.size<=a):a∉X.fs:=λhb=>by
 obtain⟨_,o,ho,_⟩:=I.ok.funs.mem hb;exact Nq (de (du ho) (fQ I.sz h)) (gQ _)
theorem Inv.cne(I:Inv X pins σ H s):∀x c,X.env.cells.lookup x=some c->c≠X.env.locals:=λx c e z=>by
 obtain⟨v,o,ho,hd⟩:=I.cell x c e;obtain⟨m,⟨o',es,ep,ho',hd',_⟩,_⟩:=I.loc;rw[z,ho'] at ho;cases ho;rw[hd'] at hd;cases hd
theorem Inv.funs(I:Inv X pins σ H s):s.heap.FunFrames X.base X.outer:=by
 have all:∀(l:List Env),(∀b∈dn l,b∈X.fs)->X.s₀.heap.FunFrames X.base l->s.heap.FunFrames X.base l:=by
  intro l
  induction l with
  |nil=>intro _ _;trivial
  |cons env r ih=>
   intro hs hl;obtain⟨hk,⟨L,o,hf,hn,ho,hd⟩,hr⟩:=hl;have hL:L∈X.fs:=hs L (by unfold dn;rw[wX,hf];exact ju);obtain⟨sl,e⟩:=I.base.slot L o ho (I.ok.frf L hL) hL λz=>I.ok.exfs L z hL;exact⟨hk,⟨L,_,hf,hn,e,hd⟩,ih (λb hb=>hs b (by unfold dn;rw[wX,hf];exact gR _ hb)) hr⟩
 exact all X.outer (λ_ hb=>hb) I.ok.funs
theorem Inv.stack(I:Inv X pins σ H s):s.heap.FunFrames X.base X.stack:=by
 rcases I.ok.stk with e|⟨e,hf⟩
 .rw[e];exact I.funs
 .rw[e]
  obtain⟨m,hn,_⟩:=I.loc;refine .cons (by rw[I.ok.kind];decide) hf hn ?_ I.funs;exact Heap.get?_none_of_le (fQ I.ok.bsz I.ok.above)
theorem Inv.stkSub(I:Inv X pins σ H s):∀b∈dn X.stack,b∈X.env.locals::X.fs:=λb hb=>by
 rcases I.ok.stk with e|⟨e,hf⟩
 .rw[e] at hb;exact gR _ hb
 .rw[e] at hb
  unfold dn at hb;rw[wX,hf] at hb;exact hb
theorem Inv.stkFree(I:Inv X pins σ H s):∀b∈dn X.stack,H b=none:=λb hb=>by
 rcases Yan.mp (I.stkSub b hb) with e|hb
 .rw[e];exact I.free
 .obtain⟨_,o,ho,_⟩:=I.ok.funs.mem hb
  exact I.base.free b o ho (I.ok.frf b hb) λz=>I.ok.exfs b z hb
theorem Inv.step(I:Inv X pins σ H s)
  (hch:∀b∈ch,(b∈X.ex\/X.s₀.heap.objs.size<=b)/\b≠X.env.locals/\(∀x c,X.env.cells.lookup x=some c->c≠b)/\∀p∈X.pn++pins,p.1≠b)
  (keep:∀b o,b≠X.env.locals->b∉X.fs->b∉ch->s.heap.get? b=some o->H b=none->h'.get? b=some o)
  (slot:∀b o,b≠X.env.locals->b∈X.fs->b∉ch->s.heap.get? b=some o->H b=none->∃sl,h'.get? b=some { o with slots:=sl }) (free:∀b o,b∉ch->s.heap.get? b=some o->H b=none->H' b=none)
  (there:∀b o,b∉ch->s.heap.get? b=some o->∃o',h'.get? b=some o')
  (tups:∀b xs,H b=some (.tup xs)->H' b=some (.tup xs)) (frzs:∀b o u,H b=some (.frz o u)->H' b=some (.frz o u)) (tbls:∀b ps,H b=some (.tbl ps)->∃more,H' b=some (.tbl (ps++more)))
  (ns:∀m,s.heap.Ns X.env.locals m->h'.Ns X.env.locals m) (hok:HOk X.prog X.w H' h') (hg:AllBare g') (sy:(∀xs,H sysModules≠some (.lst xs))->∀xs,H' sysModules≠some (.lst xs)) :
  Inv X pins σ H' { s with heap:=h',gens:=g',drawn:=d',toks:=t' }:=by
 have neL:∀b o,X.s₀.heap.get? b=some o->b≠X.env.locals:=λb o e=>hZ (de (du e) I.ok.above);have neC:∀b o,X.s₀.heap.get? b=some o->b∉X.ex->b∉ch:=λb o e hx hb=>by
  rcases(hch b hb).1 with z|z
  .exact hx z
  .exact Nq (de (du e) z) (gQ _)
 have cellK:∀x c,X.env.cells.lookup x=some c->∀v,s.heap.IsCell c v->h'.IsCell c v:=λx c e v ⟨o,ho,hd⟩=>by
  have nch:c∉ch:=λz=>(hch c z).2.2.1 x c e rfl
  by_cases hc:c∈X.fs
  .obtain⟨sl,q⟩:=slot c o (I.cne x c e) hc nch ho (I.freeC x c e)
   exact⟨_,q,hd⟩
  .exact⟨o,keep c o (I.cne x c e) hc nch ho (I.freeC x c e),hd⟩
 refine⟨I.ok,I.os,hg,⟨λb o e n hb hx=>?_,λb o e n hb hx=>?_,λb o e n hx=>?_,λb o e hx=>?_,λb xs e=>tups b xs (I.base.tups b xs e),λb o xs e=>frzs b o xs (I.base.frzs b o xs e),λb ps e=>?_,λx0 e0 n=>sy (I.base.sys x0 e0 n)⟩,?_,λx c e=>?_,?_,λx c e=>?_,λp hp=>?_,hok,I.len⟩
 .exact keep b o (neL b o e) hb (neC b o e hx) (I.base.keep b o e n hb hx) (I.base.free b o e n hx)
 .obtain⟨sl,e1⟩:=I.base.slot b o e n hb hx
  obtain⟨sl',e2⟩:=slot b _ (neL b o e) hb (neC b o e hx) e1 (I.base.free b o e n hx);exact⟨sl',e2⟩
 .obtain⟨o',e1⟩:=I.base.there b o e hx
  exact free b o' (neC b o e hx) e1 (I.base.free b o e n hx)
 .obtain⟨o',e1⟩:=I.base.there b o e hx
  exact there b o' (neC b o e hx) e1
 .obtain⟨m1,e1⟩:=I.base.tbls b ps e
  obtain⟨m2,e2⟩:=tbls b _ e1;exact⟨m1++m2,by rw[e2,zP]⟩
 .obtain⟨m,hn,hl⟩:=I.loc
  refine⟨m,ns m hn,λi x v e1 e2 e3=>?_⟩;obtain⟨u,r,l⟩:=hl i x v e1 e2 e3;refine⟨u,r,?_⟩;rcases l with l|⟨k,c,e,z⟩
  .exact .inl l
  .exact .inr ⟨k,c,e,cellK x c e _ z⟩
 .obtain⟨v,z⟩:=I.cell x c e
  exact⟨v,cellK x c e v z⟩
 .obtain⟨m,⟨o,_,_,ho,_⟩,_⟩:=I.loc
  exact free _ o (λz=>(hch _ z).2.1 rfl) ho I.free
 .obtain⟨v,o,ho,hd⟩:=I.cell x c e
  exact free c o (λz=>(hch c z).2.2.1 x c e rfl) ho (I.freeC x c e)
 .obtain⟨e,n,ne,nf,d⟩:=I.pin p hp
  have nch:p.1∉ch:=λz=>(hch p.1 z).2.2.2 p hp rfl;exact⟨keep p.1 p.2 ne nf nch e n,free p.1 p.2 nch e n,ne,nf,d⟩
theorem Inv.un(I:Inv X pins σ H s)(u:Un X.fs [] H H' s.heap h')(hok:HOk X.prog X.w H' h'):Inv X pins σ H' { s with heap:=h',toks:=t' }:=by
 obtain⟨m,⟨o,es,ep,ho,r⟩,_⟩:=id I.loc;obtain⟨sl,hL⟩:=u.any ho I.free (by simp);exact I.step (g':=s.gens) (d':=s.drawn) (ch:=[]) (λ_ z=>nomatch z) (λb o _ hb _ e n=>u.keep b o e n hb (by simp)) (λb o _ hb _ e n=>u.slot b o e n hb (by simp)) (λb o _ e n=>u.free b o e n (by simp)) (λb o _ e=>u.there b o e (by simp)) u.tups u.frzs u.tbls (λm' hm=>by
  obtain⟨o',es',ep',ho',r'⟩:=hm;rw[ho] at ho';cases ho';exact⟨_,es',ep',hL,r'⟩) hok I.bare (u.sys (by simp) I.hasG)
theorem Inv.call(I:Inv X pins σ H s)(u:Un (dn X.stack) ch H H' s.heap h')(hok:HOk X.prog X.w H' h')(hg:AllBare g')
  (hch:∀b∈ch,(b∈X.ex\/X.s₀.heap.objs.size<=b)/\b≠X.env.locals/\(∀x c,X.env.cells.lookup x=some c->c≠b)/\∀p∈X.pn++pins,p.1≠b) :
  Inv X pins σ H' { s with heap:=h',gens:=g',drawn:=d',toks:=t' }:=by
 obtain⟨m,⟨o,es,ep,ho,r⟩,_⟩:=id I.loc;obtain⟨sl,hL⟩:=u.any ho I.free λz=>(hch _ z).2.1 rfl;exact I.step (ch:=ch) hch (λb o hL hb hc e n=>u.keep b o e n (λz=>(Yan.mp (I.stkSub b z)).elim hL hb) hc) (λb o _ _ hc e n=>u.any e n hc) (λb o hc e n=>u.free b o e n hc) (λb o hc e=>u.there b o e hc) u.tups u.frzs u.tbls (λm' hm=>by
  obtain⟨o',es',ep',ho',r'⟩:=hm;rw[ho] at ho';cases ho';exact ⟨_,es',ep',hL,r'⟩) hok hg (u.sys (λz=>by
   obtain⟨o0,_,_,e0,_⟩:=I.ok.mod.glob;rcases(hch _ z).1 with y|y
   .exact I.ok.noex _ _ e0 y
   .exact Nq (de (du (I.ok.bs _ _ e0).1) y) (gQ _)) I.hasG)
theorem Inv.turned(I:Inv X pins σ H s)(k:∀b o,b≠it->s.heap.get? b=some o->h'.get? b=some o)(hn:H it=none)(hL:it≠X.env.locals)
  (h1:it∈X.ex\/X.s₀.heap.objs.size<=it) (h2:∀x c,X.env.cells.lookup x=some c->c≠it) (h3:∀p∈X.pn++pins,p.1≠it):Inv X pins σ H { s with heap:=h',toks:=t' }:=by
 have nit:∀b u,H b=some u->b≠it:=λb u e z=>by rw[z,hn] at e;cases e
 refine I.step (g':=s.gens) (d':=s.drawn) (ch:=[it]) (λb hb=>?_) (λb o _ _ hc e _=>k b o (λz=>hc (by simp[z])) e) (λb o _ _ hc e _=>⟨o.slots,k b o (λz=>hc (by simp[z])) e⟩) (λ_ _ _ _ n=>n)
  (λb o hc e=>⟨o,k b o (λz=>hc (by simp[z])) e⟩) (λ_ _ e=>e) (λ_ _ _ e=>e) (λb ps e=>⟨#[],by rw[e];simp⟩) (λm hm=>?_) (λb u e=>?_) I.bare (λn=>n)
 .have e:b=it:=by simpa using hb
  subst e;exact⟨h1,hL,h2,h3⟩
 .obtain⟨o,es,ep,ho,r⟩:=hm
  exact⟨o,es,ep,k _ o (NB hL) ho,r⟩
 .refine(I.hok b u e).stay (λc v hc q=>k c v ?_ q) (λ_ q=>q) λ_ _ q=>q
  rcases hc with z|z
  .rw[z];exact nit b u e
  .exact nit c _ z
theorem Inv.tok(I:Inv X pins σ H s)(t:Nat):Inv X pins σ H { s with toks:=t }:=I.un (h':=s.heap) (t':=t) Un.refl I.hok
theorem Inv.kept{t':Nat}(I:Inv X pins σ H s)(k:∀b u,s.heap.get? b=some u->h'.get? b=some u):Inv X pins σ H { s with heap:=h',toks:=t' }:=I.un (Un.kept k) (I.hok.kept k)
theorem Inv.laid{a:Addr}{o:HO}{t':Nat}(I:Inv X pins σ H s)(k:∀b u,s.heap.get? b=some u->h'.get? b=some u)(hp:s.heap.objs.size<=a)(new:ObjOk X.prog X.w (upd H a o) h' a o) :
  Inv X pins σ (upd H a o) { s with heap:=h',toks:=t' }:=I.un (Un.laid k hp (I.hok.fresh hp)) (I.hok.laid k hp new)
theorem Inv.write{x e:Addr}{o:HO}{t':Nat}(I:Inv X pins σ H s)(mu:xA (H x))(he:e=x\/H e=some (.own x))(k:∀b u,b≠e->s.heap.get? b=some u->h'.get? b=some u)(heo:∃u,h'.get? e=some u)
  (new:ObjOk X.prog X.w (upd H x o) h' x o) (hk:(∃us,H x=some (.lst us))\/∀us,o≠.lst us):Inv X pins σ (upd H x o) { s with heap:=h',toks:=t' }:=I.un (Un.write mu he k heo hk) (I.hok.write mu he k heo new)
theorem Inv.pins_of{pins':List (Addr×Obj)}(I:Inv X pins σ H s)(h:∀p∈pins',s.heap.get? p.1=some p.2/\H p.1=none/\p.1≠X.env.locals/\p.1∉X.fs/\∀v,p.2.data≠.cell v):Inv X pins' σ H s:=
 ⟨I.ok,I.os,I.bare,I.base,I.loc,I.cell,I.free,I.freeC,λp hp=>(Yao.mp hp).elim (λz=>I.pin p (zQ _ z)) (h p),I.hok,I.len⟩
theorem i9(hN:N.Nodup)(a:N[i]? = some x)(b:N[j]? = some x):i=j:=by
 obtain⟨h1,e1⟩:=Yaq.mp a;obtain⟨h2,e2⟩:=Yaq.mp b;exact(List.getElem_inj hN).mp (e1.trans e2.symm)
theorem fv{M:Model}{E:Value->Shared->Prop}{v:V}{u:Value}{Q:Unit->Shared->Prop}(I:Inv X pins σ H s)(hN:X.N.Nodup)(hi:X.N[i]? = some x)(hx:oJ X.env.scope x)(r:RelV v u)
  (h:∀s',Inv X pins (σ.set i (some v)) H s'->(∃a,Heap.SameBut a s.heap s'.heap/\(a=X.env.locals\/X.env.cells.lookup x=some a))->Q () s') (hf:X.fn x=true\/X.env.scope.names.lookup x=some .local:=by first|exact .inl rfl|exact .inr rfl|assumption):wpAny M A (storeName X.env x u) Q E s:=by
 obtain⟨m,hn,hl⟩:=id I.loc;have hcls:(X.env.scope.kind==.class||(X.env.scope.kind==.module&&X.env.locals != X.env.globals))=false:=by rw[I.ok.kind];rfl
 have hiσ:i<σ.length:=by rw[I.len];exact(Yaq.mp hi).1
 have cne:=I.cne;have tracked:∀{a:Addr} {h':Heap},(∃o,s.heap.get? a=some o/\H a=none)->Heap.SameBut a s.heap h'->HOk X.prog X.w H h':=λ{a h'} ha hs b ob e=>by
  obtain⟨_,_,hfree⟩:=ha;refine(I.hok b ob e).stay (λc w' hc q=>(hs.2 c ?_).trans q) (λ_ q=>q) λ_ _ q=>q;rintro rfl;rcases hc with rfl|hc
  .rw[hfree] at e;cases e
  .rw[hfree] at hc;cases hc
 rcases hx with hk|hk
 .refine wpAny_storeName_local hk hn (λh' hn' hs=>?_) hcls
  obtain⟨oL,_,_,hoL,_⟩:=id hn;refine h _ ⟨I.ok,I.os,I.bare,⟨λb o e n hb hx=>?_,λb o e n hb hx=>?_,I.base.free,λb o e hx=>?_,I.base.tups,I.base.frzs,I.base.tbls,I.base.sys⟩,⟨_,hn',λj y v' e1 e2 e3=>?_⟩,λy c e=>?_,I.free,I.freeC,λp hp=>?_,tracked ⟨oL,hoL,I.free⟩ hs,by simpa using I.len⟩ ⟨_,hs,.inl rfl⟩
  .exact(hs.2 b (hZ (de (du e) I.ok.above))).trans (I.base.keep b o e n hb hx)
  .obtain⟨sl,e1⟩:=I.base.slot b o e n hb hx
   exact⟨sl,(hs.2 b (hZ (de (du e) I.ok.above))).trans e1⟩
  .obtain⟨o',e1⟩:=I.base.there b o e hx
   exact⟨o',(hs.2 b (hZ (de (du e) I.ok.above))).trans e1⟩
  .by_cases hj:j=i
   .subst hj
    rw[hi] at e1;cases e1;rw[eI hiσ] at e2;cases e2;exact⟨u,r,.inl ⟨hk,by simp⟩⟩
   .rw[d7 (NB hj)] at e2
    obtain⟨u',r',q⟩:=hl j y v' e1 e2 e3;refine⟨u',r',?_⟩;rcases q with⟨k,e⟩|⟨k,c,e,z⟩
    .refine .inl ⟨k,?_⟩
     have:y≠x:=λe=>hj (i9 hN e1 (e▸hi));simp[this,e]
    .exact .inr ⟨k,c,e,z.sameBut hs (cne y c e)⟩
  .obtain⟨w',z⟩:=I.cell y c e
   exact⟨w',z.sameBut hs (cne y c e)⟩
  .obtain⟨e,n,ne,nf,d⟩:=I.pin p hp
   exact⟨(hs.2 p.1 ne).trans e,n,ne,nf,d⟩
 .have hfn:X.fn x=true:=by
   rcases hf with z|z
   .exact z
   .rw[z] at hk;cases hk
  obtain⟨c,hc⟩:=I.ok.has x (.inl hk);obtain⟨w',z⟩:=I.cell x c hc;refine wpAny_storeName_cell I.ok.kind hk hc z (λh' hc' hs=>?_);obtain⟨oc,hoc,hocd⟩:=id z;refine h { s with heap:=h' } ⟨I.ok,I.os,I.bare,⟨λb o e n hb hx=>?_,λb o e n hb hx=>?_,I.base.free,λb o e hx=>?_,I.base.tups,I.base.frzs,I.base.tbls,I.base.sys⟩,⟨m,hn.sameBut hs (NB (cne x c hc)),λj y v' e1 e2 e3=>?_⟩,λy c' e=>?_,I.free,I.freeC,λp hp=>?_,tracked ⟨oc,hoc,I.freeC x c hc⟩ hs,by simpa using I.len⟩ ⟨c,hs,.inr hc⟩
  .exact(hs.2 b (hZ (de (du e) (I.ok.cab x c hfn hc)))).trans (I.base.keep b o e n hb hx)
  .obtain⟨sl,e1⟩:=I.base.slot b o e n hb hx
   exact⟨sl,(hs.2 b (hZ (de (du e) (I.ok.cab x c hfn hc)))).trans e1⟩
  .obtain⟨o',e1⟩:=I.base.there b o e hx
   exact⟨o',(hs.2 b (hZ (de (du e) (I.ok.cab x c hfn hc)))).trans e1⟩
  .by_cases hj:j=i
   .subst hj
    rw[hi] at e1;cases e1;rw[eI hiσ] at e2;cases e2;exact⟨u,r,.inr ⟨.inl hk,c,hc,hc'⟩⟩
   .rw[d7 (NB hj)] at e2
    obtain⟨u',r',q⟩:=hl j y v' e1 e2 e3;refine⟨u',r',?_⟩;rcases q with q|⟨k,c',e,z'⟩
    .exact .inl q
    .refine .inr ⟨k,c',e,z'.sameBut hs ?_⟩
     rintro rfl;exact hj (i9 hN e1 (I.ok.inj _ _ _ e hc▸hi))
  .by_cases hcc:c'=c
   .subst hcc;exact⟨_,hc'⟩
   .obtain⟨w2,z2⟩:=I.cell y c' e
    exact⟨w2,z2.sameBut hs hcc⟩
  .obtain⟨e,n,ne,nf,d⟩:=I.pin p hp
   refine⟨(hs.2 p.1 ?_).trans e,n,ne,nf,d⟩;intro q;rw[q,hoc] at e;have q':oc=p.2:=Nv e;exact d w' (by rw[<-q'];exact hocd)
theorem eU{M:Model}{E:Value->Shared->Prop}{v:V}{u:Value}{Q:Unit->Shared->Prop}(I:Inv X pins σ H s)(hN:X.N.Nodup)(hi:X.N[i]? = some x)(hx:oJ X.env.scope x)(r:RelV v u)
  (h:∀s',Inv X pins (σ.set i (some v)) H s'->Q () s') (hf:X.fn x=true\/X.env.scope.names.lookup x=some .local:=by first|exact .inl rfl|exact .inr rfl|assumption):wpAny M A (storeName X.env x u) Q E s:=
 fv I hN hi hx r (λs' I' _=>h s' I') hf
theorem Inv.call'(I:Inv X pins σ H s)(ho:s'.os=s.os)(u:Un (dn X.stack) ch H H' s.heap s'.heap)(hok:HOk X.prog X.w H' s'.heap)(hg:AllBare s'.gens)
  (hch:∀b∈ch,(b∈X.ex\/X.s₀.heap.objs.size<=b)/\b≠X.env.locals/\(∀x c,X.env.cells.lookup x=some c->c≠b)/\∀p∈X.pn++pins,p.1≠b):Inv X pins σ H' s':=by
 obtain⟨h',g',d',t',o'⟩:=s';have e:o'=s.os:=ho;subst e;exact I.call (g':=g') (t':=t') (d':=d') u hok hg hch
end
abbrev XK:=Value->Option Addr->Hp->Prop
abbrev St:=List (Option V)
variable{σ:St}
abbrev VK:=V->Hp->Prop
abbrev TE:=St->Hp->VK->Prop
variable{ta te:TE}
abbrev TT:=St->Hp->(Bool->Hp->Prop)->Prop
variable{tc:TT}
abbrev TA:=St->Hp->(List V->Hp->Prop)->Prop
variable{t:TA}
structure jJ where
 nx:St->Hp->Prop
 rt:VK
 bk:St->Hp->Prop:=λ_ _=>False
 ct:St->Hp->Prop:=λ_ _=>False
abbrev TS:=jJ->St->Hp->Prop
def EP(X:Cx)(pins:List (Addr×Obj))(σ:St)(Q:VK)(u:Value)(s':Shared):Prop:=∃v H',Inv X pins σ H' s'/\RelV v u/\Q v H'
def TP(X:Cx)(pins:List (Addr×Obj))(σ:St)(Q:Bool->Hp->Prop)(b:Bool)(s':Shared):Prop:=∃H',Inv X pins σ H' s'/\Q b H'
def AP(X:Cx)(pins:List (Addr×Obj))(σ:St)(Q:List V->Hp->Prop)(us:List Value)(s':Shared):Prop:=∃vs H',Inv X pins σ H' s'/\Vals vs us/\Q vs H'
def SP(X:Cx)(pins:List (Addr×Obj))(D:jJ)(f:Flow)(s':Shared):Prop:=
 match f with
 |.next=>∃σ' H',Inv X pins σ' H' s'/\D.nx σ' H'
 |.brk=>∃σ' H',Inv X pins σ' H' s'/\D.bk σ' H'
 |.cont=>∃σ' H',Inv X pins σ' H' s'/\D.ct σ' H'
 |.ret u=>∃v σ' H',Inv X pins σ' H' s'/\RelV v u/\D.rt v H'
def PE(X:Cx)(e:Expr)(t:TE):Prop:=
 ∀(pins:List (Addr×Obj)) (s:Shared) (σ:St) (H:Hp) (Q:VK),Inv X pins σ H s->t σ H Q->wpAny (model X.prog X.w) X.A (eval e X.env) (EP X pins σ Q) X.xe s
def PT(X:Cx)(e:Expr)(t:TT):Prop:=
 ∀(pins:List (Addr×Obj)) (s:Shared) (σ:St) (H:Hp) (Q:Bool->Hp->Prop),Inv X pins σ H s->t σ H Q->wpAny (model X.prog X.w) X.A (isTrue e X.env (eval e X.env)) (TP X pins σ Q) X.xe s
def PW(X:Cx)(e:Expr)(t:TT):Prop:=
 ∀(whole:Sem Value) (pins:List (Addr×Obj)) (s:Shared) (σ:St) (H:Hp) (Q:Bool->Hp->Prop),Inv X pins σ H s->t σ H Q->wpAny (model X.prog X.w) X.A (isTrue e X.env whole) (TP X pins σ Q) X.xe s
theorem PW.pt{t:TT}(h:PW X e t):PT X e t:=h _
def PA(X:Cx)(es:List Expr)(t:TA):Prop:=
 ∀(pos:Pos) (pins:List (Addr×Obj)) (s:Shared) (σ:St) (H:Hp) (Q:List V->Hp->Prop),Inv X pins σ H s->t σ H Q->wpAny (model X.prog X.w) X.A (spliced (backTo pos (starEach es X.env))) (AP X pins σ Q) X.xe s
def PS(X:Cx)(st:Stmt)(t:TS):Prop:=
 ∀(pins:List (Addr×Obj)) (s:Shared) (σ:St) (H:Hp) (D:jJ),Inv X pins σ H s->t D σ H->wpAny (model X.prog X.w) X.A (exec st X.env) (SP X pins D) X.xe s
def PSs(X:Cx)(st:List Stmt)(t:TS):Prop:=
 ∀(pins:List (Addr×Obj)) (s:Shared) (σ:St) (H:Hp) (D:jJ),Inv X pins σ H s->t D σ H->wpAny (model X.prog X.w) X.A (execs st X.env) (SP X pins D) X.xe s
theorem bR{α:Type}{t:Sem α}{Q Q':α->Shared->Prop}{M:Model}{E:Value->Shared->Prop}(h:wpAny M A t Q E s)(hQ:∀a s,Q a s->Q' a s):wpAny M A t Q' E s:=ND h hQ λ_ _ x=>x
section
theorem Nh{a b:Expr}{tb:TE}(ha:PE X a ta)(hb:PE X b tb){R:V->V->Hp->Prop}(I:Inv X pins σ H s)(h:ta σ H λx H1=>tb σ H1 λy H2=>R x y H2)
  {α:Type} {Q:α->Shared->Prop} {f:Value->Value->Sem α}
  (hf:∀v u s2 x y H2,Inv X pins σ H2 s2->RelV x v->RelV y u->R x y H2->wpAny (model X.prog X.w) X.A (f v u) Q X.xe s2) :
  wpAny (model X.prog X.w) X.A (eval a X.env) (λv s₁=>wpAny (model X.prog X.w) X.A (eval b X.env) (λu s₂=>wpAny (model X.prog X.w) X.A (f v u) Q X.xe s₂) X.xe s₁) X.xe s:=by
 refine bR (ha pins s σ H _ I h) λv s1 ⟨x,H1,I1,r1,q1⟩=>?_;refine bR (hb pins s1 σ H1 _ I1 q1) λu s2 ⟨y,H2,I2,r2,q2⟩=>?_;exact hf v u s2 x y H2 I2 r1 r2 q2
def Ai(i:Nat):TE:=λσ H Q=>∃v,σ[i]? = some (some v)/\Q v H
def tC(v:V):TE:=λ_ H Q=>Q v H
theorem eL{pos:Pos}(hN:X.N[i]? = some x)(hv:pq X.env.scope x)(hd:(x==("__debug__" : Str))=false:=by decide)(hcd:(x==("__classdict__" : Str))=false:=by decide):PE X (.Name x pos) (Ai i):=by
 intro pins s σ H Q I h;obtain⟨v,e,h⟩:=h;obtain⟨m,hn,hl⟩:=I.loc;obtain⟨u,r,l⟩:=hl i x v hN e hv;have fin:EP X pins σ Q u s:=⟨v,H,I,r,h⟩
 rcases l with⟨hk,hm⟩|⟨hk,c,hc,hcell⟩
 .exact wpAny_Name (wpAny_loadName_local I.ok.kind hk hn hm fin) hd
 .rcases hk with hk|hk
  .exact wpAny_Name (wpAny_loadName_cell I.ok.kind hk hc hcell fin) hd
  .exact wpAny_Name (wpAny_loadName_free I.ok.kind hk hc hcell fin hcd) hd
theorem jK{i j pos}:PE X (.Constant (.int i) j pos) (tC (.int i)):=λ_ _ _ H _ I h=>wpAny_Constant_int ⟨.int i,H,I.tok _,⟨_,rfl⟩,h⟩
theorem ur{b j pos}:PE X (.Constant (.bool b) j pos) (tC (.bl b)):=λ_ _ _ H _ I h=>Constant_bool ⟨.bl b,H,I,rfl,h⟩
theorem rg{j pos}:PE X (.Constant .none j pos) (tC .non):=λ_ _ _ H _ I h=>Constant_none ⟨.non,H,I,rfl,h⟩
theorem rh{x j pos}:PE X (.Constant (.str x) j pos) (tC (.str x)):=λ_ _ _ H _ I h=>Calls.Constant_str ⟨.str x,H,I.tok _,⟨_,rfl⟩,h⟩
def Gl(X:Cx)(x:Str):Prop:=X.env.kindOf x=some .globalImplicit
theorem eV{E:Value->Shared->Prop}{u:Value}{pos:Pos}(I:Inv X pins σ H s)(hg:Gl X x)(hm:X.mg x=some u)(h:Q u s)
  (hd:(x==("__debug__" : Str))=false:=by decide):wpAny (model X.prog X.w) X.A (eval (.Name x pos) X.env) Q E s:=
 Calls.Name_function_global I.ok.kind hg (Calls.loadGlobal_global (by rw[I.ok.glob];exact I.mod.glob.keeps I.bk) hm h) hd
theorem eM{E:Value->Shared->Prop}{u:Value}{pos:Pos}(I:Inv X pins σ H s)(hg:Gl X x)(hm:X.mg x=none)(hv:bootBuiltins x=some u)(h:Q u s)
  (hn:x≠ "__name__" :=by decide) (hd:(x==("__debug__" : Str))=false:=by decide):wpAny (model X.prog X.w) X.A (eval (.Name x pos) X.env) Q E s:=by
 obtain⟨mb,h1,h2⟩:=I.mod.blt;exact Calls.Name_function_global I.ok.kind hg (Calls.loadGlobal_builtin (by rw[I.ok.glob];exact I.mod.glob.keeps I.bk) hm (by rw[I.ok.blt];exact h1.keeps I.bk) ((h2 x hn).trans hv) h) hd
theorem pv{v:V}{u:Value}{pos:Pos}(hg:Gl X x)(hm:X.mg x=some u)(r:RelV v u)(hd:(x==("__debug__" : Str))=false:=by decide):PE X (.Name x pos) (tC v):=
 λ_ _ _ H _ I h=>eV I hg hm ⟨v,H,I,r,h⟩ hd
theorem pw{v:V}{u:Value}{pos:Pos}(hg:Gl X x)(hm:X.mg x=none)(hv:bootBuiltins x=some u)(r:RelV v u)(hn:x≠ "__name__" :=by decide)(hd:(x==("__debug__" : Str))=false:=by decide):PE X (.Name x pos) (tC v):=
 λ_ _ _ H _ I h=>eM I hg hm hv ⟨v,H,I,r,h⟩ hn hd
variable{a b:Expr}{tb:TE}{pos:Pos}
variable{tA tB':TT}{rest:List Expr}
def Hy(t u:TT):TT:=λσ H Q=>t σ H λc H1=>if c=true then Q true H1 else u σ H1 Q
def Aj(t:TT):TT:=λσ H Q=>t σ H λc H1=>Q (!c) H1
theorem pz(ha:PT X a tA):PW X (.BoolOp .And [a] pos) tA:=by
 intro wh pins s σ H Q I h;refine isTrue_and (bR (ha pins s σ H Q I h) λc s1 e=>?_);cases c with
 |true=>exact isTrue_and_nil e
 |false=>exact e
theorem rj(ha:PT X a tA):PW X (.BoolOp .Or [a] pos) tA:=by
 intro wh pins s σ H Q I h;refine isTrue_or (bR (ha pins s σ H Q I h) λc s1 e=>?_);cases c with
 |false=>exact isTrue_or_nil e
 |true=>exact e
theorem ut(ha:PT X a tA)(hb:PW X (.BoolOp .Or (b::rest) pos) tB'):PW X (.BoolOp .Or (a::b::rest) pos) (Hy tA tB'):=by
 intro wh pins s σ H Q I h;refine isTrue_or (bR (ha pins s σ H _ I h) λc s1 ⟨H1,I1,q1⟩=>?_);cases c with
 |true=>exact⟨H1,I1,q1⟩
 |false=>exact hb wh pins s1 σ H1 Q I1 q1
theorem rk(ha:PT X a tA):PT X (.UnaryOp .Not a pos) (Aj tA):=by
 intro pins s σ H Q I h;exact isTrue_not (ha pins s σ H (λc H1=>Q (!c) H1) I h)
def uu(ta tb:TE):TE:=λσ H Q=>ta σ H λx H1=>∃c,x=.bl c/\if c=true then tb σ H1 Q else Q (.bl false) H1
def uv(ta:TE):TE:=λσ H Q=>ta σ H λx H1=>∃c,x=.bl c/\Q (.bl (!c)) H1
theorem rm{op}{t:TE}(h:PE X a t):PE X (.BoolOp op [a] pos) t:=λpins s σ H Q I hw=>BoolOp_one (h pins s σ H Q I hw)
theorem rn(ha:PE X a ta)(hb:PE X (.BoolOp .And (b::rest) pos) tb):PE X (.BoolOp .And (a::b::rest) pos) (uu ta tb):=by
 intro pins s σ H Q I h;refine BoolOp_and (bR (ha pins s σ H _ I h) λv s1 ⟨x,H1,I1,r1,q1⟩=>?_);obtain⟨c,rfl,q1⟩:=q1;cases r1;refine NG ?_;cases c with
 |true=>exact hb pins s1 σ H1 Q I1 q1
 |false=>exact⟨.bl false,H1,I1,rfl,q1⟩
theorem rp(ha:PE X a ta):PE X (.UnaryOp .Not a pos) (uv ta):=by
 intro pins s σ H Q I h;refine UnaryOp_ (bR (ha pins s σ H _ I h) λv s1 ⟨x,H1,I1,r1,q1⟩=>?_);obtain⟨c,rfl,q1⟩:=q1;cases r1;exact not_of (NG ⟨.bl (!c),H1,I1,rfl,q1⟩)
end
def SqL(K:Nn)(H:Hp)(a:Addr)(xs:List V):Prop:=
 Rd H a (.lst xs)\/
  ∃(o:Obj) (its:Array Value) (n:Nat),K.lookup a=some o/\o.cls=.type "list" /\o.dict=none/\o.data=.seq its n/\its.size<=sizeLine/\Vals xs its.toList
def SqT(K:Nn)(H:Hp)(a:Addr)(xs:List V):Prop:=
 Rd H a (.tup xs)\/
  ∃(o:Obj) (its:Array Value) (n:Nat),K.lookup a=some o/\o.cls=.type "tuple" /\o.data=.seq its n/\its.size<=sizeLine/\Vals xs its.toList
def Ak:Value->Option V
 |.none=>some .non
 |.bool b=>some (.bl b)
 |.int i _=>some (.int i)
 |.str x _=>some (.str x)
 |.bytes b _=>some (.byt b)
 |.float b _=>some (.flt b)
 |.ref a=>some (.ref a)
 |.type n=>some (.ty n)
 |_=>none
theorem RelV.abs{x:V}{u:Value}(r:RelV x u):Ak u=some x:=by
 cases x with
 |non=>cases r;rfl
 |bl _=>cases r;rfl
 |int _=>obtain⟨t,rfl⟩:=r;rfl
 |str _=>obtain⟨t,rfl⟩:=r;rfl
 |byt _=>obtain⟨t,rfl⟩:=r;rfl
 |flt _=>obtain⟨t,rfl⟩:=r;rfl
 |ref _=>cases r;rfl
 |ty _=>cases r;rfl
theorem RelV.inj{x y:V}{u:Value}(r:RelV x u)(q:RelV y u):x=y:=Nv (r.abs.symm.trans q.abs)
theorem Vals.inj:∀{xs ys:List V} {us:List Value},Vals xs us->Vals ys us->xs=ys
 |_,_,_,.nil,.nil=>rfl
 |_,_,_,.cons r t,.cons r' t'=>by rw[r.inj r',Vals.inj t t']
section
variable{ys:List V}
theorem SqL.of(h:H a=some (.lst xs)):SqL K H a xs:=.inl (.inl h)
theorem SqT.of(h:H a=some (.tup xs)):SqT K H a xs:=.inl (.inl h)
theorem Inv.list(I:Inv X pins σ H s)(h:SqL X.K H a xs):∃its:List Value,Vals xs its/\PlainL s.heap a its.toArray/\xs.length<=sizeLine:=by
 rcases h with h|⟨o,its,n,hk,hc,hd,hs,hz,r⟩
 .obtain⟨z,its,n,r,e⟩:=h.ok I.hok
  exact⟨its,r,⟨_,n,e,rfl,rfl,rfl⟩,z⟩
 .refine⟨its.toList,r,⟨o,n,I.kIn a o hk,hc,hd,by simpa using hs⟩,?_⟩
  have e:=r.length;simp only[wY] at e;omega
theorem Inv.tuple(I:Inv X pins σ H s)(h:SqT X.K H a xs):∃its:List Value,Vals xs its/\IsTup s.heap a its.toArray/\xs.length<=sizeLine:=by
 rcases h with h|⟨o,its,n,hk,hc,hs,hz,r⟩
 .obtain⟨z,its,r,p⟩:=h.ok I.hok
  exact⟨its,r,p,z⟩
 .refine⟨its.toList,r,⟨o,I.kIn a o hk,hc,n,by simpa using hs⟩,?_⟩
  have e:=r.length;simp only[wY] at e;omega
theorem Inv.list_inj(I:Inv X pins σ H s)(h:SqL X.K H a xs)(h':SqL X.K H a ys):xs=ys:=by
 obtain⟨its,r,⟨o,n,e,_,_,d⟩,_⟩:=I.list h;obtain⟨its',r',⟨o',n',e',_,_,d'⟩,_⟩:=I.list h';rw[e] at e';cases e';rw[d] at d';injection d' with d1 _
 have:its=its':=by simpa using congrArg Array.toList d1
 subst this;exact r.inj r'
theorem Inv.tuple_inj(I:Inv X pins σ H s)(h:SqT X.K H a xs)(h':SqT X.K H a ys):xs=ys:=by
 obtain⟨its,r,⟨o,e,_,n,d⟩,_⟩:=I.tuple h;obtain⟨its',r',⟨o',e',_,n',d'⟩,_⟩:=I.tuple h';rw[e] at e';cases e';rw[d] at d';injection d' with d1 _
 have:its=its':=by simpa using congrArg Array.toList d1
 subst this;exact r.inj r'
end
abbrev Cx.wish(X:Cx)(E:Value->Shared->Prop):Cx:={ X with xe:=E }
abbrev Cx.nox(X:Cx):Cx:=X.wish λ_ _=>False
theorem Cx.Ok.wish{X:Cx}(ok:X.Ok)(E:Value->Shared->Prop):(X.wish E).Ok:=
 ⟨ok.mod,ok.kind,ok.glob,ok.blt,ok.above,ok.inj,ok.has,ok.cab,ok.hd,ok.frames,ok.stk,ok.exf,ok.bs,ok.bsz,ok.noex,ok.exfs,ok.funs,ok.frf,ok.sys0⟩
theorem Cx.Ok.unwish{E:Value->Shared->Prop}(ok:(X.wish E).Ok):X.Ok:=
 ⟨ok.mod,ok.kind,ok.glob,ok.blt,ok.above,ok.inj,ok.has,ok.cab,ok.hd,ok.frames,ok.stk,ok.exf,ok.bs,ok.bsz,ok.noex,ok.exfs,ok.funs,ok.frf,ok.sys0⟩
section
variable{E:Value->Shared->Prop}
theorem Inv.wish(I:Inv X pins σ H s)(E:Value->Shared->Prop):Inv (X.wish E) pins σ H s:=⟨I.ok.wish E,I.os,I.bare,I.base,I.loc,I.cell,I.free,I.freeC,I.pin,I.hok,I.len⟩
theorem Inv.unwish(I:Inv (X.wish E) pins σ H s):Inv X pins σ H s:=⟨I.ok.unwish,I.os,I.bare,I.base,I.loc,I.cell,I.free,I.freeC,I.pin,I.hok,I.len⟩
theorem SP.unwish{D:jJ}{f:Flow}{s':Shared}(h:SP (X.wish E) pins D f s'):SP X pins D f s':=by
 cases f with
 |next=>obtain⟨σ',H',I,q⟩:=h;exact⟨σ',H',I.unwish,q⟩
 |brk=>obtain⟨σ',H',I,q⟩:=h;exact⟨σ',H',I.unwish,q⟩
 |cont=>obtain⟨σ',H',I,q⟩:=h;exact⟨σ',H',I.unwish,q⟩
 |ret u=>obtain⟨v,σ',H',I,r,q⟩:=h;exact⟨v,σ',H',I.unwish,r,q⟩
theorem PE.nox{t:TE}(h:PE X.nox e t):PE X e t:=λpins s σ H Q I hw=>
 ND (h pins s σ H Q (I.wish _) hw) (λ_ _ ⟨v,H',I',r,q⟩=>⟨v,H',I'.unwish,r,q⟩) λ_ _ z=>NC z
theorem PT.nox{t:TT}(h:PT X.nox e t):PT X e t:=λpins s σ H Q I hw=>
 ND (h pins s σ H Q (I.wish _) hw) (λ_ _ ⟨H',I',q⟩=>⟨H',I'.unwish,q⟩) λ_ _ z=>NC z
theorem PSs.nox{st:List Stmt}{t:TS}(h:PSs X.nox st t):PSs X st t:=λpins s σ H D I hw=>
 ND (h pins s σ H D (I.wish _) hw) (λ_ _ q=>q.unwish) λ_ _ z=>NC z
end
section
variable{st:Stmt}{rest:List Stmt}{t u:TS}{pos:Pos}
def uw:TS:=λD σ H=>D.nx σ H
def Al(t u:TS):TS:=λD σ H=>t { D with nx:=u D } σ H
theorem pA:PSs X [] uw:=λ_ _ σ H _ I h=>NN ⟨σ,H,I,h⟩
theorem nr(h1:PS X st t)(h2:PSs X rest u):PSs X (st::rest) (Al t u):=by
 intro pins s σ H D I h;refine wpAny_execs_cons (bR (h1 pins s σ H { D with nx:=u D } I h) λf s1 q=>?_);cases f with
 |next=>
  obtain⟨σ',H',I',q⟩:=q;exact h2 pins s1 σ' H' D I' q
 |ret v=>exact q
 |brk=>exact q
 |cont=>exact q
theorem pB(h1:PS X st t):PSs X [st] t:=by
 intro pins s σ H D I h;refine wpAny_execs_cons (bR (h1 pins s σ H D I h) λf s1 q=>?_);cases f with
 |next=>exact NN q
 |ret v=>exact q
 |brk=>exact q
 |cont=>exact q
theorem Inv.quiet(I:Inv X pins σ H s):interactive X.env=false:=by simp[interactive,I.ok.kind]
def uz(te:TE):TS:=λD σ H=>te σ H λ_ H1=>D.nx σ H1
theorem ke(he:PE X e te)(hs:swapsWith e none pos.line X.env=pure false:=by rfl):PS X (.Expr e pos) (uz te):=by
 intro pins s σ H D I h;exact wpAny_Expr_any (bR (he pins s σ H _ I h) λv s1 ⟨x,H1,I1,r1,q1⟩=>⟨σ,H1,I1,q1⟩) I.quiet hs
def Am(te:TE):TS:=λD σ H=>te σ H D.rt
theorem rq(he:PE X e te):PS X (.Return (some e) pos) (Am te):=by
 intro pins s σ H D I h;exact wpAny_Return_some (bR (he pins s σ H _ I h) λv s1 ⟨x,H1,I1,r1,q1⟩=>⟨x,σ,H1,I1,r1,q1⟩)
def An(c:TT)(t u:TS):TS:=λD σ H=>c σ H λb H1=>if b=true then t D σ H1 else u D σ H1
theorem uA{a b:List Stmt}(hc:PT X c tc)(ha:PSs X a t)(hb:PSs X b u):PS X (.If c a b pos) (An tc t u):=by
 intro pins s σ H D I h;refine wpAny_If (bR (hc pins s σ H _ I h) λd s1 ⟨H1,I1,q1⟩=>?_);cases d with
 |true=>exact ha pins s1 σ H1 D I1 q1
 |false=>exact hb pins s1 σ H1 D I1 q1
end
abbrev TG:=V->St->Hp->(St->Hp->Prop)->Prop
abbrev rz:=List V->St->Hp->(St->Hp->Prop)->Prop
def PG(X:Cx)(target:Expr)(t:TG):Prop:=
 ∀(pins:List (Addr×Obj)) (s:Shared) (σ:St) (H:Hp) (v:V) (u:Value) (Q:St->Hp->Prop),Inv X pins σ H s->RelV v u->t v σ H Q->
  wpAny (model X.prog X.w) X.A (assign target X.env u) (λ_ s'=>∃σ' H',Inv X pins σ' H' s'/\Q σ' H') X.xe s
def uB(X:Cx)(ts:List Expr)(t:rz):Prop:=
 ∀(pins:List (Addr×Obj)) (s:Shared) (σ:St) (H:Hp) (vs:List V) (us:List Value) (Q:St->Hp->Prop),Inv X pins σ H s->Vals vs us->t vs σ H Q->
  wpAny (model X.prog X.w) X.A (assignInOrder ((assignEach ts X.env).map (·.2)) us) (λ_ s'=>∃σ' H',Inv X pins σ' H' s'/\Q σ' H') X.xe s
abbrev rB:=V->V->V->Hp->(Hp->Prop)->Prop
def uC(X:Cx)(t:rB):Prop:=
 ∀(pins:List (Addr×Obj)) (s:Shared) (σ:St) (H:Hp) (o i v:V) (ov iv u:Value) (Q:Hp->Prop),Inv X pins σ H s->RelV o ov->RelV i iv->RelV v u->t o i v H Q->
  wpAny (model X.prog X.w) X.A (setItem ov iv u) (λ_ s'=>∃H',Inv X pins σ H' s'/\Q H') X.xe s
section
variable{pos:Pos}
def kf(i:Nat):TG:=λv σ H Q=>Q (σ.set i (some v)) H
theorem pC(hN:X.N.Nodup)(hi:X.N[i]? = some x)(hx:oJ X.env.scope x)(hf:X.fn x=true\/X.env.scope.names.lookup x=some .local:=by first|exact .inl rfl|exact .inr rfl|assumption):PG X (.Name x pos) (kf i):=by
 intro pins s σ H v u Q I r h;exact wpAny_assign_Name (eU I hN hi hx r (λs' I'=>⟨_,H,I',h⟩) hf)
def Ao:rz:=λvs σ H Q=>vs=[]/\Q σ H
def uD(t:TG)(u:rz):rz:=λvs σ H Q=>∃v r,vs=v::r/\t v σ H λσ' H'=>u r σ' H' Q
theorem kj:uB X [] Ao:=by
 intro pins s σ H vs us Q I r h;obtain⟨e,h⟩:=h;subst e;cases r;exact assignInOrder_nil ⟨σ,H,I,h⟩
theorem gv{t:TG}{u:rz}(h1:PG X e t)(h2:uB X es u)
  (hs:(assignEach (e::es) X.env).map (·.2)=assign e X.env::(assignEach es X.env).map (·.2):=by rfl):uB X (e::es) (uD t u):=by
 intro pins s σ H vs us Q I r h;obtain⟨v,vr,e1,h⟩:=h;subst e1;cases r with
 |cons r rr=>
  rw[hs];refine assignInOrder_cons (bR (h1 pins s σ H _ _ _ I r h) λ_ s1 ⟨σ1,H1,I1,q1⟩=>?_);exact h2 pins s1 σ1 H1 _ _ Q I1 rr q1
def Aq(K:Nn)(n:Nat)(t:rz):TG:=λv σ H Q=>∃a xs,v=.ref a/\SqT K H a xs/\xs.length=n/\t xs σ H Q
theorem nu{t:rz}(hc:X.calm=true)(h:uB X es t)
  (hn:(assignEach es X.env).length=n:=by rfl) (hst:(assignEach es X.env).findIdx? (·.1)=none:=by rfl):PG X (.Tuple es k pos) (Aq X.K n t):=by
 intro pins s σ H v u Q I r hw;obtain⟨a,xs,e1,hq,hl,hw⟩:=hw;subst e1;cases r;obtain⟨its,rv,ht,hz⟩:=I.tuple hq;refine assign_Tuple_tuple (I.ok.hd hc) ht (by simp[hn,<-hl,rv.length]) hst λh' hx=>?_;have I1:Inv X pins σ H { s with heap:=h' }:=I.kept (t':=s.toks) λb o e=>hx b o (hZ (du e)) e;exact h pins _ σ H xs _ Q I1 (by simpa using rv) hw
def Ar(to ti:TE)(t:rB):TG:=λv σ H Q=>to σ H λo H1=>ti σ H1 λi H2=>t o i v H2 λH3=>Q σ H3
theorem iw{o i:Expr}{to ti:TE}{t:rB}(ho:PE X o to)(hi:PE X i ti)(hs:uC X t)
  (ha:∀ v,assign (.Subscript o i pos) X.env v=(do
   let ov <-holding [v] (eval o X.env)
   let iv <-holding [v,ov] (eval i X.env)
   standAt pos
   holding [v,ov,iv] (setItem ov iv v)
   release [v,ov,iv] []):=by intro _;rfl):PG X (.Subscript o i pos) (Ar to ti t):=by
 intro pins s σ H v u Q I r h;rw[ha];refine Nm (NM (bR (ho pins s σ H _ I h) λov s1 ⟨x,H1,I1,r1,q1⟩=>?_));refine Nm (NM (bR (hi pins s1 σ H1 _ I1 q1) λiv s2 ⟨y,H2,I2,r2,q2⟩=>?_));refine Nm (NS (Nm (NM (bR (hs pins s2 σ H2 x y v ov iv u _ I2 r1 r2 r q2) λ_ s3 ⟨H3,I3,q3⟩=>?_))));exact wpAny_release ⟨σ,H3,I3,q3⟩
def rC(te:TE)(g:TG):TS:=λD σ H=>te σ H λx H1=>g x σ H1 D.nx
theorem iy{g:TG}(he:PE X e te)(hg:PG X tg g)(hs:swapsWithSole [tg] e pos.line X.env=pure false:=by rfl)(hw:swappedStores [tg] e X.env=pure none:=by rfl)
  (h1:(assignEach [tg] X.env).map (·.2)=[assign tg X.env]:=by rfl):PS X (.Assign [tg] e pos) (rC te g):=by
 intro pins s σ H D I h;refine wpAny_Assign_stores (bR (he pins s σ H _ I h) λv s1 ⟨x,H1,I1,r1,q1⟩=>?_) hs hw;rw[h1];exact bR (hg pins s1 σ H1 x v _ I1 r1 q1) λ_ s2 q=>q
theorem nw(hN:X.N.Nodup)(hi:X.N[i]? = some x)(hx:oJ X.env.scope x)(he:PE X e te)(hs:swapsWith e (some (.Name x pos')) pos.line X.env=pure false:=by rfl)(hf:X.fn x=true\/X.env.scope.names.lookup x=some .local:=by first|exact .inl rfl|exact .inr rfl|assumption) :
  PS X (.Assign [.Name x pos'] e pos) (rC te (kf i)):=by
 intro pins s σ H D I h;refine wpAny_Assign_Name (bR (he pins s σ H _ I h) λv s1 ⟨y,H1,I1,r1,q1⟩=>?_) hs;exact eU I1 hN hi hx r1 (λs2 I2=>⟨_,H1,I2,q1⟩) hf
def As(i j:Nat)(ta:TA):TS:=λD σ H=>ta σ H λvs H1=>∃v w,vs=[v,w]/\D.nx ((σ.set i (some v)).set j (some w)) H1
theorem rD{y:Str}{a b:Expr}{ta:TA}{px py pt:Pos}{kt k2 pt2}(hc:X.calm=true)(hN:X.N.Nodup)(hi:X.N[i]? = some x)(hj:X.N[j]? = some y)(hij:i≠j)
  (hx:X.env.scope.names.lookup x=some .local) (hy:X.env.scope.names.lookup y=some .local) (ha:PA X [a,b] ta)
  (hw:swappedStores [.Tuple [.Name x px,.Name y py] kt pt] (.Tuple [a,b] k2 pt2) X.env=pure (some [x,y]))
  (hs:swapsWithSole [.Tuple [.Name x px,.Name y py] kt pt] (.Tuple [a,b] k2 pt2) pos.line X.env=pure false:=by rfl) :
  PS X (.Assign [.Tuple [.Name x px,.Name y py] kt pt] (.Tuple [a,b] k2 pt2) pos) (As i j ta):=by
 intro pins s σ H D I h;rw[exec_Assign_arm];refine Nm (NS ?_);rw[hs];refine Nm (Np ?_);rw[if_neg (by decide)];refine Nm (Tuple_ (bR (ha _ pins s σ H _ I h) λus s1 ⟨vs,H1,I1,r1,q1⟩=>?_));obtain⟨v,w,e1,q1⟩:=q1;subst e1;obtain⟨u1,u2,rfl,rv,rw'⟩:∃u1 u2,us=[u1,u2]/\RelV v u1/\RelV w u2:=by
  cases r1 with
  |cons p q=>
   cases q with
   |cons p' q'=>
    cases q';exact⟨_,_,rfl,p,p'⟩
 refine NA ?_ (by show 2<=sizeLine;decide);have I2:Inv X pins σ H1 { s1 with heap:=s1.heap.push { cls:=.type "tuple",data:=.seq [u1,u2].toArray } }:=I1.kept (t':=s1.toks) λb o e=>dH _ e;rw[hw];refine Nm (Np ?_);show wpAny (model X.prog X.w) X.A (do rule "assign.swapped-stores";let items <-unpackItems (.ref s1.heap.objs.size) 2 none;assignInOrder [λv=>bindName X.env y v,λv=>bindName X.env x v] items.reverse;pure Flow.next) _ _ _;refine Nm (NP (Nm (unpackItems_tuple (items:=#[u1,u2]) (I.ok.hd hc) (IsTup.new s1.heap _) λh' hx'=>?_)));have I3:=I2.kept (h':=h') (t':=s1.toks) λb o e=>hx' b o (hZ (du e)) e;show wpAny _ _ (assignInOrder [λv=>bindName X.env y v,λv=>bindName X.env x v] [u2,u1] >>= λ_=>pure Flow.next) _ _ _;refine Nm (assignInOrder_cons (wpAny_bindName (eU I3 hN hj (.inl hy) rw' (λs2 I4=>?_) (.inr hy))));refine assignInOrder_cons (wpAny_bindName (eU I4 hN hi (.inl hx) rv (λs3 I5=>assignInOrder_nil (Np ?_)) (.inr hx)));rw[List.set_comm _ _ (NB hij)] at I5;exact⟨_,H1,I5,q1⟩
end
section
variable{pos:Pos}
def rE(c:TT)(tb:TS):TS:=λD σ H=>∃W:Nat->St->Hp->Prop,(∃m,W m σ H)/\∀m σ H,W m σ H->
 c σ H λb H1=>if b=true then∃N:St->Hp->Prop,(∀σ' H',N σ' H'->∃m',m'<m/\W m' σ' H')/\tb { D with nx:=N,ct:=N,bk:=D.nx } σ H1 else D.nx σ H1
theorem ny{tb:TS}(hp:PassesOwn (model X.prog X.w) X.A X.env X.xe)(hc:PT X c tc)(hb:PSs X body tb):PS X (.While c body [] pos) (rE tc tb):=by
 intro pins s σ H D I h;obtain⟨W,⟨m0,w0⟩,turn⟩:=h;refine wpAny_While (codeAny_whileLoop (λn s'=>∃σ' H',Inv X pins σ' H' s'/\W n σ' H') ?_ m0 ⟨σ,H,I,w0⟩);rintro n s1 ⟨σ1,H1,I1,w1⟩;refine NK hp (bR (hc pins s1 σ1 H1 _ I1 (turn n σ1 H1 w1)) λb s2 ⟨H2,I2,q2⟩=>?_);cases b with
 |true=>
  obtain⟨N,hN,q2⟩:=q2;rw[if_pos rfl];refine NK hp (bR (hb pins s2 σ1 H2 _ I2 q2) λf s3 q3=>?_);cases f with
  |next=>
   obtain⟨σ3,H3,I3,n3⟩:=q3;obtain⟨m',hm,w3⟩:=hN σ3 H3 n3;exact⟨m',hm,σ3,H3,I3,w3⟩
  |cont=>
   obtain⟨σ3,H3,I3,n3⟩:=q3;obtain⟨m',hm,w3⟩:=hN σ3 H3 n3;exact⟨m',hm,σ3,H3,I3,w3⟩
  |brk=>exact q3
  |ret v=>exact q3
 |false=>
  rw[if_neg lC];exact NN ⟨σ1,H2,I2,q2⟩
end
structure It where
 go:Nat->Hp->Prop
 yld:Nat->Hp->V->Hp->Prop
 stop:Nat->Hp->Prop
def eW(X:Cx)(pins:List (Addr×Obj))(H:Hp)(b:Addr):Prop:=
 H b=none/\b≠X.env.locals/\b∉X.fs/\(b∈X.ex\/X.s₀.heap.objs.size<=b)/\(∀x c,X.env.cells.lookup x=some c->c≠b)/\∀p∈X.pn++pins,p.1≠b
theorem Inv.fpOk(I:Inv X pins σ H s)(hb:s.heap.objs.size<=b)(hn:H' b=none):eW X pins H' b:=by
 refine⟨hn,wZ (de I.lt hb),I.nofs hb,.inr (fQ I.sz hb),λx c e z=>?_,λp hp z=>?_⟩
 .obtain⟨v,q⟩:=I.cell x c e
  exact Nq (de q.lt (by rw[z];exact hb)) (gQ _)
 .exact Nq (de (du (I.pin p hp).1) (by rw[z];exact hb)) (gQ _)
structure jL(P:Program)(w:World)(K:Nn)(tg:Expr)(J:It)(fp:List Addr)(it:Addr)(tn:Nat->Heap->Prop):Prop where
 mem:it∈fp
 obj:∀i h,tn i h->∀b∈fp,∃o,h.get? b=some o/\∀v,o.data≠.cell v
 keep:∀i h h',tn i h->(∀b∈fp,∀o,h.get? b=some o->h'.get? b=some o)->tn i h'
 item:∀(X:Cx),X.prog=P->X.w=w->X.K=K->X.calm=true->∀(i:Nat) (pins:List (Addr×Obj)) (s:Shared) (σ:St) (H:Hp) (E:Value->Shared->Prop),Inv X pins σ H s->(∀b∈fp,eW X pins H b)->tn i s.heap->J.go i H->
  wpAny (model P w) X.A (pyNext (.ref it)) (λr s1=>∃ u,r=some u/\
   wpAny (model P w) X.A (letOwnedTupleGo tg (.ref it) u) (λ_ s2=>∃x H',Inv X pins σ H' s2/\RelV x u/\J.yld i H x H'/\tn (i+1) s2.heap/\∀b∈fp,H' b=none) E s1) E s
 done:∀(X:Cx),X.prog=P->X.w=w->X.K=K->X.calm=true->∀(i:Nat) (pins:List (Addr×Obj)) (s:Shared) (σ:St) (H:Hp) (E:Value->Shared->Prop),Inv X pins σ H s->(∀b∈fp,eW X pins H b)->tn i s.heap->J.stop i H->
  wpAny (model P w) X.A (pyNext (.ref it)) (λr s1=>r=none/\Inv X pins σ H s1) E s
 self:∀(A:Around) (i:Nat) (s:Shared) (Q:Value->Shared->Prop) (E:Value->Shared->Prop),tn i s.heap->Q (.ref it) s->wpAny (model P w) A (pyIter (.ref it)) Q E s
abbrev TI:=St->Hp->(It->Hp->Prop)->Prop
def C9(X:Cx)(pins:List (Addr×Obj))(σ:St)(tg:Expr)(R:It->Hp->Prop)(itv:Value)(s2:Shared):Prop:=
 ∃(it:Addr) (fp:List Addr) (tn:Nat->Heap->Prop) (J:It) (H':Hp),itv=.ref it/\Inv X pins σ H' s2/\jL X.prog X.w X.K tg J fp it tn/\tn 0 s2.heap/\(∀b∈fp,eW X pins H' b)/\R J H'
def PI(X:Cx)(tg iter:Expr)(wi:TI):Prop:=
 ∀(pins:List (Addr×Obj)) (s:Shared) (σ:St) (H:Hp) (R:It->Hp->Prop),Inv X pins σ H s->wi σ H R->
  wpAny (model X.prog X.w) X.A (eval iter X.env) (λv s1=>wpAny (model X.prog X.w) X.A (pyIter v) (C9 X pins σ tg R) X.xe s1) X.xe s
theorem nA{M:Model}{E:Value->Shared->Prop}{u:Value}{n:String}{vs:Array Value}{Q:Unit->Shared->Prop}(ho:s.heap.get? it=some o)(hc:o.cls = .type n)(hd:o.data = .fields vs)
    (hn:["enumerate", "zip", "dict_itemiterator", "dict_reverseitemiterator", "odict_iterator", "itertools.zip_longest", "itertools.pairwise"].contains n=false) (hQ:Q () s):wpAny M A (letOwnedTupleGo tg (.ref it) u) Q E s:=by
  unfold letOwnedTupleGo;cases tg<;>first
    |exact Np hQ
    | (cases u<;>first
        |exact Np hQ
        | (refine Nm (wpAny_load ho ?_)
           rw[hc,hd];show wpAny M A (if(["enumerate", "zip", "dict_itemiterator", "dict_reverseitemiterator", "odict_iterator", "itertools.zip_longest", "itertools.pairwise"].contains n&&vs[0]? == some (rawInt _))=true then _ else _) Q E s;rw[if_neg (by intro h;rw[hn,Bool.false_and] at h;cases h)];exact Np hQ))
def Da(K:Nn)(a:Addr):It:=
 ⟨λi H=>∃xs x,SqL K H a xs/\xs[i]? = some x,λi H x H'=>H'=H/\∀xs,SqL K H a xs->xs[i]? = some x,λi H=>∃xs,SqL K H a xs/\xs.length<=i⟩
def At(K:Nn)(a:Addr):It:=
 ⟨λi H=>∃xs x,SqT K H a xs/\xs[i]? = some x,λi H x H'=>H'=H/\∀xs,SqT K H a xs->xs[i]? = some x,λi H=>∃xs,SqT K H a xs/\xs.length<=i⟩
def uE(lo:Int)(n:Nat):It:=⟨λi _=>i<n,λi H x H'=>H'=H/\x=.int (lo+i),λi _=>n<=i⟩
theorem kM(a it:Addr):jL P w K tg (Da K a) [it] it (λi h=>h.IsListIter it a i) where
 mem:=by simp
 obj:=λi h st b hb=>by
  have e:b=it:=by simpa using hb
  subst e;obtain⟨o,e,c,d⟩:=st;exact⟨o,e,λv z=>by rw[d] at z;cases z⟩
 keep:=λi h h' st k=>st.at λo e=>k it (by simp) o e
 item:=by
  intro X hP hw hK hc i pins s σ H E I hf st hg;subst hP hw hK;obtain⟨xs,x,hq,hx⟩:=hg;obtain⟨its,rv,p,hz⟩:=I.list hq;obtain⟨u,hu,ru⟩:=rv.get hx;obtain⟨f0,f1,f2,f3,f4,f5⟩:=hf it (by simp);refine wpAny_pyNext_list_item st p.isList (x:=u) (by simpa using hu) λh' st' sb=>?_;have I1:Inv X pins σ H { s with heap:=h' }:=I.turned (t':=s.toks) (λb o hb e=>(sb.2 b hb).trans e) f0 f1 f3 f4 f5;obtain⟨o,e,c,d⟩:=id st';exact⟨u,rfl,nA (s:={ s with heap:=h' }) e c d (by decide) ⟨x,H,I1,ru,⟨rfl,λys hy=>by rw[I.list_inj hy hq];exact hx⟩,st',λb hb=>(hf b hb).1⟩⟩
 done:=by
  intro X hP hw hK hc i pins s σ H E I hf st hg;subst hP hw hK;obtain⟨xs,hq,hx⟩:=hg;obtain⟨its,rv,p,hz⟩:=I.list hq;obtain⟨f0,f1,f2,f3,f4,f5⟩:=hf it (by simp);have hl:=rv.length;exact wpAny_pyNext_list_end (I.ok.hd hc) st p.isList (by simp;omega) λh' eb=>⟨rfl,I.turned (t':=s.toks) (λb o hb e=>eb b o hb e) f0 f1 f3 f4 f5⟩
 self:=λ_ _ _ _ _ st h=>wpAny_pyIter_listiter st h
theorem jM(a it:Addr):jL P w K tg (At K a) [it] it (λi h=>h.IsTupleIter it a i) where
 mem:=by simp
 obj:=λi h st b hb=>by
  have e:b=it:=by simpa using hb
  subst e;obtain⟨o,e,c,d⟩:=st;exact⟨o,e,λv z=>by rw[d] at z;cases z⟩
 keep:=λi h h' st k=>st.at λo e=>k it (by simp) o e
 item:=by
  intro X hP hw hK hc i pins s σ H E I hf st hg;subst hP hw hK;obtain⟨xs,x,hq,hx⟩:=hg;obtain⟨its,rv,p,hz⟩:=I.tuple hq;obtain⟨u,hu,ru⟩:=rv.get hx;obtain⟨f0,f1,f2,f3,f4,f5⟩:=hf it (by simp);refine wpAny_pyNext_tuple_item st (show s.heap.IsTuple a its.toArray from p) (x:=u) (by simpa using hu) λh' st' sb=>?_;have I1:Inv X pins σ H { s with heap:=h' }:=I.turned (t':=s.toks) (λb o hb e=>(sb.2 b hb).trans e) f0 f1 f3 f4 f5;obtain⟨o,e,c,d⟩:=id st';exact⟨u,rfl,nA (s:={ s with heap:=h' }) e c d (by decide) ⟨x,H,I1,ru,⟨rfl,λys hy=>by rw[I.tuple_inj hy hq];exact hx⟩,st',λb hb=>(hf b hb).1⟩⟩
 done:=by
  intro X hP hw hK hc i pins s σ H E I hf st hg;subst hP hw hK;obtain⟨xs,hq,hx⟩:=hg;obtain⟨its,rv,p,hz⟩:=I.tuple hq;obtain⟨f0,f1,f2,f3,f4,f5⟩:=hf it (by simp);have hl:=rv.length;exact wpAny_pyNext_tuple_end (I.ok.hd hc) st (show s.heap.IsTuple a its.toArray from p) (by simp;omega) λh' eb=>⟨rfl,I.turned (t':=s.toks) (λb o hb e=>eb b o hb e) f0 f1 f3 f4 f5⟩
 self:=λ_ _ _ _ _ st h=>wpAny_pyIter_tupleiter st h
theorem jN(it:Addr)(lo:Int)(n:Nat):jL P w K tg (uE lo n) [it] it (λi h=>IsRangeIter h it (lo+(i:Nat)*1) ((n:Int)-(i:Nat)) 1) where
 mem:=by simp
 obj:=λi h st b hb=>by
  have e:b=it:=by simpa using hb
  subst e;exact ⟨_,st,λv z=>by
   have z':Data.fields _=Data.cell v:=z;cases z'⟩
 keep:=λi h h' st k=>k it (by simp) _ st
 item:=by
  intro X hP hw hK hc i pins s σ H E I hf st hg;subst hP hw hK;obtain⟨f0,f1,f2,f3,f4,f5⟩:=hf it (by simp);have W:=Walks.range (prog:=X.prog) (w:=X.w) (I.ok.hd hc) it lo 1 n;refine W.item i s _ _ hg st λv h' tk hv st' kk=>?_;obtain⟨t,rfl⟩:=hv;have I1:Inv X pins σ H { s with heap:=h',toks:=tk }:=I.turned (λb o hb e=>kk b o (by simpa using hb) e) f0 f1 f3 f4 f5;refine⟨_,rfl,nA (s:={ s with heap:=h',toks:=tk }) (n:= "range_iterator") st' rfl rfl (by decide) ⟨.int (lo+i),H,I1,⟨t,?_⟩,⟨rfl,rfl⟩,st',λb hb=>(hf b hb).1⟩⟩;rw[Int.mul_one]
 done:=by
  intro X hP hw hK hc i pins s σ H E I hf st hg;subst hP hw hK;obtain⟨f0,f1,f2,f3,f4,f5⟩:=hf it (by simp);exact wpAny_pyNext_range_end (I.ok.hd hc) st (by have:n<=i:=hg;omega) λh' eb=>⟨rfl,I.turned (t':=s.toks) (λb o hb e=>eb b o hb e) f0 f1 f3 f4 f5⟩
 self:=λ_ _ _ _ _ st h=>wpAny_pyIter_rangeiter st h
section
theorem jb{R:It->Hp->Prop}{E:Value->Shared->Prop}{lo hi:Int}{t u v:Tok}{tk:Nat}(I:Inv X pins σ H s)(h1:-(2^62)<=lo)(h2:lo<2^62)(h3:-(2^62)<=hi)(h4:hi<2^62)
  (q:R (uE lo (hi-lo).toNat) H):wpAny (model X.prog X.w) X.A (pyIter (.ref s.heap.objs.size)) (C9 X pins σ tg R) E { s with heap:=s.heap.push { cls:=.type "range",data:=.fields #[.int lo t,.int hi u,.int 1 v] },toks:=tk }:=by
 refine wpAny_pyIter_range (IsRange.new ..) (small_one h1 h2 h3 h4) ?_;have I1:Inv X pins σ H { s with heap:=s.heap.push { cls:=.type "range",data:=.fields #[.int lo t,.int hi u,.int 1 v] },toks:=tk }:=I.kept λb o e=>dH _ e;refine ⟨(s.heap.push { cls:=.type "range",data:=.fields #[.int lo t,.int hi u,.int 1 v] }).objs.size,[(s.heap.push { cls:=.type "range",data:=.fields #[.int lo t,.int hi u,.int 1 v] }).objs.size],_,_,H,rfl,
  I1.kept (t':=tk) λb o e=>dH _ e,jN _ lo (hi-lo).toNat,?_,λb hb=>?_,q⟩
 .have e1:lo+((0:Nat):Int)*1=lo:=by simp
  have e2:(((hi-lo).toNat:Nat):Int)-((0:Nat):Int)=Builtin.Range.rangeSize lo hi 1:=by rw[rangeSize_one];split<;>omega
  show IsRangeIter _ _ (lo+((0:Nat):Int)*1) ((((hi-lo).toNat:Nat):Int)-((0:Nat):Int)) 1;rw[e1,e2];exact gK _ rfl
 .have e:b=(s.heap.push { cls:=.type "range",data:=.fields #[.int lo t,.int hi u,.int 1 v] }).objs.size:=by simpa using hb
  subst e;exact I1.fpOk (cB _) (I1.hok.fresh (cB _))
def uF(ta:TA):TI:=λσ H R=>ta σ H λvs H1=>∃j:Int,vs=[.int j]/\-(2^62)<=j/\j<2^62/\R (uE 0 j.toNat) H1
def uG(ta:TA):TI:=λσ H R=>ta σ H λvs H1=>∃i j:Int,vs=[.int i,.int j]/\(-(2^62)<=i/\i<2^62/\-(2^62)<=j/\j<2^62)/\R (uE i (j-i).toNat) H1
theorem kN{a:Expr}{ta:TA}{pos:Pos}(hg:Gl X "range")(hm:X.mg "range" = none)(ha:PA X [a] ta)(hs:starEach [a] X.env=[(false,eval a X.env)]:=by rfl):PI X tg (.Call (.Name "range" p) [a] [] pos) (uF ta):=by
 intro pins s σ H R I h;refine Call_ (eM I hg hm boot_range (PyProof.Rows.callWith_type1 (bR (ha pos pins s σ H _ I h) λus s1 ⟨vs,H1,I1,r1,q1⟩=>?_) hs rfl));obtain⟨j,e,q1,q2,q⟩:=q1;subst e;cases r1 with
 |cons r rr=>
  cases rr;obtain⟨t,rfl⟩:=r;exact call_range_1 (jb I1 (by omega) (by omega) q1 q2 (by simpa using q))
theorem kO{a b:Expr}{ta:TA}{pos:Pos}(hg:Gl X "range")(hm:X.mg "range" = none)(ha:PA X [a,b] ta)(hs:starEach [a,b] X.env=[(false,eval a X.env),(false,eval b X.env)]:=by rfl)(hs2:starEach [b] X.env=[(false,eval b X.env)]:=by rfl) :
  PI X tg (.Call (.Name "range" p) [a,b] [] pos) (uG ta):=by
 intro pins s σ H R I h;refine Call_ (eM I hg hm boot_range (PyProof.Rows.callWith_type1 (bR (ha pos pins s σ H _ I h) λus s1 ⟨vs,H1,I1,r1,q1⟩=>?_) (by rw[hs,hs2]) (by rw[hs2];rfl)));obtain⟨i,j,e,⟨q1,q2,q3,q4⟩,q⟩:=q1;subst e;cases r1 with
 |cons r rr=>
  cases rr with
  |cons r' rr=>
   cases rr;obtain⟨t,rfl⟩:=r;obtain⟨t',rfl⟩:=r';exact call_range_2 (jb I1 q1 q2 q3 q4 q)
def Au(wi:TI)(g:TG)(tb:TS):TS:=λD σ H=>wi σ H λJ H1=>∃W:Nat->Nat->St->Hp->Prop,(∃m,W 0 m σ H1)/\∀i m σ H,W i m σ H->
 (J.stop i H/\D.nx σ H)\/(J.go i H/\∃N:St->Hp->Prop,(∀σ' H',N σ' H'->∃m',m'<m/\W (i+1) m' σ' H')/\∀x H',J.yld i H x H'->g x σ H' λσ2 H2=>tb { D with nx:=N,ct:=N,bk:=D.nx } σ2 H2)
def gw(fp:List Addr)(h:Heap):List (Addr×Obj):=fp.filterMap λb=>(h.get? b).map λo=>(b,o)
theorem dJ(hb:b∈fp)(e:h.get? b=some o):(b,o)∈gw fp h:=Yaz.mpr ⟨b,hb,by rw[e];rfl⟩
theorem kP{p:Addr×Obj}(hp:p∈gw fp h):p.1∈fp/\h.get? p.1=some p.2:=by
 obtain⟨b,hb,e⟩:=Yaz.mp hp;cases q:h.get? b with
 |none=>rw[q] at e;cases e
 |some o=>
  rw[q] at e;have e':(b,o)=p:=Nv e;subst e';exact⟨hb,q⟩
theorem Inv.pinned(I:Inv X pins σ H s)(hf:∀b∈fp,eW X pins H b)(ho:∀b∈fp,∃o,s.heap.get? b=some o/\∀v,o.data≠.cell v):Inv X (pins++gw fp s.heap) σ H s:=
 I.pins_of λp hp=>(Yao.mp hp).elim (λz=>I.pin p (lD _ z)) λz=>by
  obtain⟨hb,e⟩:=kP z;obtain⟨f0,f1,f2,_⟩:=hf p.1 hb;obtain⟨o,e',d⟩:=ho p.1 hb;rw[e] at e';cases e';exact⟨e,f0,f1,f2,d⟩
theorem Inv.unpinned{pl:List (Addr×Obj)}(I:Inv X (pins++pl) σ H s):Inv X pins σ H s:=I.pins_of λp hp=>I.pin p (lD _ (zQ _ hp))
theorem rF{iter:Expr}{wi:TI}{g:TG}{tb:TS}{pos:Pos}(hp:PassesOwn (model X.prog X.w) X.A X.env X.xe)(hc:X.calm=true)(hi:PI X tg iter wi)(hg:PG X tg g)(hb:PSs X body tb)
  (hs:∀x,foldedSetIterable iter X.env x=pure x:=by intro _;rfl):PS X (.For tg iter body [] pos) (Au wi g tb):=by
 intro pins s σ H D I h;refine wpAny_For (bR (hi pins s σ H _ I h) λv s1 h1=>bR h1 λitv s2 h2=>?_) hs;obtain⟨it,fp,tn,J,H2,e,I2,T,st2,f2,W,⟨m0,w0⟩,turn⟩:=h2;subst e
 -- what stays true of the iterator's objects through the loop
 have stat:∀{H':Hp},(∀b∈fp,H' b=none)->∀b∈fp,eW X pins H' b:=λhn b hb=>⟨hn b hb,(f2 b hb).2⟩;refine codeAny_forLoop_any (λn s'=>∃i σ' H',Inv X pins σ' H' s'/\tn i s'.heap/\(∀b∈fp,H' b=none)/\W i n σ' H') ?_ m0 ⟨0,σ,H2,I2,st2,λb hb=>(f2 b hb).1,w0⟩;rintro n s3 ⟨i,σ3,H3,I3,st3,fr3,w3⟩;rcases turn i n σ3 H3 w3 with⟨stop,qn⟩|⟨go,N,hN,step⟩
 .refine NK hp (bR (T.done X rfl rfl rfl hc i pins s3 σ3 H3 X.xe I3 (stat fr3) st3 stop) λr s4 ⟨hr,I4⟩=>?_)
  subst hr;exact NN ⟨σ3,H3,I4,qn⟩
 .refine NK hp (bR (T.item X rfl rfl rfl hc i pins s3 σ3 H3 X.xe I3 (stat fr3) st3 go) λr s4 ⟨u,hr,h4⟩=>?_)
  subst hr;refine NK hp (bR h4 λ_ s5 ⟨x,H5,I5,r5,y5,st5,fr5⟩=>?_);have I5':=I5.pinned (stat fr5) (T.obj _ _ st5);refine NK hp (bR (hg _ s5 σ3 H5 x u _ I5' r5 (step x H5 y5)) λ_ s6 ⟨σ6,H6,I6,q6⟩=>?_);refine NK hp (bR (hb _ s6 σ6 H6 _ I6 q6) λf s7 q7=>?_);have again:∀{σ7:St} {H7:Hp},Inv X (pins++gw fp s5.heap) σ7 H7 s7->N σ7 H7->∃m,m<n/\∃i σ' H',Inv X pins σ' H' s7/\tn i s7.heap/\(∀b∈fp,H' b=none)/\W i m σ' H':=λ{σ7 H7} I7 n7=>by
   obtain⟨m',hm,w7⟩:=hN σ7 H7 n7;refine⟨m',hm,i+1,σ7,H7,I7.unpinned,T.keep _ _ _ st5 λb hb o e=>(I7.pin (b,o) (lD _ (lD _ (dJ hb e)))).1,λb hb=>?_,w7⟩;obtain⟨o,e,d⟩:=T.obj _ _ st5 b hb;exact(I7.pin (b,o) (lD _ (lD _ (dJ hb e)))).2.1
  cases f with
  |next=>obtain⟨σ7,H7,I7,n7⟩:=q7;exact again I7 n7
  |cont=>obtain⟨σ7,H7,I7,n7⟩:=q7;exact again I7 n7
  |brk=>obtain⟨σ7,H7,I7,q7⟩:=q7;exact⟨σ7,H7,I7.unpinned,q7⟩
  |ret v=>obtain⟨x7,σ7,H7,I7,r7,q7⟩:=q7;exact⟨x7,σ7,H7,I7.unpinned,r7,q7⟩
end
abbrev R2:=V->V->Hp->VK->Prop
variable{r r':R2}
def OpR(X:Cx)(f:Value->Value->Sem Value)(r:R2):Prop:=
 ∀(pins:List (Addr×Obj)) (s:Shared) (σ:St) (H:Hp) (x y:V) (v u:Value) (Q:VK),Inv X pins σ H s->RelV x v->RelV y u->r x y H Q->
  wpAny (model X.prog X.w) X.A (f v u) (EP X pins σ Q) X.xe s
def xC(X:Cx)(f:Value->Sem Value)(r:V->Hp->VK->Prop):Prop:=
 ∀(pins:List (Addr×Obj)) (s:Shared) (σ:St) (H:Hp) (x:V) (v:Value) (Q:VK),Inv X pins σ H s->RelV x v->r x H Q->
  wpAny (model X.prog X.w) X.A (f v) (EP X pins σ Q) X.xe s
def CallR(X:Cx)(f:Value)(r:List V->Hp->VK->Prop):Prop:=
 ∀(pins:List (Addr×Obj)) (s:Shared) (σ:St) (H:Hp) (xs:List V) (us:List Value) (Q:VK),Inv X pins σ H s->Vals xs us->r xs H Q->
  wpAny (model X.prog X.w) X.A (call f us) (EP X pins σ Q) X.xe s
def Av(X:Cx)(r:V->Hp->(Bool->Hp->Prop)->Prop):Prop:=
 ∀(pins:List (Addr×Obj)) (s:Shared) (σ:St) (H:Hp) (x:V) (v:Value) (Q:Bool->Hp->Prop),Inv X pins σ H s->RelV x v->r x H Q->
  wpAny (model X.prog X.w) X.A (truthy v) (TP X pins σ Q) X.xe s
def xD(r:R2)(ta tb:TE):TE:=λσ H Q=>ta σ H λx H1=>tb σ H1 λy H2=>r x y H2 Q
def Hz(r:V->Hp->VK->Prop)(ta:TE):TE:=λσ H Q=>ta σ H λx H1=>r x H1 Q
def rI(C:Int->Int->Prop)(g:Int->Int->V):R2:=λx y H Q=>∃i j,x=.int i/\y=.int j/\C i j/\Q (g i j) H
def pD(g:Int->Int->V):R2:=λx y H Q=>∃i j,x=.int i/\y=.int j/\Q (g i j) H
def rU(g:Int->V):V->Hp->VK->Prop:=λx H Q=>∃i,x=.int i/\Q (g i) H
section
variable{a b:Expr}{tb tc:TE}{pos:Pos}
theorem rG(ha:PE X a ta)(hb:PE X b tb){R:V->V->Hp->Prop}(I:Inv X pins σ H s)
  (h:ta σ H λx H1=>tb σ H1 λy H2=>R x y H2)
  (hf:∀v u s2 x y H2,Inv X pins σ H2 s2->RelV x v->RelV y u->R x y H2->wpAny (model X.prog X.w) X.A (f v u) Q X.xe s2) :
  wpAny (model X.prog X.w) X.A (eval a X.env) (λv s₁=>wpAny (model X.prog X.w) X.A (eval b X.env) (λu s₂=>wpAny (model X.prog X.w) X.A (f v u) Q X.xe s₂) X.xe s₁) X.xe s:=by
 refine bR (ha pins s σ H _ I h) λv s1 ⟨x,H1,I1,r1,q1⟩=>?_;refine bR (hb pins s1 σ H1 _ I1 q1) λu s2 ⟨y,H2,I2,r2,q2⟩=>?_;exact hf v u s2 x y H2 I2 r1 r2 q2
theorem qm{op:Operator}(ho:OpR X (binaryOp op) r)(ha:PE X a ta)(hb:PE X b tb):PE X (.BinOp a op b pos) (xD r ta tb):=by
 intro pins s σ H Q I h;exact wpAny_BinOp (rG ha hb I h λv u s2 x y H2 I2 rx ry q=>ho pins s2 σ H2 x y v u Q I2 rx ry q)
theorem qo{op:UnaryOp}{r:V->Hp->VK->Prop}(ho:xC X (unaryOp op) r)(ha:PE X a ta):PE X (.UnaryOp op a pos) (Hz r ta):=by
 intro pins s σ H Q I h;exact UnaryOp_ (bR (ha pins s σ H _ I h) λv s1 ⟨x,H1,I1,r1,q1⟩=>ho pins s1 σ H1 x v Q I1 r1 q1)
theorem xE{C:Int->Int->Prop}
  (rule:∀(i j:Int) (t u:Tok) (s:Shared) (Q:Value->Shared->Prop) (E:Value->Shared->Prop),C i j->Q (.int (g i j) s.toks) { s with toks:=s.toks+1 }->wpAny (model X.prog X.w) X.A (f (.int i t) (.int j u)) Q E s) :
  OpR X f (rI C λi j=>.int (g i j)):=by
 intro pins s σ H x y v u Q I rx ry h;obtain⟨i,j,rfl,rfl,hc,q⟩:=h;obtain⟨t,rfl⟩:=rx;obtain⟨t',rfl⟩:=ry;exact rule i j t t' s _ _ hc ⟨.int (g i j),H,I.tok _,⟨_,rfl⟩,q⟩
theorem uH
  (rule:∀(i j:Int) (t u:Tok) (s:Shared) (Q:Value->Shared->Prop) (E:Value->Shared->Prop),Q (.int (g i j) s.toks) { s with toks:=s.toks+1 }->wpAny (model X.prog X.w) X.A (f (.int i t) (.int j u)) Q E s) :
  OpR X f (pD λi j=>.int (g i j)):=by
 intro pins s σ H x y v u Q I rx ry h;obtain⟨i,j,rfl,rfl,q⟩:=h;obtain⟨t,rfl⟩:=rx;obtain⟨t',rfl⟩:=ry;exact rule i j t t' s _ _ ⟨.int (g i j),H,I.tok _,⟨_,rfl⟩,q⟩
theorem pE{g:Int->Int->Bool}
  (rule:∀(i j:Int) (t u:Tok) (s:Shared) (Q:Value->Shared->Prop) (E:Value->Shared->Prop),Q (.bool (g i j)) s->wpAny (model X.prog X.w) X.A (f (.int i t) (.int j u)) Q E s) :
  OpR X f (pD λi j=>.bl (g i j)):=by
 intro pins s σ H x y v u Q I rx ry h;obtain⟨i,j,rfl,rfl,q⟩:=h;obtain⟨t,rfl⟩:=rx;obtain⟨t',rfl⟩:=ry;exact rule i j t t' s _ _ ⟨.bl (g i j),H,I,rfl,q⟩
def rH(i j:Int):Prop:=0<=j/\j<=1000000/\i.natAbs<2^64
def CMul(i j:Int):Prop:=(-(2^64)<i/\i<2^64)\/(-(2^64)<j/\j<2^64)
theorem CMul.ok{i j:Int}(h:CMul i j):IntMulOk i j:=by
 rcases h with⟨h1,h2⟩|⟨h1,h2⟩
 .exact .of_left (intBits_le_64 h1 h2)
 .exact .of_right (intBits_le_64 h1 h2)
theorem rJ:OpR X (binaryOp .Add) (pD λi j=>.int (i+j)):=uH λ_ _ _ _ _ _ _ q=>add_int q
theorem rK:OpR X (binaryOp .Sub) (pD λi j=>.int (i-j)):=uH λ_ _ _ _ _ _ _ q=>sub_int q
theorem pF:OpR X (binaryOp .Mod) (rI (λ_ j=>j≠0) λi j=>.int (i.fmod j)):=xE λ_ _ _ _ _ _ _ hc q=>mod_int' hc q
theorem rL:OpR X (binaryOp .Pow) (rI rH λi j=>.int (i^j.toNat)):=xE λ_ _ _ _ _ _ _ hc q=>pow_int_small hc.1 hc.2.1 hc.2.2 q
theorem HC{f:Value->Sem Value}{g:Int->Int}
  (rule:∀(i:Int) (t:Tok) (s:Shared) (Q:Value->Shared->Prop) (E:Value->Shared->Prop),Q (.int (g i) s.toks) { s with toks:=s.toks+1 }->wpAny (model X.prog X.w) X.A (f (.int i t)) Q E s) :
  xC X f (rU λi=>.int (g i)):=by
 intro pins s σ H x v Q I rx h;obtain⟨i,rfl,q⟩:=h;obtain⟨t,rfl⟩:=rx;exact rule i t s _ _ ⟨.int (g i),H,I.tok _,⟨_,rfl⟩,q⟩
theorem nD:xC X (unaryOp .USub) (rU λi=>.int (-i)):=HC λ_ _ _ _ _ q=>neg_int q
end
section
variable{a b:Expr}{tb tc:TE}{pos:Pos}
theorem rM{Q:VK}{k k':Bool}(I:Inv X pins σ H s)(q:Q (.bl k) H)(e:k=k'):EP X pins σ Q (.bool k') s:=by
 subst e;exact⟨.bl k,H,I,rfl,q⟩
theorem OpR.or(h:OpR X f r)(h':OpR X f r'):OpR X f (λx y H Q=>r x y H Q\/r' x y H Q):=by
 intro pins s σ H x y v u Q I rx ry q;rcases q with q|q
 .exact h pins s σ H x y v u Q I rx ry q
 .exact h' pins s σ H x y v u Q I rx ry q
theorem nE(b:Expr)(h:op≠.In:=by decide)(h2:op≠.NotIn:=by decide):behindInMarks op b=false:=by
 have e1:(op==CmpOp.In)=false:=by cases op<;>first|rfl|exact Nq rfl h
 have e2:(op==CmpOp.NotIn)=false:=by cases op<;>first|rfl|exact Nq rfl h2
 cases b<;>simp[behindInMarks,e1,e2]
theorem pG(ho:OpR X (compareOp op) r)(ha:PE X a ta)(hb:PE X b tb)(hm:behindInMarks op b=false):PE X (.Compare a [op] [b] pos) (xD r ta tb):=by
 intro pins s σ H Q I h;exact wpAny_Compare1 (rG ha hb I h λv u s2 x y H2 I2 rx ry q=>ho pins s2 σ H2 x y v u Q I2 rx ry q) hm
def qp(t:TE):TT:=λσ H Q=>t σ H λx H'=>∃k,x=.bl k/\Q k H'
theorem pH(ho:OpR X (compareOp op) r)(ha:PE X a ta)(hb:PE X b tb)(hm:behindInMarks op b=false):PT X (.Compare a [op] [b] pos) (qp (xD r ta tb)):=by
 intro pins s σ H Q I h;refine wpAny_isTrue_Compare1 (bR (ha pins s σ H _ I h) λv s1 ⟨x,H1,I1,r1,q1⟩=>bR (hb pins s1 σ H1 _ I1 q1) λu s2 ⟨y,H2,I2,r2,q2⟩=>
  bR (ho pins s2 σ H2 x y v u _ I2 r1 r2 q2) λc s3 ⟨z,H3,I3,r3,k,e,q3⟩=>?_) hm
 subst e;cases r3;exact NG ⟨H3,I3,q3⟩
def nF(r r':R2)(ta tb tc:TE):TE:=λσ H Q=>ta σ H λx H1=>tb σ H1 λy H2=>r x y H2 λz H3=>∃k,z=.bl k/\
 (if k=true then tc σ H3 λw' H4=>r' y w' H4 Q else Q (.bl false) H3)
theorem nG{op':CmpOp}(ho:OpR X (compareOp op) r)(ho':OpR X (compareOp op') r')(ha:PE X a ta)(hb:PE X b tb)(hc:PE X c tc)
  (hm:lastMarks [op,op'] [b,c]=false:=by with_unfolding_all rfl):PE X (.Compare a [op,op'] [b,c] pos) (nF r r' ta tb tc):=by
 intro pins s σ H Q I h;refine Compare_chain (bR (ha pins s σ H _ I h) λv s1 ⟨x,H1,I1,r1,q1⟩=>chain_link (bR (hb pins s1 σ H1 _ I1 q1) λu s2 ⟨y,H2,I2,r2,q2⟩=>
  bR (ho pins s2 σ H2 x y v u _ I2 r1 r2 q2) λd s3 ⟨z,H3,I3,r3,k,e,q3⟩=>?_)) hm
 subst e;cases r3;refine NG ?_;cases k with
 |false=>exact ite_ff ⟨.bl false,H3,I3,rfl,q3⟩
 |true=>exact ite_tt (chain_last (bR (hc pins s3 σ H3 _ I3 q3) λw' s4 ⟨z',H4,I4,r4,q4⟩=>ho' pins s4 σ H4 y z' u w' Q I4 r2 r4 q4))
theorem nI{op':CmpOp}(ho:OpR X (compareOp op) r)(ho':OpR X (compareOp op') r')(ha:PE X a ta)(hb:PE X b tb)(hc:PE X c tc)
  (hm:lastMarks [op,op'] [b,c]=false:=by with_unfolding_all rfl):PT X (.Compare a [op,op'] [b,c] pos) (qp (nF r r' ta tb tc)):=by
 intro pins s σ H Q I h;refine isTrue_chain (bR (ha pins s σ H _ I h) λv s1 ⟨x,H1,I1,r1,q1⟩=>test_link (bR (hb pins s1 σ H1 _ I1 q1) λu s2 ⟨y,H2,I2,r2,q2⟩=>
  bR (ho pins s2 σ H2 x y v u _ I2 r1 r2 q2) λd s3 ⟨z,H3,I3,r3,k,e,q3⟩=>?_)) hm
 subst e;cases r3;refine NG ?_;cases k with
 |false=>
  obtain⟨k',e',q'⟩:=q3;cases e';exact ite_ff ⟨H3,I3,q'⟩
 |true=>
  refine ite_tt (test_last (bR (hc pins s3 σ H3 _ I3 q3) λw' s4 ⟨z',H4,I4,r4,q4⟩=>bR (ho' pins s4 σ H4 y z' u w' _ I4 r2 r4 q4) λd' s5 ⟨z2,H5,I5,r5,k2,e2,q5⟩=>?_));subst e2;cases r5;exact NG ⟨H5,I5,q5⟩
def uI(K:Nn)(x:V)(H:Hp)(k:Bool):Prop:=
 match x with
 |.non=>k=false
 |.bl b=>k=b
 |.int i=>k=(i != 0)
 |.str y=>y.length<=sizeLine/\k=((y.length:Int) != 0)
 |.byt y=>y.size<=sizeLine/\k=((y.size:Int) != 0)
 |.ref p=>(∃xs,SqL K H p xs/\k = !xs.isEmpty)\/(∃xs,SqT K H p xs/\k = !xs.isEmpty)\/∃kvs,H p=some (.dK kvs)/\k = !kvs.isEmpty
 |_=>False
theorem jO{kvs:List (κ×V)}{vs:List (κ×Value)}(r:KV kvs vs):(!vs.isEmpty) = !kvs.isEmpty:=by
 cases r<;>rfl
theorem gx{its:List Value}(r:Vals xs its):(!its.toArray.isEmpty) = !xs.isEmpty:=by
 cases r<;>simp
theorem fw:(sizeLine:Nat)<2^63:=by rw[sizeLine_eq];decide
theorem rN:Av X (λx H Q=>∃k,uI X.K x H k/\Q k H):=by
 intro pins s σ H x v Q I rx h;obtain⟨k,e,q⟩:=h;have hl:=fw;have hs:sizeLine=16777216:=sizeLine_eq;cases x with
 |non=>
  cases rx;have e':k=false:=e;subst e';exact truthy_none ⟨H,I,q⟩
 |bl b=>
  cases rx;have e':k=b:=e;subst e';exact NG ⟨H,I,q⟩
 |int i=>
  obtain⟨t,rfl⟩:=rx;have e':k=(i != 0):=e;subst e';exact PySem.P.truthy_int ⟨H,I,q⟩
 |str y=>
  obtain⟨t,rfl⟩:=rx;obtain⟨hy,e'⟩:y.length<=sizeLine/\k=((y.length:Int) != 0):=e;subst e';exact PySem.P.truthy_str (by omega) ⟨H,I.tok _,q⟩
 |byt y=>
  obtain⟨t,rfl⟩:=rx;obtain⟨hy,e'⟩:y.size<=sizeLine/\k=((y.size:Int) != 0):=e;subst e';exact PySem.W.truthy_bytes (by omega) ⟨H,I.tok _,q⟩
 |ref p=>
  cases rx;have e':(∃xs,SqL X.K H p xs/\k = !xs.isEmpty)\/(∃xs,SqT X.K H p xs/\k = !xs.isEmpty)\/∃kvs,H p=some (.dK kvs)/\k = !kvs.isEmpty:=e;rcases e' with⟨xs,hx,e'⟩|⟨xs,hx,e'⟩|⟨kvs,hx,e'⟩
  .subst e'
   obtain⟨its,r,pl,hz⟩:=I.list hx;have hlen:=r.length;exact wpAny_truthy_list pl.isList (by simp only[eC];omega) ⟨H,I.tok _,by rw[gx r];exact q⟩
  .subst e'
   obtain⟨its,r,pl,hz⟩:=I.tuple hx;have hlen:=r.length;exact truthy_tuple pl (by simp only[eC];omega) ⟨H,I.tok _,by rw[gx r];exact q⟩
  .subst e'
   obtain⟨hz,hS,vs,r,m⟩:kvs.length<=sizeLine/\(p==sysModules)=false/\∃vs,KV kvs vs/\s.heap.DictOf (iq X.prog X.w) p vs:=I.hok p _ hx;have hlen:kvs.length=vs.length:=Paired.length r;exact wpAny_truthy_dict hS m (by omega) ⟨H,I.tok _,by rw[jO r];exact q⟩
 |_=>exact(show False from e).elim
theorem nJ(ha:PE X a ta)(he:∀whole,isTrue a X.env whole=(do let v <-whole;standAt a.pos;holding [v] (truthy v))) :
  PT X a (λσ H Q=>ta σ H λx H'=>∃k,uI X.K x H' k/\Q k H'):=by
 intro pins s σ H Q I h;exact isTrue_plain (bR (ha pins s σ H _ I h) λv s1 ⟨x,H1,I1,r1,q1⟩=>rN pins s1 σ H1 x v Q I1 r1 q1) (he _)
theorem eD{x:V}(r:Vals [x] us):∃u,us=[u]/\RelV x u:=by
 cases r with
 |cons r1 r2=>cases r2;exact⟨_,rfl,r1⟩
theorem km{x y:V}(r:Vals [x,y] us):∃u w',us=[u,w']/\RelV x u/\RelV y w':=by
 cases r with
 |cons r1 r2=>
  cases r2 with
  |cons r3 r4=>cases r4;exact⟨_,_,rfl,r1,r3⟩
theorem nK:CallR X (.builtin "abs") (λxs H Q=>∃i,xs=[.int i]/\Q (.int (if i<0 then -i else i)) H):=by
 intro pins s σ H xs us Q I r h;obtain⟨i,rfl,q⟩:=h;obtain⟨u,rfl,t,rfl⟩:=eD r;exact call_abs_int λu tk=>⟨.int (if i<0 then -i else i),H,I.tok _,⟨_,rfl⟩,q⟩
theorem kQ(hc:X.calm=true):CallR X (.builtin "max") (λxs H Q=>∃i j,xs=[.int i,.int j]/\Q (.int (if j>i then j else i)) H):=by
 intro pins s σ H xs us Q I r h;obtain⟨i,j,rfl,q⟩:=h;obtain⟨u,w',rfl,⟨t,rfl⟩,⟨t',rfl⟩⟩:=km r;refine max_two_ints (I.ok.hd hc) λh' tk k=>⟨_,H,I.kept k,?_,q⟩
 by_cases hj:j>i
 .rw[if_pos hj,if_pos hj];exact⟨_,rfl⟩
 .rw[if_neg hj,if_neg hj];exact⟨_,rfl⟩
theorem kR:CallR X (.type "int") (λxs H Q=>(∃i,xs=[.int i]/\Q (.int i) H)\/∃k,xs=[.bl k]/\Q (.int (if k then 1 else 0)) H):=by
 intro pins s σ H xs us Q I r h;rcases h with⟨i,rfl,q⟩|⟨k,rfl,q⟩
 .obtain⟨u,rfl,t,rfl⟩:=eD r
  exact call_int_int ⟨.int i,H,I,⟨_,rfl⟩,q⟩
 .obtain⟨u,rfl,r1⟩:=eD r
  cases r1;exact call_int_bool ⟨.int (if k then 1 else 0),H,I.tok _,⟨_,rfl⟩,q⟩
end
structure ObjM(h:Heap)(x dx C:Addr)(mA:Str->Option Value):Prop where
 obj:h.get? x=some (PySem.W.instObj C dx)
 ns:h.Ns1 dx mA
 ne:dx≠x
theorem kS(n:h.Ns1 dx mA):∃od,h.get? dx=some od/\∀name,PySem.W.lookIn name od=some (mA name):=by
 obtain⟨o,es,ep,ho,hd,hk,_,hm⟩:=n;refine⟨o,ho,λname=>?_⟩;have e:=hm name;unfold nsFind findBy at e;rw[<-Array.find?_toList] at e;unfold PySem.W.lookIn;rw[hd];dsimp only;split
 .rename_i y q
  rw[q] at e;exact congrArg some e
 .rename_i q
  rw[q] at e;have a:es.toList.any (·.refKey)=false:=by
   rw[List.any_eq_false];intro y hy;obtain⟨z,t,hkey⟩:=hk y (Array.mem_toList_iff.mp hy);simp[DictEntry.refKey,hkey]
  have a':¬es.toList.any (·.refKey)=true:=by rw[a];exact lC
  rw[if_neg a'];exact congrArg some e
theorem ObjM.look{x C:Addr}(I:ObjM h x dx C mA):∃od,PySem.W.InstAt h x (PySem.W.instObj C dx) C (some od)/\∀name,PySem.W.lookIn name od=some (mA name):=
 let⟨od,ho,hl⟩:=kS I.ns
 ⟨od,⟨I.obj,rfl,rfl,ho⟩,hl⟩
section
variable{prog:Program}{E:Value->Shared->Prop}{x C f:Addr}{v:Value}
end
section
variable{C:Addr}{fs fs':List (Str×V)}
end
structure Cls(K:Nn)(C:Addr):Prop where
 pg:PySem.W.plainGet K C Str.empty=true
 hd:PySem.W.hasDictIn K C=true
 po:PySem.W.plainOver K C=true
 sa:PySem.W.findIn K (.ref C) "__setattr__" = some (some (.builtin "object.__setattr__"))
theorem Cls.get{C:Addr}(c:Cls K C)(f:Str):PySem.W.plainGet K C f=true:=c.pg
section
variable{C:Addr}{fs:List (Str×V)}{f:Str}{v:V}{E:Value->Shared->Prop}
theorem Inv.made(I:Inv X pins σ H s):Inv X pins σ (upd (upd H s.heap.objs.size (.own (s.heap.objs.size+1))) (s.heap.objs.size+1) (.ins C s.heap.objs.size []))
  { s with heap:=(s.heap.push PySem.W.emptyDict).push (PySem.W.instObj C s.heap.objs.size) }:=by
 have e1:(s.heap.push PySem.W.emptyDict).get? s.heap.objs.size=some PySem.W.emptyDict:=gK s.heap rfl;have e2:((s.heap.push PySem.W.emptyDict).push (PySem.W.instObj C s.heap.objs.size)).get? (s.heap.objs.size+1)=some (PySem.W.instObj C s.heap.objs.size):=by
  have:=gK (s.heap.push PySem.W.emptyDict) (o:=PySem.W.instObj C s.heap.objs.size) rfl
  rwa [mY] at this
 have e3:(s.heap.push PySem.W.emptyDict).Ns s.heap.objs.size (λ_=>none):=⟨PySem.W.emptyDict,#[],_,e1,rfl,(λe he=>Nq he (by simp)),λ_=>rfl⟩
 have I1:=I.laid (a:=s.heap.objs.size) (o:=.own (s.heap.objs.size+1)) (h':=s.heap.push PySem.W.emptyDict) (t':=s.toks) (λb u q=>dH _ q) (cB _) ⟨_,e1⟩;refine I1.laid (a:=s.heap.objs.size+1) (o:=.ins C s.heap.objs.size []) (t':=s.toks) (λb u q=>dH _ q) (Nat.le_of_eq (mY _ _)) ?_;have ne:s.heap.objs.size≠s.heap.objs.size+1:=hZ (zR _);refine⟨by rw[aI ne,aP],i6 _,ne,e2,λ_=>none,(Heap.Ns1.of_empty e3).at λo q=>dH _ q,λ_=>True.intro,λy hy=>Nq rfl hy⟩
end
section
variable{o value:Expr}{f:Str}{pos tpos:Pos}{tv:TE}
end
section
variable{E:Value->Shared->Prop}{c:Value}{b:Bool}
end
structure Room(k:Nat)(A:Around):Prop where
 hd:A.handled=none
 gd:A.guards=some []
 dp:A.depth+3*k+5<recursionLimit
 un:A.units+16*k+200<cLine
theorem Room.mono(r:Room k A)(h:j<=k):Room j A:=⟨r.hd,r.gd,by have:=r.dp;omega,by have:=r.un;omega⟩
theorem Room.deeper{k:Nat}{A:Around}(r:Room (k+1) A)(env:Env):Room k (A.deeper env):=
 ⟨r.hd,r.gd,by have:=r.dp;show A.depth+1+3*k+5<_;omega,by have:=r.un;show A.units+3+16*k+200<_;omega⟩
theorem jP{C:Addr}:(A.under (.builtin "type.__call__" ⟨.ref C::us,kw⟩)).depth=A.depth+1:=by
 first|rfl|simp[Around.under,Code.weight,Code.isCreation,Code.isGuard,Code.isCaller,Code.frames,Code.isFrame,guardIds]
theorem jQ{C:Addr}:(A.under (.builtin "type.__call__" ⟨.ref C::us,kw⟩)).units=A.units+1:=by
 first|rfl|simp[Around.under,Code.cUnits,Code.frames,Code.isFrame]
theorem Room.make(r:Room (k+1) A)(C:Addr)(us:List Value)(kw:List (Str×Value)):Room k (A.under (.builtin "type.__call__" ⟨.ref C::us,kw⟩)):=
 ⟨r.hd,by first|exact r.gd|simp[Around.under,Code.weight,Code.isCreation,Code.isGuard,Code.isCaller,Code.frames,Code.isFrame,guardIds,r.gd],by have:=r.dp;rw[jP];omega,by have:=r.un;rw[jQ];omega⟩
theorem Room.depth{k:Nat}{A:Around}(r:Room k A):A.depth<recursionLimit:=by have:=r.dp;omega
theorem Room.units{k:Nat}{A:Around}(r:Room k A):A.units+64<cLine:=by have:=r.un;omega
def Aw:TA:=λ_ H Q=>Q [] H
def uJ(ta:TE)(tr:TA):TA:=λσ H Q=>ta σ H λx H1=>tr σ H1 λxs H2=>Q (x::xs) H2
section
variable{pos:Pos}
theorem nM:PA X [] Aw:=λ_ _ _ _ H Q I h=>Calls.spliced_nil ⟨[],H,I,.nil,h⟩
theorem kn(ha:PE X e te)(hr:PA X es t)(hs:starEach (e::es) X.env=(false,eval e X.env)::starEach es X.env:=by rfl):PA X (e::es) (uJ te t):=by
 intro pos pins s σ H Q I h;rw[hs];show wpAny _ _ (spliced ((false,eval e X.env)::backTo pos (starEach es X.env))) _ _ s;refine Calls.spliced_cons (bR (ha pins s σ H _ I h) λu s1 ⟨x,H1,I1,r1,q1⟩=>?_);exact bR (hr pos pins s1 σ H1 _ I1 q1) λus s2 ⟨xs,H2,I2,r2,q2⟩=>⟨x::xs,H2,I2,.cons r1 r2,q2⟩
def Ax(t:TA):TE:=λσ H Q=>t σ H λxs H1=>xs.length<=sizeLine/\∀p,H1 p=none->Q (.ref p) (upd H1 p (.tup xs))
def Ay(t:TA):TE:=λσ H Q=>t σ H λxs H1=>xs.length<=sizeLine/\∀p,H1 p=none->Q (.ref p) (upd H1 p (.lst xs))
theorem rO{x1}(h:PA X es t):PE X (.Tuple es x1 pos) (Ax t):=by
 intro pins s σ H Q I hq;refine wpAny_Tuple_spliced (bR (h pos pins s σ H _ I hq) λus s1 ⟨xs,H1,I1,r,z,q⟩=>⟨by rw[<-r.length];exact z,?_⟩);have hf:H1 s1.heap.objs.size=none:=I1.hok.fresh (cB _);refine⟨.ref s1.heap.objs.size,upd H1 s1.heap.objs.size (.tup xs),I1.laid (t':=s1.toks) (λb u e=>dH _ e) (cB _) ?_,rfl,q _ hf⟩;exact⟨z,us,r,⟨_,gK _ rfl,rfl,_,rfl⟩⟩
theorem rP(h:PA X es t):PE X (.List es pos) (Ay t):=by
 intro pins s σ H Q I hq;refine wpAny_List_spliced (bR (h pos pins s σ H _ I hq) λus s1 ⟨xs,H1,I1,r,z,q⟩=>⟨by rw[<-r.length];exact z,?_⟩);have hf:H1 s1.heap.objs.size=none:=I1.hok.fresh (cB _);refine⟨.ref s1.heap.objs.size,upd H1 s1.heap.objs.size (.lst xs),I1.laid (t':=s1.toks) (λb u e=>dH _ e) (cB _) ?_,rfl,q _ hf⟩;exact⟨z,us,0,r,gK _ rfl⟩
end
abbrev Sp:=List V->Hp->VK->XK->Prop
abbrev kT:=List Env->Hp->Shared->XK->Value->Shared->Prop
variable{CX:kT}
structure Env0(P:Program)(w:World)(K:Nn)(mg:Str->Option Value)(base:Heap)(A:Around)(outer:List Env)(s:Shared)(H:Hp):Prop where
 frames:A.frames=some outer
 mod:Mod K mg base
 bs:∀b o,base.get? b=some o->s.heap.get? b=some o/\H b=none
 bsz:base.objs.size<=s.heap.objs.size
 funs:s.heap.FunFrames base outer
 frf:∀b∈dn outer,H b=none
 hok:HOk P w H s.heap
 bare:AllBare s.gens
 sysn:∀xs,H sysModules≠some (.lst xs)
def CE(outer:List Env)(P:Program)(w:World)(H:Hp)(s:Shared)(Q:VK)(u:Value)(s':Shared):Prop:=
 ∃v H',s'.os=s.os/\AllBare s'.gens/\Un (dn outer) [] H H' s.heap s'.heap/\HOk P w H' s'.heap/\RelV v u/\Q v H'
def CR(CX:kT)(outer:List Env)(P:Program)(w:World)(H:Hp)(s:Shared)(Q:VK)(E:XK)(r:Result)(s':Shared):Prop:=
 match r with
 |.ok (.ret u)=>CE outer P w H s Q u s'
 |.ok _=>False
 |.error e=>CX outer H s E e s'
structure FnOk(P:Program)(w:World)(K:Nn)(mg:Str->Option Value)(base:Heap)(CX:kT)(k:Nat)(f:Addr)(fd:FuncData)(ps:List Str)(sp:Sp):Prop where
 len:∀vs H Q E,sp vs H Q E->vs.length=ps.length
 run:∀(A:Around) (outer:List Env) (s:Shared) (H:Hp) (args:Args) (us:List Value) (vs:List V) (Q:VK) (E:XK),Room k A->Env0 P w K mg base A outer s H->BindsTo s fd args (ps.zip us)->Vals vs us->sp vs H Q E->
  codeAny (model P w) A (.call (.ref f) args) (CR CX outer P w H s Q E) s
theorem FnOk.mono{P:Program}{w:World}{K:Nn}{mg:Str->Option Value}{base:Heap}{CX:kT}{j k:Nat}{f:Addr}{fd:FuncData}{ps:List Str}{sp:Sp}(F:FnOk P w K mg base CX j f fd ps sp)(h:j<=k) :
  FnOk P w K mg base CX k f fd ps sp:=⟨F.len,λA outer s H args us vs Q E hr=>F.run A outer s H args us vs Q E (hr.mono h)⟩
theorem Env0.make(e:Env0 P w K mg base A outer s H)(C:Addr)(us:List Value)(kw:List (Str×Value)) :
  Env0 P w K mg base (A.under (.builtin "type.__call__" ⟨.ref C::us,kw⟩)) outer s H:=⟨by first|exact e.frames|(simpa[Around.under,Code.envs,Code.isFrame,pushEnvs] using e.frames),e.mod,e.bs,e.bsz,e.funs,e.frf,e.hok,e.bare,e.sysn⟩
section
theorem Inv.env0(I:Inv X pins σ H s):Env0 X.prog X.w X.K X.mg X.base X.A X.stack s H:=
 ⟨I.ok.frames,I.ok.mod,I.bs,fQ I.ok.bsz I.sz,I.stack,I.stkFree,I.hok,I.bare,I.sysn⟩
theorem Inv.after{Q:VK}{u:Value}(I:Inv X pins σ H s)(h:CE X.stack X.prog X.w H s Q u s'):EP X pins σ Q u s':=by
 obtain⟨v,H',os,bare,un,hok,r,q⟩:=h;obtain⟨hh,g,d,t,os'⟩:=s';obtain rfl:os'=s.os:=os;exact⟨v,H',I.call (h':=hh) (g':=g) (d':=d) (t':=t) (ch:=[]) un hok bare (λb z=>Nq z (by simp)),r,q⟩
end
def qq(sp:Sp)(dvs:List V)(E:XK)(t:TA):TE:=λσ H Q=>t σ H λvs H1=>sp (vs++dvs) H1 Q E
def Binds(K:Nn)(fd:FuncData)(ps:List Str)(ds:List Value):Prop:=
 ∀(s:Shared) (us:List Value),K.In s.heap->(us++ds).length=ps.length->BindsTo s fd ⟨us,[]⟩ (ps.zip (us++ds))
theorem Binds.all(h:∀us:List Value,us.length=ps.length->bindArgs fd ⟨us,[]⟩=pure (ps.zip us)):Binds K fd ps []:=λs us _ hl=>by
 rw[qh] at hl ⊢;exact .of_eq (h us hl)
def cQ(CX:kT)(X:Cx)(E:XK):Prop:=∀(pins:List (Addr×Obj)) (σ:St) (H:Hp) (s:Shared) (e:Value) (s':Shared),Inv X pins σ H s->CX X.stack H s E e s'->X.xe e s'
section
variable{f C:Addr}{sp:Sp}{dvs:List V}{ds:List Value}{E:XK}{m:Str}{pos apos:Pos}{o:Expr}
theorem nN{Q:VK}(F:FnOk X.prog X.w X.K X.mg X.base CX k f fd ps sp)(hr:Room k X.A)(hb:Binds X.K fd ps ds)(hd:Vals dvs ds)(hx:cQ CX X E)
  (I:Inv X pins σ H s) (r:Vals vs us) (h:sp (vs++dvs) H Q E):wpAny (model X.prog X.w) X.A (call (.ref f) us) (EP X pins σ Q) X.xe s:=by
 have r2:Vals (vs++dvs) (us++ds):=r.append hd;have hl:(us++ds).length=ps.length:=by rw[<-r2.length];exact F.len _ _ _ _ h
 refine wpAny_call (codeAny_mono (F.run X.A X.stack s H ⟨us,[]⟩ (us++ds) (vs++dvs) Q E hr I.env0 (hb s us I.kIn hl) r2 h) λr s' hq=>?_);cases r with
 |error e=>exact hx pins σ H s e s' I hq
 |ok fl=>
  cases fl with
  |ret u=>exact I.after hq
  |next=>exact NC hq
  |brk=>exact NC hq
  |cont=>exact NC hq
theorem pI(F:FnOk X.prog X.w X.K X.mg X.base CX k f fd ps sp)(hr:Room k X.A)(hg:Gl X x)(hm:X.mg x=some (.ref f))(hk:PySem.W.keepIn X.K (.ref f)=true)(hb:Binds X.K fd ps ds)(hd:Vals dvs ds)(hx:cQ CX X E)
  (ha:PA X (e::es) t) (hdb:(x==("__debug__" : Str))=false:=by decide) (he:starEach (e::es) X.env=(false,eval e X.env)::starEach es X.env:=by rfl) (hpl:(backTo pos (starEach es X.env)).any (·.1)=false:=by rfl) :
  PE X (.Call (.Name x p) (e::es) [] pos) (qq sp dvs E t):=by
 intro pins s σ H Q I h;refine NO (eV I hg hm ?_ hdb);refine PySem.W.callWith_K (h₀:=X.base) I.ok.mod.kin hk (bR (ha pos pins s σ H _ I h) λus s1 ⟨vs,H1,I1,r,q⟩=>⟨I1.kIn,?_⟩) he hpl;exact nN F hr hb hd hx I1 r q
end
section
variable{f C:Addr}{ks:List Str}{sp:Sp}{E:XK}{m:Str}{pos apos kpos:Pos}{o:Expr}{kws:List Keyword}{tk:TA}{nm:Option Str}
variable{g:List Value->List Value->List Value}
end
structure cS(N P:List Str)(sc:Scope):Prop where
 kind:sc.kind=.function
 co:sc.isCoroutine=false
 gen:sc.isGenerator=false
 nd:N.Nodup
 pre:N.take P.length=P
 par:∀x∈P,sc.names.lookup x=some .local\/sc.names.lookup x=some .cell
 nofree:∀y∈sc.names,y.2≠.free
theorem ic{kindOf:Str->Option NameKind}{x:Str}:∀{binds:List (Str×Value)} {m:Str->Option Value},(∀v,(x,v)∉binds)->bindL kindOf binds m x=m x
 |[],_,_=>rfl
 |(n,v)::r,m,h=>by
  unfold bindL;rw[ic λw hw=>h w (gR _ hw)];split
  .have:x≠n:=by rintro rfl;exact h v ju
   simp[this]
  .rfl
theorem ig{kindOf:Str->Option NameKind}{x:Str}:∀{binds:List (Str×Value)} {m:Str->Option Value},(∀v,(x,v)∉binds)->bindC kindOf binds m x=m x
 |[],_,_=>rfl
 |(n,v)::r,m,h=>by
  unfold bindC;rw[ig λw hw=>h w (gR _ hw)];split
  .rfl
  .have:x≠n:=by rintro rfl;exact h v ju
   simp[this]
theorem fA{kindOf:Str->Option NameKind}{x:Str}{v:Value}:∀{P:List Str} {vs:List Value} {i:Nat} {m:Str->Option Value},P.Nodup->P[i]? = some x->vs[i]? = some v->kindOf x=some .local->
  bindL kindOf (P.zip vs) m x=some v
 |[],_,_,_,_,h,_,_=>by simp at h
 |_::_,[],_,_,_,_,h,_=>by simp at h
 |p::P,w::vs,0,m,nd,h1,h2,hk=>by
  simp at h1 h2;subst h1;subst h2;show bindL kindOf ((p,w)::P.zip vs) m p=_;unfold bindL;rw[ic λv hv=>(YaG.mp nd).1 (w4 hv).1,if_pos hk];simp
 |p::P,w::vs,i+1,m,nd,h1,h2,hk=>by
  show bindL kindOf ((p,w)::P.zip vs) m x=_;unfold bindL;exact fA (i:=i) (YaG.mp nd).2 (by simpa using h1) (by simpa using h2) hk
theorem fB{kindOf:Str->Option NameKind}{x:Str}{v:Value}:∀{P:List Str} {vs:List Value} {i:Nat} {m:Str->Option Value},P.Nodup->P[i]? = some x->vs[i]? = some v->kindOf x≠some .local->
  bindC kindOf (P.zip vs) m x=some v
 |[],_,_,_,_,h,_,_=>by simp at h
 |_::_,[],_,_,_,_,h,_=>by simp at h
 |p::P,w::vs,0,m,nd,h1,h2,hk=>by
  simp at h1 h2;subst h1;subst h2;show bindC kindOf ((p,w)::P.zip vs) m p=_;unfold bindC;rw[ig λv hv=>(YaG.mp nd).1 (w4 hv).1,if_neg hk];simp
 |p::P,w::vs,i+1,m,nd,h1,h2,hk=>by
  show bindC kindOf ((p,w)::P.zip vs) m x=_;unfold bindC;exact fB (i:=i) (YaG.mp nd).2 (by simpa using h1) (by simpa using h2) hk
def start(N:List Str)(vs:List V):St:=vs.map some++List.replicate (N.length-vs.length) none
def dP(CX:kT)(P:Program)(w:World)(K:Nn)(mg:Str->Option Value)(base:Heap)(N:List Str)(qual:Str)(scope:Scope)(f:Addr)(cd:Value)(A:Around)(outer:List Env)(s:Shared)(H:Hp)(E:XK):Cx where
 prog:=P
 w:=w
 K:=K
 mg:=mg
 base:=base
 A:=A.deeper (envOfC qual scope s.heap.objs.size f cd)
 N:=N
 s₀:=s
 H₀:=H
 env:=envOfC qual scope s.heap.objs.size f cd
 outer:=outer
 stack:=envOfC qual scope s.heap.objs.size f cd::outer
 ex:=[]
 calm:=true
 fn:=λ_=>true
 pn:=[]
 xe:=λe s'=>wpAny (model P w) (A.deeper (envOfC qual scope s.heap.objs.size f cd)) (leaving (envOfC qual scope s.heap.objs.size f cd) e) (λ_ s''=>CX outer H s E e s'') (λe' s''=>CX outer H s E e' s'') s'
theorem dY{sc:Scope}(h:sc.names.lookup x=some .cell):∃c,(cellsFrom n sc.names []).lookup x=some c:=by
 have q:=PySem.W.cellsFrom_some sc.names n [] (.inl h);exact Option.isSome_iff_exists.mp q
theorem kU{f:Addr}{cd:Value}{s1:Shared}{E:XK}
  (S:cS N ps scope) (hd:A.handled=none) (e0:Env0 P w K mg base A outer s H) (hl:vs.length=ps.length) (r:Vals vs us)
  (x:InCallC s s.heap.objs.size (bindL (envOfC qual scope s.heap.objs.size f cd).kindOf (ps.zip us) λ_=>none) (cellsFrom (s.heap.objs.size+1) scope.names []) (bindC (envOfC qual scope s.heap.objs.size f cd).kindOf (ps.zip us) λ_=>none) s1) :
  Inv (dP CX P w K mg base N qual scope f cd A outer s H E) [] (start N vs) H s1:=by
 have hpl:ps.length<=N.length:=by have:=congrArg List.length S.pre;rw[gS] at this;omega
 obtain⟨h1,tk,rfl,hk⟩:=x.done;have noA:∀b:Addr,b∉(dP CX P w K mg base N qual scope f cd A outer s H E).ex:=λb z=>Nq (show b∈([]:List Addr) from z) (by simp);refine ⟨⟨e0.mod,S.kind,rfl,rfl,cB _,λy z c h1 h2=>?_,λy hy=>?_,λy c _ h=>?_,λ_=>hd,Around.frames_deeper e0.frames,.inr ⟨rfl,rfl⟩,λb z=>Nq z (noA b),e0.bs,e0.bsz,λb _ _=>noA b,λb z=>Nq z (noA b),e0.funs,e0.frf,e0.sysn⟩,
  rfl,e0.bare,Un.kept hk,⟨_,x.toInCall.ns,λi y v h1 h2 h3=>?_⟩,λy c h=>⟨_,x.cell y c h⟩,e0.hok.fresh (cB _),λy c h=>?_,λp hp=>Nq (show p∈([]:List (Addr×Obj)) from hp) (by simp),e0.hok.kept hk,?_⟩
 .exact name_of_addr x.apart (Nx h1) (Nx h2)
 .have hy:scope.names.lookup y=some .cell\/scope.names.lookup y=some .free:=hy
  rcases hy with hy|hy
  .exact dY hy
  .exact Nq rfl (S.nofree _ (Nx hy))
 .exact ge (x.above y c (Nx h))
 .have hi:i<vs.length:=by
   unfold start at h2
   by_cases hi:i<vs.length
   .exact hi
   .rw[kJ (by simpa using hi)] at h2
    rw[lE] at h2;split at h2<;>cases h2
  have ha:vs[i]? = some v:=by
   unfold start at h2;rw[lF (by simpa using hi),cK] at h2;cases e:vs[i]? with
   |none=>rw[e] at h2;cases h2
   |some a=>rw[e] at h2;cases h2;rfl
  obtain⟨u,hu,rv⟩:=r.get ha;have hp:ps[i]? = some y:=by
   rw[<-S.pre,zS (by omega)];exact h1
  have ndP:ps.Nodup:=by rw[<-S.pre];exact S.nd.sublist (List.take_sublist _ _)
  refine⟨u,rv,?_⟩;rcases S.par y (h8 hp) with k|k
  .exact .inl ⟨k,fA ndP hp hu k⟩
  .obtain⟨c,e⟩:=dY (n:=s.heap.objs.size+1) k
   refine .inr ⟨.inl k,c,e,?_⟩;have q:=x.cell y c e;rw[fB ndP hp hu (by show scope.names.lookup y≠_;rw[k];decide)] at q;exact q
 .exact e0.hok.fresh (ge (x.above y c (Nx h)))
 .unfold start
  show _=N.length;rw[dX,bC,o5];omega
theorem qr{f:Addr}{params:Arguments}{dV kV doc pm cdv ct oc:Value}{an od:Option Addr}
 {sp:Sp} (lk:K.lookup f=some ⟨oc,od,.func (PySem.W.fnOf name qual params body scope dV kV doc pm an cdv ct),osl⟩) (hcd:PySem.W.codeIn K cdv qual=true) (S:cS N ps scope)
  (len:∀vs H Q E,sp vs H Q E->vs.length=ps.length)
  (hbody:∀ (A:Around) (outer:List Env) (s:Shared) (H:Hp) (vs:List V) (Q:VK) (E:XK),Room k (A.deeper (envOfC qual scope s.heap.objs.size f cdv))->sp vs H Q E->
   ∃t,PSs (dP CX P w K mg base N qual scope f cdv A outer s H E) body t/\t { nx:=λ_ H'=>Q .non H',rt:=Q } (start N vs) H) :
  FnOk P w K mg base CX (k+1) f (PySem.W.fnOf name qual params body scope dV kV doc pm an cdv ct) ps sp:=by
 refine⟨len,λA outer s H args us vs Q E hr e0 hb r hsp=>?_⟩;have hl:=len _ _ _ _ hsp;have KX:K.In s.heap:=e0.mod.kin.keeps λb o e=>(e0.bs b o e).1;have lim:s.heap.NoLimit:=e0.mod.nolimit.keeps λb o e=>(e0.bs b o e).1;have hkind:∀y∈ps.zip us,scope.names.lookup y.1=some .local\/(scope.names.lookup y.1=some .cell/\((cellsFrom (s.heap.objs.size+1) scope.names []).lookup y.1).isSome=true):=λ⟨n,v⟩ hy=>by
  rcases S.par n (w4 hy).1 with q|q
  .exact .inl q
  .exact .inr ⟨q,PySem.W.cellsFrom_some _ _ _ (.inl q)⟩
 refine codeAny_call_function hr.depth (KX _ _ lk) rfl S.co S.gen rfl (PySem.W.codeRec_of KX hcd) (hb _ _ _ _ ?_);refine wpAny_newFunctionEnv_cells S.kind hkind λenv he s1 x=>?_;subst he;refine⟨lim.keeps x.toInCall.keep,codeAny_func ?_⟩;obtain⟨t,ht,hq⟩:=hbody A outer s H vs Q E (hr.deeper _) hsp;have I:Inv (dP CX P w K mg base N qual scope f cdv A outer s H E) [] (start N vs) H s1:=kU S hr.hd e0 hl r x;refine ND (ht [] s1 (start N vs) H _ I hq) (λfl s' hs=>?_) λe s' hs=>hs;have fin:∀{σ':St} {H':Hp} {v:V} {u:Value},Inv (dP CX P w K mg base N qual scope f cdv A outer s H E) [] σ' H' s'->RelV v u->Q v H'->CE outer P w H s Q u s':=
  λ{σ' H' v u} J rv q=>⟨v,H',J.os,J.bare,J.base,J.hok,rv,q⟩
 cases fl with
 |ret u=>
  obtain⟨v,σ',H',J,rv,q⟩:=hs;exact fin J rv q
 |next=>
  obtain⟨σ',H',J,q⟩:=hs;exact fin (v:=V.non) (u:=Value.none) J rfl q
 |brk=>
  obtain⟨_,_,_,q⟩:=hs;exact NC q
 |cont=>
  obtain⟨_,_,_,q⟩:=hs;exact NC q
section
variable{pos:Pos}{id T:String}{r:List V->Hp->VK->Prop}
def Db(r:List V->Hp->VK->Prop)(t:TA):TE:=λσ H Q=>t σ H λvs H1=>r vs H1 Q
theorem nO(hc:CallR X (.builtin id) r)(hg:Gl X x)(hm:X.mg x=none)(hv:bootBuiltins x=some (.builtin id))(ha:PA X (e::es) t)(hn:x≠ "__name__" :=by decide)(hdb:(x==("__debug__" : Str))=false:=by decide)
  (he:starEach (e::es) X.env=(false,eval e X.env)::starEach es X.env:=by rfl) (hpl:(backTo pos (starEach es X.env)).any (·.1)=false:=by rfl):PE X (.Call (.Name x p) (e::es) [] pos) (Db r t):=by
 intro pins s σ H Q I h;refine NO (eM I hg hm hv ?_ hn hdb);exact PyProof.Rows.callWith_builtin1 (bR (ha pos pins s σ H _ I h) λus s1 ⟨vs,H1,I1,r1,q1⟩=>hc pins s1 σ H1 vs us Q I1 r1 q1) he hpl
theorem ii(hc:CallR X (.type T) r)(hg:Gl X x)(hm:X.mg x=none)(hv:bootBuiltins x=some (.type T))(ha:PA X (e::es) t)(hn:x≠ "__name__" :=by decide)(hdb:(x==("__debug__" : Str))=false:=by decide)
  (he:starEach (e::es) X.env=(false,eval e X.env)::starEach es X.env:=by rfl) (hpl:(backTo pos (starEach es X.env)).any (·.1)=false:=by rfl):PE X (.Call (.Name x p) (e::es) [] pos) (Db r t):=by
 intro pins s σ H Q I h;refine NO (eM I hg hm hv ?_ hn hdb);exact PyProof.Rows.callWith_type1 (bR (ha pos pins s σ H _ I h) λus s1 ⟨vs,H1,I1,r1,q1⟩=>hc pins s1 σ H1 vs us Q I1 r1 q1) he hpl
end
end L2
namespace HT
open PySem PyProof.Rows
section
open PySem.SeqAt
open PySem.AutoSeq1 (wpAny_loadPart')
open PySem.MeetsSeq PySem.MeetsSeq2 PySem.MeetsSeq3
end
section
variable{prog:Program}{w:World}{A:Around}{E:Value->Shared->Prop}{s:Shared}
theorem cat_tup{t b:Addr}{vs ws:List Value}{Q:Value->Shared->Prop}(ht:IsTup s.heap t vs.toArray)(hb:IsTup s.heap b ws.toArray)(hv:vs≠[])
  (h1:ws=[]->Q (.ref t) s) (h2:ws≠[]->Q (.ref s.heap.objs.size) { s with heap:=s.heap.push { cls:=.type "tuple",data:=.seq (vs++ws).toArray } })
  (hsz:vs.length+ws.length<=sizeLine):wpAny (model prog w) A (binaryOp .Add (.ref t) (.ref b)) Q E s:=by
 obtain⟨⟨cls,dd,data,sl⟩,ho,hc,n,hd⟩:=id ht;obtain⟨⟨cls2,dd2,data2,sl2⟩,ho2,hc2,n2,hd2⟩:=id hb;simp only at hc hd hc2 hd2;subst hc hd hc2 hd2;have e:vs.toArray++ws.toArray=(vs++ws).toArray:=by simp
 by_cases hw:ws=[]
 .exact concat_meets ⟨_,ho,rfl⟩ ⟨_,ho2,rfl⟩ noFill_tuple_add seq_tuple_add PySem.F.slot_tuple_add PySem.F.entry_tuple_add (PySem.F.args_tuple_add_2 _ _)
   (tuple_addW1 t b vs.toArray ws.toArray n n2 dd dd2 sl sl2 (by simpa using hv) (by simp[hw])) ⟨ho,ho2,h1 hw⟩
 .refine concat_meets ⟨_,ho,rfl⟩ ⟨_,ho2,rfl⟩ noFill_tuple_add seq_tuple_add PySem.F.slot_tuple_add PySem.F.entry_tuple_add (PySem.F.args_tuple_add_2 _ _)
   (tuple_addW2 t b vs.toArray ws.toArray n n2 dd dd2 sl sl2 (by simpa using hv) (by simpa using hw) (by rw[eC,eC];exact hsz)) ⟨ho,ho2,?_⟩
  rw[e];exact h2 hw
def sIx(n d:Nat):Option Int->Nat
 |none=>d
 |some v=>if v<0 then(v+(n:Int)).toNat else min v.toNat n
theorem sIx_none(n d:Nat):sIx n d none=d:=rfl
theorem sIx_nat(n d k:Nat):sIx n d (some (k:Int))=min k n:=by
 show(if(k:Int)<0 then((k:Int)+(n:Int)).toNat else min (k:Int).toNat n)=min k n;rw[if_neg (by omega),iU]
theorem rR(n d:Nat)(hd:d<=n)(o:Option Int):sIx n d o<=n:=by
 cases o with
 |none=>exact hd
 |some v=>
  show(if v<0 then(v+(n:Int)).toNat else min v.toNat n)<=n
  by_cases hv:v<0
  .rw[if_pos hv];omega
  .rw[if_neg hv];exact Nat.min_le_right _ _
theorem kq(v:Int)(n d:Nat):(if v<0 then max (v+(n:Int)) 0 else min v (n:Int))=((sIx n d (some v):Nat):Int):=by
 show(if v<0 then max (v+(n:Int)) 0 else min v (n:Int))=(((if v<0 then(v+(n:Int)).toNat else min v.toNat n):Nat):Int)
 by_cases hv:v<0
 .simp only[if_pos hv];omega
 .simp only[if_neg hv];omega
theorem jR(lo hi:Option Int)(n:Nat):Builtin.Slice.sliceAdjust lo hi 1 (n:Int)=(((sIx n 0 lo:Nat):Int),((sIx n n hi:Nat):Int)):=by
 have h1:¬((1:Int)<0):=by omega
 unfold Builtin.Slice.sliceAdjust;simp only[h1,if_false];refine Prod.ext ?_ ?_
 .cases lo with
  |none=>rfl
  |some v=>exact kq v n 0
 .cases hi with
  |none=>rfl
  |some v=>exact kq v n n
theorem jS(i j:Nat):Builtin.Slice.slicePlaces (i:Int) (j:Int) 1=j-i:=by
 unfold Builtin.Slice.slicePlaces;have h1:(1:Int)>0:=by omega
 simp only[h1,if_true,Int.ediv_one];split<;>omega
theorem gy{v:Value}{o:Option Int}{Q:Option Int->Shared->Prop}(p:IsPart v o)(h:Q o s):wpAny (model prog w) A (Builtin.Slice.slicePartIndex v) Q E s:=by
 cases p with
 |none=>exact slicePart_none h
 |int i t=>exact slicePart_int h
theorem dD{sl:Addr}{vl vu:Value}{lo hi:Option Int}{n:Nat}{Q:Int×Int×Nat->Shared->Prop}(hs:s.heap.IsSliceOf sl vl vu .none)(pl:IsPart vl lo)(pu:IsPart vu hi)
  (h:Q (((sIx n 0 lo:Nat):Int),1,sIx n n hi-sIx n 0 lo) s):wpAny (model prog w) A (Builtin.Slice.sliceApplied (.ref sl) (pure (n:Int))) Q E s:=by
 obtain⟨os,hos,hcs,hds⟩:=id hs;unfold Builtin.Slice.sliceApplied Builtin.Slice.sliceFields;refine Nm (Nm (Ny hos hds (x:=vl) rfl (Nm (Ny hos hds (x:=vu) rfl (Nm (Ny hos hds (x:=.none) rfl (Np ?_)))))));refine Nm (slicePart_none ?_);show wpAny _ _ (if((1:Int)==0)=true then _ else _) _ _ s;rw[if_neg (by decide)];refine Nm (gy pl (Nm (gy pu (Nm (Np ?_)))));show wpAny _ _ (match Builtin.Slice.sliceAdjust lo hi 1 (n:Int) with|(lo,hi)=>pure (lo,(1:Int),Builtin.Slice.slicePlaces lo hi 1)) _ _ s;rw[jR lo hi n];show wpAny _ _ (pure (((sIx n 0 lo:Nat):Int),(1:Int),Builtin.Slice.slicePlaces ((sIx n 0 lo:Nat):Int) ((sIx n n hi:Nat):Int) 1)) _ _ s;rw[jS];exact Np h
theorem nQ(xs:Array Value)(i k:Nat):((List.range k).filterMap λ(m:Nat)=>xs[((i:Int)+(m:Int)*1).toNat]?).toArray=((xs.toList.drop i).take k).toArray:=by
 have e:(λ(m:Nat)=>xs[((i:Int)+(m:Int)*1).toNat]?)=λm=>xs[i+m]?:=by
  funext m;have:((i:Int)+(m:Int)*1).toNat=i+m:=by omega
  rw[this]
 rw[e];have:=pick_run xs i k;rw[List.filterMap_map] at this;have e2:((λx=>xs[x]?)∘λx=>i+x)=λm=>xs[i+m]?:=rfl;rw[e2] at this;rw[this]
theorem getItem_tuple_cut{t sl:Addr}{items:Array Value}{vl vu:Value}{lo hi:Option Int}{Q:Value->Shared->Prop}(ht:IsTup s.heap t items)(hs:s.heap.IsSliceOf sl vl vu .none)(pl:IsPart vl lo)(pu:IsPart vu hi)
  (hw:¬(sIx items.size 0 lo=0/\sIx items.size items.size hi=items.size))
  (h:Q (.ref s.heap.objs.size) { s with heap:=s.heap.push { cls:=.type "tuple",data:=.seq ((items.toList.drop (sIx items.size 0 lo)).take (sIx items.size items.size hi-sIx items.size 0 lo)).toArray } })
  (hsz:items.size<=sizeLine):wpAny (model prog w) A (getItem (.ref t) (.ref sl)) Q E s:=by
 have htake:sizeOk (.seq ((items.toList.drop (sIx items.size 0 lo)).take (sIx items.size items.size hi-sIx items.size 0 lo)).toArray):=by
  show((items.toList.drop (sIx items.size 0 lo)).take (sIx items.size items.size hi-sIx items.size 0 lo)).toArray.size<=sizeLine;rw[eC,gS,jv,wY];omega
 have hj:sIx items.size items.size hi<=items.size:=rR _ _ (cB _) hi;obtain⟨os,hos,hcs,hds⟩:=id hs;have hTs:s.TypeIs (.ref sl) "slice" :=⟨os,hos,hcs⟩
 unfold getItem
 try with_reducible refine NM ?_
 first|refine Nm (Np ?_)|skip
 refine Nm (wpAny_sequenceKey ht.typeIs (by decide) ?_);refine Nm (wpAny_callSpecial?_slot (name:=Str.ofString "__getitem__") ht.typeIs PyProof.Rows.slot_tuple_getitem
  (NH PyProof.Rows.slot_tuple_getitem ht.typeIs entry_tuple_getitem ?_ (args_tuple_getitem _ _)))
 show wpAny _ _ (Builtin.Tuple.tupleItemsOf (.ref t) >>= _) _ _ s;refine Nm (tupleItemsOf_ ht ?_);refine Nm (wpAny_typeOf hTs ?_);rw[if_pos (by decide)];refine Nm (dD hs pl pu ?_);have hno:¬((((sIx items.size 0 lo:Nat):Int)==0&&(1:Int)==1&&(sIx items.size items.size hi-sIx items.size 0 lo)==items.size)=true):=by
  intro q;rw[c6,c6] at q;have q1:((sIx items.size 0 lo:Nat):Int)=0:=eq_of_beq q.1.1;have q2:sIx items.size items.size hi-sIx items.size 0 lo=items.size:=eq_of_beq q.2;exact hw ⟨by omega,by omega⟩
 show wpAny _ _ (if(((sIx items.size 0 lo:Nat):Int)==0&&(1:Int)==1&&(sIx items.size items.size hi-sIx items.size 0 lo)==items.size)=true then _ else _) _ _ s;rw[if_neg hno,nQ]
 first
  |exact Nm (m:=Builtin.Tuple.tupleExact _) (NA (Np ⟨_,rfl,Np h⟩) htake)
  |exact Nm (m:=Builtin.Tuple.tupleExact _) (NA (Nm (Np (Np ⟨_,rfl,Np h⟩))) htake)
  |exact Nm (Nm (m:=Builtin.Tuple.tupleExact _) (NA (Np (Np ⟨_,rfl,Np h⟩)) htake))
  |exact Nm (Nm (m:=Builtin.Tuple.tupleExact _) (NA (Np ⟨_,rfl,Np h⟩) htake))
end
end HT
namespace L2
open PySem PySem.Spec PyProof.Rows
variable{X:Cx}{e:Expr}{r:V->Option Int->Option Int->Hp->VK->Prop}{xs:List V}{n j t':Nat}{i:Int}{pins:List (Addr×Obj)}{σ:St}{H:Hp}{s:Shared}{its':List Value}{f:Array Value->Array Value}{A:Around}{x:V}
abbrev TO:=St->Hp->(Option Int->Hp->Prop)->Prop
def PO(X:Cx)(e:Option Expr)(t:TO):Prop:=
 ∀(pins:List (Addr×Obj)) (s:Shared) (σ:St) (H:Hp) (Q:Option Int->Hp->Prop),Inv X pins σ H s->t σ H Q->
  wpAny (model X.prog X.w) X.A (evalPart e X.env) (λu s'=>∃o H',Inv X pins σ H' s'/\IsPart u o/\Q o H') X.xe s
def pJ:TO:=λ_ H Q=>Q none H
def uK(t:TE):TO:=λσ H Q=>t σ H λx H1=>∃i,x=.int i/\Q (some i) H1
section
variable{te:TE}{lo hi:Option Expr}{tl th:TO}{pos p2:Pos}
theorem pK:PO X none pJ:=by
 intro pins s σ H Q I h;rw[evalPart_none];exact Np ⟨none,H,I,.none,h⟩
theorem pL(h:PE X e te):PO X (some e) (uK te):=by
 intro pins s σ H Q I hw;rw[evalPart_some];refine bR (h pins s σ H _ I hw) λu s1 ⟨x,H1,I1,r1,q1⟩=>?_;obtain⟨i,rfl,q⟩:=q1;obtain⟨t,rfl⟩:=r1;exact⟨some i,H1,I1,.int i t,q⟩
def SlR(X:Cx)(r:V->Option Int->Option Int->Hp->VK->Prop):Prop:=
 ∀(pins:List (Addr×Obj)) (s:Shared) (σ:St) (H:Hp) (x:V) (v vl vu:Value) (lo hi:Option Int) (sl:Addr) (Q:VK),Inv X pins σ H s->RelV x v->s.heap.IsSliceOf sl vl vu .none->IsPart vl lo->IsPart vu hi->r x lo hi H Q->
  ∃T id,typeLookup (.type T) "__getitem__" = pure (some (.builtin id))/\s.TypeIs v T/\wpAny (model X.prog X.w) X.A (getItem v (.ref sl)) (EP X pins σ Q) X.xe s
theorem SlR.or{r':V->Option Int->Option Int->Hp->VK->Prop}(h:SlR X r)(h':SlR X r'):SlR X (λx lo hi H Q=>r x lo hi H Q\/r' x lo hi H Q):=by
 intro pins s σ H x v vl vu lo hi sl Q I rx hs pl pu q;rcases q with q|q
 .exact h pins s σ H x v vl vu lo hi sl Q I rx hs pl pu q
 .exact h' pins s σ H x v vl vu lo hi sl Q I rx hs pl pu q
def HD(r:V->Option Int->Option Int->Hp->VK->Prop)(te:TE)(tl th:TO):TE:=λσ H Q=>te σ H λx H1=>tl σ H1 λl H2=>th σ H2 λu H3=>r x l u H3 Q
theorem jc(hr:SlR X r)(he:PE X e te)(hl:PO X lo tl)(hu:PO X hi th):PE X (.Subscript e (.Slice lo hi none p2) pos) (HD r te tl th):=by
 intro pins s σ H Q I h;refine Subscript_ (bR (he pins s σ H _ I h) λv s1 ⟨x,H1,I1,r1,q1⟩=>?_);refine wpAny_Slice (bR (hl pins s1 σ H1 _ I1 q1) λvl s2 ⟨l,H2,I2,pl,q2⟩=>bR (hu pins s2 σ H2 _ I2 q2) λvu s3 ⟨u,H3,I3,pu,q3⟩=>?_);rw[evalPart_none];refine Np ?_;have I4:Inv X pins σ H3 { s3 with heap:=s3.heap.push { cls:=.type "slice",data:=.fields #[vl,vu,.none] } }:=I3.kept (t':=s3.toks) λb ob q=>dH _ q;obtain⟨T,id,hT,ht,hg⟩:=hr pins { s3 with heap:=s3.heap.push { cls:=.type "slice",data:=.fields #[vl,vu,.none] } } σ H3 x v vl vu l u s3.heap.objs.size Q I4 r1 (Heap.IsSliceOf.new ..) pl pu q3;show wpAny (model X.prog X.w) X.A (subscriptTail e (.Slice lo hi none p2) v (.ref s3.heap.objs.size)) (EP X pins σ Q) X.xe { s3 with heap:=s3.heap.push { cls:=.type "slice",data:=.fields #[vl,vu,.none] } };exact tail_any (ops:=[.ref s3.heap.objs.size,v]) ht hT hg (by with_unfolding_all rfl)
def jd(xs:List V)(lo hi:Option Int):List V:=(xs.drop (HT.sIx xs.length 0 lo)).take (HT.sIx xs.length xs.length hi-HT.sIx xs.length 0 lo)
theorem fM(xs:List V)(lo hi:Option Int):(jd xs lo hi).length<=xs.length:=by
 unfold jd;rw[gS,jv];omega
def Az(K:Nn):V->Option Int->Option Int->Hp->VK->Prop:=λx lo hi H Q=>∃a xs,x=.ref a/\SqT K H a xs/\
 ¬(HT.sIx xs.length 0 lo=0/\HT.sIx xs.length xs.length hi=xs.length)/\∀p,H p=none->Q (.ref p) (upd H p (.tup (jd xs lo hi)))
theorem sl_tup:SlR X (Az X.K):=by
 intro pins s σ H x v vl vu lo hi sl Q I rx hs pl pu h;obtain⟨a,xs,rfl,hx,hw,q⟩:=h;cases rx;obtain⟨its,r,ht,hz⟩:=I.tuple hx;have hlen:its.toArray.size=xs.length:=by rw[eC];exact r.length.symm
 refine⟨"tuple",_,PyProof.Rows.slot_tuple_getitem.lookup,ht.typeIs,?_⟩;refine HT.getItem_tuple_cut ht hs pl pu (by rw[hlen];exact hw) ?_ (by rw[hlen];exact hz);rw[hlen];refine⟨.ref s.heap.objs.size,_,I.laid (t':=s.toks) (o:=.tup (jd xs lo hi)) (λb ob q=>dH _ q) (cB _) ?_,rfl,q _ (I.hok.fresh (cB _))⟩;exact⟨fQ (fM xs lo hi) hz,_,(r.drop (HT.sIx xs.length 0 lo)).take (HT.sIx xs.length xs.length hi-HT.sIx xs.length 0 lo),IsTup.new _ _⟩
def uL(K:Nn):R2:=λx y H Q=>∃a b xs ys,x=.ref a/\y=.ref b/\SqT K H a xs/\SqT K H b ys/\xs≠[]/\xs.length+ys.length<=sizeLine/\
 (ys=[]->Q (.ref a) H)/\(ys≠[]->∀p,H p=none->Q (.ref p) (upd H p (.tup (xs++ys))))
theorem Vals.nil_iff{us:List Value}(r:Vals xs us):us=[]↔xs=[]:=by
 cases r with
 |nil=>simp
 |cons _ _=>simp
theorem pM:OpR X (binaryOp .Add) (uL X.K):=by
 intro pins s σ H x y v u Q I rx ry h;obtain⟨a,b,xs,ys,rfl,rfl,ha,hb,hx,hz,q1,q2⟩:=h;cases rx;cases ry;obtain⟨its,r1,p1,_⟩:=I.tuple ha;obtain⟨its2,r2,p2,_⟩:=I.tuple hb;refine HT.cat_tup p1 p2 (λz=>hx (r1.nil_iff.mp z)) (λz=>⟨.ref a,H,I,rfl,q1 (r2.nil_iff.mp z)⟩) (λz=>?_) (by rw[<-r1.length,<-r2.length];exact hz);refine⟨.ref s.heap.objs.size,_,I.laid (t':=s.toks) (o:=.tup (xs++ys)) (λb ob q=>dH _ q) (cB _) ?_,rfl,q2 (λw=>z (r2.nil_iff.mpr w)) _ (I.hok.fresh (cB _))⟩;exact⟨by rw[dX];exact hz,_,r1.append r2,IsTup.new _ _⟩
end
def ku(n:Nat)(i:Int):Option Nat:=if 0<=i then(if i<n then some i.toNat else none) else if -(n:Int)<=i then some (i+n).toNat else none
def eX{α:Type}(xs:List α)(i:Int):Option α:=(ku xs.length i).bind λj=>xs[j]?
theorem kv(h:ku n i=some j):seqIndex? i n=some j/\j<n/\-(n:Int)<=i/\i<n:=by
 unfold ku at h
 by_cases h0:0<=i
 .rw[if_pos h0] at h
  by_cases h1:i<n
  .rw[if_pos h1] at h
   have e:i.toNat=j:=Nv h;exact⟨by rw[seqIndex_of h0 h1,e],by omega,by omega,h1⟩
  .rw[if_neg h1] at h;cases h
 .rw[if_neg h0] at h
  by_cases h1:-(n:Int)<=i
  .rw[if_pos h1] at h
   have e:(i+n).toNat=j:=Nv h;exact⟨by rw[seqIndex_neg (by omega) h1,e],by omega,h1,by omega⟩
  .rw[if_neg h1] at h;cases h
theorem iz{α:Type}{xs:List α}{v:α}(h:eX xs i=some v):∃j,seqIndex? i xs.length=some j/\xs[j]? = some v/\j<xs.length/\-(xs.length:Int)<=i/\i<xs.length:=by
 unfold eX at h;cases e:ku xs.length i with
 |none=>rw[e] at h;cases h
 |some j=>
  rw[e] at h;obtain⟨h1,h2,h3,h4⟩:=kv e;exact⟨j,h1,h,h2,h3,h4⟩
theorem bY{α:Type}{xs:List α}{v:α}(h:xs[j]? = some v):eX xs (j:Int)=some v:=by
 have hj:j<xs.length:=(Yaq.mp h).1;have e:ku xs.length (j:Int)=some j:=by
  unfold ku;rw[if_pos (by omega),if_pos (by omega)];simp
 unfold eX;rw[e];exact h
def iA(b:Expr):Prop:=∀o i,subscripted b false o i=operate [o,i] (getItem o i)
def IxR(X:Cx)(r:R2):Prop:=
 ∀(value slice:Expr) (pins:List (Addr×Obj)) (s:Shared) (σ:St) (H:Hp) (x y:V) (v u:Value) (Q:VK),Inv X pins σ H s->RelV x v->RelV y u->r x y H Q->
  subscripted slice false v u=operate [v,u] (getItem v u)->wpAny (model X.prog X.w) X.A (subscriptTail value slice v u) (EP X pins σ Q) X.xe s
def MtR(X:Cx)(id:String)(r:V->List V->Hp->VK->Prop):Prop:=
 ∀(pins:List (Addr×Obj)) (s:Shared) (σ:St) (H:Hp) (x:V) (xs:List V) (v:Value) (us:List Value) (Q:VK),Inv X pins σ H s->RelV x v->Vals xs us->r x xs H Q->
  wpAny (model X.prog X.w) X.A (call (.builtin id) (v::us)) (EP X pins σ Q) X.xe s
section
variable{a b:Expr}{ta tb:TE}{pos:Pos}
theorem IxR.or{r r':R2}(h:IxR X r)(h':IxR X r'):IxR X (λx y H Q=>r x y H Q\/r' x y H Q):=by
 intro value slice pins s σ H x y v u Q I rx ry q hs;rcases q with q|q
 .exact h value slice pins s σ H x y v u Q I rx ry q hs
 .exact h' value slice pins s σ H x y v u Q I rx ry q hs
theorem MtR.or{id:String}{r r':V->List V->Hp->VK->Prop}(h:MtR X id r)(h':MtR X id r'):MtR X id (λx xs H Q=>r x xs H Q\/r' x xs H Q):=by
 intro pins s σ H x xs v us Q I rx rs q;rcases q with q|q
 .exact h pins s σ H x xs v us Q I rx rs q
 .exact h' pins s σ H x xs v us Q I rx rs q
theorem qs{r:R2}(hr:IxR X r)(ha:PE X a ta)(hb:PE X b tb)(hs:iA b):PE X (.Subscript a b pos) (xD r ta tb):=by
 intro pins s σ H Q I h;exact Subscript_ (rG ha hb I h λv u s2 x y H2 I2 rx ry q=>hr a b pins s2 σ H2 x y v u Q I2 rx ry q (hs _ _))
def uM(K:Nn):R2:=λx y H Q=>∃p xs i v,x=.ref p/\y=.int i/\SqL K H p xs/\eX xs i=some v/\Q v H
def uN(K:Nn):R2:=λx y H Q=>∃p xs i v,x=.ref p/\y=.int i/\SqT K H p xs/\eX xs i=some v/\Q v H
def uO:R2:=λx y H Q=>∃z i c,x=.str z/\y=.int i/\z.length<=sizeLine/\eX z.cps.toList i=some c/\Q (.str ⟨#[c]⟩) H
theorem ix_list:IxR X (uM X.K):=by
 intro value slice pins s σ H x y v u Q I rx ry h hs;obtain⟨p,xs,i,z,rfl,rfl,hq,he,q⟩:=h;cases rx;obtain⟨t,rfl⟩:=ry;obtain⟨its,r,pl,hz⟩:=I.list hq;obtain⟨j,h1,h2,h3,h4,h5⟩:=iz he;obtain⟨w,ew,rw'⟩:=r.get h2;have hl:=r.length;have hn:=fw;have fin:EP X pins σ Q w s:=⟨z,H,I,rw',q⟩
 by_cases h0:0<=i
 .have hj:i.toNat=j:=by
   rw[seqIndex_of h0 h5] at h1;exact Nv h1
  exact item_listR pl.isList h0 (by omega) (by rw[hj];simpa using ew) fin hs
 .have hj:(i+(its.toArray.size:Int)).toNat=j:=by
   rw[seqIndex_neg (by omega) h4] at h1;rw[eC,<-hl];exact Nv h1
  exact subscriptTail_builtinR (x:=w) pl.isList.typeIs slot_list_getitem.lookup
   (wpAny_getItem_list_neg (Q:=λr s'=>r=w/\EP X pins σ Q r s') pl.isList (by omega) (by rw[eC]<;>omega) (by omega) (by rw[hj];simpa using ew) ⟨rfl,fin⟩) hs
theorem ix_tup:IxR X (uN X.K):=by
 intro value slice pins s σ H x y v u Q I rx ry h hs;obtain⟨p,xs,i,z,rfl,rfl,hq,he,q⟩:=h;cases rx;obtain⟨t,rfl⟩:=ry;obtain⟨its,r,pl,hz⟩:=I.tuple hq;obtain⟨j,h1,h2,h3,h4,h5⟩:=iz he;obtain⟨w,ew,rw'⟩:=r.get h2;have hl:=r.length;have hn:=fw;have fin:EP X pins σ Q w s:=⟨z,H,I,rw',q⟩
 exact subscriptTail_builtinR (x:=w) pl.typeIs slot_tuple_getitem.lookup
  (getItem_tuple (j:=j) (Q:=λr s'=>r=w/\EP X pins σ Q r s') pl (by omega) (by omega) (by rw[eC,<-hl];exact h1) (by simpa using ew) ⟨rfl,fin⟩) hs
theorem rS:IxR X uO:=by
 intro value slice pins s σ H x y v u Q I rx ry h hs;obtain⟨z,i,c,rfl,rfl,hz,he,q⟩:=h;obtain⟨t,rfl⟩:=rx;obtain⟨t',rfl⟩:=ry;obtain⟨j,h1,h2,h3,h4,h5⟩:=iz he;have hl:z.cps.toList.length=z.length:=by simp[Str.length]
 rw[hl] at h1 h4 h5;have hn:=fw;exact tail_any (typeIs_str s z t) slot_str_getitem.lookup (getItem_str (c:=c) (by
  have e1:decide (i < -(2^63:Int))=false:=Nw (by omega);have e2:decide (i ≥ 2^63)=false:=Nw (by omega);rw[e1,e2,Bool.or_false]) (by rw[h1];simpa using h2) ⟨.str ⟨#[c]⟩,H,I.tok _,⟨_,rfl⟩,q⟩) hs
def Dc(K:Nn):R2:=λx y H Q=>uM K x y H Q\/uN K x y H Q\/uO x y H Q
theorem jT:IxR X (Dc X.K):=ix_list.or (ix_tup.or rS)
theorem jU(its:List Value)(n j:Nat)(u:Value):Obj.mapSeq (·.setIfInBounds j u) { cls:=.type "list",data:=.seq its.toArray n }={ cls:=.type "list",data:=.seq (its.set j u).toArray n }:=by
 simp[Obj.mapSeq]
theorem Inv.lst{pins:List (Addr×Obj)}{σ:St}{H:Hp}{s:Shared}{p:Addr}{xs:List V}(I:Inv X pins σ H s)(h:H p=some (.lst xs)) :
  ∃(its:List Value) (n:Nat),Vals xs its/\s.heap.get? p=some { cls:=.type "list",data:=.seq its.toArray n }/\xs.length<=sizeLine:=by
 obtain⟨z,its,n,r,e⟩:=I.hok p _ h;exact⟨its,n,r,e,z⟩
theorem Inv.lstUpd{p:Addr}{ys:List V}{its:List Value}{n':Nat}{f:Obj->Obj}(I:Inv X pins σ H s)(h:H p=some (.lst xs))
  (ho:s.heap.get? p=some { cls:=.type "list",data:=.seq its.toArray n }) (hf:f { cls:=.type "list",data:=.seq its.toArray n }={ cls:=.type "list",data:=.seq its'.toArray n' }) (r:Vals ys its') (hz:ys.length<=sizeLine) (t:Nat) :
  Inv X pins σ (upd H p (.lst ys)) { s with heap:=s.heap.update p f,toks:=t }:=by
 have e:(s.heap.update p f).get? p=some { cls:=.type "list",data:=.seq its'.toArray n' }:=by
  rw[w6 f ho (by rw[hf]<;>rfl),hf]
 refine I.write (x:=p) (e:=p) (by rw[h];trivial) (.inl rfl) (λb u hb q=>(qS _ _ (NB hb)).trans q) ⟨_,e⟩ ?_ (.inl ⟨_,h⟩);exact⟨hz,its',n',r,e⟩
def uP:V->V->V->Hp->(Hp->Prop)->Prop:=λo i v H Q=>∃p xs k j,o=.ref p/\i=.int k/\H p=some (.lst xs)/\ku xs.length k=some j/\Q (upd H p (.lst (xs.set j v)))
theorem eY:uC X uP:=by
 intro pins s σ H o i v ov iv u Q I ro ri rv h;obtain⟨p,xs,k,j,rfl,rfl,hp,hj,q⟩:=h;cases ro;obtain⟨t,rfl⟩:=ri;obtain⟨its,n,r,ho,hz⟩:=I.lst hp;obtain⟨h1,h2,h3,h4⟩:=kv hj;have hl:=r.length;have hn:=fw;have I':Inv X pins σ (upd H p (.lst (xs.set j v))) { s with heap:=s.heap.update p (Obj.mapSeq (·.setIfInBounds j u)) }:=
  I.lstUpd hp ho (jU its n j u) (r.set rv j) (by rw[d8];exact hz) s.toks
 by_cases h0:0<=k
 .have hk:k.toNat=j:=by
   rw[seqIndex_of h0 h4] at h1;exact Nv h1
  exact PySem.W.ki_setAt ho h0 (by omega) (by rw[eC,<-hl];exact h4) (by rw[hk];exact⟨_,I',q⟩)
 .have hk:(k+(its.toArray.size:Int)).toNat=j:=by
   rw[seqIndex_neg (by omega) h3] at h1;rw[eC,<-hl];exact Nv h1
  exact PySem.W.ki_setBack ho (by omega) (by rw[eC,<-hl];exact h3) (by omega) (by rw[hk];exact⟨_,I',q⟩)
theorem iB(lo hi:Option Int)(n:Nat):(sliceBounds lo hi none n).1=((HT.sIx n 0 lo:Nat):Int)/\(sliceBounds lo hi none n).2.1=((HT.sIx n n hi:Nat):Int)/\(sliceBounds lo hi none n).2.2=1:=by
 refine⟨?_,?_,rfl⟩
 .cases lo with
  |none=>simp[sliceBounds,HT.sIx]
  |some i=>
   simp only[sliceBounds,HT.sIx,Option.getD_none,show(1:Int)>0 by decide,if_true]
   by_cases h:i<0
   .simp only[h,if_true]<;>omega
   .simp only[h,if_false]<;>omega
 .cases hi with
  |none=>simp[sliceBounds,HT.sIx]
  |some i=>
   simp only[sliceBounds,HT.sIx,Option.getD_none,show(1:Int)>0 by decide,if_true]
   by_cases h:i<0
   .simp only[h,if_true]<;>omega
   .simp only[h,if_false]<;>omega
theorem gW(its:List Value)(lo hi:Option Int):slicePick its.toArray lo hi none=((its.drop (HT.sIx its.length 0 lo)).take (HT.sIx its.length its.length hi-HT.sIx its.length 0 lo)).toArray:=by
 obtain⟨h1,h2,h3⟩:=iB lo hi its.toArray.size;unfold slicePick;rw[h1,h2,h3];simp only[sliceRange_one,pick_run,eC]<;>rfl
def AA(K:Nn):V->Option Int->Option Int->Hp->VK->Prop:=λx lo hi H Q=>∃a xs,x=.ref a/\SqL K H a xs/\∀p,H p=none->Q (.ref p) (upd H p (.lst (jd xs lo hi)))
theorem sl_list:SlR X (AA X.K):=by
 intro pins s σ H x v vl vu lo hi sl Q I rx hs pl pu h;obtain⟨a,xs,rfl,hx,q⟩:=h;cases rx;obtain⟨its,r,ht,hz⟩:=I.list hx;have hlen:=r.length;refine⟨"list",_,slot_list_getitem.lookup,ht.isList.typeIs,?_⟩;refine wpAny_getItem_list_slice ht.isList hs pl pu .none (by simp) ?_ (by rw[eC]<;>omega);rw[gW,<-hlen];refine⟨.ref s.heap.objs.size,_,I.laid (t':=s.toks) (o:=.lst (jd xs lo hi)) (λb ob q=>dH _ q) (cB _) ?_,rfl,q _ (I.hok.fresh (cB _))⟩;exact⟨fQ (fM xs lo hi) hz,_,0,(r.drop (HT.sIx xs.length 0 lo)).take (HT.sIx xs.length xs.length hi-HT.sIx xs.length 0 lo),gK _ rfl⟩
def eZ:V->Bool
 |.non=>true
 |.bl _=>true
 |.int _=>true
 |.str _=>true
 |_=>false
def qt:V->V->Bool
 |.non,.non=>true
 |.bl a,.bl b=>a==b
 |.bl a,.int b=>(if a then 1 else 0)==b
 |.int a,.bl b=>a==(if b then 1 else 0)
 |.int a,.int b=>a==b
 |.str a,.str b=>a==b
 |_,_=>false
theorem rT{y:V}{u v:Value}(ry:RelV y u)(rx:RelV x v)(fy:eZ y=true)(fx:eZ x=true):SeqAt.EqAt A s u v (qt y x):=by
 cases y with
 |non=>
  cases ry;cases x with
  |non=>cases rx;exact SeqAt.EqAt.same _
  |bl b=>cases rx;exact SeqAt.EqAt.none_bool b
  |int b=>obtain⟨t,rfl⟩:=rx;exact SeqAt.EqAt.none_int b t
  |str b=>obtain⟨t,rfl⟩:=rx;exact SeqAt.EqAt.none_str b t
  |_=>exact Nq (show false=true from fx) lC
 |bl a=>
  cases ry;cases x with
  |non=>cases rx;exact SeqAt.EqAt.bool_none a
  |bl b=>cases rx;exact SeqAt.EqAt.bool_bool a b
  |int b=>obtain⟨t,rfl⟩:=rx;exact SeqAt.EqAt.bool_int a b t
  |str b=>obtain⟨t,rfl⟩:=rx;exact SeqAt.EqAt.bool_str a b t
  |_=>exact Nq (show false=true from fx) lC
 |int a=>
  obtain⟨t',rfl⟩:=ry;cases x with
  |non=>cases rx;exact SeqAt.EqAt.int_none a t'
  |bl b=>cases rx;exact SeqAt.EqAt.int_bool a t' b
  |int b=>obtain⟨t,rfl⟩:=rx;exact SeqAt.EqAt.int_int a t' b t
  |str b=>obtain⟨t,rfl⟩:=rx;exact SeqAt.EqAt.int_str a t' b t
  |_=>exact Nq (show false=true from fx) lC
 |str a=>
  obtain⟨t',rfl⟩:=ry;cases x with
  |non=>cases rx;exact SeqAt.EqAt.str_none a t'
  |bl b=>cases rx;exact SeqAt.EqAt.str_bool a t' b
  |int b=>obtain⟨t,rfl⟩:=rx;exact SeqAt.EqAt.str_int a t' b t
  |str b=>obtain⟨t,rfl⟩:=rx;exact SeqAt.EqAt.str_str a t' b t
  |_=>exact Nq (show false=true from fx) lC
 |_=>exact Nq (show false=true from fy) lC
def pN(x:V)(u:Value):Bool:=match u with
 |.none=>qt .non x
 |.bool b=>qt (.bl b) x
 |.int i _=>qt (.int i) x
 |.str z _=>qt (.str z) x
 |_=>false
theorem nR{y:V}{u:Value}(r:RelV y u)(f:eZ y=true):pN x u=qt y x:=by
 cases y with
 |non=>cases r;rfl
 |bl b=>cases r;rfl
 |int i=>obtain⟨t,rfl⟩:=r;rfl
 |str z=>obtain⟨t,rfl⟩:=r;rfl
 |_=>exact Nq (show false=true from f) lC
theorem iC{x:V}:∀{xs:List V} {us:List Value},Vals xs us->xs.all eZ=true->us.any (pN x)=xs.any λy=>qt y x
 |_,_,.nil,_=>rfl
 |y::xs,u::us,.cons r t,f=>by
  rw[qT,c6] at f;rw[w8,w8,nR r f.1,iC t f.2]
theorem gz{A:Around}{s:Shared}{x:V}{v:Value}(rx:RelV x v)(fx:eZ x=true):∀{xs:List V} {us:List Value},Vals xs us->xs.all eZ=true->∀u∈us,SeqAt.EqAt A s u v (pN x u)
 |_,_,.nil,_=>λu hu=>by cases hu
 |y::xs,u::us,.cons r t,f=>λu' hu=>by
  rw[qT,c6] at f;rcases Yan.mp hu with rfl|hu
  .rw[nR r f.1];exact rT r rx f.1 fx
  .exact gz rx fx t f.2 u' hu
def xF(x:V)(xs:List V):Bool:=xs.any λy=>qt y x
def Dd(K:Nn)(neg:Bool):R2:=λx y H Q=>∃p xs,y=.ref p/\(SqL K H p xs\/SqT K H p xs)/\eZ x=true/\xs.all eZ=true/\Q (.bl (if neg then !xF x xs else xF x xs)) H
theorem kW:OpR X (compareOp .In) (Dd X.K false):=by
 intro pins s σ H x y v u Q I rx ry h;obtain⟨p,xs,rfl,hq,fx,fs,q⟩:=h;cases ry;rcases hq with hq|hq
 .obtain⟨its,r,pl,hz⟩:=I.list hq
  refine SeqAt.in_listAt (pN x) pl.isList (λw hw=>gz rx fx r fs w (by simpa using hw)) ⟨.bl _,H,I,rfl,?_⟩;rw[show its.toArray.any (pN x)=its.any (pN x) by simp,iC r fs];exact q
 .obtain⟨its,r,pl,hz⟩:=I.tuple hq
  refine SeqAt.in_tupleAt (pN x) pl (λw hw=>gz rx fx r fs w (by simpa using hw)) ⟨.bl _,H,I,rfl,?_⟩;rw[show its.toArray.any (pN x)=its.any (pN x) by simp,iC r fs];exact q
theorem iD:CallR X (.builtin "len") (λxs H Q=>∃p ys,xs=[.ref p]/\(SqL X.K H p ys\/SqT X.K H p ys)/\Q (.int ys.length) H):=by
 intro pins s σ H xs us Q I r h;obtain⟨p,ys,rfl,hq,q⟩:=h;obtain⟨u,rfl,rx⟩:=eD r;cases rx;have hn:=fw;rcases hq with hq|hq
 .obtain⟨its,r',pl,hz⟩:=I.list hq
  have hlen:=r'.length;exact Calls.call_len_list pl.isList (by simp only[eC]<;>omega) ⟨.int ys.length,H,I.tok _,⟨s.toks+1,by rw[eC,hlen]⟩,q⟩
 .obtain⟨its,r',pl,hz⟩:=I.tuple hq
  have hlen:=r'.length;exact len_tuple pl (by simp only[eC]<;>omega) ⟨.int ys.length,H,I.tok _,⟨s.toks+1,by rw[eC,hlen]⟩,q⟩
theorem CallR.or{f:Value}{r r':List V->Hp->VK->Prop}(h:CallR X f r)(h':CallR X f r'):CallR X f (λxs H Q=>r xs H Q\/r' xs H Q):=by
 intro pins s σ H xs us Q I rs q;rcases q with q|q
 .exact h pins s σ H xs us Q I rs q
 .exact h' pins s σ H xs us Q I rs q
theorem iF:CallR X (.type "list") (λxs H Q=>∃p ys,xs=[.ref p]/\(SqL X.K H p ys\/SqT X.K H p ys)/\∀l,H l=none->Q (.ref l) (upd H l (.lst ys))):=by
 intro pins s σ H xs us Q I r h;obtain⟨p,ys,rfl,hq,q⟩:=h;obtain⟨u,rfl,rx⟩:=eD r;cases rx;have fin:∀(its:List Value),Vals ys its->ys.length<=sizeLine->∀(h':Heap) (c':Nat),(∀b o',s.heap.get? b=some o'->h'.get? b=some o')->
   h'.get? s.heap.objs.size=some { cls:=.type "list",dict:=none,data:=.seq its.toArray c',slots:=#[] }->EP X pins σ Q (.ref s.heap.objs.size) { s with heap:=h' }:=λits r' hz h' c' kp e=>
  ⟨.ref s.heap.objs.size,_,I.laid (t':=s.toks) kp (cB _) (show ObjOk X.prog X.w _ h' _ (.lst ys) from⟨hz,its,c',r',e⟩),rfl,q _ (I.hok.fresh (cB _))⟩
 rcases hq with hq|hq
 .obtain⟨its,r',pl,hz⟩:=I.list hq
  have hlen:=r'.length;obtain⟨o,ho,hc,n,hd⟩:=pl.isList;exact call_list_seq p (.inl rfl) ho hc hd (λh' c' kp e=>fin its r' hz h' c' kp e) (by simp only[eC]<;>omega)
 .obtain⟨its,r',pl,hz⟩:=I.tuple hq
  have hlen:=r'.length;obtain⟨o,ho,hc,n,hd⟩:=pl;exact call_list_seq p (.inr rfl) ho hc hd (λh' c' kp e=>fin its r' hz h' c' kp e) (by simp only[eC]<;>omega)
theorem gX:CallR X (.type "tuple") (λxs H Q=>∃p ys,xs=[.ref p]/\((SqL X.K H p ys/\∀l,H l=none->Q (.ref l) (upd H l (.tup ys)))\/(SqT X.K H p ys/\Q (.ref p) H))):=by
 intro pins s σ H xs us Q I r h;obtain⟨p,ys,rfl,h⟩:=h;obtain⟨u,rfl,rx⟩:=eD r;cases rx;rcases h with⟨hq,q⟩|⟨hq,q⟩
 .obtain⟨its,r',pl,hz⟩:=I.list hq
  have hlen:=r'.length;refine call_tuple_list pl.isList (λh' kp=>?_) (by simp only[eC]<;>omega);have I1:Inv X pins σ H { s with heap:=h' }:=I.kept (t':=s.toks) kp;have I2:Inv X pins σ (upd H h'.objs.size (.tup ys)) { s with heap:=h'.push { cls:=.type "tuple",data:=.seq its.toArray } }:=
   I1.laid (t':=s.toks) (λb o e=>dH _ e) (cB _) (show ObjOk X.prog X.w _ _ _ (.tup ys) from⟨hz,its,r',IsTup.new _ _⟩)
  exact⟨.ref h'.objs.size,_,I2,rfl,q _ (I1.hok.fresh (cB _))⟩
 .obtain⟨its,r',pl,hz⟩:=I.tuple hq
  exact call_tuple_same pl ⟨.ref p,H,I,rfl,q⟩
def De(K:Nn)(T:String)(x:V)(H:Hp):Prop:=match x with
 |.str _=>T = "str"
 |.int _=>T = "int"
 |.ref p=>(T = "list" /\∃xs,SqL K H p xs)\/(T = "tuple" /\∃o,K.lookup p=some o/\o.cls=.type "tuple" /\o.dict=none)\/
   (T = "dict" /\((∃kvs,H p=some (.dK kvs))\/∃kvs,H p=some (.dT kvs)))\/(T = "set" /\∃S n,H p=some (.set S n))
 |_=>False
theorem rV{T:String}{v:Value}(I:Inv X pins σ H s)(r:RelV x v)(ty:De X.K T x H) :
  s.TypeIs v T/\∀a,v=.ref a->∃ob,s.heap.get? a=some ob/\ob.dict=none:=by
 cases x with
 |str z=>
  obtain⟨t,rfl⟩:=r;cases(show T = "str" from ty);exact⟨typeIs_str s z t,λ_ e=>nomatch e⟩
 |int i=>
  obtain⟨t,rfl⟩:=r;cases(show T = "int" from ty);exact⟨typeIs_int s i t,λ_ e=>nomatch e⟩
 |ref p=>
  cases r;rcases ty with⟨rfl,xs,hq⟩|⟨rfl,o,hk,hc,hd⟩|⟨rfl,hk⟩|⟨rfl,S,n,hk⟩
  .obtain⟨its,_,pl,_⟩:=I.list hq
   refine⟨pl.isList.typeIs,λa e=>?_⟩;cases e;obtain⟨o,n,e,c,hd,_⟩:=pl;exact⟨o,e,hd⟩
  .refine⟨⟨o,I.kIn p o hk,hc⟩,λa e=>?_⟩
   cases e;exact⟨o,I.kIn _ o hk,hd⟩
  .have z:∃o,s.heap.get? p=some o/\o.ExactDict:=by
    rcases hk with⟨kvs,hk⟩|⟨kvs,hk⟩
    .obtain⟨_,_,_,_,o,_,_,e,ex,_⟩:=I.hok p _ hk
     exact⟨o,e,ex⟩
    .obtain⟨_,_,_,_,o,_,_,e,ex,_⟩:=I.hok p _ hk
     exact⟨o,e,ex⟩
   obtain⟨o,e,ex⟩:=z;refine⟨⟨o,e,ex.1⟩,λa e2=>?_⟩;cases e2;exact⟨o,e,ex.2.1⟩
  .obtain⟨o,_,_,_,e,ex,_⟩:=I.hok p _ hk
   refine⟨⟨o,e,ex.1⟩,λa e2=>?_⟩;cases e2;exact⟨o,e,ex.2.1⟩
 |_=>exact NC ty
def HE(K:Nn)(T:String)(r:V->List V->Hp->VK->Prop)(to:TE)(t:TA):TE:=λσ H Q=>to σ H λx H1=>De K T x H1/\t σ H1 λxs H2=>r x xs H2 Q
variable{o:Expr}{es:List Expr}{to:TE}{t:TA}{name:Str}{apos cpos:Pos}{T id:String}{r:V->List V->Hp->VK->Prop}
theorem qu(pa:PlainAttrs T)(slot:Slot T name id)(hty:typeOf (.builtin id)=pure (.type "method_descriptor"))(hm:MtR X id r)(ho:PE X o to)(ha:PA X (e::es) t)
  (hbase:attributeBase o name X.env (eval o X.env)=eval o X.env:=by rfl)
  (hfew:((backTo cpos (starEach (e::es) X.env)).all (λx=>!x.1) && (backToKw cpos (keywordEach [] X.env)).all (λx=>x.1.isSome)
   && decide ((e::es).length+([]:List Keyword).length+(if([]:List Keyword).isEmpty then 0 else 1)<30))=true:=by rfl)
  (hline:(apos.endLine==cpos.line)=true:=by rfl) (hs:starEach (e::es) X.env=(false,eval e X.env)::starEach es X.env:=by rfl) (hplain:(backTo cpos (starEach es X.env)).any (·.1)=false:=by rfl) :
  PE X (.Call (.Attribute o name apos) (e::es) [] cpos) (HE X.K T r to t):=by
 intro pins s σ H Q I h;refine wpAny_Call_method_late hbase hfew hline rfl (bR (ho pins s σ H _ I h) λv s1 ⟨x,H1,I1,r1,ty,q1⟩=>?_);obtain⟨h1,h2⟩:=rV I1 r1 ty;refine⟨T,id,pa,slot,hty,h1,h2,?_⟩;have hA:=ha cpos pins s1 σ H1 _ I1 q1;rw[hs] at hA ⊢;refine Calls.callWith_builtin (by show(false||(backTo cpos (starEach es X.env)).any (·.1))=false;rw[hplain]<;>rfl) (Calls.evalArgs_plain ?_);exact bR hA λus s2 ⟨vs,H2,I2,r2,q2⟩=>hm pins s2 σ H2 x vs v us Q I2 r1 r2 q2
/- xs.append(e),list.index on a module's tuple .. are MtR facts of 06m -/
end
def HF(X:Cx)(id:String)(r:V->List V->Hp->VK->Prop):Prop:=
 ∀(pins:List (Addr×Obj)) (s:Shared) (σ:St) (H:Hp) (x:V) (xs:List V) (v:Value) (us:List Value) (Q:VK),Inv X pins σ H s->RelV x v->Vals xs us->r x xs H Q->
  wpAny (model X.prog X.w) X.A (call (.builtin id) (v::us)) (EP X pins σ Q) X.xe s
theorem Vals.one:∀{x:V} {us:List Value},Vals [x] us->∃u,us=[u]/\RelV x u
 |_,_,.cons r .nil=>⟨_,rfl,r⟩
theorem Vals.two:∀{x y:V} {us:List Value},Vals [x,y] us->∃u v,us=[u,v]/\RelV x u/\RelV y v
 |_,_,_,.cons r (.cons q .nil)=>⟨_,_,rfl,r,q⟩
theorem Vals.zero:∀{us:List Value},Vals [] us->us=[]
 |_,.nil=>rfl
theorem Vals.reverse{xs:List V}{us:List Value}(h:Vals xs us):Vals xs.reverse us.reverse:=by
 induction h with
 |nil=>exact .nil
 |cons r t ih=>rw[td,td];exact Vals.append ih (.cons r .nil)
theorem Vals.rep{xs:List V}{us:List Value}(h:Vals xs us):∀k:Nat,Vals (List.replicate k xs).flatten (List.replicate k us).flatten
 |0=>.nil
 |k+1=>by
  rw[gT,gT,tm,tm];exact Vals.append h (Vals.rep h k)
theorem ee(its:List Value):∀(k:Nat) (acc:List Value),
  List.foldl (λx1 x2=>x1++x2) acc.toArray (List.replicate k its.toArray)=(acc++(List.replicate k its).flatten).toArray
 |0,acc=>by simp
 |k+1,acc=>by
  have e:acc.toArray++its.toArray=(acc++its).toArray:=by simp
  have e2:(acc++its)++(List.replicate k its).flatten=acc++(List.replicate (k+1) its).flatten:=by
   rw[gT,tm,mZ]
  rw[<-e2,<-ee its k (acc++its),<-e,gT,List.foldl_cons]
section
variable{l b:Addr}{ys zs:List V}
theorem Inv.lset{its:List Value}(I:Inv X pins σ H s)(hH:H l=some (.lst xs))
  (e:s.heap.get? l=some { cls:=.type "list",data:=.seq its.toArray n }) (hf:f its.toArray=its'.toArray) (hv:Vals ys its') (hz:ys.length<=sizeLine) :
  Inv X pins σ (upd H l (.lst ys)) { s with heap:=s.heap.update l (Obj.mapSeq f),toks:=t' }:=by
 have q:=PySem.IsL.update e f;rw[hf] at q;refine I.write (x:=l) (e:=l) (by rw[hH];exact trivial) (.inl rfl) (λb' u hb hu=>(qS s.heap (Obj.mapSeq f) (NB hb)).trans hu) ⟨_,q⟩ ?_ (.inl ⟨_,hH⟩);exact⟨hz,its',_,hv,q⟩
theorem Inv.lnew{its:List Value}(I:Inv X pins σ H s)(hv:Vals ys its)(hz:ys.length<=sizeLine) :
  Inv X pins σ (upd H s.heap.objs.size (.lst ys)) { s with heap:=s.heap.push { cls:=.type "list",data:=.seq its.toArray },toks:=t' }:=
 I.laid (λ_ _ q=>dH _ q) (cB _) ⟨hz,its,0,hv,gK _ rfl⟩
theorem Inv.fresh(I:Inv X pins σ H s):H s.heap.objs.size=none:=I.hok.fresh (cB _)
theorem Inv.lstM(I:Inv X pins σ H s)(hH:H l=some (.lst xs)):xs.length<=sizeLine/\∃(its:List Value) (n:Nat),Vals xs its/\xs.length=its.length/\s.heap.get? l=some { cls:=.type "list",data:=.seq its.toArray n }:=by
 obtain⟨z,its,n,r,e⟩:=I.hok l _ hH;exact⟨z,its,n,r,r.length,e⟩
theorem nS(h:n<=sizeLine):Builtin.List.listTooLong n=false:=by
 unfold Builtin.List.listTooLong;exact Nw (by omega)
end
section
def pO:V->List V->Hp->VK->Prop:=λx vs H Q=>∃l xs y,x=.ref l/\vs=[y]/\H l=some (.lst xs)/\xs.length<sizeLine/\Q .non (upd H l (.lst (xs++[y])))
theorem kX:HF X "list.append" pO:=by
 intro pins s σ H x vs v us Q I rx rv h;obtain⟨l,xs,y,rfl,rfl,hH,hz,q⟩:=h;cases rx;obtain⟨u,rfl,ru⟩:=rv.one;obtain⟨z,its,n,r,hl,e⟩:=I.lstM hH;refine call_meets F.slot_list_append ⟨_,e,rfl⟩ F.entry_list_append (F.args_list_append_2 _ _) (PySem.list_append l its.toArray n u (by rw[eC];omega)) ⟨e,?_⟩;refine⟨.non,_,I.lset (its':=its++[u]) hH e (by simp) (r.append (.cons ru .nil)) ?_,rfl,q⟩;rw[dX,j6];omega
def AB:R2:=λx y H Q=>∃l k xs,x=.ref l/\y=.int k/\H l=some (.lst xs)/\-(2^63)<=k/\k<2^63/\xs.length*k.toNat<=sizeLine/\
 ∀p,H p=none->Q (.ref p) (upd H p (.lst (List.replicate k.toNat xs).flatten))
theorem iG{α:Type}(xs:List α)(k:Nat):(List.replicate k xs).flatten.length=k*xs.length:=by
 induction k with
 |zero=>simp
 |succ k ih=>rw[gT,tm,dX,ih,m6,Nat.add_comm]
theorem rW:OpR X (binaryOp .Mult) AB:=by
 intro pins s σ H x y v u Q I rx ry h;obtain⟨l,k,xs,rfl,rfl,hH,h1,h2,hz,q⟩:=h;cases rx;obtain⟨t,rfl⟩:=ry;obtain⟨z,its,n,r,hl,e⟩:=I.lstM hH;have hlen:its.toArray.size*k.toNat<=sizeLine:=by rw[eC,<-hl];exact hz
 have hcap:¬its.toArray.size*k.toNat>(2^63-1)/8:=by
  have:(sizeLine:Nat)<=(2^63-1)/8:=by decide
  omega
 have hfit:¬(!Builtin.List.listFitsIndex k)=true:=by
  rw[fitsIndex_both h1 h2];exact lC
 have hlong:¬Builtin.List.listTooLong (its.toArray.size*k.toNat)=true:=by
  rw[nS hlen];exact lC
 have hnew:List.foldl (λx1 x2=>x1++x2) #[] (List.replicate (if its.toArray.isEmpty=true then 0 else k.toNat) its.toArray)=(List.replicate k.toNat its).flatten.toArray:=by
  have f0:∀m:Nat,List.foldl (λx1 x2=>x1++x2) #[] (List.replicate m its.toArray)=(List.replicate m its).flatten.toArray:=λm=>by
   have:=ee its m [];rw[dI] at this;exact this
  rw[f0];cases its with
  |nil=>simp
  |cons a r'=>rw[if_neg (by simp)]
 refine wpAny_binaryOp_repeat_ref (T:= "list") (U:= "int") (by decide) ⟨_,e,rfl⟩ (λs'=>typeIs_int s' k t) noFill_list_mul F.fills_int_mul F.slot_int_rmul repeat_list F.slot_int_index.lookup
  (call_meets F.slot_int_rmul (typeIs_int s k t) F.entry_int_rmul (F.args_int_rmul_2 _ _) (int___rmul___int_list k t l its.toArray n)
   ⟨e,rfl,⟨_,e,rfl⟩,call_meets F.slot_list_mul ⟨_,e,rfl⟩ F.entry_list_mul (F.args_list_mul_2 _ _) (AutoListH.list___mul___list_int_3 l its.toArray n k t hfit hcap hlong) ⟨e,?_⟩⟩)
 rw[hnew];exact⟨.ref _,_,I.lnew (t':=s.toks) (r.rep k.toNat) (by rw[iG,xa];exact hz),rfl,q _ I.fresh⟩
end
section
variable{prog:Program}{w:World}{E:Value->Shared->Prop}
end
end L2
namespace Att
open PySem PySem.W PySem.Calls PyProof.Rows
theorem fT{P:Params}{h:Heap}:∀(ns:List Int) (vs:List Value),WellAll P h vs (ns.map WData.int)->IntsAre vs ns:=by
 intro ns
 induction ns with
 |nil=>
  intro vs w;rw[gL] at w;cases w;exact .nil
 |cons n ns ih=>
  intro vs w;rw[cR] at w;cases w with
  |cons a b=>
   cases a;exact .cons _ _ (ih _ b)
theorem kY{l:OpenLaw}{n:Nat}(hn:l.most=some n){P:Params}{h:Heap}{args:List WData}{vals:List Value}
  (hpre:l.row.toRowW.claim.pre args=true) (hwl:WellAll P h vals args) :
  ∃a vs ns,vals=[Value.ref a]/\args=[WData.list (ns.map WData.int)]/\h.get? a=some { cls:=.type "list",data:=.seq vs.toArray }/\IntsAre vs ns/\ns.length<=n:=by
 have hsh:WShape.hasAll [] args [.list .int]=true:=(pre_splitW hpre).1;have hc:l.pre.holds [] { args:=args }=true:=(pre_splitW hpre).2;obtain⟨d,r,rfl,h1,h2⟩:=hasAllW_cons hsh;obtain rfl:=hasAllW_nil h2;obtain⟨xs,rfl,h3⟩:=hasW_list h1;obtain⟨ns,rfl⟩:=items_int h3;have hlen:ns.length<=n:=by
  unfold OpenLaw.pre at hc;have h4:(WTm.not (.lt (.lit (.int (n:Int))) (.len (.arg 0)))).holds [] { args:=[.list (ns.map .int)] }=true:=by
   have h4:=(holds_andW hc).1;rw[hn] at h4;exact h4
  have h5:=condW_of h4 (w_not (w_lt w_lit (w_len_list (w_arg rfl))));rw[bC] at h5;refine Nat.le_of_not_lt λq=>?_;have q':(n:Int)<((ns.length:Nat):Int):=by omega
  first
   |(rw[Nr q'] at h5;exact Nq h5 (by decide))
   |(simp at h5;omega)
 cases hwl with
 |cons w1 w2=>
  cases w2;cases w1 with
  |list ho hall=>exact⟨_,_,ns,rfl,rfl,ho,fT ns _ hall,hlen⟩
theorem kZ(l:OpenLaw)(args:List WData):l.row.toRowW.claim.post args (.bool true) args=true:=
 postW_of (r:=l.row.toRowW) (X:=(true==true))
  (show WShape.has [] (.bool true) .bool=true by first|rfl|decide|simp[WShape.has,WShape.arms,WShape.armsAll])
  (show(WTm.eq .res (.lit (.bool true))).value [] { args:=args,res:=some (.bool true),after:=args }=some (.bool (true==true)) from w_eq_bool (w_res rfl) w_lit) rfl
theorem attach_call{l:OpenLaw}{n:Nat}{q:Program}{loose:List Str}{XP:(Str->Option Value)->Heap->Prop}{YP:World->Heap->Prop}{d:DefRec}
  (hn:l.most=some n) (hdf:d.params.defaults=[])
  (call:∀ (w:World) (s₀ s₁:Shared) (mg mb:Str->Option Value) (fa:Addr) (o:Obj) (pm cd doc:Value) (a:Addr) (vs:List Value) (ns:List Int),
   Ground q loose [] XP w s₀ mg mb s₁.heap->YP w s₁.heap->
   s₁.heap.get? fa=some o->o.data=.func (docDef d.name d.params d.body d.scope pm cd doc)->s₁.heap.CodeRec cd d.name->mg d.name=some (.ref fa)->
   s₁.heap.get? a=some { cls:=.type "list",data:=.seq vs.toArray }->IntsAre vs ns->ns.length<=n->(a==sysModules)=false->s₁.gens = #[]->
   codeAny (model l.prog w) callerA (.call (.ref fa) ⟨[.ref a],[]⟩) (λr s'=>r=.ok (.ret (.bool true))/\OldK s₁.heap s'.heap/\s'.os=s₁.os/\AllBare s'.gens) s₁) :
  WalkO q loose XP YP l.row.toRowW d [] (λf vs=>PySem.call f vs):=by
 intro w s₀ s₁ mg mb G Y fa o pm cd doc dV kV ho hd hcd hD hmg hg args vals as hpre hlay hrd hwl hlo;obtain rfl:dV=.none:=Dflts.none hD hdf;obtain rfl:kV=.none:=Dflts.noKw hD;obtain⟨a,vs,ns,rfl,rfl,hobj,hints,hlen⟩:=kY hn hpre hwl;have hsy:(a == sysModules)=false:=hlo a (by
  cases hrd with
  |cons h1 h2=>cases h1;simp)
 refine enter_call (codeAny_mono (call w s₀ s₁ mg mb fa o pm cd doc a vs ns G Y ho (fd_plain hd) hcd hmg hobj hints hlen hsy hg) λr s' hq=>?_);obtain⟨rfl,h2,h3,h4⟩:=hq;exact⟨.inl ⟨.bool true,.bool true,[],rfl,λ_=>rfl,.bool true,kZ l _,λ_=>⟨List.Pairwise.nil,λ_ hm=>(nomatch hm)⟩⟩,h2,h3,h4⟩
section
variable{prog:Program}{w:World}{A:Around}{E:Value->Shared->Prop}{s:Shared}{K:Frag}
end
end Att
namespace L2
open PySem PySem.Spec PyProof.Rows
variable{P:Program}{w:World}{K:Nn}{mg:Str->Option Value}{k:Nat}{a f:Addr}{fd:FuncData}{x qual:Str}{l:PySem.W.OpenLaw}{XP:(Str->Option Value)->Heap->Prop}{YP:World->Heap->Prop}{st:Stmt}{ps vars:List Str}{osl:Array (Option Value)}{X:Cx}{H H1:Hp}{scope sc:Scope}{env:Env}{A:Around}{s:Shared}{Q:Env->Shared->Prop}{pins:List (Addr×Obj)}{σ:St}{sel:List Nat}{fp:List Addr}{tn:Nat->Heap->Prop}{wi:TI}
theorem ij:∀{vs:List Value} {ns:List Int},IntsAre vs ns->Vals (ns.map V.int) vs
 |_,_,.nil=>.nil
 |_,_,.cons n t h=>.cons ⟨t,rfl⟩ (ij h)
def pP(H:Hp):Prop:=∀b,H b=none\/∃o xs,H b=some (.frz o (.lst xs))
theorem nU{mb:Str->Option Value}{CX:kT}{fa:Addr}{sp:Sp}{s₁:Shared}{vs:List Value}{ns:List Int}
  (KX:K.In s₁.heap) (hns:s₁.heap.Ns mainGlobals mg) (hb:s₁.heap.Ns builtinsNs mb) (hbb:∀x:Str,x≠ "__name__" ->mb x=bootBuiltins x) (hlim:s₁.heap.NoLimit) (hg:s₁.gens = #[])
  (ha:s₁.heap.get? a=some { cls:=.type "list",data:=.seq vs.toArray }) (hi:IntsAre vs ns) (hl:ns.length<=sizeLine) (hsy:(a==sysModules)=false) (hr:Room k callerA)
  (F:∀base:Heap,K.In base->base.Ns mainGlobals mg->FnOk P w K mg base CX k fa fd [x] sp) (hbind:∀(s:Shared) (u:Value),BindsTo s fd ⟨[u],[]⟩ [(x,u)])
  (hsp:∀H:Hp,pP H->SqL K H a (ns.map V.int)->sp [.ref a] H (λv _=>v=.bl true) λ_ _ _=>False)
  (hCX:∀H e s',CX [] H s₁ (λ_ _ _=>False) e s'->False) :
  codeAny (model P w) callerA (.call (.ref fa) ⟨[.ref a],[]⟩) (λr s'=>r=.ok (.ret (.bool true))/\OldK s₁.heap s'.heap/\s'.os=s₁.os/\AllBare s'.gens) s₁:=by
 have rv:=ij hi;have lenV:=hi.length
 -- from an abstract heap in which nothing but the script may be tracked
 have core:∀H:Hp,pP H->SqL K H a (ns.map V.int)->HOk P w H s₁.heap->(∀b,H b≠none->b=a)->(H a≠none->K.lookup a=none)->
   codeAny (model P w) callerA (.call (.ref fa) ⟨[.ref a],[]⟩) (λr s'=>r=.ok (.ret (.bool true))/\OldK s₁.heap s'.heap/\s'.os=s₁.os/\AllBare s'.gens) s₁:=by
  intro H hO hS hok hA hK;have base_of:∀{b:Addr} {o:Obj},s₁.heap.get? b=some o->H b=none->(iu s₁.heap H).get? b=some o:=λe n=>nh e n;have noA:∀{b:Addr} {o:Obj} {es:Array DictEntry} {ep:Nat},s₁.heap.get? b=some o->o.data=.dict es ep->H b=none:=λ{b o es ep} e d=>by
   cases q:H b with
   |none=>rfl
   |some u=>
    have e':b=a:=hA b (by rw[q];simp);subst e';rw[ha] at e;cases e;have d':Data.seq vs.toArray _=Data.dict es ep:=d;cases d'
  have nsK:∀{b:Addr} {m:Str->Option Value},s₁.heap.Ns b m->(iu s₁.heap H).Ns b m:=λ{b m} ⟨o,es,ep,e,d,r⟩=>⟨o,es,ep,base_of e (noA e d),d,r⟩;have hKb:K.In (iu s₁.heap H):=λb o e=>base_of (KX b o e) (by
   cases q:H b with
   |none=>rfl
   |some u=>
    have e':b=a:=hA b (by rw[q];simp);subst e';rw[hK (by rw[q];simp)] at e;cases e)
  have hM:Mod K mg (iu s₁.heap H):=⟨hKb,nsK hns,⟨mb,nsK hb,hbb⟩,let⟨mc,h1,h2⟩:=hlim;⟨mc,nsK h1,h2⟩⟩
  have e0:Env0 P w K mg (iu s₁.heap H) callerA [] s₁ H:=⟨rfl,hM,λb o e=>pk e,Nat.le_of_eq (kL _ _),trivial,λb hb=>Nq (show b∈([]:List Addr) from hb) (by simp),hok,.of_eq hg,λxs q=>Nq (hA sysModules (by rw[q];simp)).symm (beq_eq_false_iff_ne.mp hsy)⟩
  refine codeAny_mono ((F _ hKb (nsK hns)).run callerA [] s₁ H ⟨[.ref a],[]⟩ [.ref a] [.ref a] _ _ hr e0 (hbind s₁ (.ref a)) (.cons rfl .nil) (hsp H hO hS)) λr s' h=>?_;cases r with
  |error e=>exact(hCX H e s' h).elim
  |ok fl=>
   cases fl with
   |next=>exact NC h
   |brk=>exact NC h
   |cont=>exact NC h
   |ret u=>
    obtain⟨v,H',os,bare,un,hok',r',q⟩:=h;have q':v=.bl true:=q;subst q';obtain rfl:u=Value.bool true:=r';refine⟨rfl,OldK.of_keep λb o e=>?_,os,bare⟩;cases q:H b with
    |none=>exact un.keep b o e q (by intro z;exact Nq (show b∈([]:List Addr) from z) (by simp)) (by simp)
    |some u=>
     rcases hO b with z|⟨ob,xs,z⟩
     .rw[q] at z;cases z
     .have z2:=un.frzs b ob _ z
      obtain⟨e1,_⟩:=hok b _ z;obtain⟨e2,_⟩:=hok' b _ z2;rw[e] at e1;cases e1;exact e2
 cases hk:K.lookup a with
 |some o=>
  -- the script is one of the module's own objects
  have e:=KX a o hk;rw[ha] at e;cases e;refine core (λ_=>none) (λ_=>.inl rfl) (.inr ⟨_,vs.toArray,_,hk,rfl,rfl,rfl,by rw[eC,lenV];exact hl,by simpa using rv⟩) (λb u z=>by have z':(none:Option HO)=some u:=z;cases z') (λb z=>Nq rfl z) λz=>Nq rfl z
 |none=>
  refine core (λb=>if b=a then some (.frz { cls:=.type "list",data:=.seq vs.toArray } (.lst (ns.map V.int))) else none) (λb=>?_) (.inl (.inr ⟨{ cls:=.type "list",data:=.seq vs.toArray },if_pos rfl⟩)) (λb u z=>?_) (λb z=>?_) λ_=>hk
  .by_cases hb:b=a
   .exact .inr ⟨_,_,if_pos hb⟩
   .exact .inl (if_neg hb)
  .by_cases hb:b=a
   .have z':=(if_pos hb).symm.trans z
    cases z';subst hb;exact⟨ha,by rw[bC];exact hl,vs,_,rv,ha⟩
   .have z':=(if_neg hb).symm.trans z
    cases z'
  .by_cases hb:b=a
   .exact hb
   .exact Nq (if_neg hb) z
theorem walk_of{n:Nat}{q:Program}{loose:List Str}{d:DefRec}{K:Params->Nn}{CX:World->kT}{sp:World->Sp}
  (hn:l.most=some n) (hn2:n<=sizeLine) (hdf:d.params.defaults=[]) (hr:Room k callerA)
  (hY:∀(w:World) (h:Heap),YP w h->(K w.params).In h)
  (F:∀ (w:World) (mg:Str->Option Value) (fa:Addr) (h:Heap),(K w.params).In h->h.Ns mainGlobals mg->mg d.name=some (.ref fa)->
   ∃fd:FuncData,(∀(s:Shared) (u:Value),BindsTo s fd ⟨[u],[]⟩ [(x,u)])/\
    ∀base:Heap,(K w.params).In base->base.Ns mainGlobals mg->FnOk l.prog w (K w.params) mg base (CX w) k fa fd [x] (sp w))
  (hsp:∀(w:World) (H:Hp) (a:Addr) (ns:List Int),ns.length<=n->pP H->SqL (K w.params) H a (ns.map V.int)->sp w [.ref a] H (λv _=>v=.bl true) λ_ _ _=>False)
  (hCX:∀(w:World) (H:Hp) (s:Shared) (e:Value) (s':Shared),CX w [] H s (λ_ _ _=>False) e s'->False) :
  PySem.W.WalkO q loose XP YP l.row.toRowW d [] (λf vs=>PySem.call f vs):=by
 refine Att.attach_call hn hdf λw s₀ s₁ mg mb fa o pm cd doc a vs ns G Y ho hd hcd hmg hobj hints hlen hsy hg=>?_;have KX:=hY w _ Y;obtain⟨fd,hb,hF⟩:=F w mg fa _ KX G.T.g hmg;exact nU KX G.T.g G.T.b G.T.builtins G.T.nolimit hg hobj hints (fQ hlen hn2) hsy hr hF hb (λH hO hS=>hsp w H a ns hlen hO hS) λH e s'=>hCX w H s₁ e s'
def cT(s:Stmt):Arguments:=match s with
 |.FunctionDef _ a _ _ _ _ _ _ _ _=>a
 |_=>{ posonlyargs:=[],args:=[],vararg:=none,kwonlyargs:=[],kw_defaults:=[],kwarg:=none,defaults:=[] }
def bH(s:Stmt):List Stmt:=match s with
 |.FunctionDef _ _ b _ _ _ _ _ _ _=>b
 |_=>[]
def aJ(s:Stmt):Scope:=match s with
 |.FunctionDef _ _ _ _ _ _ sc _ _ _=>sc
 |_=>{ kind:=.function,names:=[],isGenerator:=false,isCoroutine:=false }
abbrev xG:kT:=λ_ _ _ _ _ _=>False
abbrev E0:XK:=λ_ _ _=>False
structure Fun(K:Nn)(x qual:Str)(st:Stmt)(f:Addr)(fd:FuncData):Prop where
 ex:∃(oc:Value) (od:Option Addr) (kV doc pm:Value) (an:Option Addr) (cdv ct:Value) (osl:Array (Option Value)),
  fd=PySem.W.fnOf x qual (cT st) (bH st) (aJ st) .none kV doc pm an cdv ct/\K.lookup f=some ⟨oc,od,.func fd,osl⟩/\PySem.W.codeIn K cdv qual=true
 kp:PySem.W.keepIn K (.ref f)=true
section
variable{base:Heap}
theorem Fun.ok{N:List Str}{sp:Sp}(F:Fun K x qual st f fd)(S:cS N ps (aJ st))(len:∀vs H Q E,sp vs H Q E->vs.length=ps.length)
  (hbody:∀ (cdv:Value) (A:Around) (outer:List Env) (s:Shared) (H:Hp) (vs:List V) (Q:VK) (E:XK),Room k (A.deeper (envOfC qual (aJ st) s.heap.objs.size f cdv))->sp vs H Q E->
   ∃t,PSs (dP xG P w K mg base N qual (aJ st) f cdv A outer s H E).nox (bH st) t/\t { nx:=λ_ H'=>Q .non H',rt:=Q } (start N vs) H):FnOk P w K mg base xG (k+1) f fd ps sp:=by
 obtain⟨oc,od,kV,doc,pm,an,cdv,ct,osl,rfl,lk,hcd⟩:=F.ex;refine qr lk hcd S len λA outer s H vs Q E hr hsp=>?_;obtain⟨t,h,q⟩:=hbody cdv A outer s H vs Q E hr hsp;exact⟨t,h.nox,q⟩
theorem Fun.binds(F:Fun K x qual st f fd)
  (h:∀(kV doc pm:Value) (an:Option Addr) (cdv ct:Value) (us:List Value),us.length=ps.length->bindArgs (PySem.W.fnOf x qual (cT st) (bH st) (aJ st) .none kV doc pm an cdv ct) ⟨us,[]⟩=pure (ps.zip us)):Binds K fd ps []:=by
 obtain⟨oc,od,kV,doc,pm,an,cdv,ct,osl,rfl,lk,hcd⟩:=F.ex;exact .all (h kV doc pm an cdv ct)
theorem rX{oc:Value}{od an:Option Addr}{kV doc pm cdv ct:Value}(l:K.lookup f=some ⟨oc,od,.func (PySem.W.fnOf x qual (cT st) (bH st) (aJ st) .none kV doc pm an cdv ct),osl⟩)
  (c:PySem.W.codeIn K cdv qual=true) (k:PySem.W.keepIn K (.ref f)=true):Fun K x qual st f (PySem.W.fnOf x qual (cT st) (bH st) (aJ st) .none kV doc pm an cdv ct):=⟨⟨oc,od,kV,doc,pm,an,cdv,ct,osl,rfl,l,c⟩,k⟩
end
def Same(H H':Hp):Prop:=∀b o,H b=some o->H' b=some o
theorem Same.refl(H:Hp):Same H H:=λ_ _ h=>h
theorem Same.trans{H2:Hp}(a:Same H H1)(b:Same H1 H2):Same H H2:=λc o h=>b c o (a c o h)
theorem Same.free{H':Hp}(e:Same H H'){l:Addr}(h:H' l=Option.none):H l=Option.none:=by
 cases q:H l with
 |none=>rfl
 |some o=>
  rw[e l o q] at h;cases h
theorem Same.seq{H':Hp}{xs:List V}(e:Same H H')(h:SqL K H a xs):SqL K H' a xs:=by
 rcases h with(h|⟨o,h⟩)|h
 .exact .inl (.inl (e _ _ h))
 .exact .inl (.inr ⟨o,e _ _ h⟩)
 .exact .inr h
def qv:List (Str×NameKind)->Bool
 |[]=>true
 |(n,_)::r=>!(r.any λy=>y.1==n)&&qv r
def lI(sc outer:Scope):Bool:=
 decide (sc.kind=.function)&&qv sc.names&&sc.names.all λy=>!decide (y.2=.free)||(decide (outer.names.lookup y.1=some .cell)||decide (outer.names.lookup y.1=some .free))
theorem AC{α:Type}:∀{l:List (Str×α)} {n:Str},(l.any λy=>y.1==n)=false->l.lookup n=none
 |[],_,_=>rfl
 |(k,v)::r,n,h=>by
  simp only[w8,Bool.or_eq_false_iff] at h;have e:(n==k)=false:=by
   have:=h.1;simp only[beq_eq_false_iff_ne] at this ⊢;exact λz=>this z.symm
  rw[oD,e];exact AC h.2
theorem AD:∀{l:List (Str×NameKind)} {n:Str} {k:NameKind},qv l=true->(n,k)∈l->l.lookup n=some k
 |(m,j)::r,n,k,nd,h=>by
  simp only[qv,c6,tu] at nd;rcases Yan.mp h with e|h2
  .cases e;simp
  .have hm:n≠m:=by
    rintro rfl;have:(r.any λy=>y.1==n)=true:=List.any_eq_true.mpr ⟨_,h2,by simp⟩;rw[nd.1] at this;cases this
   rw[oD,beq_eq_false_iff_ne.mpr hm];exact AD nd.2 h2
def dg(cells:List (Str×Addr)):List (Str×NameKind)->List (Str×Addr)->List (Str×Addr)
 |[],acc=>acc
 |(n,k)::r,acc=>if k==.free then dg cells r ((n,(cells.lookup n).getD 0)::acc) else dg cells r acc
theorem uQ{cells:List (Str×Addr)}{x:Str}:∀{names:List (Str×NameKind)} {acc:List (Str×Addr)},qv names=true->
  ((names.lookup x=some .free->∃c,(dg cells names acc).lookup x=some c/\(cells.lookup x).getD 0=c)/\(names.lookup x≠some .free->(dg cells names acc).lookup x=acc.lookup x))
 |[],acc,_=>⟨λh=>by simp at h,λ_=>rfl⟩
 |(m,k)::r,acc,nd=>by
  simp only[qv,c6,tu] at nd
  by_cases hm:x=m
  .subst hm
   have hr:r.lookup x=none:=AC nd.1;rw[show List.lookup x ((x,k)::r)=some k by simp];have ih:=@uQ cells x r
   by_cases hk:k=.free
   .subst hk
    refine⟨λ_=>⟨_,?_,rfl⟩,λh=>Nq rfl h⟩;show(dg cells r ((x,_)::acc)).lookup x=_;rw[(ih nd.2).2 (by rw[hr];simp)];simp
   .refine⟨λh=>Nq (Nv h) hk,λ_=>?_⟩
    have:dg cells ((x,k)::r) acc=dg cells r acc:=by
     show(if k==.free then _ else _)=_;rw[if_neg (by simpa using hk)]
    rw[this,(ih nd.2).2 (by rw[hr];simp)]
  .have e:List.lookup x ((m,k)::r)=r.lookup x:=by rw[oD,beq_eq_false_iff_ne.mpr hm]
   rw[e]
   by_cases hk:k=.free
   .subst hk
    have ih:=@uQ cells x r ((m,(cells.lookup m).getD 0)::acc) nd.2;have e2:List.lookup x ((m,(cells.lookup m).getD 0)::acc)=acc.lookup x:=by rw[oD,beq_eq_false_iff_ne.mpr hm]
    rw[e2] at ih;exact ih
   .have:dg cells ((m,k)::r) acc=dg cells r acc:=by
     show(if k==.free then _ else _)=_;rw[if_neg (by simpa using hk)]
    rw[this];exact @uQ cells x r acc nd.2
theorem Df(h:∀y∈scope.names,y.2=.free->∃c,env.cells.lookup y.1=some c):closureFor scope env=pure (dg env.cells scope.names []):=by
  have gen:∀ (names:List (Str×NameKind)) (acc:List (Str×Addr)),(∀ y∈names,y.2 = .free->∃ c,env.cells.lookup y.1=some c)->
      (forIn names acc (fun (x:Str×NameKind) (r:List (Str×Addr))=>(if (x.2 == NameKind.free)=true then (do
        let c <-cellOf env x.1
        pure (ForInStep.yield ((x.1,c)::r))) else pure (ForInStep.yield r):Sem (ForInStep (List (Str×Addr))))))=(pure (dg env.cells names acc):Sem (List (Str×Addr))):=by
    intro names
    induction names with
    |nil=>intro acc _;rfl
    |cons y r ih=>
      intro acc hh;obtain⟨n,k⟩:=y;rw[zT]
      by_cases hk:k=.free
      · subst hk
        obtain⟨c,hc⟩:=hh (n,.free) ju rfl;have hc':env.cells.lookup n=some c:=hc;have e:cellOf env n=pure c:=by unfold cellOf;rw[hc']
        simp only[NF,if_true,e];have:=ih ((n,c)::acc) λy hy=>hh y (gR _ hy);have e3:dg env.cells ((n,.free)::r) acc=dg env.cells r ((n,c)::acc):=by
          show(if _ then _ else _)=_;rw[hc'];rfl
        rw[e3,<-this];rfl
      · have hb:(k==NameKind.free)=false:=by simpa using hk
        simp only[hb,dO,if_false];have:=ih acc λy hy=>hh y (gR _ hy);have e3:dg env.cells ((n,k)::r) acc=dg env.cells r acc:=by
          show(if _ then _ else _)=_;rw[if_neg (by simpa using hk)]
        rw[e3,<-this];rfl
  unfold closureFor;have:=gen scope.names [] h
  first
    |exact this
    | (show (forIn scope.names [] _ >>= λcs=>pure cs)=_
       refine Eq.trans (congrArg (· >>= λcs=>pure cs) this) rfl)
theorem qw{x:Str}:∀(names:List (Str×NameKind)) (n:Nat) (acc acc':List (Str×Addr)),qv names=true->
  ((names.lookup x=some .cell->(cellsFrom n names acc).lookup x=(cellsFrom n names acc').lookup x)/\(names.lookup x≠some .cell->(cellsFrom n names acc).lookup x=acc.lookup x))
 |[],_,_,_,_=>⟨λh=>by simp at h,λ_=>rfl⟩
 |(m,k)::r,n,acc,acc',nd=>by
  simp only[qv,c6,tu] at nd
  by_cases hm:x=m
  .subst hm
   have hr:r.lookup x=none:=AC nd.1;rw[show List.lookup x ((x,k)::r)=some k by simp]
   by_cases hk:k=.cell
   .subst hk
    refine⟨λ_=>?_,λh=>Nq rfl h⟩;have a:=(@qw x r (n+1) ((x,n)::acc) acc' nd.2).2 (by rw[hr];simp);have b:=(@qw x r (n+1) ((x,n)::acc') acc' nd.2).2 (by rw[hr];simp);show(cellsFrom (n+1) r ((x,n)::acc)).lookup x=(cellsFrom (n+1) r ((x,n)::acc')).lookup x;rw[a,b];simp
   .refine⟨λh=>Nq (Nv h) hk,λ_=>?_⟩
    have e:cellsFrom n ((x,k)::r) acc=cellsFrom n r acc:=by
     show(if k==.cell then _ else _)=_;rw[if_neg (by simpa using hk)]
    rw[e,(@qw x r n acc acc' nd.2).2 (by rw[hr];simp)]
  .have e:List.lookup x ((m,k)::r)=r.lookup x:=by rw[oD,beq_eq_false_iff_ne.mpr hm]
   rw[e]
   by_cases hk:k=.cell
   .subst hk
    have ih:=@qw x r (n+1) ((m,n)::acc) ((m,n)::acc') nd.2;have e2:List.lookup x ((m,n)::acc)=acc.lookup x:=by rw[oD,beq_eq_false_iff_ne.mpr hm]
    rw[e2] at ih;exact ih
   .have e3:∀a:List (Str×Addr),cellsFrom n ((m,k)::r) a=cellsFrom n r a:=λa=>by
     show(if k==.cell then _ else _)=_;rw[if_neg (by simpa using hk)]
    rw[e3,e3];exact @qw x r n acc acc' nd.2
theorem Dg:(relabel sc env).names.lookup x=(sc.names.lookup x).map λk=>if(k==NameKind.free&&env.scope.kind==.function&&env.kindOf x==some .cell)=true then .cell else k:=by
 show List.lookup x (sc.names.map _)=_;generalize sc.names=l
 induction l with
 |nil=>rfl
 |cons y r ih=>
  obtain⟨m,k⟩:=y
  by_cases hx:x=m
  .subst hx
   simp only[cR]
   by_cases hc:(k==NameKind.free&&env.scope.kind==.function&&env.kindOf x==some .cell)=true
   .rw[if_pos hc]
    simp only[oD,NF,o6];rw[if_pos hc]
   .rw[if_neg hc]
    simp only[oD,NF,o6];rw[if_neg hc]
  .have hb:(x==m)=false:=beq_eq_false_iff_ne.mpr hx
   simp only[cR]
   by_cases hc:(k==NameKind.free&&env.scope.kind==.function&&env.kindOf m==some .cell)=true
   .rw[if_pos hc];simp only[oD,hb];exact ih
   .rw[if_neg hc];simp only[oD,hb];exact ih
def jy(sc:Scope)(env:Env)(C:Addr):Env:=
 { scope:=relabel sc env,locals:=C,globals:=env.globals,cells:=cellsFrom (C+1) sc.names (dg env.cells sc.names []),qual:=env.qual,func:=none,code:=env.code,frame:=env.frame,builtins:=env.builtins }
theorem HG{M:Model}{E:Value->Shared->Prop}
  (h:Q { scope:=sc,locals:=s.heap.objs.size,globals:=env.globals,cells:=cellsFrom (s.heap.objs.size+1) sc.names (dg env.cells sc.names []),qual:=env.qual,func:=none,code:=env.code,frame:=env.frame,builtins:=env.builtins }
   { s with heap:=pushCells (s.heap.push { cls:=.type "dict",data:=.dict #[] }) sc.names }) :
  wpAny M A (newFunctionEnv sc env.globals (dg env.cells sc.names []) [] env.qual none .none (some env)) Q E s:=by
 simp only[newFunctionEnv,Option.isSome_some,if_true];refine Nm (wpAny_alloc ?_);refine Nm (wpAny_layCells _ (λname kind cells=>by cases hkc:kind==NameKind.cell<;>simp[hkc]) _ _ _ _ ?_);rw[show({ s with heap:=s.heap.push { cls:=.type "dict",data:=.dict #[] } }:Shared).heap.objs.size=s.heap.objs.size+1 from mY ..];exact Nm (Np (Np h))
def Cx.lc(X:Cx)(sc:Scope)(vars:List Str)(sel:List Nat)(s:Shared)(H:Hp)(fp:List Addr):Cx where
 prog:=X.prog
 w:=X.w
 K:=X.K
 mg:=X.mg
 base:=X.base
 A:=X.A
 N:=vars++sel.map λj=>X.N.getD j ""
 s₀:=s
 H₀:=H
 env:=jy sc X.env s.heap.objs.size
 outer:=X.stack
 stack:=X.stack
 ex:=fp
 fn:=λx=>decide (sc.names.lookup x=some .cell)
 calm:=X.calm
 pn:=[]
 xe:=λ_ _=>False
def rY(N:List Str)(sc:Scope)(sel:List Nat):Bool:=sel.all λj=>match N[j]? with
 |some x=>decide (sc.names.lookup x=some .free)
 |none=>false
def gY(nv:Nat)(sel:List Nat)(σ:St):St:=List.replicate nv none++sel.map λj=>(σ[j]?).getD none
section
theorem AE(I:Inv X pins σ H s)(ok:lI sc X.env.scope=true):∀y∈sc.names,y.2=.free->∃c,X.env.cells.lookup y.1=some c:=λy hy hk=>by
 simp only[lI,c6,Ybf,xb,tu,Nt,decide_eq_false_iff_not] at ok;rcases ok.2 y hy with z|z
 .exact Nq hk z
 .exact I.ok.has y.1 z
theorem HH(I:Inv X pins σ H s)(ok:lI sc X.env.scope=true)(so:rY X.N sc sel=true)(hf:∀b∈fp,eW X pins H b)(ho:∀b∈fp,∃o,s.heap.get? b=some o)(ha:X.env.scope.kind=.function:=by rfl) :
  Inv (X.lc sc vars sel s H fp) [] (gY vars.length sel σ) H { s with heap:=pushCells (s.heap.push { cls:=.type "dict",data:=.dict #[] }) sc.names }:=by
 have hcl:=AE I ok;have ok':=ok;simp only[lI,c6,Ybf,xb,tu,Nt,decide_eq_false_iff_not] at ok';obtain⟨⟨hk,nd⟩,hfree⟩:=ok';have szp:(s.heap.push { cls:=.type "dict",data:=.dict #[] }).objs.size=s.heap.objs.size+1:=mY ..;have keep:∀b o,s.heap.get? b=some o->(pushCells (s.heap.push { cls:=.type "dict",data:=.dict #[] }) sc.names).get? b=some o:=λb o e=>pushCells_keeps _ _ _ _ (dH _ e);have okc:=cellsFrom_ok sc.names (s.heap.push { cls:=.type "dict",data:=.dict #[] }) (s.heap.objs.size+1) [] ⟨λ_ _ hm=>(nomatch hm),List.Pairwise.nil⟩ (by rw[szp];exact cB _);rw[szp] at okc
 -- the cells of the block
 have own:∀x,sc.names.lookup x=some .cell->∃c,(jy sc X.env s.heap.objs.size).cells.lookup x=some c/\(x,c)∈cellsFrom (s.heap.objs.size+1) sc.names []:=λx hx=>by
  have e:=(qw sc.names (s.heap.objs.size+1) (dg X.env.cells sc.names []) [] nd).1 hx;obtain⟨c,hc⟩:=dY (sc:=sc) (n:=s.heap.objs.size+1) hx;exact⟨c,by show(cellsFrom _ _ _).lookup x=_;rw[e];exact hc,Nx hc⟩
 have clo:∀x,sc.names.lookup x=some .free->∃c,(jy sc X.env s.heap.objs.size).cells.lookup x=some c/\X.env.cells.lookup x=some c:=λx hx=>by
  have e:=(qw sc.names (s.heap.objs.size+1) (dg X.env.cells sc.names []) [] nd).2 (by rw[hx];decide);obtain⟨c,h1,h2⟩:=(@uQ X.env.cells x sc.names [] nd).1 hx;obtain⟨c',h3⟩:=hcl (x,.free) (Nx hx) rfl;have h3':X.env.cells.lookup x=some c':=h3;rw[h3'] at h2;have h4:c'=c:=h2;subst h4;exact⟨c',by show(cellsFrom _ _ _).lookup x=_;rw[e];exact h1,h3'⟩
 have oth:∀x c,(jy sc X.env s.heap.objs.size).cells.lookup x=some c->sc.names.lookup x=some .cell\/sc.names.lookup x=some .free:=λx c hc=>by
  by_cases h1:sc.names.lookup x=some .cell
  .exact .inl h1
  .by_cases h2:sc.names.lookup x=some .free
   .exact .inr h2
   .have e:=(qw sc.names (s.heap.objs.size+1) (dg X.env.cells sc.names []) [] nd).2 h1
    have e2:=(@uQ X.env.cells x sc.names [] nd).2 h2;have hc':(cellsFrom (s.heap.objs.size+1) sc.names (dg X.env.cells sc.names [])).lookup x=some c:=hc;rw[e,e2] at hc';simp at hc'
 have ownC:∀x c,(x,c)∈cellsFrom (s.heap.objs.size+1) sc.names []->(pushCells (s.heap.push { cls:=.type "dict",data:=.dict #[] }) sc.names).IsCell c none/\s.heap.objs.size+1<=c:=λx c h=>okc.empty x c h;have cloLt:∀x c,X.env.cells.lookup x=some c->c<s.heap.objs.size:=λx c h=>by
  obtain⟨v,q⟩:=I.cell x c h;exact q.lt
 have noA:∀b∈fp,b<s.heap.objs.size:=λb hb=>by obtain⟨o,e⟩:=ho b hb;exact du e
 refine ⟨⟨I.ok.mod,hk,I.ok.glob,I.ok.blt,cB _,λx y c h1 h2=>?_,λx hx=>?_,λx c hx h=>?_,I.ok.hd,I.ok.frames,.inl rfl,λb hb=>⟨hZ (noA b hb),λx c h=>?_⟩,I.bs,fQ I.ok.bsz I.sz,λb o e hb=>?_,λb hb hq=>?_,I.stack,I.stkFree,I.sysn⟩,
  rfl,I.bare,Un.kept keep,⟨λ_=>none,?_,λi x v h1 h2 h3=>?_⟩,λx c h=>?_,I.hok.fresh (cB _),λx c h=>?_,λp hp=>Nq (show p∈([]:List (Addr×Obj)) from hp) (by simp),I.hok.kept keep,?_⟩
 ·-- inj
  replace h1:(jy sc X.env s.heap.objs.size).cells.lookup x=some c:=h1;replace h2:(jy sc X.env s.heap.objs.size).cells.lookup y=some c:=h2;rcases oth x c h1 with k1|k1<;>rcases oth y c h2 with k2|k2
  .obtain⟨c1,e1,m1⟩:=own x k1
   obtain⟨c2,e2,m2⟩:=own y k2;rw[h1] at e1;rw[h2] at e2;cases e1;cases e2;exact name_of_addr okc.apart m1 m2
  .obtain⟨c1,e1,m1⟩:=own x k1
   obtain⟨c2,e2,m2⟩:=clo y k2;rw[h1] at e1;rw[h2] at e2;cases e1;cases e2;exact Nq (de (cloLt y c m2) (zW (ownC x c m1).2)) (gQ _)
  .obtain⟨c1,e1,m1⟩:=clo x k1
   obtain⟨c2,e2,m2⟩:=own y k2;rw[h1] at e1;rw[h2] at e2;cases e1;cases e2;exact Nq (de (cloLt x c m1) (zW (ownC y c m2).2)) (gQ _)
  .obtain⟨c1,e1,m1⟩:=clo x k1
   obtain⟨c2,e2,m2⟩:=clo y k2;rw[h1] at e1;rw[h2] at e2;cases e1;cases e2;exact I.ok.inj x y c m1 m2
 ·-- has
  have hx':(relabel sc X.env).names.lookup x=some .cell\/(relabel sc X.env).names.lookup x=some .free:=hx;rw[Dg] at hx';cases q:sc.names.lookup x with
  |none=>rw[q] at hx';simp at hx'
  |some k=>
   cases k with
   |cell=>obtain⟨c,e,_⟩:=own x q;exact⟨c,e⟩
   |free=>obtain⟨c,e,_⟩:=clo x q;exact⟨c,e⟩
   | «local»=>rw[q] at hx';simp at hx'
   |globalExplicit=>rw[q] at hx';simp at hx'
   |globalImplicit=>rw[q] at hx';simp at hx'
 .have hx':sc.names.lookup x=some .cell:=NR hx
  obtain⟨c1,e1,m1⟩:=own x hx';have h':(jy sc X.env s.heap.objs.size).cells.lookup x=some c:=h;rw[h'] at e1;cases e1;have:=(ownC x c m1).2;show s.heap.objs.size<=c;omega
 .rcases oth x c h with k|k
  .obtain⟨c1,e1,m1⟩:=own x k
   rw[show(jy sc X.env s.heap.objs.size).cells.lookup x=some c from h] at e1;cases e1;exact λz=>Nq (de (noA b hb) (zW (ownC x c m1).2)) (by rw[z];exact gQ _)
  .obtain⟨c1,e1,m1⟩:=clo x k
   rw[show(jy sc X.env s.heap.objs.size).cells.lookup x=some c from h] at e1;cases e1;exact(hf b hb).2.2.2.2.1 x c m1
 .have q:=(hf b hb).2.2.2.1
  rcases q with q|q
  .exact I.ok.noex b o e q
  .exact Nq (de (du (I.ok.bs b o e).1) q) (gQ _)
 .rcases Yan.mp (I.stkSub b hq) with z|z
  .exact(hf b hb).2.1 z
  .exact(hf b hb).2.2.1 z
 ·-- the names' dict
  refine Heap.Ns.keeps (h:=s.heap.push { cls:=.type "dict",data:=.dict #[] }) ?_ (λb o e=>pushCells_keeps _ _ _ _ e);exact⟨_,#[],_,gK _ rfl,rfl,λe he=>Nq he (by simp),λ_=>rfl⟩
 ·-- what is seen
  have hi:vars.length<=i:=by
   rcases gp i vars.length with z|z
   .exfalso
    unfold gY at h2;rw[lF (by simpa using z),lE] at h2;split at h2<;>cases h2
   .exact z
  unfold gY at h2;rw[kJ (by simpa using hi),o5,cK] at h2;have h1':(vars++sel.map λj=>X.N.getD j "")[i]? = some x:=h1;rw[kJ hi,cK] at h1';cases q:sel[i-vars.length]? with
  |none=>rw[q] at h2;cases h2
  |some j=>
   rw[q] at h1' h2;have e1:X.N.getD j "" = x:=Nv h1';have e2:(σ[j]?).getD none=some v:=Nv h2;have hj:∃y,X.N[j]? = some y/\sc.names.lookup y=some .free:=by
    have:=Ybf.mp so j (h8 q);cases z:X.N[j]? with
    |none=>rw[z] at this;cases this
    |some y=>rw[z] at this;exact⟨y,rfl,NR this⟩
   obtain⟨y,hy,hyf⟩:=hj;have:y=x:=by
    rw[<-e1,aY,hy];rfl
   subst this;have e3:σ[j]? = some (some v):=by
    cases z:σ[j]? with
    |none=>rw[z] at e2;cases e2
    |some w=>rw[z] at e2;exact congrArg some e2
   obtain⟨c,k1,k2⟩:=clo y hyf;have vis:pq X.env.scope y:=by
    rcases hfree (y,.free) (Nx hyf) with z|z|z
    .exact Nq rfl z
    .exact .inr (.inl z)
    .exact .inr (.inr z)
   obtain⟨m,hn,hl⟩:=I.loc;obtain⟨u,r,l⟩:=hl j y v hy e3 vis;refine⟨u,r,?_⟩;have notloc:X.env.kindOf y≠some .local:=by
    rcases hfree (y,.free) (Nx hyf) with z|z|z
    .exact Nq rfl z
    .show X.env.scope.names.lookup y≠_;rw[z];decide
    .show X.env.scope.names.lookup y≠_;rw[z];decide
   rcases l with⟨z,_⟩|⟨_,c',e',q'⟩
   .exact Nq z notloc
   .rw[k2] at e';cases e'
    have kk:(jy sc X.env s.heap.objs.size).kindOf y=some .cell\/(jy sc X.env s.heap.objs.size).kindOf y=some .free:=by
     show(relabel sc X.env).names.lookup y=_\/(relabel sc X.env).names.lookup y=_;rw[Dg,hyf];simp only[o6];split
     .exact .inl rfl
     .exact .inr rfl
    exact .inr ⟨kk,c,k1,q'.keeps keep⟩
 .rcases oth x c h with k|k
  .obtain⟨c1,e1,m1⟩:=own x k
   rw[show(jy sc X.env s.heap.objs.size).cells.lookup x=some c from h] at e1;cases e1;exact⟨none,(ownC x c m1).1⟩
  .obtain⟨c1,e1,m1⟩:=clo x k
   rw[show(jy sc X.env s.heap.objs.size).cells.lookup x=some c from h] at e1;cases e1;obtain⟨v,q⟩:=I.cell x c m1;exact⟨v,q.keeps keep⟩
 .rcases oth x c h with k|k
  .obtain⟨c1,e1,m1⟩:=own x k
   rw[show(jy sc X.env s.heap.objs.size).cells.lookup x=some c from h] at e1;cases e1;exact I.hok.fresh (by have:=(ownC x c m1).2;omega)
  .obtain⟨c1,e1,m1⟩:=clo x k
   rw[show(jy sc X.env s.heap.objs.size).cells.lookup x=some c from h] at e1;cases e1;exact I.freeC x c m1
 .show(gY vars.length sel σ).length=(vars++sel.map _).length
  unfold gY;simp
end
def PF(X:Cx)(ifs:List Expr)(t:TT):Prop:=
 ∀(pins:List (Addr×Obj)) (s:Shared) (σ:St) (H:Hp) (Q:Bool->Hp->Prop),Inv X pins σ H s->t σ H Q->
  wpAny (model X.prog X.w) X.A (forIn ifs true λc r=>if r=true then do let ok <-isTrue c X.env (eval c X.env);pure (ForInStep.yield ok) else pure (ForInStep.yield r)) (TP X pins σ Q) X.xe s
def uR:TT:=λ_ H Q=>Q true H
theorem HI:PF X [] uR:=λ_ _ _ H _ I h=>wpAny_tests_nil ⟨H,I,h⟩
theorem HJ{c:Expr}{t:TT}(h:PT X c t):PF X [c] t:=λpins s σ H Q I q=>wpAny_tests_one (h pins s σ H Q I q)
def uS(g:TG)(tf:TT)(te:TE)(J:It)(D:Addr)(Q:Hp->Prop)(W:Nat->Nat->List V->St->Hp->Prop):Prop:=
 ∀ i m ys σ2 H2,W i m ys σ2 H2->H2 D=some (.lst ys)/\((J.stop i H2/\Q H2)\/(J.go i H2/\∀ x H3,J.yld i H2 x H3->g x σ2 H3 λσ4 H4=>tf σ4 H4 λb H5=>
  if b=true then te σ4 H5 λv H6=>H6 D=some (.lst ys)/\ys.length<sizeLine/\∃m',m'<m/\W (i+1) m' (ys++[v]) σ4 (upd H6 D (.lst (ys++[v]))) else∃m',m'<m/\W (i+1) m' ys σ4 H5))
def AF(wi:TI)(nv:Nat)(sel:List Nat)(g:TG)(tf:TT)(te:TE):TE:=λσ H Q=>wi σ H λJ H1=>∀D,H1 D=none->
 ∃W:Nat->Nat->List V->St->Hp->Prop,(∃m,W 0 m [] (gY nv sel σ) (upd H1 D (.lst [])))/\uS g tf te J D (Q (.ref D)) W
section
variable{s2:Shared}{elt target iter:Expr}{ifs:List Expr}{pos:Pos}{g:TG}{tf:TT}{te:TE}
theorem HK{prog:Program}{R:Result->Shared->Prop}{it acc:Value}(I:Nat->Shared->Prop)
  (turn:∀ n s,I n s->wpAny (model prog w) A (pyNext it) (λr s₁=>match r with
   |none=>R (.ok .next) s₁
   | some v=>wpAny (model prog w) A (letOwnedTupleGo target it v) (λ_ s₁'=>wpAny (model prog w) A (assign target env v) (λ_ s₂=>
     wpAny (model prog w) A (forIn ifs true λc r=>if r=true then do let ok <- isTrue c env (eval c env);pure (ForInStep.yield ok) else pure (ForInStep.yield r)) (λok s₃=>
      if ok=true then wpAny (model prog w) A (eval elt env) (λx s₄=>
       wpAny (model prog w) A (call (.builtin "list.append") [acc,x]) (λ_ s₅=>∃m,m<n/\I m s₅) (λ_ _=>False) s₄) (λ_ _=>False) s₃
      else∃m,m<n/\I m s₃) (λ_ _=>False) s₂) (λ_ _=>False) s₁') (λ_ _=>False) s₁) (λ_ _=>False) s)
  (n:Nat) (h:I n s) :
  codeAny (model prog w) A (.compLoop (.ListComp elt [⟨target,iter,ifs,0⟩] scope pos) 0 it acc env) R s:=by
 refine codeAny_loop rfl I (λn s hI=>?_) n h;show wpAny _ A ((compTurn (.ListComp elt [⟨target,iter,ifs,0⟩] scope pos) 0 it acc env).onRaise (λx=>do noteFrame x env;theTreesLotGoes x)) _ _ s;refine wpAny_noted ?_;rw[compTurn_list];refine Nm (NS (Nm (ND (turn n s hI) (λr s₁ h₁=>?_) λ_ _ h'=>h'.elim)));cases r with
 |none=>exact Np h₁
 |some v=>
  refine Nm (ND h₁ (λ_ s₁' h₁'=>?_) λ_ _ h'=>h'.elim);refine Nm (ND h₁' (λ_ s₂ h₂=>Nm (ND h₂ (λok s₃ h₃=>?_) λ_ _ h'=>h'.elim)) λ_ _ h'=>h'.elim);cases ok with
  |false=>exact Np ⟨rfl,h₃⟩
  |true=>
   exact Nm (Nm (ND h₃ (λx s₄ h₄=>Nm (ND h₄ (λ_ s₅ h₅=>Np (Np ⟨rfl,h₅⟩)) λ_ _ h'=>h'.elim)) λ_ _ h'=>h'.elim))
theorem Dh{J:It}{it:Addr}{Q:VK}{E:Value->Shared->Prop}{R:Value->Addr->Result->Shared->Prop}(hc:X.calm=true)
  (hg:∀s H fp,PG (X.lc sc vars sel s H fp) target g) (hf:∀s H fp,PF (X.lc sc vars sel s H fp) ifs tf) (he:∀s H fp,PE (X.lc sc vars sel s H fp) elt te)
  (ok:lI sc X.env.scope=true) (so:rY X.N sc sel=true)
  (I2:Inv X pins σ H1 s2) (T:jL X.prog X.w X.K target J fp it tn) (st2:tn 0 s2.heap) (f2:∀b∈fp,eW X pins H1 b)
  (q:∀D,H1 D=none->∃W:Nat->Nat->List V->St->Hp->Prop,(∃m,W 0 m [] (gY vars.length sel σ) (upd H1 D (.lst [])))/\uS g tf te J D (Q (.ref D)) W)
  (hR:∀D C H' s',Inv X pins σ H' s'->Q (.ref D) H'->(∃m,s'.heap.Ns C m)->eW X pins H' C->R (.ref D) C (.ok .next) s') :
  wpAny (model X.prog X.w) X.A (newList []) (λacc s₃=>wpAny (model X.prog X.w) X.A (newFunctionEnv sc X.env.globals (dg X.env.cells sc.names []) [] X.env.qual none .none (some X.env)) (λcenv s₄=>
   codeAny (model X.prog X.w) X.A (.compStart (.ListComp elt [⟨target,iter,ifs,0⟩] sc pos) 0 (.ref it) acc { cenv with scope:=relabel sc X.env }) (R acc cenv.locals) s₄) E s₃) E s2:=by
 refine NA ?_;have hD0:H1 s2.heap.objs.size=none:=I2.hok.fresh (cB _);obtain⟨W,⟨m0,w0⟩,turn⟩:=q _ hD0;have I3:Inv X pins σ (upd H1 s2.heap.objs.size (.lst [])) { s2 with heap:=s2.heap.push { cls:=.type "list",data:=.seq ([]:List Value).toArray },toks:=s2.toks }:=I2.lnew (ys:=[]) .nil (i6 _);have ho2:∀b∈fp,∃o,s2.heap.get? b=some o/\∀v,o.data≠.cell v:=T.obj _ _ st2;have lt2:∀b∈fp,b<s2.heap.objs.size:=λb hb=>by obtain⟨o,e,_⟩:=ho2 b hb;exact du e
 have f3:∀b∈fp,eW X pins (upd H1 s2.heap.objs.size (.lst [])) b:=λb hb=>⟨by rw[aI (hZ (lt2 b hb))];exact(f2 b hb).1,(f2 b hb).2⟩;have ho3:∀b∈fp,∃o,(s2.heap.push { cls:=.type "list",data:=.seq ([]:List Value).toArray }).get? b=some o:=λb hb=>by obtain⟨o,e,_⟩:=ho2 b hb;exact⟨o,dH _ e⟩
 refine HG (s:={ s2 with heap:=s2.heap.push { cls:=.type "list",data:=.seq ([]:List Value).toArray },toks:=s2.toks }) ?_;generalize hs3:({ s2 with heap:=s2.heap.push { cls:=.type "list",data:=.seq ([]:List Value).toArray },toks:=s2.toks }:Shared)=s3 at I3 ⊢;have kp23:∀b o,s2.heap.get? b=some o->s3.heap.get? b=some o:=λb o e=>by rw[<-hs3];exact dH _ e
 have sz3:s3.heap.objs.size=s2.heap.objs.size+1:=by rw[<-hs3];exact mY ..
 have os3:s3.os=s2.os:=by rw[<-hs3]
 have ho3':∀b∈fp,∃o,s3.heap.get? b=some o:=λb hb=>by rw[<-hs3];exact ho3 b hb
 have I4:=HH (vars:=vars) I3 ok so f3 ho3' I2.ok.kind;have kp4:∀b o,s3.heap.get? b=some o->(pushCells (s3.heap.push { cls:=.type "dict",data:=.dict #[] }) sc.names).get? b=some o:=λb o e=>pushCells_keeps _ _ _ _ (dH _ e);have st4:tn 0 (pushCells (s3.heap.push { cls:=.type "dict",data:=.dict #[] }) sc.names):=T.keep _ _ _ st2 λb hb o e=>kp4 b o (kp23 b o e)
 -- what stays true of the iterator
 have stat:∀{H':Hp},(∀b∈fp,H' b=none)->∀b∈fp,eW (X.lc sc vars sel s3 (upd H1 s2.heap.objs.size (.lst [])) fp) [] H' b:=λ{H'} hn b hb=>by
  refine⟨hn b hb,(I4.ok.exf b hb).1,I4.ok.exfs b hb,.inl hb,λx c e z=>(I4.ok.exf b hb).2 x c e z,λp hp=>Nq (show p∈([]:List (Addr×Obj)) from hp) (by simp)⟩
 have loop:codeAny (model X.prog X.w) X.A (.compLoop (.ListComp elt [⟨target,iter,ifs,0⟩] sc pos) 0 (.ref it) (.ref s2.heap.objs.size) (jy sc X.env s3.heap.objs.size))
   (R (.ref s2.heap.objs.size) s3.heap.objs.size) { s3 with heap:=pushCells (s3.heap.push { cls:=.type "dict",data:=.dict #[] }) sc.names }:=by
  refine HK (λn s'=>∃i ys σ' H',Inv (X.lc sc vars sel s3 (upd H1 s2.heap.objs.size (.lst [])) fp) [] σ' H' s'/\tn i s'.heap/\(∀b∈fp,H' b=none)/\W i n ys σ' H') ?_ m0
   ⟨0,[],_,_,I4,st4,λb hb=>(f3 b hb).1,w0⟩
  rintro n s5 ⟨i,ys,σ5,H5,I5,st5,fr5,w5⟩;obtain⟨hD,⟨stop,qn⟩|⟨go,step⟩⟩:=turn i n ys σ5 H5 w5
  .refine bR (T.done (X.lc sc vars sel s3 (upd H1 s2.heap.objs.size (.lst [])) fp) rfl rfl rfl hc i [] s5 σ5 H5 _ I5 (stat fr5) st5 stop) λr s6 ⟨hr,I6⟩=>?_
   subst hr;have un:Un (dn X.stack) fp H1 H5 s2.heap s6.heap:=by
    have a:Un (dn X.stack) fp H1 (upd H1 s2.heap.objs.size (.lst [])) s2.heap s3.heap:=Un.laid kp23 (cB _) hD0;exact a.trans I6.base
   have I7:Inv X pins σ H5 s6:=I2.call' (ch:=fp) (I6.os.trans os3) un I6.hok I6.bare λb hb=>⟨(f2 b hb).2.2.2.1,(f2 b hb).2.1,(f2 b hb).2.2.2.2.1,(f2 b hb).2.2.2.2.2⟩;refine hR _ _ H5 s6 I7 qn ?_ ?_
   .obtain⟨m,hn,_⟩:=I6.loc
    exact⟨m,hn⟩
   .exact I3.fpOk (cB _) I6.free
  .refine bR (T.item (X.lc sc vars sel s3 (upd H1 s2.heap.objs.size (.lst [])) fp) rfl rfl rfl hc i [] s5 σ5 H5 _ I5 (stat fr5) st5 go) λr s6 ⟨u,hr,h6⟩=>?_
   subst hr;refine bR h6 λ_ s7 ⟨x,H7,I7,r7,y7,st7,fr7⟩=>?_;have I7':=I7.pinned (stat fr7) (T.obj _ _ st7);refine bR (hg _ _ _ _ s7 σ5 H7 x u _ I7' r7 (step x H7 y7)) λ_ s8 ⟨σ8,H8,I8,q8⟩=>?_;refine bR (hf _ _ _ _ s8 σ8 H8 _ I8 q8) λb s9 ⟨H9,I9,q9⟩=>?_;have back:∀{σ':St} {H':Hp} {s':Shared},Inv (X.lc sc vars sel s3 (upd H1 s2.heap.objs.size (.lst [])) fp) ([]++gw fp s7.heap) σ' H' s'->tn (i+1) s'.heap/\∀b∈fp,H' b=none:=λ{σ' H' s'} I'=>by
    refine⟨T.keep _ _ _ st7 λb hb o e=>(I'.pin (b,o) (lD _ (lD _ (dJ hb e)))).1,λb hb=>?_⟩;obtain⟨o,e,d⟩:=T.obj _ _ st7 b hb;exact(I'.pin (b,o) (lD _ (lD _ (dJ hb e)))).2.1
   cases b with
   |false=>
    rw[if_neg (by decide)] at q9 ⊢;obtain⟨m',hm,w9⟩:=q9;exact⟨m',hm,i+1,ys,σ8,H9,I9.unpinned,(back I9).1,(back I9).2,w9⟩
   |true=>
    rw[if_pos rfl] at q9 ⊢;refine bR (he _ _ _ _ s9 σ8 H9 _ I9 q9) λv sA ⟨y,HA,IA,rA,hDA,hz,m',hm,wA⟩=>?_;obtain⟨z,its,nn,rr,hl,e⟩:=IA.lstM hDA;refine call_meets F.slot_list_append ⟨_,e,rfl⟩ F.entry_list_append (F.args_list_append_2 _ _) (PySem.list_append _ its.toArray nn v (by rw[eC];omega)) ⟨e,?_⟩;have IB:=IA.lset (its':=its++[v]) (f:=(·.push v)) (t':=sA.toks) hDA e (by simp) (rr.append (.cons rA .nil)) (by rw[dX,j6];omega);exact⟨m',hm,i+1,ys++[y],σ8,_,IB.unpinned,(back IB).1,(back IB).2,wA⟩
 exact codeAny_compStart_list loop (T.self _ 0 _ _ _ st4 loop)
theorem uT(vars:List Str)(sel:List Nat)(hc:X.calm=true)(hi:PI X target iter wi)
  (ok:lI sc X.env.scope=true) (so:rY X.N sc sel=true)
  (hg:∀s H fp,PG (X.lc sc vars sel s H fp) target g) (hf:∀s H fp,PF (X.lc sc vars sel s H fp) ifs tf) (he:∀s H fp,PE (X.lc sc vars sel s H fp) elt te)
  (hs:∀x,foldedSetIterable iter X.env x=pure x:=by intro _;rfl):PE X (.ListComp elt [⟨target,iter,ifs,0⟩] sc pos) (AF wi vars.length sel g tf te):=by
 intro pins s σ H Q I h;rw[eval_ListComp];have ok':=ok;simp only[lI,c6,Nt] at ok';refine wpAny_comprehension_free (use:=none) rfl hs (Df (AE I ok)) ok'.1.1 (λx hx hl=>?_) ?_
 .obtain⟨n,k⟩:=x
  have hl':k=.local:=hl;subst hl';exact AD ok'.1.2 hx
 .refine bR (hi pins s σ H _ I h) λv s1 h1=>bR h1 λitv s2 h2=>?_
  obtain⟨it,fp,tn,J,H2,e,I2,T,st2,f2,q⟩:=h2;subst e;refine Dh (Q:=Q) hc hg hf he ok so I2 T st2 f2 q λD C H' s' I' q' hn fC=>?_;obtain⟨m,hn⟩:=hn;refine⟨m,hn,λh' hs'=>?_⟩;obtain⟨f0,f1,f2,f3,f4,f5⟩:=fC;exact⟨.ref D,H',I'.turned (t':=s'.toks) (λb o hb e=>(hs'.2 b hb).trans e) f0 f1 f3 f4 f5,rfl,q'⟩
theorem Di{i:Nat}{pos' spos:Pos}(vars:List Str)(sel:List Nat)(hc:X.calm=true)(hN:X.N.Nodup)(hix:X.N[i]? = some x)(hx:oJ X.env.scope x)(hi:PI X target iter wi)
  (ok:lI sc X.env.scope=true) (so:rY X.N sc sel=true)
  (hg:∀s H fp,PG (X.lc sc vars sel s H fp) target g) (hf:∀s H fp,PF (X.lc sc vars sel s H fp) ifs tf) (he:∀s H fp,PE (X.lc sc vars sel s H fp) elt te)
  (hsw:swapsWith (.ListComp elt [⟨target,iter,ifs,0⟩] sc pos) (some (.Name x pos')) spos.line X.env=pure true)
  (hs:∀x,foldedSetIterable iter X.env x=pure x:=by intro _;rfl) (hfn:X.fn x=true\/X.env.scope.names.lookup x=some .local:=by first|exact .inl rfl|exact .inr rfl|assumption) :
  PS X (.Assign [.Name x pos'] (.ListComp elt [⟨target,iter,ifs,0⟩] sc pos) spos) (rC (AF wi vars.length sel g tf te) (kf i)):=by
 intro pins s σ H D I h;rw[exec_Assign_Name_used _ _ _ _ hsw];refine Nm (NS (Nm ?_));show wpAny _ X.A (do let _ <-comprehension (.ListComp elt [⟨target,iter,ifs,0⟩] sc pos) sc X.env _ (newList []) false (eval iter X.env) (some (assign (.Name x pos') X.env))) _ _ s;have ok':=ok;simp only[lI,c6,Nt] at ok';refine Nm (ND (wpAny_comprehension_free (use:=some (assign (.Name x pos') X.env)) (Q:=λ_ s'=>SP X pins D .next s') rfl hs (Df (AE I ok)) ok'.1.1 (λx hx hl=>?_) ?_) (λ_ s' q=>Np (Np q)) λ_ _ e=>e)
 .obtain⟨n,k⟩:=x
  have hl':k=.local:=hl;subst hl';exact AD ok'.1.2 hx
 .refine bR (hi pins s σ H _ I h) λv s1 h1=>bR h1 λitv s2 h2=>?_
  obtain⟨it,fp,tn,J,H2,e,I2,T,st2,f2,q⟩:=h2;subst e;refine Dh (Q:=λv H'=>kf i v σ H' D.nx) hc hg hf he ok so I2 T st2 f2 q λD' C H' s' I' q' hn fC=>?_;obtain⟨m,hn⟩:=hn;obtain⟨f0,f1,f2,f3,f4,f5⟩:=id fC;refine wpAny_assign_Name (fv I' hN hix hx (v:=.ref D') rfl (λs'' I'' ⟨a,sb,ha⟩=>?_) hfn);have hCa:C≠a:=by
   rcases ha with z|z
   .rw[z];exact f1
   .exact NB (f4 x a z)
  refine⟨m,hn.sameBut sb hCa,λh' hs'=>?_⟩;exact⟨_,H',I''.turned (t':=s''.toks) (λb o hb e=>(hs'.2 b hb).trans e) f0 f1 f3 f4 f5,q'⟩
end
end L2
namespace HT
open PySem PySem.Spec PyProof.Rows
section
variable{prog:Program}{w:World}{A:Around}{E:Value->Shared->Prop}{s:Shared}
theorem getItem_tuple_whole{t sl:Addr}{items:Array Value}{vl vu:Value}{lo hi:Option Int}{Q:Value->Shared->Prop}(ht:IsTup s.heap t items)(hs:s.heap.IsSliceOf sl vl vu .none)(pl:IsPart vl lo)(pu:IsPart vu hi)
  (hw:sIx items.size 0 lo=0/\sIx items.size items.size hi=items.size) (h:Q (.ref t) s):wpAny (model prog w) A (getItem (.ref t) (.ref sl)) Q E s:=by
 obtain⟨os,hos,hcs,hds⟩:=id hs;have hTs:s.TypeIs (.ref sl) "slice" :=⟨os,hos,hcs⟩
 unfold getItem
 try with_reducible refine NM ?_
 first|refine Nm (Np ?_)|skip
 refine Nm (wpAny_sequenceKey ht.typeIs (by decide) ?_);refine Nm (wpAny_callSpecial?_slot (name:=Str.ofString "__getitem__") ht.typeIs PyProof.Rows.slot_tuple_getitem
  (NH PyProof.Rows.slot_tuple_getitem ht.typeIs entry_tuple_getitem ?_ (args_tuple_getitem _ _)))
 show wpAny _ _ (Builtin.Tuple.tupleItemsOf (.ref t) >>= _) _ _ s;refine Nm (tupleItemsOf_ ht ?_);refine Nm (wpAny_typeOf hTs ?_);rw[if_pos (by decide)];refine Nm (dD hs pl pu ?_);have hyes:(((sIx items.size 0 lo:Nat):Int)==0&&(1:Int)==1&&(sIx items.size items.size hi-sIx items.size 0 lo)==items.size)=true:=by
  rw[hw.1,hw.2];simp
 show wpAny _ _ (if(((sIx items.size 0 lo:Nat):Int)==0&&(1:Int)==1&&(sIx items.size items.size hi-sIx items.size 0 lo)==items.size)=true then _ else _) _ _ s;rw[if_pos hyes];have ex:Builtin.Tuple.tupleIsExact (.ref t)=(do return(<-typeOf (.ref t))==.type "tuple"):=rfl;rw[ex];refine Nm (Nm (wpAny_typeOf ht.typeIs (Np ?_)));rw[if_pos (by decide)]
 first
  |exact Nm (NP (Nm (Np (Np ⟨_,rfl,Np h⟩))))
  |exact Nm (NP (Np ⟨_,rfl,Np h⟩))
  |exact Nm (NP (Nm (Np ⟨_,rfl,Np h⟩)))
theorem HL{sl:Addr}{tk:Tok}{n:Nat}{Q:Int×Int×Nat->Shared->Prop}(hs:s.heap.IsSliceOf sl .none .none (.int (-1) tk))
  (h:Q ((n:Int)-1,-1,n) s):wpAny (model prog w) A (Builtin.Slice.sliceApplied (.ref sl) (pure (n:Int))) Q E s:=by
 obtain⟨os,hos,hcs,hds⟩:=id hs;unfold Builtin.Slice.sliceApplied Builtin.Slice.sliceFields;refine Nm (Nm (Ny hos hds (x:=.none) rfl (Nm (Ny hos hds (x:=.none) rfl (Nm (Ny hos hds (x:=.int (-1) tk) rfl (Np ?_)))))));refine Nm (slicePart_int ?_);show wpAny _ _ (if((-1:Int)==0)=true then _ else _) _ _ s;rw[if_neg (by decide)];refine Nm (slicePart_none (Nm (slicePart_none (Nm (Np ?_)))));show wpAny _ _ (match Builtin.Slice.sliceAdjust none none (-1) (n:Int) with|(lo,hi)=>pure (lo,(-1:Int),Builtin.Slice.slicePlaces lo hi (-1))) _ _ s;have e:Builtin.Slice.sliceAdjust none none (-1) (n:Int)=((n:Int)-1,-1):=by
  unfold Builtin.Slice.sliceAdjust;simp
 rw[e];have e2:Builtin.Slice.slicePlaces ((n:Int)-1) (-1) (-1)=n:=by
  unfold Builtin.Slice.slicePlaces;simp
  try omega
 show wpAny _ _ (pure ((n:Int)-1,(-1:Int),Builtin.Slice.slicePlaces ((n:Int)-1) (-1) (-1))) _ _ s;rw[e2];exact Np h
theorem pick_rev(xs:Array Value):((List.range xs.size).filterMap λ(m:Nat)=>xs[((xs.size:Int)-1+(m:Int)*(-1)).toNat]?)=xs.toList.reverse:=by
 refine tx λi=>?_;have gen:∀(l:List Nat),(∀m∈l,m<xs.size)->(l.filterMap λ(m:Nat)=>xs[((xs.size:Int)-1+(m:Int)*(-1)).toNat]?)=l.map λm=>xs.toList.getD (xs.size-1-m) .none:=by
  intro l
  induction l with
  |nil=>intro _;rfl
  |cons m r ih=>
   intro hm;have h1:m<xs.size:=hm m ju;have h2:((xs.size:Int)-1+(m:Int)*(-1)).toNat=xs.size-1-m:=by omega
   have h3:xs.size-1-m<xs.size:=by omega
   rw[wX,h2,Array.getElem?_eq_getElem h3,cR,ih λk hk=>hm k (gR _ hk)];simp[aY,h3]
 rw[gen _ λm hm=>Yah.mp hm]
 by_cases hi:i<xs.size
 .rw[cK,jG hi,zX (by simpa using hi)]
  simp[aY];rw[Array.getElem?_eq_getElem (by omega)];simp
 .rw[eP (by simp;omega),eP (by simp;omega)]
theorem getItem_tuple_rev{t sl:Addr}{items:Array Value}{tk:Tok}{Q:Value->Shared->Prop}(ht:IsTup s.heap t items)(hs:s.heap.IsSliceOf sl .none .none (.int (-1) tk))(hsz:items.size<=sizeLine)
  (h:Q (.ref s.heap.objs.size) { s with heap:=s.heap.push { cls:=.type "tuple",data:=.seq items.toList.reverse.toArray } }):wpAny (model prog w) A (getItem (.ref t) (.ref sl)) Q E s:=by
 have htake:sizeOk (.seq items.toList.reverse.toArray):=by
  show items.toList.reverse.toArray.size<=sizeLine;simpa using hsz
 obtain⟨os,hos,hcs,hds⟩:=id hs;have hTs:s.TypeIs (.ref sl) "slice" :=⟨os,hos,hcs⟩
 unfold getItem
 try with_reducible refine NM ?_
 first|refine Nm (Np ?_)|skip
 refine Nm (wpAny_sequenceKey ht.typeIs (by decide) ?_);refine Nm (wpAny_callSpecial?_slot (name:=Str.ofString "__getitem__") ht.typeIs PyProof.Rows.slot_tuple_getitem
  (NH PyProof.Rows.slot_tuple_getitem ht.typeIs entry_tuple_getitem ?_ (args_tuple_getitem _ _)))
 show wpAny _ _ (Builtin.Tuple.tupleItemsOf (.ref t) >>= _) _ _ s;refine Nm (tupleItemsOf_ ht ?_);refine Nm (wpAny_typeOf hTs ?_);rw[if_pos (by decide)];refine Nm (HL hs ?_);show wpAny _ _ (if((((items.size:Int)-1)==0&&(-1:Int)==1&&items.size==items.size)=true) then _ else _) _ _ s;rw[if_neg (by simp),pick_rev]
 first
  |exact Nm (m:=Builtin.Tuple.tupleExact _) (NA (Np ⟨_,rfl,Np h⟩) htake)
  |exact Nm (m:=Builtin.Tuple.tupleExact _) (NA (Nm (Np (Np ⟨_,rfl,Np h⟩))) htake)
  |exact Nm (Nm (m:=Builtin.Tuple.tupleExact _) (NA (Np (Np ⟨_,rfl,Np h⟩)) htake))
  |exact Nm (Nm (m:=Builtin.Tuple.tupleExact _) (NA (Np ⟨_,rfl,Np h⟩) htake))
end
end HT
namespace L2
open PySem PySem.Spec PyProof.Rows
variable{X:Cx}{e:Expr}{xs vs ys:Array Value}{us bm bmB:List Value}{A:Around}{s:Shared}{P prog:Program}{base h h':Heap}{env:Env}{outer:List Env}{l b a f:Addr}{Q:Value->Shared->Prop}{oe:Obj}{w:World}{g:Array GenState}{d:Drawn}{t t' i n1 k:Nat}{os:OsState}{nm q x n qual:Str}{N sn ns ps:List Str}{hdct ab κ κ':Bool}{col:Option Bool}{dd:Option Addr}{newId:String}{mN m mg:Str->Option Value}{y:Option Value}{H:Hp}{K:Nn}{scope:Scope}{cd:Value}{pins:List (Addr×Obj)}{σ:St}{es:List Expr}{ta:TA}{p:Pos}{fd:FuncData}{tk:Tok}
section
variable{te:TE}{pos p2:Pos}
def uU(K:Nn):V->Option Int->Option Int->Hp->VK->Prop:=λx lo hi H Q=>∃a xs,x=.ref a/\SqT K H a xs/\
 (HT.sIx xs.length 0 lo=0/\HT.sIx xs.length xs.length hi=xs.length)/\Q (.ref a) H
theorem HM:SlR X (uU X.K):=by
 intro pins s σ H x v vl vu lo hi sl Q I rx hs pl pu h;obtain⟨a,xs,rfl,hx,hw,q⟩:=h;cases rx;obtain⟨its,r,ht,hz⟩:=I.tuple hx;have hlen:its.toArray.size=xs.length:=by rw[eC];exact r.length.symm
 refine⟨"tuple",_,PyProof.Rows.slot_tuple_getitem.lookup,ht.typeIs,?_⟩;exact HT.getItem_tuple_whole ht hs pl pu (by rw[hlen];exact hw) ⟨.ref a,H,I,rfl,q⟩
def AG(r:V->Hp->VK->Prop)(te:TE):TE:=λσ H Q=>te σ H λx H1=>r x H1 Q
def AH(K:Nn):V->Hp->VK->Prop:=λx H Q=>∃a xs,x=.ref a/\((SqT K H a xs/\∀p,H p=none->Q (.ref p) (upd H p (.tup xs.reverse)))\/(SqL K H a xs/\∀p,H p=none->Q (.ref p) (upd H p (.lst xs.reverse))))
theorem Vals.rev{xs:List V}(r:Vals xs us):Vals xs.reverse us.reverse:=by
 induction xs generalizing us with
 |nil=>cases r;exact .nil
 |cons x xs ih=>cases r with|cons r t=>rw[td,td];exact(ih t).append (.cons r .nil)
theorem HN(its:List Value):slicePick its.toArray none none (some (-1))=its.reverse.toArray:=by
 have e:slicePick its.toArray none none (some (-1))=((sliceRange ((its.length:Int)-1) (-1) (-1)).filterMap (its.toArray[·]?)).toArray:=by
  unfold slicePick sliceBounds;simp
 rw[e];congr 1;have h:=HT.pick_rev its.toArray;rw[eC] at h;have h':its.toArray.toList.reverse=its.reverse:=by simp
 rw[h'] at h;rw[<-h];unfold sliceRange;simp only[show¬((-1:Int)>0) by decide,if_false];have hn:(if(-1:Int)<(its.length:Int)-1 then(its.length:Int) else 0).toNat=its.length:=by split<;>omega
 simp;rw[hn];rfl
theorem HP{j pos3 pos4}(he:PE X e te):PE X (.Subscript e (.Slice none none (some (.UnaryOp .USub (.Constant (.int 1) j pos3) pos4)) p2) pos) (AG (AH X.K) te):=by
 intro pins s σ H Q I h;refine Subscript_ (bR (he pins s σ H _ I h) λv s1 ⟨x,H1,I1,r1,a,xs,ex,q1⟩=>?_);subst ex;cases r1;refine wpAny_Slice ?_;rw[evalPart_none];refine Np (Np ?_);rw[evalPart_some];refine bR (qo (nD (X:=X)) jK pins s1 σ H1 (λx H'=>x=.int (-1)/\H'=H1) I1 ⟨1,rfl,rfl,rfl⟩) λu s3 ⟨y,H3,I3,r3,e3,e4⟩=>?_;subst e3;obtain rfl:=e4.symm;obtain⟨tk,rfl⟩:=r3;have I4:Inv X pins σ H1 { s3 with heap:=s3.heap.push { cls:=.type "slice",data:=.fields #[.none,.none,.int (-1) tk] } }:=I3.kept (t':=s3.toks) λb ob q=>dH _ q;show wpAny (model X.prog X.w) X.A (subscriptTail e (.Slice none none (some (.UnaryOp .USub (.Constant (.int 1) j pos3) pos4)) p2) (.ref a) (.ref s3.heap.objs.size)) (EP X pins σ Q) X.xe { s3 with heap:=s3.heap.push { cls:=.type "slice",data:=.fields #[.none,.none,.int (-1) tk] } };rcases q1 with⟨hx,q1⟩|⟨hx,q1⟩
 .obtain⟨its,r,ht,hz⟩:=I4.tuple hx
  have hlen:=r.length;refine tail_any (ops:=[.ref a,.ref s3.heap.objs.size]) ht.typeIs PyProof.Rows.slot_tuple_getitem.lookup (HT.getItem_tuple_rev ht (Heap.IsSliceOf.new ..) (by rw[eC];omega) ?_) (by with_unfolding_all rfl);refine⟨.ref _,_,I4.laid (t':=s3.toks) (o:=.tup xs.reverse) (λb ob q=>dH _ q) (cB _) ?_,rfl,q1 _ (I4.hok.fresh (cB _))⟩;exact⟨by rw[xc];exact hz,_,r.rev,IsTup.new _ _⟩
 .obtain⟨its,r,ht,hz⟩:=I4.list hx
  have hlen:=r.length;refine tail_any (ops:=[.ref a,.ref s3.heap.objs.size]) ht.isList.typeIs slot_list_getitem.lookup (wpAny_getItem_list_slice ht.isList (Heap.IsSliceOf.new ..) .none .none (.int (-1) tk) (by simp) ?_ (by rw[eC];omega)) (by with_unfolding_all rfl);rw[HN];refine⟨.ref _,_,I4.laid (t':=s3.toks) (o:=.lst xs.reverse) (λb ob q=>dH _ q) (cB _) ?_,rfl,q1 _ (I4.hok.fresh (cB _))⟩;exact⟨by rw[xc];exact hz,_,0,r.rev,gK _ rfl⟩
end
namespace Fl
def k6(P:Obj->Prop):Prop:=∀(o:Obj) f,P o->P (o.mapFields f)
theorem HQ(o:Obj)(f:Array Value->Array Value):(o.mapFields f).dict=o.dict:=by
 unfold Obj.mapFields;split<;>rfl
def Is(cls:Value)(dx:Option Addr)(o:Obj):Prop:=o.cls=cls/\o.dict=dx
theorem Is.firm{cls:Value}{dx:Option Addr}:k6 (Is cls dx):=λo f h=>⟨(Obj.cls_mapFields o f).trans h.1,(HQ o f).trans h.2⟩
def Tr(P:Obj->Prop)(base:Heap)(e:Addr)(fl:Value)(h:Heap):Prop:=
 ∃(oe:Obj) (vs:Array Value) (T:Addr) (oT:Obj) (ts:Array Value),h.get? e=some oe/\P oe/\oe.data=.fields vs/\vs[1]? = some (.ref T)/\base.get? T=none/\T≠e/\h.get? T=some oT/\oT.data=.fields ts/\ts[3]? = some fl
structure Up(P:Obj->Prop)(base:Heap)(l:List Env)(e:Addr)(fl:Value)(h:Heap):Prop where
 st:base.StaysIn h
 new:base.get? e=none
 fr:h.FunFrames base l
 tr:Tr P base e fl h
section
variable{M:Model}{E:Value->Shared->Prop}{P:Obj->Prop}{l:List Env}{L e:Addr}{fl:Value}{Q:Unit->Shared->Prop}
theorem qx(hP:k6 P){head:Value}{b:Bool}(hA:A.frames=some (env::outer))(hl:s.heap.FunFrames base (env::outer))(hf:env.frame=some L)(he:s.heap.get? e=some oe)(hp:P oe)
  (st:base.StaysIn s.heap) (new:base.get? e=none) (hd:oe.data=.fields vs) (hz:1<vs.size) (k:∀h',Up P base (env::outer) e (rawInt L) h'->s.heap.UpToSlots h'->Q () { s with heap:=h' }) :
  wpAny M A (do let a <-frameOf env;let pl <-entryPlaceOf L b;let c <-EntryCells.newEntry head a .none (rawInt L) .none pl;setField (.ref e) 1 c) Q E s:=by
 have out:e∉(env::outer).filterMap (·.frame):=λz=>by
  obtain⟨_,o,ho,nf⟩:=hl.mem z;cases he.symm.trans ho;exact nf vs hd
 refine Nm (wpAny_frameOf_fun hA hl hf λh1 so=>?_);refine Nm (wpAny_entryPlaceOf λpl place=>?_);unfold EntryCells.newEntry newFields;refine Nm (NA ?_ (place.sizeOk5 _ _ _ _ _));generalize ho:({ cls:=.type "traceback",dict:=none,data:=.fields ([head,.ref L,.none,rawInt L,.none]++(if pl.isEmpty then List.replicate 6 Value.none else pl)).toArray }:Obj)=ob;have e1:h1.get? e=some oe:=(so.2.1 e out).trans he;have ne:h1.objs.size≠e:=wZ (du e1);have e2:(h1.push ob).get? e=some oe:=dH ob e1;have fr0:ob.isFreed=false:=by rw[<-ho];exact Obj.isFreed_of_fields rfl
 refine NQ e2 hd hz (k _ ?_ ?_)
 .have e3:=w6 (Obj.mapFields (·.setIfInBounds 1 (Value.ref h1.objs.size))) e2 (Obj.isFreed_of_fields (Obj.data_mapFields hd _))
  have oth:∀{c o},c≠e->h1.get? c=some o->((h1.push ob).update e (Obj.mapFields (·.setIfInBounds 1 (Value.ref h1.objs.size)))).get? c=some o:=λne hc=>(qS _ _ (NB ne)).trans (dH ob hc);refine⟨λc o hc=>?_,new,hl.of_keeps λc o hc nf=>?_,_,_,h1.objs.size,ob,_,e3,hP _ _ hp,Obj.data_mapFields hd _,by simp[hz],?_,ne,(qS _ _ (NB ne)).trans (gK h1 fr0),by rw[<-ho],?_⟩
  .exact oth (λz=>by rw[z,new] at hc;cases hc) ((so.2.1 c λz=>by rw[(hl.mem z).1] at hc;cases hc).trans (st c o hc))
  .obtain⟨sl,hs⟩:=so.2.2 c o hc
   exact⟨_,oth (λz=>by rw[z,he] at hc;cases hc;exact nf vs hd) hs,rfl⟩
  .cases q:base.get? h1.objs.size with
   |none=>rfl
   |some o=>
    have:h1.get? h1.objs.size=some o:=(so.2.1 _ λz=>by rw[(hl.mem z).1] at q;cases q).trans (st _ o q);exact Nq (du this) (gQ _)
  .rcases place with rfl|⟨_,_,_,_,_,_,_,rfl⟩<;>simp
 .intro c o hc nf
  obtain⟨sl,hs⟩:=so.2.2 c o hc;exact⟨sl,(qS _ _ (NB λz=>by rw[z,he] at hc;cases hc;exact nf vs hd)).trans (dH ob hs)⟩
theorem HR(hP:k6 P)(hA:A.frames=some (env::outer))(hl:s.heap.FunFrames base (env::outer))(hf:env.frame=some L)(he:s.heap.get? e=some oe)(hp:P oe)
  (st:base.StaysIn s.heap) (new:base.get? e=none) (hd:oe.data=.fields vs) (h1:vs[1]? = some .none) (k:∀h',Up P base (env::outer) e (rawInt L) h'->s.heap.UpToSlots h'->Q () { s with heap:=h' }) :
  wpAny M A (noteFrame (.ref e) env) Q E s:=by
 unfold noteFrame;simp only[hf];refine Nm (Ny he hd h1 ?_);rw[if_neg (by decide)];exact qx hP hA hl hf he hp st new hd (Ybp.mp h1).1 k
theorem note(hP:k6 P)(hA:A.frames=some (env::outer))(hf:env.frame=some L)(u:Up P base (env::outer) e .none s.heap)
  (k:∀h',Up P base (env::outer) e (rawInt L) h'->s.heap.UpToSlots h'->Q () { s with heap:=h' }):wpAny M A (noteFrame (.ref e) env) Q E s:=by
 obtain⟨st,new,fr,oe,vs,T,oT,ts,he,hp,hd,h1,nT,Te,hT,dT,h3⟩:=u;unfold noteFrame;simp only[hf];refine Nm (Ny he hd h1 ?_);rw[if_pos (show(Value.ref T != Value.none)=true from by simp)];refine Nm (Ny hT dT h3 ?_);rw[if_neg (by simp[rawInt])];refine Nm (NQ hT dT (Ybp.mp h3).1 ?_);have oth:∀{c o},c≠T->s.heap.get? c=some o->(s.heap.update T (Obj.mapFields (·.setIfInBounds 3 Value.none))).get? c=some o:=λne hc=>(qS _ _ (NB ne)).trans hc;have notT:∀{c o},s.heap.get? c=some o->(∀vs,o.data≠.fields vs)->c≠T:=λhc nf z=>by
  rw[z,hT] at hc;cases hc;exact nf ts dT
 refine qx hP hA (fr.of_keeps λc o hc nf=>⟨o,oth (notT hc nf) hc,rfl⟩) hf (oth (NB Te) he) hp (λc o hc=>oth (λz=>by rw[z,nT] at hc;cases hc) (st c o hc)) new hd (Ybp.mp h1).1 λh' u' up=>k h' u' λc o hc nf=>up c o (oth (notT hc nf) hc) nf
theorem lands(u:Up P base l e fl s.heap)(k:∀h',Up P base l e .none h'->s.heap.UpToSlots h'->Q () { s with heap:=h' }):wpAny M A (setFlight (.ref e) none) Q E s:=by
 obtain⟨st,new,fr,oe,vs,T,oT,ts,he,hp,hd,h1,nT,Te,hT,dT,h3⟩:=u;have oth:∀{c o},c≠T->s.heap.get? c=some o->(s.heap.update T (Obj.mapFields (·.setIfInBounds 3 ((none:Option Addr).elim Value.none λf=>rawInt f)))).get? c=some o:=λne hc=>(qS _ _ (NB ne)).trans hc;have notT:∀{c o},s.heap.get? c=some o->(∀vs,o.data≠.fields vs)->c≠T:=λhc nf z=>by
  rw[z,hT] at hc;cases hc;exact nf ts dT
 have z3:=(Ybp.mp h3).1;unfold setFlight;refine Nm (Ny he hd h1 ?_);rw[if_pos (show(Value.ref T != Value.none)=true from by simp)];refine NQ hT dT z3 (k _ ⟨λc o hc=>oth (λz=>by rw[z,nT] at hc;cases hc) (st c o hc),new,fr.of_keeps λc o hc nf=>⟨o,oth (notT hc nf) hc,rfl⟩,oe,vs,T,_,_,oth (NB Te) he,hp,hd,h1,nT,Te,w6 _ hT (Obj.isFreed_of_fields (Obj.data_mapFields dT _)),Obj.data_mapFields dT _,by simp[z3]⟩ λc o hc nf=>⟨o.slots,oth (notT hc nf) hc⟩)
theorem Up.out(u:Up P base (env::outer) e fl s.heap):Up P base outer e fl s.heap:=⟨u.st,u.new,u.fr.2.2,u.tr⟩
theorem Up.there(u:Up P base l e fl h):∃ob,h.get? e=some ob/\P ob/\∃vs,ob.data=.fields vs:=by
 obtain⟨oe,vs,_,_,_,he,hp,hd,_⟩:=u.tr;exact⟨oe,he,hp,vs,hd⟩
theorem leaves(hP:k6 P)(hA:A.frames=some (env::outer))(hf:env.frame=some L)(u:Up P base (env::outer) e .none s.heap)(k:∀h',Up P base outer e .none h'->s.heap.UpToSlots h'->Q () { s with heap:=h' }) :
  wpAny M A (leaving env (.ref e)) Q E s:=by
 unfold leaving;exact Nm (note hP hA hf u λh1 u1 up1=>lands (s:={ s with heap:=h1 }) u1 λh2 u2 up2=>k h2 ⟨u2.st,u2.new,u2.fr.2.2,u2.tr⟩ (up1.trans up2))
theorem leaves_new(hP:k6 P)(hA:A.frames=some (env::outer))(hl:s.heap.FunFrames base (env::outer))(hf:env.frame=some L)(he:s.heap.get? e=some oe)(hp:P oe)
  (st:base.StaysIn s.heap) (new:base.get? e=none) (hd:oe.data=.fields vs) (h1:vs[1]? = some .none) (k:∀h',Up P base outer e .none h'->s.heap.UpToSlots h'->Q () { s with heap:=h' }):wpAny M A (leaving env (.ref e)) Q E s:=by
 unfold leaving;exact Nm (HR hP hA hl hf he hp st new hd h1 λh1 u1 up1=>lands (s:={ s with heap:=h1 }) u1 λh2 u2 up2=>k h2 ⟨u2.st,u2.new,u2.fr.2.2,u2.tr⟩ (up1.trans up2))
end
section
variable{M:Model}{E:Value->Shared->Prop}
variable{C N fI:Addr}{bs:List Value}{sub:List Value}{k0 k1 k2 k3 k5:Option Value}{B initId:String}{rest:List Value}{oI:Obj}
end
end Fl
namespace Fl
open PySem.Builtin PySem.Builtin.ObjectAttr
inductive Tl (h:Heap) (ns:List Str) (bmB:List Value):List Value->Prop
 |last:Tl h ns bmB bmB
 |more {a:Addr} {c:Value} {dd:Option Addr} {cd:ClassData} {sl:Array (Option Value)} {m:Str->Option Value} {l:List Value}:h.get? a=some ⟨c,dd,.cls cd,sl⟩->h.Ns cd.ns m->(∀n∈ns,m n=none)->Tl h ns bmB l->Tl h ns bmB (.ref a::l)
section
variable{l:List Value}
theorem Tl.keeps(T:Tl h ns bmB l)(k:∀b o,h.get? b=some o->h'.get? b=some o):Tl h' ns bmB l:=by
 induction T with
 |last=>exact .last
 |more a b c _ ih=>exact .more (k _ _ a) (b.keeps k) c ih
theorem Tl.own(T:Tl h ns bmB l)(i:("__init__" : Str)∈ns):OwnTail h bmB l:=by
 induction T with
 |last=>exact .base
 |more a b c _ ih=>exact .own a b (c _ i) ih
end
section
variable{M:Model}{E:Value->Shared->Prop}
variable{C N x:Addr}{bs:List Value}{sub:List Value}{k0 k1 k2 k3 k5:Option Value}{B sa owner:String}
theorem uV{l:List Value}{Q:Option Value->Shared->Prop}(T:Tl h ns bmB l)(i:n∈ns)(r:lookupAlong bmB n=pure y)(k:Q y ⟨h,g,d,t,os⟩):wpAny M A (lookupAlong l n) Q E ⟨h,g,d,t,os⟩:=by
 induction T with
 |last=>
  rw[r];exact Np k
 |more a b c _ ih=>
  rw[lookupAlong_cons];refine Nm (wpAny_classOwn_cls a b ?_);rw[c n i];exact ih
theorem look{Q:Option Value->Shared->Prop}(hC:h.get? C=some (excClassObj nm q C N bs bm hdct sn sub ab col dd k0 k1 k2 k3 k5 newId))(hN:h.Ns N mN)(hm:mN n=none)(T:Tl h ns bmB bm)(i:n∈ns)
  (b:mroOf (.type B)=pure bmB) (hB:typeLookup (.type B) n=pure y) (k:Q y ⟨h,g,d,t,os⟩):wpAny M A (typeLookup (.ref C) n) Q E ⟨h,g,d,t,os⟩:=by
 have r:lookupAlong bmB n=pure y:=by
  rw[typeLookup_eq,b] at hB;exact hB
 rw[typeLookup_eq];refine Nm (wpAny_mroOf_exc hC ?_);rw[lookupAlong_cons];refine Nm (wpAny_classOwn_exc hC hN ?_);rw[hm];exact uV T i r k
end
section
variable{M:Model}{E:Value->Shared->Prop}
variable{C N dx:Addr}{bs:List Value}{sub:List Value}{k0 k1 k2 k3 k5:Option Value}{B:String}{name:Str}{v:Value}{o:Obj}
end
end Fl
def eQ(P:Program)(w:World):kT:=λouter H s E e s'=>∃(ea:Addr) (cls:Value) (dx:Option Addr) (H':Hp) (B:Heap),e=.ref ea/\Fl.Up (Fl.Is cls dx) B outer ea .none s'.heap/\s'.os=s.os/\AllBare s'.gens/\Un (dn outer) [] H H' s.heap s'.heap/\HOk P w H' s'.heap/\
 (∀b o,s.heap.get? b=some o->b∉dn outer->∃o',B.get? b=some o')/\(∀b u,H' b=some u->∃o,B.get? b=some o)/\E cls dx H'
theorem dq:cQ (eQ P w) X E0:=λ_ _ _ _ _ _ _ ⟨_,_,_,_,_,_,_,_,_,_,_,_,_,z⟩=>z.elim
theorem HOk.through{B h2:Heap}(hok:HOk P w H h)(hT:∀ b u,H b=some u->∃ o,B.get? b=some o)(s1:B.StaysIn h)(s2:B.StaysIn h2):HOk P w H h2:=λa o e=>(hok a o e).stay (λb u hb q=>by
  have hb':∃v,H b=some v:=by
   rcases hb with rfl|hb
   .exact⟨_,e⟩
   .exact⟨_,hb⟩
  obtain⟨v,hv⟩:=hb';obtain⟨o',eB⟩:=hT b v hv;have:=s1 b o' eB;rw[q] at this;cases this;exact s2 b _ eB) (λ_ z=>z) λ_ _ z=>z
section
variable{E:XK}
theorem xH{l:List Env}(h:b∈dn l):b∈dn (env::l):=by
 unfold dn at h ⊢;obtain⟨e,h1,h2⟩:=Yaz.mp h;exact Yaz.mpr ⟨e,gR _ h1,h2⟩
theorem HS:cQ (eQ P w) (dP (eQ P w) P w K mg base N qual scope f cd A outer s H E) E:=by
 rintro pins σ H1 s1 _ s' I ⟨ea,cls,dx,H',B,rfl,fl,hos,hbare,un,hok,hB,hT,hE⟩;have nostk:∀b o,s.heap.get? b=some o->b∉dn outer->b∉dn (envOfC qual scope s.heap.objs.size f cd::outer):=λb o e hb hm=>by
  rcases Yan.mp (I.stkSub b hm) with z|z
  .have l1:=du e
   have l2:s.heap.objs.size<=(envOfC qual scope s.heap.objs.size f cd).locals:=I.ok.above;have z':b=(envOfC qual scope s.heap.objs.size f cd).locals:=z;rw[<-z'] at l2;exact Nq (de l1 l2) (gQ _)
  .exact hb z
 have ib:Un (dn outer) [] H H1 s.heap s1.heap:=I.base;show wpAny (model P w) (A.deeper (envOfC qual scope s.heap.objs.size f cd)) (leaving (envOfC qual scope s.heap.objs.size f cd) (.ref ea)) (λ_ s''=>eQ P w outer H s E (.ref ea) s'') _ s';refine Fl.leaves Fl.Is.firm I.ok.frames rfl fl λh2 fl2 up=>?_;have frm:∀b,b∈dn (envOfC qual scope s.heap.objs.size f cd::outer)->∃o,s'.heap.get? b=some o/\∀vs,o.data≠.fields vs:=λb hb=>(fl.fr.mem hb).2;refine⟨ea,cls,dx,H',B,rfl,fl2,hos.trans I.os,hbare,⟨λb o e n hb _=>?_,λb o e n hb _=>?_,λb o e n _=>?_,λb o e _=>?_,λb xs e=>un.tups b xs (ib.tups b xs e),λb o xs e=>un.frzs b o xs (ib.frzs b o xs e),λb ps e=>?_,λ_ ⟨o,e⟩ n=>un.sys (by simp) (ib.there _ o e (by simp)) (ib.sys (by simp) ⟨o,e⟩ n)⟩,hok.through hT fl.st fl2.st,λb o e hb=>?_,hT,hE⟩
 .have e1:=ib.keep b o e n hb (by simp)
  have n1:=ib.free b o e n (by simp);have e2:=un.keep b o e1 n1 (nostk b o e hb) (by simp);obtain⟨o',eB⟩:=hB b o e1 (nostk b o e hb);have:=fl.st b o' eB;rw[e2] at this;cases this;exact fl2.st b _ eB
 .obtain⟨sl,e1⟩:=ib.slot b o e n hb (by simp)
  have n1:=ib.free b o e n (by simp);obtain⟨sl',e2⟩:=un.slot b _ e1 n1 (xH hb) (by simp);obtain⟨o3,e3,nf⟩:=frm b (xH hb);rw[e2] at e3;cases e3;obtain⟨sl3,e4⟩:=up b _ e2 nf;exact⟨sl3,e4⟩
 .obtain⟨o',e1⟩:=ib.there b o e (by simp)
  exact un.free b o' e1 (ib.free b o e n (by simp)) (by simp)
 .obtain⟨o',e1⟩:=ib.there b o e (by simp)
  by_cases hb:b∈dn (envOfC qual scope s.heap.objs.size f cd::outer)
  .obtain⟨o3,e3,nf⟩:=frm b hb
   obtain⟨sl3,e4⟩:=up b _ e3 nf;exact⟨_,e4⟩
  .obtain⟨o2,eB⟩:=hB b o' e1 hb
   exact⟨o2,fl2.st b _ eB⟩
 .obtain⟨m1,e1⟩:=ib.tbls b ps e
  obtain⟨m2,e2⟩:=un.tbls b _ e1;exact⟨m1++m2,by rw[e2,zP]⟩
 .obtain⟨o',e1⟩:=ib.there b o e (by simp)
  exact hB b o' e1 (nostk b o e hb)
def k9(X:Cx)(E:XK):Prop:=∀(pins:List (Addr×Obj)) (σ:St) (H:Hp) (s:Shared) (h':Heap) (e:Addr) (cls:Value) (args:List Value),Inv X pins σ H s->Heap.MadeExcOf s.heap h' e cls args->E cls none H->X.xe (.ref e) { s with heap:=h' }
theorem HU:k9 (dP (eQ P w) P w K mg base N qual scope f cd A outer s H E) E:=by
 intro pins σ H1 s1 h2 e cls args I hx hE;have ib:Un (dn outer) [] H H1 s.heap s1.heap:=I.base;have neL:∀b o,s.heap.get? b=some o->b∉dn outer->b∉dn (envOfC qual scope s.heap.objs.size f cd::outer):=λb o e hb hm=>by
  rcases Yan.mp (I.stkSub b hm) with z|z
  .have l1:=du e
   have l2:s.heap.objs.size<=(envOfC qual scope s.heap.objs.size f cd).locals:=I.ok.above;have z':b=(envOfC qual scope s.heap.objs.size f cd).locals:=z;rw[<-z'] at l2;exact Nq (de l1 l2) (gQ _)
  .exact hb z
 have stk:s1.heap.FunFrames base (envOfC qual scope s.heap.objs.size f cd::outer):=I.stack;have frm:∀b,b∈dn (envOfC qual scope s.heap.objs.size f cd::outer)->∃o,s1.heap.get? b=some o/\∀vs,o.data≠.fields vs:=λb hb=>(stk.mem hb).2;have inB:∀{b o},s1.heap.get? b=some o->b∉dn (envOfC qual scope s.heap.objs.size f cd::outer)->(PySem.W.hideAll s1.heap (dn (envOfC qual scope s.heap.objs.size f cd::outer))).get? b=some o:=λe hb=>PySem.W.hideAll_get _ e hb;have hT:∀b u,H1 b=some u->∃o,(PySem.W.hideAll s1.heap (dn (envOfC qual scope s.heap.objs.size f cd::outer))).get? b=some o:=λb u hu=>by
  have hb:b∉dn (envOfC qual scope s.heap.objs.size f cd::outer):=λhm=>by
   have:=I.stkFree b hm;rw[hu] at this;cases this
  have l:=I.hok.lt hu;have:∃o,s1.heap.get? b=some o:=by
   have q:=I.hok b u hu;cases u with
   |lst xs=>obtain⟨_,_,_,_,e⟩:=q;exact⟨_,e⟩
   |tup xs=>obtain⟨_,_,_,o,e,_⟩:=q;exact⟨_,e⟩
   |dK kvs=>obtain⟨_,_,_,_,o,_,_,e,_⟩:=q;exact⟨_,e⟩
   |dT kvs=>obtain⟨_,_,_,_,o,_,_,e,_⟩:=q;exact⟨_,e⟩
   |set S n=>obtain⟨o,_,_,_,e,_⟩:=q;exact⟨_,e⟩
   |ins C dx fs=>obtain⟨_,_,_,e,_⟩:=q;exact⟨_,e⟩
   |own y=>obtain⟨o,e⟩:=q;exact⟨_,e⟩
   |xd fs=>obtain⟨_,⟨o,_,_,e,_⟩,_⟩:=q;exact⟨_,e⟩
   |rng lo hi=>obtain⟨_,_,_,e⟩:=q;exact⟨_,e⟩
   |frz ob u=>obtain⟨e,_⟩:=q;exact⟨_,e⟩
   |tbl ps=>exact⟨_,(show s1.heap.get? b=some _ from q)⟩
   |met f y=>exact⟨_,(show s1.heap.get? b=some _ from q)⟩
   |ext φ=>obtain⟨_,⟨o,e⟩,_⟩:=q;exact⟨_,e⟩
  obtain⟨o,e⟩:=this;exact⟨o,inB e hb⟩
 show wpAny (model P w) (A.deeper (envOfC qual scope s.heap.objs.size f cd)) (leaving (envOfC qual scope s.heap.objs.size f cd) (.ref e)) (λ_ s''=>eQ P w outer H s E (.ref e) s'') _ _;obtain⟨tt,he,_,_⟩:=hx.there;have newB:(PySem.W.hideAll s1.heap (dn (envOfC qual scope s.heap.objs.size f cd::outer))).get? e=none:=by
  cases q:(PySem.W.hideAll s1.heap (dn (envOfC qual scope s.heap.objs.size f cd::outer))).get? e with
  |none=>rfl
  |some o=>
   have:=PySem.W.of_hideAll _ q;rw[hx.new] at this;cases this
 refine Fl.leaves_new (P:=Fl.Is cls none) (base:=PySem.W.hideAll s1.heap (dn (envOfC qual scope s.heap.objs.size f cd::outer))) Fl.Is.firm I.ok.frames ((PySem.W.funFrames_hide stk λenv he b hb=>Yaz.mpr ⟨env,he,hb⟩).of_keeps λb o hb _=>⟨o,hx.keeps b o hb,rfl⟩) rfl he ⟨rfl,rfl⟩
  (λb o q=>hx.keeps b o (PySem.W.of_hideAll _ q)) newB rfl rfl λh3 fl up=>?_
 have st1:(PySem.W.hideAll s1.heap (dn (envOfC qual scope s.heap.objs.size f cd::outer))).StaysIn s1.heap:=λb o q=>PySem.W.of_hideAll _ q;refine⟨e,cls,none,H1,_,rfl,fl,I.os,I.bare,⟨λb o e n hb _=>?_,λb o e n hb _=>?_,λb o e n _=>ib.free b o e n (by simp),λb o e _=>?_,λb xs e=>ib.tups b xs e,λb o xs e=>ib.frzs b o xs e,λb ps e=>ib.tbls b ps e,λ_ eg n=>ib.sys (by simp) eg n⟩,I.hok.through hT st1 fl.st,λb o e hb=>?_,hT,hE⟩
 .exact fl.st b o (inB (ib.keep b o e n hb (by simp)) (neL b o e hb))
 .obtain⟨sl,e1⟩:=ib.slot b o e n hb (by simp)
  obtain⟨o3,e3,nf⟩:=frm b (xH hb);rw[e1] at e3;cases e3;obtain⟨sl3,e4⟩:=up b _ (hx.keeps b _ e1) nf;exact⟨sl3,e4⟩
 .obtain⟨o',e1⟩:=ib.there b o e (by simp)
  by_cases hb:b∈dn (envOfC qual scope s.heap.objs.size f cd::outer)
  .obtain⟨o3,e3,nf⟩:=frm b hb
   obtain⟨sl3,e4⟩:=up b _ (hx.keeps b _ e3) nf;exact⟨_,e4⟩
  .exact⟨o',fl.st b o' (inB e1 hb)⟩
 .obtain⟨o',e1⟩:=ib.there b o e (by simp)
  exact⟨o',inB e1 (neL b o e hb)⟩
end
section
variable{tg:Expr}
def AI(K:Nn)(tl:TE):TI:=λσ H R=>tl σ H λx H1=>∃a,x=.ref a/\(((∃xs,SqL K H1 a xs)/\R (Da K a) H1)\/((∃xs,SqT K H1 a xs)/\R (At K a) H1))
theorem HV{l:Expr}{tl:TE}(hl:PE X l tl):PI X tg l (AI X.K tl):=by
 intro pins s σ H R I h;refine bR (hl pins s σ H _ I h) λv s1 ⟨x,H1,I1,r1,q1⟩=>?_;obtain⟨a,e,⟨⟨xs,hq⟩,q⟩|⟨⟨xs,hq⟩,q⟩⟩:=q1
 .subst e
  cases r1;obtain⟨its,rv,p,hz⟩:=I1.list hq;refine wpAny_pyIter_list p.isList ?_;refine⟨s1.heap.objs.size,[s1.heap.objs.size],_,_,H1,rfl,I1.kept (t':=s1.toks) λb o e=>dH _ e,kM a _,⟨_,gK _ rfl,rfl,rfl⟩,λb hb=>?_,q⟩;have e:b=s1.heap.objs.size:=by simpa using hb
  subst e;exact I1.fpOk (cB _) (I1.hok.fresh (cB _))
 .subst e
  cases r1;obtain⟨its,rv,p,hz⟩:=I1.tuple hq;refine wpAny_pyIter_tuple (show s1.heap.IsTuple a its.toArray from p) ?_;refine⟨s1.heap.objs.size,[s1.heap.objs.size],_,_,H1,rfl,I1.kept (t':=s1.toks) λb o e=>dH _ e,jM a _,⟨_,gK _ rfl,rfl,rfl⟩,λb hb=>?_,q⟩;have e:b=s1.heap.objs.size:=by simpa using hb
  subst e;exact I1.fpOk (cB _) (I1.hok.fresh (cB _))
end
theorem Inv.turnedL(ts:List Addr)(I:Inv X pins σ H s)(k:∀b o,b∉ts->s.heap.get? b=some o->h'.get? b=some o)
  (hf:∀b∈ts,eW X pins H b):Inv X pins σ H { s with heap:=h',toks:=t' }:=by
 refine I.step (g':=s.gens) (d':=s.drawn) (ch:=ts) (λb hb=>?_) (λb o _ _ hc e _=>k b o hc e) (λb o _ _ hc e _=>⟨o.slots,k b o hc e⟩) (λ_ _ _ _ n=>n)
  (λb o hc e=>⟨o,k b o hc e⟩) (λ_ _ e=>e) (λ_ _ _ e=>e) (λb ps e=>⟨#[],by rw[e];simp⟩) (λm hm=>?_) (λb u e=>?_) I.bare (λn=>n)
 .obtain⟨_,f1,_,f3,f4,f5⟩:=hf b hb
  exact⟨f3,f1,f4,f5⟩
 .obtain⟨o,es,ep,ho,r⟩:=hm
  exact⟨o,es,ep,k _ o (λz=>(hf _ z).2.1 rfl) ho,r⟩
 .have nt:∀c v,H c=some v->c∉ts:=λc v q z=>by rw[(hf c z).1] at q;cases q
  refine(I.hok b u e).stay (λc v hc q=>k c v ?_ q) (λ_ q=>q) λ_ _ q=>q;rcases hc with z|z
  .rw[z];exact nt b u e
  .exact nt c _ z
def SIt(κ:Bool)(h:Heap)(it l:Addr)(i:Nat):Prop:=match κ with
 |true=>h.IsTupleIter it l i
 |false=>h.IsListIter it l i
def SSq(κ:Bool)(h:Heap)(l:Addr)(xs:Array Value):Prop:=match κ with
 |true=>h.IsTuple l xs
 |false=>h.IsList l xs
section
variable{it:Addr}
theorem SIt.keep(x:SIt κ h it l i)(k:∀o,h.get? it=some o->h'.get? it=some o):SIt κ h' it l i:=by
 cases κ
 .exact Heap.IsListIter.at x k
 .exact Heap.IsTupleIter.at x k
theorem SIt.obj(x:SIt κ h it l i):∃o,h.get? it=some o/\(∀v,o.data≠.cell v):=by
 cases κ
 all_goals
  obtain⟨o,e,_,d⟩:=x;exact⟨o,e,λv z=>by rw[d] at z;cases z⟩
theorem SSq.keep(x:SSq κ h l xs)(k:∀o,h.get? l=some o->h'.get? l=some o):SSq κ h' l xs:=by
 cases κ
 all_goals
  obtain⟨o,e,r⟩:=x;exact⟨o,k o e,r⟩
end
section
variable{E:Value->Shared->Prop}{it:Addr}{x:Value}
theorem xI(hi:SIt κ s.heap it l i)(hl:SSq κ s.heap l xs)(hx:xs[i]? = some x)(q:∀h',SIt κ h' it l (i+1)->Heap.SameBut it s.heap h'->Q x { s with heap:=h' }) :
  wpAny (model prog w) A (Builtin.SmallTypes.nextOf (.ref it)) Q E s:=by
 cases κ with
 |false=>exact wpAny_nextOf_list_item hi hl hx q
 |true=>
  have ht:s.heap.IsTupleIter it l i:=hi;obtain⟨ob,hob,hcl,hda⟩:=id ht;obtain⟨sq,hsq,_,nn,hds⟩:=(show s.heap.IsTuple l xs from hl)
  unfold Builtin.SmallTypes.nextOf;refine Nm (wpAny_callSpecial?_slot (name:=Str.ofString "__next__") ht.typeIs F.slot_tuple_iterator_next (NH F.slot_tuple_iterator_next ht.typeIs F.entry_tuple_iterator_next ?_ (F.args_tuple_iterator_next_1 _)));show wpAny _ _ (field (.ref it) 0 >>= _) _ E s;refine Nm (Ny hob hda (x:=.ref l) rfl ?_);show wpAny _ _ (if(Value.ref l==Value.none)=true then _ else _) _ E s;rw[if_neg (show¬((Value.ref l==Value.none)=true) by exact lC)];show wpAny _ _ (field (.ref it) 1 >>= _) _ E s;refine Nm (Ny hob hda (x:=.int i 0) rfl ?_);show wpAny _ _ (seqItems? (.ref l) >>= _) _ E s;refine Nm (NI hsq hds ?_);simp only[iU,hx];refine Nm (NQ hob hda (by simp) (Np ⟨x,rfl,Np (q _ ?_ (Heap.SameBut.update ..))⟩));exact⟨_,w6 _ hob (Obj.isFreed_of_fields (Obj.data_mapFields hda _)),(Obj.cls_mapFields ..).trans hcl,by rw[Obj.data_mapFields hda];simp[rawInt]⟩
theorem xJ(hh:A.handled=none)(hi:SIt κ s.heap it l i)(hl:SSq κ s.heap l xs)(hx:xs[i]? = none)
  (q:∀h' e,Heap.ExtBut it s.heap h'->(∃o,h'.get? e=some o/\o.cls=.type "StopIteration")->E (.ref e) { s with heap:=h' }) :
  wpAny (model prog w) A (Builtin.SmallTypes.nextOf (.ref it)) Q E s:=by
 cases κ with
 |false=>exact wpAny_nextOf_list_end hh hi hl hx q
 |true=>
  have ht:s.heap.IsTupleIter it l i:=hi;obtain⟨ob,hob,hcl,hda⟩:=id ht;obtain⟨sq,hsq,_,nn,hds⟩:=(show s.heap.IsTuple l xs from hl)
  unfold Builtin.SmallTypes.nextOf;refine Nm (wpAny_callSpecial?_slot (name:=Str.ofString "__next__") ht.typeIs F.slot_tuple_iterator_next (NH F.slot_tuple_iterator_next ht.typeIs F.entry_tuple_iterator_next ?_ (F.args_tuple_iterator_next_1 _)));show wpAny _ _ (field (.ref it) 0 >>= _) _ E s;refine Nm (Ny hob hda (x:=.ref l) rfl ?_);show wpAny _ _ (if(Value.ref l==Value.none)=true then _ else _) _ E s;rw[if_neg (show¬((Value.ref l==Value.none)=true) by exact lC)];show wpAny _ _ (field (.ref it) 1 >>= _) _ E s;refine Nm (Ny hob hda (x:=.int i 0) rfl ?_);show wpAny _ _ (seqItems? (.ref l) >>= _) _ E s;refine Nm (NI hsq hds ?_);simp only[iU,hx];refine Nm (NP (Nm (NQ hob hda (by simp) ?_)));show wpAny _ _ (newExc (.type "StopIteration") [] >>= _) _ E _;refine Nm ?_;simp only[newExc,newTuple];refine Nm (NA ?_ (by size_fits));refine Nm (m:=firstArgMember _ _) (wpAny_of_eq (a:=Value.none) (by first|rfl|(rw[firstArgMember];rfl)) (NA ?_ (by size_fits)));simp only[raiseNew];refine Nm (wpAny_handled ?_);rw[show A.in1.handled=none from hh];exact Nm (Np (wpAny_throw (q _ _ (((Heap.SameBut.update ..).extBut.push _).push _) ⟨_,gK _ rfl,rfl⟩)))
end
structure uW(z TI TO j1 j2:Addr):Prop where
 a:TI≠z
 b:TO≠z
 c:j1≠z
 d:j2≠z
 e:TI≠TO
 f:TI≠j1
 g:TI≠j2
 h:TO≠j1
 i:TO≠j2
 j:j1≠j2
def tJ(z TI TO j1 j2 l:Addr):Prop:=l≠z/\l≠TI/\l≠TO/\l≠j1/\l≠j2
section
variable{E:Value->Shared->Prop}{z TI TO j1 j2 l1 l2:Addr}{x y a b:Value}
theorem HW(D:uW z TI TO j1 j2)(d1:tJ z TI TO j1 j2 l1)(d2:tJ z TI TO j1 j2 l2)
  (zz:IsZip s.heap z TI TO .none) (zi:IsPair s.heap TI (.ref j1) (.ref j2)) (zo:IsPair s.heap TO a b) (u1:SIt κ s.heap j1 l1 i) (u2:SIt κ' s.heap j2 l2 i) (v1:SSq κ s.heap l1 xs) (v2:SSq κ' s.heap l2 ys) (ex:xs[i]? = some x) (ey:ys[i]? = some y)
  (q:∀ h',IsZip h' z TI TO (rawInt s.heap.objs.size)->IsPair h' TO x y->SIt κ h' j1 l1 (i+1)->SIt κ' h' j2 l2 (i+1)->IsPair h' s.heap.objs.size x y->h'.objs.size=s.heap.objs.size+1->
   (∀c o,c≠z->c≠TO->c≠j1->c≠j2->s.heap.get? c=some o->h'.get? c=some o)->Q (.ref s.heap.objs.size) { s with heap:=h' }) :
  wpAny (model prog w) A (Builtin.«zip.__next__» ⟨[.ref z],[]⟩) (λfin s'=>∃v,fin=.done (.ret v)/\Q v s') E s:=by
 obtain⟨o1z,_,o1O,o11,o12⟩:=d1;obtain⟨o2z,_,o2O,o21,o22⟩:=d2;show wpAny _ _ (field (.ref z) 2 >>= _) _ E _;refine Nm (Ny zz rfl (x:=.bool false) rfl ?_);show wpAny _ _ (field (.ref z) 3 >>= _) _ E _;refine Nm (Ny zz rfl (x:=.ref TI) rfl (Nm (NI zi rfl ?_)));show wpAny _ _ (Builtin.SmallTypes.ownedTupleIsFree (.ref z) >>= _) _ E _;refine Nm ?_;unfold Builtin.SmallTypes.ownedTupleIsFree;refine Nm (Ny zz rfl (x:=.none) rfl (Np ?_));simp only[if_true];refine Nm (NP (Nm (Ny zz rfl (x:=.ref TO) rfl (Nm (NJ zz (by simp) λg1 zz1 k1=>?_)))));replace zz1:IsZip g1 z TI TO .ellipsis:=zz1;refine Nm ?_;simp only[List.zipIdx_cons,List.zipIdx_nil,zT,List.forIn_nil];refine Nm (Nm (NW ?_));show wpAny _ _ (Builtin.SmallTypes.nextOf (.ref j1) >>= _) _ _ _;refine Nm (xI (u1.keep λo e=>k1.extBut _ o D.c e) (v1.keep λo e=>k1.extBut _ o o1z e) ex λg2 u1' k2=>Np ?_);have zo2:IsPair g2 TO a b:=k2.extBut _ _ D.h (k1.extBut _ _ D.b zo);refine Nm (NI zo2 rfl (Nm (NT zo2 λg3 zo3 k3=>?_)));replace zo3:IsPair g3 TO x b:=zo3;refine Nm (wpAny_letGo (Np ?_));refine Nm (Nm (NW ?_));show wpAny _ _ (Builtin.SmallTypes.nextOf (.ref j2) >>= _) _ _ _;refine Nm (xI (u2.keep λo e=>k3.extBut _ o D.i.symm (k2.extBut _ o D.j.symm (k1.extBut _ o D.d e))) (v2.keep λo e=>k3.extBut _ o o2O (k2.extBut _ o o21 (k1.extBut _ o o2z e))) ey λg4 u2' k4=>Np ?_);have zo4:IsPair g4 TO x b:=k4.extBut _ _ D.i zo3;refine Nm (NI zo4 rfl (Nm (NT zo4 λg5 zo5 k5=>?_)));replace zo5:IsPair g5 TO x y:=zo5;refine Nm (wpAny_letGo (Np (Np (Nm (NI zo5 rfl (Nm (wpAny_newTuple ?_)))))));have sz:g5.objs.size=s.heap.objs.size:=by rw[k5.1,k4.1,k3.1,k2.1,k1.1]
 have zz5:IsZip g5 z TI TO .ellipsis:=k5.extBut _ _ D.b.symm (k4.extBut _ _ D.d.symm (k3.extBut _ _ D.b.symm (k2.extBut _ _ D.c.symm zz1)));have kk:∀c o,c≠z->c≠TO->c≠j1->c≠j2->s.heap.get? c=some o->g5.get? c=some o:=λc o c1 c2 c3 c4 e=>k5.extBut _ _ c2 (k4.extBut _ _ c4 (k3.extBut _ _ c2 (k2.extBut _ _ c3 (k1.extBut _ _ c1 e))));have r1:SIt κ g5 j1 l1 (i+1):=u1'.keep λo e=>k5.extBut _ o D.h.symm (k4.extBut _ o D.j (k3.extBut _ o D.h.symm e));have r2:SIt κ' g5 j2 l2 (i+1):=u2'.keep λo e=>k5.extBut _ o D.i.symm e;have zlt:z<g5.objs.size:=du zz5;show wpAny _ _ (Builtin.SmallTypes.ownedTupleHandOut (.ref z) (.ref g5.objs.size) >>= _) _ E _;refine Nm ?_;unfold Builtin.SmallTypes.ownedTupleHandOut;have zz6:IsZip (g5.push { cls:=.type "tuple",data:=.seq #[x,y] }) z TI TO .ellipsis:=dH _ zz5;refine Nm (NJ zz6 (by simp) λg7 zz7 k7=>?_);replace zz7:IsZip g7 z TI TO (rawInt g5.objs.size):=zz7;refine NJ zz7 (by simp) λg8 zz8 k8=>?_;replace zz8:IsZip g8 z TI TO (rawInt g5.objs.size):=zz8;have up:∀c o,c≠z->g5.get? c=some o->g8.get? c=some o:=λc o c1 e=>k8.extBut _ _ c1 (k7.extBut _ _ c1 (dH _ e));have tt8:IsPair g8 g5.objs.size x y:=k8.extBut _ _ (wZ zlt) (k7.extBut _ _ (wZ zlt) (gK _ rfl));have sz8:g8.objs.size=g5.objs.size+1:=by rw[k8.1,k7.1,mY]
 rw[sz] at zz8 tt8 sz8;refine Np ⟨_,rfl,?_⟩;show Q (.ref g5.objs.size) _;rw[sz];exact q g8 zz8 (up _ _ D.b zo5) (r1.keep λo e=>up _ o D.c e) (r2.keep λo e=>up _ o D.d e) tt8 sz8 λc o c1 c2 c3 c4 e=>up c o c1 (kk c o c1 c2 c3 c4 e)
theorem HX{Q:Fin->Shared->Prop}(hh:A.handled=none)(D:uW z TI TO j1 j2)(d1:tJ z TI TO j1 j2 l1)(d2:tJ z TI TO j1 j2 l2)
  (zz:IsZip s.heap z TI TO .none) (zi:IsPair s.heap TI (.ref j1) (.ref j2)) (zo:IsPair s.heap TO a b) (u1:SIt κ s.heap j1 l1 i) (u2:SIt κ' s.heap j2 l2 i) (v1:SSq κ s.heap l1 xs) (v2:SSq κ' s.heap l2 ys) (en:xs[i]? = none\/ys[i]? = none)
  (q:∀h' e,(∀c o,c≠z->c≠TO->c≠j1->c≠j2->s.heap.get? c=some o->h'.get? c=some o)->(∃o,h'.get? e=some o/\o.cls=.type "StopIteration")->E (.ref e) { s with heap:=h' }) :
  wpAny (model prog w) A (Builtin.«zip.__next__» ⟨[.ref z],[]⟩) Q E s:=by
 obtain⟨o1z,_,o1O,o11,o12⟩:=d1;obtain⟨o2z,_,o2O,o21,o22⟩:=d2;show wpAny _ _ (field (.ref z) 2 >>= _) _ E _;refine Nm (Ny zz rfl (x:=.bool false) rfl ?_);show wpAny _ _ (field (.ref z) 3 >>= _) _ E _;refine Nm (Ny zz rfl (x:=.ref TI) rfl (Nm (NI zi rfl ?_)));show wpAny _ _ (Builtin.SmallTypes.ownedTupleIsFree (.ref z) >>= _) _ E _;refine Nm ?_;unfold Builtin.SmallTypes.ownedTupleIsFree;refine Nm (Ny zz rfl (x:=.none) rfl (Np ?_));simp only[if_true];refine Nm (NP (Nm (Ny zz rfl (x:=.ref TO) rfl (Nm (NJ zz (by simp) λg1 zz1 k1=>?_)))));replace zz1:IsZip g1 z TI TO .ellipsis:=zz1;refine Nm ?_;simp only[List.zipIdx_cons,List.zipIdx_nil,zT,List.forIn_nil];refine Nm (Nm (NW ?_));show wpAny _ _ (Builtin.SmallTypes.nextOf (.ref j1) >>= _) _ _ _;cases ex:xs[i]? with
 |none=>
  refine Nm (xJ hh (u1.keep λo e=>k1.extBut _ o D.c e) (v1.keep λo e=>k1.extBut _ o o1z e) ex λg2 e k2 ⟨oe,e1,e2⟩=>?_);have zz2:IsZip g2 z TI TO .ellipsis:=k2 _ _ D.c.symm zz1;have ne:e≠z:=λr=>by subst r;rw[zz2] at e1;cases e1;simp at e2
  exact NJ zz2 (by simp) λg3 _ k3=>q g3 e (λc o c1 _ c3 _ r=>k3.extBut _ _ c1 (k2 _ _ c3 (k1.extBut _ _ c1 r))) ⟨oe,k3.extBut _ _ ne e1,e2⟩
 |some x=>
  have ey:ys[i]? = none:=en.elim (λh=>by rw[ex] at h;cases h) id;refine Nm (xI (u1.keep λo e=>k1.extBut _ o D.c e) (v1.keep λo e=>k1.extBut _ o o1z e) ex λg2 u1' k2=>Np ?_);have zo2:IsPair g2 TO a b:=k2.extBut _ _ D.h (k1.extBut _ _ D.b zo);refine Nm (NI zo2 rfl (Nm (NT zo2 λg3 zo3 k3=>?_)));refine Nm (wpAny_letGo (Np ?_));refine Nm (Nm (NW ?_));show wpAny _ _ (Builtin.SmallTypes.nextOf (.ref j2) >>= _) _ _ _;refine Nm (xJ hh (u2.keep λo e=>k3.extBut _ o D.i.symm (k2.extBut _ o D.j.symm (k1.extBut _ o D.d e))) (v2.keep λo e=>k3.extBut _ o o2O (k2.extBut _ o o21 (k1.extBut _ o o2z e))) ey λg4 e k4 ⟨oe,e1,e2⟩=>?_);have zz4:IsZip g4 z TI TO .ellipsis:=k4 _ _ D.d.symm (k3.extBut _ _ D.b.symm (k2.extBut _ _ D.c.symm zz1));have ne:e≠z:=λr=>by subst r;rw[zz4] at e1;cases e1;simp at e2
  exact NJ zz4 (by simp) λg5 _ k5=>q g5 e (λc o c1 c2 c3 c4 r=>k5.extBut _ _ c1 (k4 _ _ c4 (k3.extBut _ _ c2 (k2.extBut _ _ c3 (k1.extBut _ _ c1 r))))) ⟨oe,k5.extBut _ _ ne e1,e2⟩
end
section
theorem Inv.turnedN{o:HO}(ts:List Addr)(I:Inv X pins σ H s)(k:∀b o,b∉ts->s.heap.get? b=some o->h'.get? b=some o)
  (hf:∀b∈ts,eW X pins H b) (hp:s.heap.objs.size<=a) (new:ObjOk X.prog X.w (upd H a o) h' a o):Inv X pins σ (upd H a o) { s with heap:=h',toks:=t' }:=by
 have hn:H a=none:=I.hok.fresh hp;have nea:∀b u,H b=some u->b≠a:=λb u e z=>by rw[z,hn] at e;cases e
 have neb:∀b u,s.heap.get? b=some u->b≠a:=λb u e z=>by subst z;exact Nq (de (du e) hp) (gQ _)
 refine I.step (g':=s.gens) (d':=s.drawn) (ch:=ts) (λb hb=>?_) (λb o _ _ hc e _=>k b o hc e) (λb o _ _ hc e _=>⟨o.slots,k b o hc e⟩) (λb u _ e n=>by rw[aI (neb b u e)];exact n)
  (λb o hc e=>⟨o,k b o hc e⟩) (λb xs e=>by rw [aI (nea _ _ e)];exact e) (λb _ _ e=>by rw [aI (nea _ _ e)];exact e) (λb ps e=>⟨#[],by rw [aI (nea _ _ e),e];simp⟩) (λm hm=>?_) (λb u e=>?_) I.bare (λn ys=>by
   obtain⟨og,eg⟩:=I.hasG;rw[aI (hZ (de (wW (by decide) (du eg)) hp))];exact n ys)
 .obtain⟨_,f1,_,f3,f4,f5⟩:=hf b hb
  exact⟨f3,f1,f4,f5⟩
 .obtain⟨o,es,ep,ho,r⟩:=hm
  exact⟨o,es,ep,k _ o (λz=>(hf _ z).2.1 rfl) ho,r⟩
 .by_cases hb:b=a
  .subst hb;rw[aP] at e;cases e;exact new
  .rw[aI hb] at e
   have nt:∀c v,H c=some v->c∉ts:=λc v q z=>by rw[(hf c z).1] at q;cases q
   refine(I.hok b u e).stay (λc v hc q=>k c v ?_ q) (λc q=>by rw[aI (nea _ _ q)];exact q) λc _ q=>by rw[aI (nea _ _ q)];exact q
   rcases hc with z|z
   .rw[z];exact nt b u e
   .exact nt c _ z
def Sq(K:Nn)(κ:Bool)(H:Hp)(a:Addr)(xs:List V):Prop:=match κ with
 |true=>SqT K H a xs
 |false=>SqL K H a xs
theorem Inv.sq{xs:List V}(I:Inv X pins σ H s)(h:Sq X.K κ H a xs):∃its:List Value,Vals xs its/\SSq κ s.heap a its.toArray/\xs.length<=sizeLine:=by
 cases κ with
 |false=>obtain⟨its,r,p,hz⟩:=I.list h;exact⟨its,r,p.isList,hz⟩
 |true=>obtain⟨its,r,p,hz⟩:=I.tuple h;exact⟨its,r,(show s.heap.IsTuple a its.toArray from p),hz⟩
theorem Inv.sq_inj{xs ys:List V}(I:Inv X pins σ H s)(h:Sq X.K κ H a xs)(h':Sq X.K κ H a ys):xs=ys:=by
 cases κ with
 |false=>exact I.list_inj h h'
 |true=>exact I.tuple_inj h h'
theorem Inv.sq_out{xs:List V}(I:Inv X pins σ H s)(h:Sq X.K κ H a xs)(f:eW X pins H b):a≠b:=by
 rintro rfl;have hk:∀o,X.K.lookup a=some o->False:=λo e=>by
  have e1:=I.ok.mod.kin a o e;rcases f.2.2.2.1 with z|z
  .exact I.ok.noex a o e1 z
  .exact Nq (de (du (I.ok.bs a o e1).1) z) (gQ _)
 have hr:∀u,Rd H a u->False:=λu r=>by
  rcases r with r|⟨o,r⟩
  .rw[f.1] at r;cases r
  .rw[f.1] at r;cases r
 cases κ with
 |false=>
  rcases h with h|⟨o,_,_,e,_⟩
  .exact hr _ h
  .exact hk o e
 |true=>
  rcases h with h|⟨o,_,_,e,_⟩
  .exact hr _ h
  .exact hk o e
end
def Dj(K:Nn)(κ κ':Bool)(a b:Addr):It:=
  ⟨λi H=>∃ xs ys x y,Sq K κ H a xs/\Sq K κ' H b ys/\xs[i]? = some x/\ys[i]? = some y,
   λi H v H'=>∃p x y,v=.ref p/\H p=none/\H'=upd H p (.tup [x,y])/\(∀xs,Sq K κ H a xs->xs[i]? = some x)/\(∀ys,Sq K κ' H b ys->ys[i]? = some y),
   λi H=>∃xs ys,Sq K κ H a xs/\Sq K κ' H b ys/\(xs.length<=i\/ys.length<=i)⟩
theorem HY{ps:Pos}(a b z TI TO j1 j2:Addr)(D:uW z TI TO j1 j2) :
  jL P w K (.Tuple es n1 ps) (Dj K κ κ' a b) [z,TI,TO,j1,j2] z (λi h=>IsZip h z TI TO .none/\IsPair h TI (.ref j1) (.ref j2)/\(∃u v,IsPair h TO u v)/\SIt κ h j1 a i/\SIt κ' h j2 b i) where
 mem:=by simp
 obj:=λi h ⟨q1,q2,⟨u,v,q3⟩,q4,q5⟩ c hc=>by
  simp only[Yan,gu,or_false] at hc;rcases hc with rfl|rfl|rfl|rfl|rfl
  .exact⟨_,q1,λv e=>by cases e⟩
  .exact⟨_,q2,λv e=>by cases e⟩
  .exact⟨_,q3,λv e=>by cases e⟩
  .exact q4.obj
  .exact q5.obj
 keep:=λi h h' ⟨q1,q2,⟨u,v,q3⟩,q4,q5⟩ k=>
  ⟨k z (by simp) _ q1,k TI (by simp) _ q2,⟨u,v,k TO (by simp) _ q3⟩,q4.keep λo e=>k j1 (by simp) o e,q5.keep λo e=>k j2 (by simp) o e⟩
 item:=by
  intro X hP hw hK hc i pins s σ H E I hf ⟨q1,q2,⟨u,v,q3⟩,q4,q5⟩ hg;subst hP hw hK;obtain⟨xs,ys,x,y,hx,hy,ex,ey⟩:=hg;obtain⟨its,rv,p,hz⟩:=I.sq hx;obtain⟨its',rv',p',hz'⟩:=I.sq hy;obtain⟨ux,hux,rux⟩:=rv.get ex;obtain⟨uy,huy,ruy⟩:=rv'.get ey;have out:∀{κ:Bool} {c:Addr} {xs:List V},Sq X.K κ H c xs->tJ z TI TO j1 j2 c:=λhq=>
   ⟨I.sq_out hq (hf z (by simp)),I.sq_out hq (hf TI (by simp)),I.sq_out hq (hf TO (by simp)),I.sq_out hq (hf j1 (by simp)),I.sq_out hq (hf j2 (by simp))⟩
  have hT:s.TypeIs (.ref z) "zip" :=⟨_,q1,rfl⟩
  unfold pyNext;refine Nm (wpAny_attempt (wpAny_callSpecial?_slot (name:=Str.ofString "__next__") hT F.slot_zip_next (NH F.slot_zip_next hT F.entry_zip_next
   (HW D (out hx) (out hy) q1 q2 q3 q4 q5 p p' (x:=ux) (y:=uy) (by simpa using hux) (by simpa using huy) λh' a1 a2 a3 a4 a5 a6 a7=>Np ⟨_,rfl,?_⟩) (F.args_zip_next_1 _))))
  refine wpAny_letOwnedTupleGo_zip (s:={ s with heap:=h' }) a1 λh2 b1 b2=>?_;have lt:∀{c o},s.heap.get? c=some o->c≠s.heap.objs.size:=λe=>hZ (du e);have zl:=lt q1;have up:∀c o,c∉[z,TI,TO,j1,j2]->s.heap.get? c=some o->h2.get? c=some o:=λc o hc e=>by
   simp only[Yan,gu,or_false,not_or] at hc;exact b2.extBut _ _ hc.1 (a7 c o hc.1 hc.2.2.1 hc.2.2.2.1 hc.2.2.2.2 e)
  refine⟨.ref s.heap.objs.size,upd H s.heap.objs.size (.tup [x,y]),Inv.turnedN (s:=s) (t':=s.toks) [z,TI,TO,j1,j2] I up hf (cB _) ?_,rfl,⟨s.heap.objs.size,x,y,rfl,I.fresh,rfl,λxs' h'=>by rw[I.sq_inj h' hx];exact ex,λys' h'=>by rw[I.sq_inj h' hy];exact ey⟩,?_,λc hc=>?_⟩
  .refine⟨by rw[sizeLine_eq];simp,[ux,uy],.cons rux (.cons ruy .nil),?_⟩
   exact⟨_,b2.extBut _ _ (NB zl) a5,rfl,_,rfl⟩
  .exact⟨b1,b2.extBut _ _ D.a (a7 _ _ D.a D.e D.f D.g q2),⟨_,_,b2.extBut _ _ D.b a2⟩,a3.keep λo e=>b2.extBut _ o D.c e,a4.keep λo e=>b2.extBut _ o D.d e⟩
  .have he:∃o,s.heap.get? c=some o:=by
    simp only[Yan,gu,or_false] at hc;rcases hc with rfl|rfl|rfl|rfl|rfl
    .exact⟨_,q1⟩
    .exact⟨_,q2⟩
    .exact⟨_,q3⟩
    .obtain⟨o,e,_⟩:=q4.obj;exact⟨o,e⟩
    .obtain⟨o,e,_⟩:=q5.obj;exact⟨o,e⟩
   obtain⟨o,e⟩:=he;rw[aI (lt e)];exact(hf c hc).1
 done:=by
  intro X hP hw hK hc i pins s σ H E I hf ⟨q1,q2,⟨u,v,q3⟩,q4,q5⟩ hg;subst hP hw hK;obtain⟨xs,ys,hx,hy,en⟩:=hg;obtain⟨its,rv,p,hz⟩:=I.sq hx;obtain⟨its',rv',p',hz'⟩:=I.sq hy;have l1:=rv.length;have l2:=rv'.length;have out:∀{κ:Bool} {c:Addr} {xs:List V},Sq X.K κ H c xs->tJ z TI TO j1 j2 c:=λhq=>
   ⟨I.sq_out hq (hf z (by simp)),I.sq_out hq (hf TI (by simp)),I.sq_out hq (hf TO (by simp)),I.sq_out hq (hf j1 (by simp)),I.sq_out hq (hf j2 (by simp))⟩
  have hT:s.TypeIs (.ref z) "zip" :=⟨_,q1,rfl⟩
  unfold pyNext;refine Nm (wpAny_attempt (wpAny_callSpecial?_slot (name:=Str.ofString "__next__") hT F.slot_zip_next (NH F.slot_zip_next hT F.entry_zip_next
   (HX (I.ok.hd hc) D (out hx) (out hy) q1 q2 q3 q4 q5 p p' (by rcases en with z|z;exact .inl (by simp;omega);exact .inr (by simp;omega)) λh' e k ⟨o,e1,e2⟩=>?_) (F.args_zip_next_1 _))))
  refine Nm (wpAny_isInstance (s:={ s with heap:=h' }) (T:= "StopIteration") (b:=true) ⟨o,e1,e2⟩ isSubtype_stop (Np ⟨rfl,?_⟩));refine I.turnedL (t':=s.toks) [z,TI,TO,j1,j2] (λc o hc e=>?_) hf;simp only[Yan,gu,or_false,not_or] at hc;exact k c o hc.1 hc.2.2.1 hc.2.2.2.1 hc.2.2.2.2 e
 self:=λ_ _ _ _ _ st h=>wpAny_pyIter_zip st.1 h
def io(κ:Bool)(l:Addr):Obj:={ cls:=.type (match κ with|true=> "tuple_iterator" |false=> "list_iterator"),data:=.fields #[.ref l,.int 0 0] }
theorem AJ{j:Addr}(e:h.get? j=some (io κ l)):SIt κ h j l 0:=by
 cases κ
 all_goals exact⟨_,e,rfl,rfl⟩
theorem xK{E:Value->Shared->Prop}(hl:SSq κ s.heap l xs)(q:Q (.ref s.heap.objs.size) { s with heap:=s.heap.push (io κ l) }) :
  wpAny (model prog w) A (pyIter (.ref l)) Q E s:=by
 cases κ with
 |false=>exact wpAny_pyIter_list hl q
 |true=>exact wpAny_pyIter_tuple hl q
abbrev uX(κ:Bool)(h:Heap)(l1:Addr):Heap:=h.push (io κ l1)
abbrev uY(κ κ':Bool)(h:Heap)(l1 l2:Addr):Heap:=(uX κ h l1).push (io κ' l2)
abbrev uZ(κ κ':Bool)(h:Heap)(l1 l2:Addr):Heap:=(uY κ κ' h l1 l2).push { cls:=.type "tuple",data:=.seq #[.ref h.objs.size,.ref (uX κ h l1).objs.size] }
abbrev u0(κ κ':Bool)(h:Heap)(l1 l2:Addr):Heap:=(uZ κ κ' h l1 l2).push { cls:=.type "tuple",data:=.seq #[.none,.none] }
abbrev oK(κ κ':Bool)(h:Heap)(l1 l2:Addr):Heap:=(u0 κ κ' h l1 l2).push { cls:=.type "zip",data:=.fields #[.none,.bool false,.bool false,.ref (uY κ κ' h l1 l2).objs.size,.ref (uZ κ κ' h l1 l2).objs.size] }
theorem HZ(κ κ':Bool)(l1 l2:Addr)(xs ys:Array Value) :
  Meets (Builtin.«zip.__new__» ⟨[.type "zip",.ref l1,.ref l2],[]⟩) (λ_ R s=>SSq κ s.heap l1 xs/\SSq κ' s.heap l2 ys/\R (.ok (.ret (.ref (u0 κ κ' s.heap l1 l2).objs.size))) { s with heap:=oK κ κ' s.heap l1 l2 }):=
 .of_wp λprog w A R s h=>by
  obtain⟨hp,g,d,tk,os⟩:=s;obtain⟨hl1,hl2,h⟩:=h;have hsub:=sub_zip;have L1:SSq κ (Shared.heap ⟨hp,g,d,tk,os⟩) l1 xs:=hl1;have L2':SSq κ' (Shared.heap ⟨hp.push (io κ l1),g,d,tk,os⟩) l2 ys:=hl2.keep λo e=>dH _ e
  wp_walk using xK L1,xK L2'
  exact⟨_,rfl,h⟩
theorem Ia{E:Value->Shared->Prop}{l1 l2:Addr}(hl1:SSq κ s.heap l1 xs)(hl2:SSq κ' s.heap l2 ys)
  (h:∀ h',IsZip h' (s.heap.objs.size+4) (s.heap.objs.size+2) (s.heap.objs.size+3) .none->IsPair h' (s.heap.objs.size+2) (.ref s.heap.objs.size) (.ref (s.heap.objs.size+1))->
   IsPair h' (s.heap.objs.size+3) .none .none->SIt κ h' s.heap.objs.size l1 0->SIt κ' h' (s.heap.objs.size+1) l2 0->
   (∀c o,s.heap.get? c=some o->h'.get? c=some o)->Q (.ref (s.heap.objs.size+4)) { s with heap:=h' }) :
  wpAny (model prog w) A (call (.type "zip") [.ref l1,.ref l2]) Q E s:=by
 refine callType_new F.called_zip (by decide) (F.typeCall_zip_2 _ _) (F.newCall_zip_2 _ _) (λobj=>F.args_object_init_3 obj _ _) F.entry_zip_new (HZ κ κ' l1 l2 xs ys) ⟨hl1,hl2,?_⟩;have z1:(uX κ s.heap l1).objs.size=s.heap.objs.size+1:=mY ..;have z2:(uY κ κ' s.heap l1 l2).objs.size=s.heap.objs.size+2:=by rw[mY,z1]
 have z3:(uZ κ κ' s.heap l1 l2).objs.size=s.heap.objs.size+3:=by rw[mY,z2]
 have z4:(u0 κ κ' s.heap l1 l2).objs.size=s.heap.objs.size+4:=by rw[mY,z3]
 have up5:∀{c o},(u0 κ κ' s.heap l1 l2).get? c=some o->(oK κ κ' s.heap l1 l2).get? c=some o:=λe=>dH _ e;have up4:∀{c o},(uZ κ κ' s.heap l1 l2).get? c=some o->(oK κ κ' s.heap l1 l2).get? c=some o:=λe=>up5 (dH _ e);have up3:∀{c o},(uY κ κ' s.heap l1 l2).get? c=some o->(oK κ κ' s.heap l1 l2).get? c=some o:=λe=>up4 (dH _ e);have up2:∀{c o},(uX κ s.heap l1).get? c=some o->(oK κ κ' s.heap l1 l2).get? c=some o:=λe=>up3 (dH _ e);have ob:∀κ l,(io κ l).isFreed=false:=λκ l=>rfl;have g5:(oK κ κ' s.heap l1 l2).get? (u0 κ κ' s.heap l1 l2).objs.size=some _:=gK _ rfl;have g4:(oK κ κ' s.heap l1 l2).get? (uZ κ κ' s.heap l1 l2).objs.size=some _:=up5 (gK _ rfl);have g3:(oK κ κ' s.heap l1 l2).get? (uY κ κ' s.heap l1 l2).objs.size=some _:=up4 (gK _ rfl);have g2:(oK κ κ' s.heap l1 l2).get? (uX κ s.heap l1).objs.size=some _:=up3 (gK _ (ob κ' l2));have g1:(oK κ κ' s.heap l1 l2).get? s.heap.objs.size=some _:=up2 (gK _ (ob κ l1));show _/\_;rw[z2,z3,z4] at g5;rw[z1,z2] at g3;rw[z3] at g4;rw[z1] at g2;rw[z4];exact⟨⟨_,g5,rfl⟩,h _ g5 g3 g4 (AJ g1) (AJ g2) λc o x=>up2 (dH _ x)⟩
theorem Ib(n:Nat):uW (n+4) (n+2) (n+3) n (n+1):=
 ⟨(by omega:n+2≠n+4),(by omega:n+3≠n+4),(by omega:n≠n+4),(by omega:n+1≠n+4),(by omega:n+2≠n+3),(by omega:n+2≠n),(by omega:n+2≠n+1),(by omega:n+3≠n),(by omega:n+3≠n+1),(by omega:n≠n+1)⟩
theorem AK(n b:Nat)(h:b=n+4\/b=n+2\/b=n+3\/b=n\/b=n+1):n<=b:=by omega
section
def AL(K:Nn)(ta:TA):TI:=λσ H R=>ta σ H λvs H1=>∃κ κ' a b,vs=[.ref a,.ref b]/\(∃xs,Sq K κ H1 a xs)/\(∃ys,Sq K κ' H1 b ys)/\R (Dj K κ κ' a b) H1
theorem Ic{a b:Expr}{pos ps:Pos}(hg:Gl X "zip")(hm:X.mg "zip" = none)(ha:PA X [a,b] ta)(hs:starEach [a,b] X.env=[(false,eval a X.env),(false,eval b X.env)]:=by rfl)(hs2:starEach [b] X.env=[(false,eval b X.env)]:=by rfl) :
  PI X (.Tuple es n1 ps) (.Call (.Name "zip" p) [a,b] [] pos) (AL X.K ta):=by
 intro pins s σ H R I h;refine Call_ (eM I hg hm boot_zip (PyProof.Rows.callWith_type1 (bR (ha pos pins s σ H _ I h) λus s1 ⟨vs,H1,I1,r1,q1⟩=>?_) (by rw[hs,hs2]) (by rw[hs2];rfl)));obtain⟨κ,κ',l1,l2,e,⟨xs,hx⟩,⟨ys,hy⟩,q⟩:=q1;subst e;cases r1 with
 |cons r rr=>
  cases rr with
  |cons r' rr=>
   cases rr;cases r;cases r';obtain⟨its,rv,p1,hz⟩:=I1.sq hx;obtain⟨its',rv',p2,hz'⟩:=I1.sq hy;refine Ia p1 p2 λh' a1 a2 a3 a4 a5 k=>wpAny_pyIter_zip (s:={ s1 with heap:=h' }) a1 ?_;have D:uW (s1.heap.objs.size+4) (s1.heap.objs.size+2) (s1.heap.objs.size+3) s1.heap.objs.size (s1.heap.objs.size+1):=Ib _;refine⟨_,[s1.heap.objs.size+4,s1.heap.objs.size+2,s1.heap.objs.size+3,s1.heap.objs.size,s1.heap.objs.size+1],_,_,H1,rfl,I1.kept (t':=s1.toks) k,HY (κ:=κ) (κ':=κ') l1 l2 _ _ _ _ _ D,⟨a1,a2,⟨_,_,a3⟩,a4,a5⟩,λb hb=>?_,q⟩;have hb':s1.heap.objs.size<=b:=by
    simp only[Yan,gu,or_false] at hb;exact AK _ _ hb
   exact I1.fpOk hb' (I1.hok.fresh hb')
end
theorem Dk{C:Addr}(X:K.In h)(q:PySem.W.excIn K C bmB newId=true) :
  ∃(bm:List Value) (N:Addr) (nm qn:Str) (bs:List Value) (hd:Bool) (sn:List Str) (sub:List Value) (ab:Bool) (col:Option Bool) (dd:Option Addr) (k0 k1 k2 k3 k5:Option Value) (mN:Str->Option Value),
   h.get? C=some (excClassObj nm qn C N bs bm hd sn sub ab col dd k0 k1 k2 k3 k5 newId)/\h.Ns N mN/\mN "__init__" = none/\OwnTail h bmB bm:=by
 unfold PySem.W.excIn at q;split at q
 .rename_i dd cd sl ho
  split at q
  .rename_i C' bm k0 k1 k2 k3 n k5 hm hs
   simp only[c6,NU,tu] at q;obtain⟨⟨⟨⟨⟨rfl,rfl⟩,hdel⟩,ht⟩,hok⟩,hni⟩:=q;obtain⟨nm,bs,mro,ns,qn,hd,sn,sub,ab,col,del⟩:=cd;dsimp only at hm hdel hok hni;subst hm hdel;have hsl:sl = #[k0,k1,k2,k3,some (.builtin n),k5]:=by
    cases sl with
    |mk l=>exact congrArg Array.mk hs
   subst hsl;exact⟨bm,ns,nm,qn,bs,hd,sn,sub,ab,col,dd,k0,k1,k2,k3,k5,_,X _ _ ho,.of_isNs (PySem.W.isNs_of_in X hok),PySem.W.nsMap_none_of_in X hok hni,PySem.W.tail_of_in X ht⟩
  .cases q
 .cases q
section
variable{EX:XK}{C:Addr}{np cpos pos:Pos}{B initId:String}
theorem Id(hr:k9 X EX)(hc:X.calm=true)(hm:X.mg x=some (.ref C))(hq:PySem.W.excIn X.K C bmB newId=true)(FB:ExcBaseFacts B newId initId bmB)(hg:Gl X x:=by rfl)(hd:(x==("__debug__" : Str))=false:=by decide) :
  PS X (.Raise (some (.Call (.Name x np) [] [] cpos)) none pos) (λ_ _ H=>EX (.ref C) none H):=by
 intro pins s σ H D I h;obtain⟨bm,N,nm,qn,bs,hdc,sn,sub,ab,col,dd,k0,k1,k2,k3,k5,mN,hC,hN,hni,T⟩:=Dk I.kIn hq;refine wpAny_Raise_call_subT (C:=C) (nm:=nm) (q:=qn) (N:=N) (bs:=bs) (bm:=bm) (hdct:=hdc) (sn:=sn) (sub:=sub) (ab:=ab) (col:=col) (dd:=dd) (k0:=k0) (k1:=k1) (k2:=k2) (k3:=k3) (k5:=k5)
  FB (mN:=mN) (T.hasType FB.hasBase) (I.ok.hd hc) rfl hni (eV I hg hm ⟨rfl,?_⟩ hd)
 exact evalArgs_empty ⟨rfl,i6 _,hC,hN,T,λh' e hx=>hr pins σ H s h' e (.ref C) [] I hx h⟩
end
section
variable{H':Hp}{s':Shared}{B h2:Heap}
theorem Inv.fsStk(I:Inv X pins σ H s)(hb:b∈X.fs):b∈dn X.stack:=by
 rcases I.ok.stk with z|⟨z,_⟩
 .rw[z];exact hb
 .rw[z];exact xH hb
theorem Inv.fly(I:Inv X pins σ H s)(hos:s'.os=s.os)(hbare:AllBare s'.gens)(un:Un (dn X.stack) [] H H' s.heap s'.heap)(hok:HOk X.prog X.w H' s'.heap)
  (hB:∀b o,s.heap.get? b=some o->b∉dn X.stack->∃o',B.get? b=some o') (hT:∀b u,H' b=some u->∃o,B.get? b=some o) (st1:B.StaysIn s'.heap) (st2:B.StaysIn h2) (up:s'.heap.UpToSlots h2)
  (frm:∀b∈dn X.stack,∃o,s'.heap.get? b=some o/\∀vs,o.data≠.fields vs):Inv X pins σ H' { s' with heap:=h2 }:=by
 have I':Inv X pins σ H' s':=I.call' hos un hok hbare (ch:=[]) (λb z=>Nq z (by simp));have nostk:∀b o,X.s₀.heap.get? b=some o->b∉X.fs->b∉dn X.stack:=λb o e hb hm=>by
  rcases Yan.mp (I.stkSub b hm) with z|z
  .have l1:=du e
   have l2:=I.ok.above;rw[<-z] at l2;exact Nq (de l1 l2) (gQ _)
  .exact hb z
 have inB:∀{b o},s.heap.get? b=some o->b∉dn X.stack->∀{u},s'.heap.get? b=some u->h2.get? b=some u:=λ{b o} e hb {u} q=>by
  obtain⟨o',eB⟩:=hB b o e hb;have:=st1 b o' eB;rw[q] at this;cases this;exact st2 b _ eB
 have cellK:∀c v,s'.heap.IsCell c v->h2.IsCell c v:=λc v ⟨o,ho,hd⟩=>by
  obtain⟨sl,e⟩:=up c o ho λvs z=>by rw[hd] at z;cases z
  exact⟨_,e,hd⟩
 refine⟨I'.ok,I'.os,I'.bare,⟨λb o e n hb hx=>?_,λb o e n hb hx=>?_,I'.base.free,λb o e hx=>?_,I'.base.tups,I'.base.frzs,I'.base.tbls,I'.base.sys⟩,?_,λx c e=>?_,I'.free,I'.freeC,λp hp=>?_,hok.through hT st1 st2,I'.len⟩
 .exact inB (I.base.keep b o e n hb hx) (nostk b o e hb) (I'.base.keep b o e n hb hx)
 .obtain⟨sl,e1⟩:=I'.base.slot b o e n hb hx
  obtain⟨o3,e3,nf⟩:=frm b (I.fsStk hb);rw[e1] at e3;cases e3;obtain⟨sl2,e4⟩:=up b _ e1 nf;exact⟨sl2,e4⟩
 .obtain⟨o',e1⟩:=I'.base.there b o e hx
  by_cases hb:b∈dn X.stack
  .obtain⟨o3,e3,nf⟩:=frm b hb
   obtain⟨sl,e4⟩:=up b _ e3 nf;exact⟨_,e4⟩
  .obtain⟨o2,e2⟩:=I.base.there b o e hx
   exact⟨o',inB e2 hb e1⟩
 .obtain⟨m,hn,hl⟩:=I'.loc
  refine⟨m,up.ns hn,λi x v e1 e2 e3=>?_⟩;obtain⟨u,r,l⟩:=hl i x v e1 e2 e3;refine⟨u,r,?_⟩;rcases l with l|⟨k,c,e,z⟩
  .exact .inl l
  .exact .inr ⟨k,c,e,cellK c _ z⟩
 .obtain⟨v,z⟩:=I'.cell x c e
  exact⟨v,cellK c v z⟩
 .obtain⟨e,n,ne,nf,d⟩:=I'.pin p hp
  obtain⟨e0,n0,_⟩:=I.pin p hp;have hb:p.1∉dn X.stack:=λhm=>by
   rcases Yan.mp (I.stkSub _ hm) with z|z
   .exact ne z
   .exact nf z
  exact⟨inB e0 hb e,n,ne,nf,d⟩
theorem Inv.track{u:HO}(I:Inv X pins σ H s)(hn:H a=none)(h0:X.s₀.heap.get? a=none)(hL:a≠X.env.locals)(hC:∀x c,X.env.cells.lookup x=some c->c≠a)(hP:∀p∈X.pn++pins,p.1≠a)
  (new:ObjOk X.prog X.w (upd H a u) s.heap a u) (hu:∀us,u≠.lst us):Inv X pins σ (upd H a u) s:=by
 have nea:∀b v,H b=some v->b≠a:=λb v e z=>by rw[z,hn] at e;cases e
 refine ⟨I.ok,I.os,I.bare,⟨I.base.keep,I.base.slot,λb o e n hx=>?_,I.base.there,λb xs e=>?_,λb o xs e=>?_,λb ps e=>?_,λx0 e0 n ys=>by
   by_cases z:sysModules=a
   .rw[z,aP];exact λy=>hu ys (Nv y)
   .rw[aI z];exact I.base.sys x0 e0 n ys⟩,I.loc,I.cell,?_,λx c e=>?_,λp hp=>?_,λb v e=>?_,I.len⟩
 .rw[aI (λz=>by rw[z,h0] at e;cases e)]
  exact I.base.free b o e n hx
 .have:=I.base.tups b xs e
  rw[aI (nea _ _ this)];exact this
 .have:=I.base.frzs b o xs e
  rw[aI (nea _ _ this)];exact this
 .obtain⟨m,e1⟩:=I.base.tbls b ps e
  exact⟨m,by rw[aI (nea _ _ e1)];exact e1⟩
 .rw[aI (NB hL)];exact I.free
 .rw[aI (hC x c e)];exact I.freeC x c e
 .obtain⟨e,n,r⟩:=I.pin p hp
  exact⟨e,by rw[aI (hP p hp)];exact n,r⟩
 .by_cases hb:b=a
  .subst hb;rw[aP] at e;cases e;exact new
  .rw[aI hb] at e
   exact(I.hok b v e).stay (λ_ _ _ q=>q) (λc q=>by rw[aI (nea _ _ q)];exact q) λc _ q=>by rw[aI (nea _ _ q)];exact q
end
abbrev Cx.tr(X:Cx)(E:Value->Shared->Prop)(pins:List (Addr×Obj)):Cx:={ X with xe:=E,pn:=X.pn++pins }
abbrev Cx.hnd(X:Cx)(e:Addr)(E:Value->Shared->Prop):Cx:={ X with A:=X.A.mark (some (.ref e)),calm:=false,xe:=E }
section
variable{pins':List (Addr×Obj)}{E:Value->Shared->Prop}{e:Addr}
theorem Inv.tr(I:Inv X pins σ H s):Inv (X.tr E pins) [] σ H s:=⟨⟨I.ok.mod,I.ok.kind,I.ok.glob,I.ok.blt,I.ok.above,I.ok.inj,I.ok.has,I.ok.cab,I.ok.hd,I.ok.frames,I.ok.stk,I.ok.exf,I.ok.bs,I.ok.bsz,I.ok.noex,I.ok.exfs,I.ok.funs,I.ok.frf,I.ok.sys0⟩,I.os,I.bare,I.base,I.loc,I.cell,I.free,I.freeC,λp hp=>I.pin p (by simpa using hp),I.hok,I.len⟩
theorem Inv.untr(I:Inv (X.tr E pins) pins' σ H s):Inv X pins σ H s:=⟨⟨I.ok.mod,I.ok.kind,I.ok.glob,I.ok.blt,I.ok.above,I.ok.inj,I.ok.has,I.ok.cab,I.ok.hd,I.ok.frames,I.ok.stk,I.ok.exf,I.ok.bs,I.ok.bsz,I.ok.noex,I.ok.exfs,I.ok.funs,I.ok.frf,I.ok.sys0⟩,I.os,I.bare,I.base,I.loc,I.cell,I.free,I.freeC,λp hp=>I.pin p (zQ _ hp),I.hok,I.len⟩
theorem SP.untr{D:jJ}{f:Flow}{s':Shared}(h:SP (X.tr E pins) pins' D f s'):SP X pins D f s':=by
 cases f with
 |next=>obtain⟨σ',H',I,q⟩:=h;exact⟨σ',H',I.untr,q⟩
 |brk=>obtain⟨σ',H',I,q⟩:=h;exact⟨σ',H',I.untr,q⟩
 |cont=>obtain⟨σ',H',I,q⟩:=h;exact⟨σ',H',I.untr,q⟩
 |ret u=>obtain⟨v,σ',H',I,r,q⟩:=h;exact⟨v,σ',H',I.untr,r,q⟩
theorem Inv.hnd(I:Inv X pins σ H s):Inv (X.hnd e E) pins σ H s:=⟨⟨I.ok.mod,I.ok.kind,I.ok.glob,I.ok.blt,I.ok.above,I.ok.inj,I.ok.has,I.ok.cab,(λz=>by cases z),I.ok.frames,I.ok.stk,I.ok.exf,I.ok.bs,I.ok.bsz,I.ok.noex,I.ok.exfs,I.ok.funs,I.ok.frf,I.ok.sys0⟩,I.os,I.bare,I.base,I.loc,I.cell,I.free,I.freeC,I.pin,I.hok,I.len⟩
theorem Inv.unhnd(hd:X.calm=true->X.A.handled=none)(I:Inv (X.hnd e E) pins σ H s):Inv X pins σ H s:=⟨⟨I.ok.mod,I.ok.kind,I.ok.glob,I.ok.blt,I.ok.above,I.ok.inj,I.ok.has,I.ok.cab,hd,I.ok.frames,I.ok.stk,I.ok.exf,I.ok.bs,I.ok.bsz,I.ok.noex,I.ok.exfs,I.ok.funs,I.ok.frf,I.ok.sys0⟩,I.os,I.bare,I.base,I.loc,I.cell,I.free,I.freeC,I.pin,I.hok,I.len⟩
end
theorem Ie{M:Model}{E:Value->Shared->Prop}{ea C Cs:Addr}{Q:Bool->Shared->Prop}(X:K.In s.heap)(hs:PySem.W.excIn K Cs bmB newId=true)(hbase:bmB.contains (.type "BaseException")=true)
  (he:∃oe,s.heap.get? ea=some oe/\oe.cls=.ref C) (hsub:PySem.W.mroIn K C (.ref Cs)=some true) (q:Q true s):wpAny M A (excMatches (.ref ea) (.ref Cs)) Q E s:=by
 obtain⟨bm,N,nm,qn,bs,hd,sn,sub,ab,col,dd,k0,k1,k2,k3,k5,mN,hC,hN,hni,T⟩:=Dk X hs;obtain⟨oe,he,hcls⟩:=he;have hcB:(Value.ref Cs::bm).contains (.type "BaseException")=true:=by rw[List.contains_cons,T.hasType hbase,Bool.or_true]
 have f:=tc_notTuple;have LS:PySem.W.Looks M s.heap (isSubtype (.ref C) (.ref Cs)) true:=PySem.W.looks_mroIn X hsub;obtain⟨hh,g,d,tk,os⟩:=s;unfold excMatches
 repeat (first|(with_reducible refine wpAny_loadPart_at he ?_;rw[hcls])|with_reducible refine wpAny_loadPart_at hC ?_|(with_reducible refine wpAny_isSubtype_exc hC ?_;rw[hcB])|with_reducible refine LS.at ?_|wp_step)
 exact q
section
theorem Inv.names(I:Inv X pins σ H s)(hn:h'.Ns X.env.locals m)(hs:Heap.SameBut X.env.locals s.heap h'):Inv X pins (List.replicate σ.length none) H { s with heap:=h',toks:=t' }:=by
 have ne:∀b o,X.s₀.heap.get? b=some o->b≠X.env.locals:=λb o e=>hZ (de (du e) I.ok.above);have same:∀b,b≠X.env.locals->h'.get? b=s.heap.get? b:=λb hb=>hs.2 b hb;have nH:∀b u,H b=some u->b≠X.env.locals:=λb u e z=>by rw[z,I.free] at e;cases e
 refine⟨I.ok,I.os,I.bare,⟨λb o e n hb hx=>?_,λb o e n hb hx=>?_,I.base.free,λb o e hx=>?_,I.base.tups,I.base.frzs,I.base.tbls,I.base.sys⟩,⟨m,hn,λi x v _ e2 _=>?_⟩,λx c e=>?_,I.free,I.freeC,λp hp=>?_,λb u e=>?_,by rw[o5];exact I.len⟩
 .show h'.get? b=_
  rw[same b (ne b o e)];exact I.base.keep b o e n hb hx
 .obtain⟨sl,e1⟩:=I.base.slot b o e n hb hx
  refine⟨sl,?_⟩;show h'.get? b=_;rw[same b (ne b o e)];exact e1
 .obtain⟨o',e1⟩:=I.base.there b o e hx
  refine⟨o',?_⟩;show h'.get? b=_;rw[same b (ne b o e)];exact e1
 .rw[lE] at e2
  split at e2<;>cases e2
 .obtain⟨v,o,ho,hd⟩:=I.cell x c e
  refine⟨v,o,?_,hd⟩;show h'.get? c=_;rw[same c (I.cne x c e)];exact ho
 .obtain⟨e,n,nl,r⟩:=I.pin p hp
  refine⟨?_,n,nl,r⟩;show h'.get? p.1=_;rw[same _ nl];exact e
 .refine(I.hok b u e).stay (λc v hc q=>?_) (λ_ q=>q) λ_ _ q=>q
  show h'.get? c=_;rw[same c ?_]
  .exact q
  .rcases hc with rfl|hc
   .exact nH _ _ e
   .exact nH _ _ hc
end
structure RoomU(k:Nat)(A:Around):Prop where
 dp:A.depth+3*k+5<recursionLimit
 un:A.units+16*k+200<cLine
theorem RoomU.mono{j:Nat}(r:RoomU k A)(h:j<=k):RoomU j A:=⟨by have:=r.dp;omega,by have:=r.un;omega⟩
theorem RoomU.deeper{k:Nat}{A:Around}(r:RoomU (k+1) A)(env:Env):RoomU k (A.deeper env):=
 ⟨by have:=r.dp;show A.depth+1+3*k+5<_;omega,by have:=r.un;show A.units+3+16*k+200<_;omega⟩
theorem RoomU.depth{k:Nat}{A:Around}(r:RoomU k A):A.depth<recursionLimit:=by have:=r.dp;omega
theorem RoomU.units{k:Nat}{A:Around}(r:RoomU k A):A.units+64<cLine:=by have:=r.un;omega
theorem Room.u(r:Room k A):RoomU k A:=⟨r.dp,r.un⟩
theorem RoomU.mark{k:Nat}{A:Around}{v:Option Value}(r:RoomU k A):RoomU k (A.mark v):=⟨r.dp,r.un⟩
structure xL(P:Program)(w:World)(K:Nn)(mg:Str->Option Value)(base:Heap)(k:Nat)(f:Addr)(fd:FuncData)(ps:List Str)(sp:Sp):Prop where
 len:∀vs H Q E,sp vs H Q E->vs.length=ps.length
 run:∀(A:Around) (outer:List Env) (s:Shared) (H:Hp) (args:Args) (us:List Value) (vs:List V) (Q:VK) (E:XK),RoomU k A->Env0 P w K mg base A outer s H->BindsTo s fd args (ps.zip us)->Vals vs us->sp vs H Q E->
  codeAny (model P w) A (.call (.ref f) args) (CR xG outer P w H s Q E) s
def rZ(P:Program)(w:World)(K:Nn)(mg:Str->Option Value)(base:Heap)(N:List Str)(qual:Str)(scope:Scope)(f:Addr)(cd:Value)(A:Around)(outer:List Env)(s:Shared)(H:Hp):Cx:=
 { dP xG P w K mg base N qual scope f cd A outer s H E0 with calm:=false,xe:=λ_ _=>False }
theorem Ig{s1:Shared}{vs:List V}
  (S:cS N ps scope) (e0:Env0 P w K mg base A outer s H) (hl:vs.length=ps.length) (r:Vals vs us)
  (x:InCallC s s.heap.objs.size (bindL (envOfC qual scope s.heap.objs.size f cd).kindOf (ps.zip us) λ_=>none) (cellsFrom (s.heap.objs.size+1) scope.names []) (bindC (envOfC qual scope s.heap.objs.size f cd).kindOf (ps.zip us) λ_=>none) s1) :
  Inv (rZ P w K mg base N qual scope f cd A outer s H) [] (start N vs) H s1:=by
 have hpl:ps.length<=N.length:=by have:=congrArg List.length S.pre;rw[gS] at this;omega
 obtain⟨h1,tk,rfl,hk⟩:=x.done;have noA:∀b:Addr,b∉(rZ P w K mg base N qual scope f cd A outer s H).ex:=λb z=>Nq (show b∈([]:List Addr) from z) (by simp);refine ⟨⟨e0.mod,S.kind,rfl,rfl,cB _,λy z c h1 h2=>?_,λy hy=>?_,λy c _ h=>?_,(λz=>by cases z),Around.frames_deeper e0.frames,.inr ⟨rfl,rfl⟩,λb z=>Nq z (noA b),e0.bs,e0.bsz,λb _ _=>noA b,λb z=>Nq z (noA b),e0.funs,e0.frf,e0.sysn⟩,
  rfl,e0.bare,Un.kept hk,⟨_,x.toInCall.ns,λi y v h1 h2 h3=>?_⟩,λy c h=>⟨_,x.cell y c h⟩,e0.hok.fresh (cB _),λy c h=>?_,λp hp=>Nq (show p∈([]:List (Addr×Obj)) from hp) (by simp),e0.hok.kept hk,?_⟩
 .exact name_of_addr x.apart (Nx h1) (Nx h2)
 .have hy:scope.names.lookup y=some .cell\/scope.names.lookup y=some .free:=hy
  rcases hy with hy|hy
  .exact dY hy
  .exact Nq rfl (S.nofree _ (Nx hy))
 .exact ge (x.above y c (Nx h))
 .have hi:i<vs.length:=by
   unfold start at h2
   by_cases hi:i<vs.length
   .exact hi
   .rw[kJ (by simpa using hi)] at h2
    rw[lE] at h2;split at h2<;>cases h2
  have ha:vs[i]? = some v:=by
   unfold start at h2;rw[lF (by simpa using hi),cK] at h2;cases e:vs[i]? with
   |none=>rw[e] at h2;cases h2
   |some a=>rw[e] at h2;cases h2;rfl
  obtain⟨u,hu,rv⟩:=r.get ha;have hp:ps[i]? = some y:=by
   rw[<-S.pre,zS (by omega)];exact h1
  have ndP:ps.Nodup:=by rw[<-S.pre];exact S.nd.sublist (List.take_sublist _ _)
  refine⟨u,rv,?_⟩;rcases S.par y (h8 hp) with k|k
  .exact .inl ⟨k,fA ndP hp hu k⟩
  .obtain⟨c,e⟩:=dY (n:=s.heap.objs.size+1) k
   refine .inr ⟨.inl k,c,e,?_⟩;have q:=x.cell y c e;rw[fB ndP hp hu (by show scope.names.lookup y≠_;rw[k];decide)] at q;exact q
 .exact e0.hok.fresh (ge (x.above y c (Nx h)))
 .unfold start
  show _=N.length;rw[dX,bC,o5];omega
theorem Fun.okU{st:Stmt}{sp:Sp}(F:Fun K x qual st f fd)(S:cS N ps (aJ st))(len:∀vs H Q E,sp vs H Q E->vs.length=ps.length)
  (hbody:∀ (cdv:Value) (A:Around) (outer:List Env) (s:Shared) (H:Hp) (vs:List V) (Q:VK) (E:XK),RoomU k (A.deeper (envOfC qual (aJ st) s.heap.objs.size f cdv))->sp vs H Q E->
   ∃t,PSs (rZ P w K mg base N qual (aJ st) f cdv A outer s H) (bH st) t/\t { nx:=λ_ H'=>Q .non H',rt:=Q } (start N vs) H):xL P w K mg base (k+1) f fd ps sp:=by
 obtain⟨oc,od,kV,doc,pm,an,cdv,ct,osl,rfl,lk,hcd⟩:=F.ex;refine⟨len,λA outer s H args us vs Q E hr e0 hb r hsp=>?_⟩;have hl:=len _ _ _ _ hsp;have KX:K.In s.heap:=e0.mod.kin.keeps λb o e=>(e0.bs b o e).1;have lim:s.heap.NoLimit:=e0.mod.nolimit.keeps λb o e=>(e0.bs b o e).1;have hkind:∀y∈ps.zip us,(aJ st).names.lookup y.1=some .local\/((aJ st).names.lookup y.1=some .cell/\((cellsFrom (s.heap.objs.size+1) (aJ st).names []).lookup y.1).isSome=true):=λ⟨n,v⟩ hy=>by
  rcases S.par n (w4 hy).1 with q|q
  .exact .inl q
  .exact .inr ⟨q,PySem.W.cellsFrom_some _ _ _ (.inl q)⟩
 refine codeAny_call_function hr.depth (KX _ _ lk) rfl S.co S.gen rfl (PySem.W.codeRec_of KX hcd) (hb _ _ _ _ ?_);refine wpAny_newFunctionEnv_cells S.kind hkind λenv he s1 x=>?_;subst he;refine⟨lim.keeps x.toInCall.keep,codeAny_func ?_⟩;obtain⟨t,ht,hq⟩:=hbody cdv A outer s H vs Q E (hr.deeper _) hsp;have I:Inv (rZ P w K mg base N qual (aJ st) f cdv A outer s H) [] (start N vs) H s1:=Ig S e0 hl r x;refine ND (ht [] s1 (start N vs) H _ I hq) (λfl s' hs=>?_) λe s' hs=>hs.elim;have fin:∀{σ':St} {H':Hp} {v:V} {u:Value},Inv (rZ P w K mg base N qual (aJ st) f cdv A outer s H) [] σ' H' s'->RelV v u->Q v H'->CE outer P w H s Q u s':=
  λ{σ' H' v u} J rv q=>⟨v,H',J.os,J.bare,J.base,J.hok,rv,q⟩
 cases fl with
 |ret u=>
  obtain⟨v,σ',H',J,rv,q⟩:=hs;exact fin J rv q
 |next=>
  obtain⟨σ',H',J,q⟩:=hs;exact fin (v:=V.non) (u:=Value.none) J rfl q
 |brk=>
  obtain⟨_,_,_,q⟩:=hs;exact NC q
 |cont=>
  obtain⟨_,_,_,q⟩:=hs;exact NC q
section
variable{sp:Sp}{E:XK}{pos:Pos}{t:TA}
theorem Ih(F:xL X.prog X.w X.K X.mg X.base k f fd ps sp)(hr:RoomU k X.A)(hg:Gl X x)(hm:X.mg x=some (.ref f))(hk:PySem.W.keepIn X.K (.ref f)=true)(hb:Binds X.K fd ps [])
  (ha:PA X (e::es) t) (hdb:(x==("__debug__" : Str))=false:=by decide) (he:starEach (e::es) X.env=(false,eval e X.env)::starEach es X.env:=by rfl) (hpl:(backTo pos (starEach es X.env)).any (·.1)=false:=by rfl) :
  PE X (.Call (.Name x p) (e::es) [] pos) (qq sp [] E t):=by
 have F':∀(pins:List (Addr×Obj)) (σ:St) (H:Hp) (s:Shared) (Q:VK) (us:List Value) (vs:List V),Inv X pins σ H s->Vals vs us->sp (vs++[]) H Q E->wpAny (model X.prog X.w) X.A (call (.ref f) us) (EP X pins σ Q) X.xe s:=by
  intro pins σ H s Q us vs I r h;have r2:Vals (vs++[]) (us++[]):=by simpa using r
  have hl:(us++[]).length=ps.length:=by rw[<-r2.length];exact F.len _ _ _ _ h
  refine wpAny_call (codeAny_mono (F.run X.A X.stack s H ⟨us,[]⟩ (us++[]) (vs++[]) Q E hr I.env0 (hb s us I.kIn hl) r2 h) λr s' hq=>?_);cases r with
  |error e=>exact NC hq
  |ok fl=>
   cases fl with
   |ret u=>exact I.after hq
   |next=>exact NC hq
   |brk=>exact NC hq
   |cont=>exact NC hq
 intro pins s σ H Q I h;refine NO (eV I hg hm ?_ hdb);refine PySem.W.callWith_K (h₀:=X.base) I.ok.mod.kin hk (bR (ha pos pins s σ H _ I h) λus s1 ⟨vs,H1,I1,r,q⟩=>⟨I1.kIn,?_⟩) he hpl;exact F' pins σ H1 s1 Q us vs I1 r q
end
section
open PySem PySem.Spec PySem.Calls PyProof.Rows PySem.W Builtin Builtin.ObjectAttr Builtin.Getset_descriptor
def XAt(h:Heap)(x C:Addr):Prop:=∃ox,h.get? x=some ox/\ox.cls=.ref C/\notCls ox=true
structure gZ(K:Frag)(D:Addr):Prop where
 ga:findIn K (.ref D) "__getattribute__" = some (some (.builtin "BaseException.__getattribute__"))
 gn:findIn K (.ref D) "__getattr__" = some none
 be:mroIn K D (.type "BaseException")=some true
 is:(clsIn K D).isSome=true
 at':findIn K (.ref D) "__class__" = some (some (.builtin "object.__class__"))
 gt:specialIn K (.builtin "object.__class__") "__get__" = some (some (.builtin "getset_descriptor.__get__"))
 tk:takesIn K (.builtin "object.__class__")=some true
 ob:mroIn K D (.type "object")=some true
section
variable{E:Value->Shared->Prop}{K:Frag}{x D:Addr}
theorem XAt.type{M:Model}(I:XAt h x D):Looks M h (typeOf (.ref x)) (.ref D):=by
 obtain⟨ox,h1,h2,_⟩:=I;exact h2▸(Looks.ld h1).andThen .now
theorem Ii{M:Model}(X:K.In h)(c:gZ K D):Looks M h (find (.ref x) (.ref D) "__class__") (.bind (.builtin "getset_descriptor.__get__") (.builtin "object.__class__")):=by
 have L1:=looks_findIn (M:=M) X c.at';have L2:Looks M h (getOf (some (.builtin "object.__class__"))) (some (.builtin "getset_descriptor.__get__")):=looks_specialIn X c.gt;have L3:=looks_takesIn (M:=M) X c.tk;refine L1.andThen (L2.andThen ?_);exact(show Looks M h (dataDescriptor? (some (.builtin "object.__class__")) (some (.builtin "getset_descriptor.__get__"))) (some (.builtin "getset_descriptor.__get__",.builtin "object.__class__")) from L3.andThen .now).andThen (Looks.tag .now)
theorem Ij{tp:Value}{R:Result->Shared->Prop}(X:K.In s.heap)(I:XAt s.heap x D)(hm:mroIn K D (.type "object")=some true)
  (h:R (.ok (.ret (.ref D))) s):codeAny (model prog w) A (.call (.builtin "getset_descriptor.__get__") ⟨[.builtin "object.__class__",.ref x,tp],[]⟩) R s:=by
 obtain⟨hh,g,dr,t,os⟩:=s;have L0:=I.type (M:=model prog w);have L1:=looks_mroIn (M:=model prog w) X hm;refine codeAny_call_builtin KF.slot_gs.plain KF.entry_gs (KF.slot_gs.check _ _ _ _ _ _ _ _ KF.type_class (KF.args_gs _ _ _) ?_);unfold Builtin.«getset_descriptor.__get__» descrGet;rw[dga_obj];refine Nm (Np ?_);unfold descrGetter descrCheckInstance descrNameAndClass isInstance;simp only[KF.owner_class]
 repeat lk
 refine⟨Code.quiet_builtin _ (by decide +kernel),codeAny_builtin KF.entry_class ?_⟩;unfold Builtin.«object.__class__» shownTypeOf
 repeat lk
 exact h
theorem Ik{M:Model}{nameV:Value}{Q:Unit->Shared->Prop}(X:K.In s.heap)(I:XAt s.heap x D)(c:gZ K D)(hq:Q () s):wpAny M A (checkBuiltinCall "BaseException.__getattribute__" ⟨[.ref x,nameV],[]⟩) Q E s:=by
 have hk:builtinKind "BaseException.__getattribute__" = some .slot:=by decide +kernel
 have hsplit:splitId "BaseException.__getattribute__" = some ("BaseException", "__getattribute__"):=by decide +kernel
 have ha:=PySem.F.args_bexc_ga (.ref x) nameV;have L0:=I.type (M:=M);have L1:=looks_mroIn (M:=M) X c.be;simp only[checkBuiltinCall,hk,hsplit];refine Nm ?_;unfold isInstance;refine Nm (L0.at (L1.at ?_))
 repeat (first|assumption|wp_step)
theorem Il{Q:Fin->Shared->Prop}(X:K.In s.heap)(I:XAt s.heap x D)(c:gZ K D)(hq:Q (.done (.ret (.ref D))) s) :
  wpAny (model prog w) A (Builtin.«object.__getattribute__» ⟨[.ref x,.str "__class__" tk],[]⟩) Q E s:=by
 obtain⟨hh,g,d,t,os⟩:=s;have L0:=I.type (M:=model prog w);have L2:=Ii (x:=x) (M:=model prog w) X c
 repeat (any_goals (first|assumption|(with_reducible refine L0.at ?_)|(with_reducible refine L2.at ?_)|wp_step))
 exact Ij (K:=K) (s:=⟨hh,g,d,t,os⟩) X I c.ob (Np hq)
theorem u3{R:Result->Shared->Prop}(X:K.In s.heap)(I:XAt s.heap x D)(c:gZ K D)(hq:R (.ok (.ret (.ref D))) s) :
  codeAny (model prog w) A (.call (.builtin "BaseException.__getattribute__") ⟨[.ref x,.str "__class__" tk],[]⟩) R s:=
 codeAny_call_builtin PySem.F.attr_ValueError.ga.plain PySem.F.entry_bexc_ga (Ik X I c (Il X I c hq))
theorem Im{Q:Option Value->Shared->Prop}(X:K.In s.heap)(I:XAt s.heap x D)(c:gZ K D)(h:Q (some (.ref D)) { s with toks:=s.toks+1 }):wpAny (model prog w) A (getAttr? (.ref x) "__class__") Q E s:=by
 obtain⟨hh,g,d,t,os⟩:=s;have L0:=I.type (M:=model prog w);have L1:=looks_findIn (M:=model prog w) X c.ga;have L3:=looks_findIn (M:=model prog w) X c.gn;have f3:=PySem.F.attr_ValueError.ga.bind (.ref x);have hx2:(Value.builtin "BaseException.__getattribute__" == Value.builtin "object.__getattribute__")=false:=by decide +kernel
 have hx1:(onTheHeap (Value.ref D)&&Value.builtin "BaseException.__getattribute__" == Value.builtin "object.__getattribute__")=false:=by rw[hx2];rfl
 unfold getAttr? getAttrBy?
 repeat (any_goals (first|assumption|(with_reducible refine L0.at ?_)|(with_reducible refine L1.at ?_)|(with_reducible refine L3.at ?_)|wp_step))
 exact u3 (K:=K) (s:=⟨hh,g,d,t+1,os⟩) X I c (handed_on rfl (Np h))
theorem Dl(c:gZ K D):KitX K (.ref x) (.ref D) (λh=>XAt h x D) where
 ty:=λ_ _ _ I=>I.type
 it:=λ_ _ X _=>by
  have hcD:=c.is;unfold clsIn at hcD;split at hcD
  .rename_i c' d' cd' sl' ho
   intro A' Q' E' s' k q;unfold isType loadHead;exact Nm (wpAny_loadPart (k _ _ (X _ _ ho)) (Np q))
  .cases hcD
 ne:=λh tp dd its n sl X htp=>by
  have hcD:=c.is;refine Bool.eq_false_iff.mpr λq=>?_;have e:D=tp:=Value.ref.inj (beq_iff_eq.mp q);subst e;unfold clsIn at hcD;split at hcD
  .rename_i c' d' cd' sl' ho
   have z:=(X _ _ ho).symm.trans htp;cases z
  .cases hcD
 ca:=λX I k=>Im X I c k
end
end
theorem Io:fillsNumberSlot (.type "tuple") "mul" = pure false:=
 PySem.fillsNumberSlot_seq (id:= "tuple.__mul__") (r:=some (.builtin "tuple.__rmul__")) PySem.F.slot_tuple_mul.lookup (by decide +kernel) PySem.F.slot_tuple_rmul.lookup (by decide +kernel)
theorem Ip:seqRepeat? (.type "tuple")=pure (some (.builtin "tuple.__mul__")):=by
 unfold seqRepeat?;rw[PySem.seqSlot_of (T:= "tuple") (name:= "__mul__") (id:= "tuple.__mul__") PySem.F.slot_tuple_mul.lookup (by decide +kernel),PySem.seqSlot_of (T:= "tuple") (name:= "__rmul__") (id:= "tuple.__rmul__") PySem.F.slot_tuple_rmul.lookup (by decide +kernel)];rfl
theorem Iq(a:Int)(t:Tok)(l:Addr)(items:Array Value)(n:Nat)(dd:Option Addr)(sl:Array (Option Value)) :
  Meets (Builtin.«int.__rmul__» ⟨[.int a t,.ref l],[]⟩) (λ_ R s=>s.heap.get? l=some { cls:=.type "tuple",dict:=dd,data:=.seq items n,slots:=sl }/\R (.ok (.ret Value.notImplemented)) s):=
 .of_wp λprog w A R s h=>by obtain⟨hp,g,d,tk,os⟩:=s;obtain⟨hl,h⟩:=h;wp_walk;exact⟨_,rfl,h⟩
theorem Ir(l:Addr)(items:Array Value)(n:Nat)(dd:Option Addr)(sl:Array (Option Value))(k:Int)(t:Tok)(h1:-(2^63)<=k)(h1':k<2^63)(h2:(items.isEmpty||k==1)=true) :
  Meets (Builtin.«tuple.__mul__» ⟨[.ref l,.int k t],[]⟩) (λ_ R s=>s.heap.get? l=some { cls:=.type "tuple",dict:=dd,data:=.seq items n,slots:=sl }/\R (.ok (.ret (Value.ref l))) s):=by
 intro prog w A R s h;obtain⟨hp,g,d,tk,os⟩:=s;obtain⟨hl,h⟩:=h;have f1:=AutoSeq1.idx_int;have c1:¬(decide (k < -2^63)||decide (k ≥ 2^63))=true:=by simp;omega
 unfold Builtin.«tuple.__mul__»
 wp_walk using wpAny_loadPart' hl
 rw[if_neg c1]
 wp_walk using wpAny_loadPart' hl
 exact h
theorem Iu(l:Addr)(items:Array Value)(n:Nat)(dd:Option Addr)(sl:Array (Option Value))(k:Int)(t:Tok)(h1:-(2^63)<=k)(h1':k<2^63)(h2:¬(items.isEmpty||k==1)=true)(h3:k<=0) :
  Meets (Builtin.«tuple.__mul__» ⟨[.ref l,.int k t],[]⟩) (λ_ R s=>s.heap.get? l=some { cls:=.type "tuple",dict:=dd,data:=.seq items n,slots:=sl }/\R (.ok (.ret (Value.ref s.heap.objs.size))) { s with heap:=s.heap.push { cls:=Value.type "tuple",data:=Data.seq #[] } }):=by
 intro prog w A R s h;obtain⟨hp,g,d,tk,os⟩:=s;obtain⟨hl,h⟩:=h;have f1:=AutoSeq1.idx_int;have c1:¬(decide (k < -2^63)||decide (k ≥ 2^63))=true:=by simp;omega
 have c2:(decide (k<=0)||items.isEmpty)=true:=by simp[h3]
 unfold Builtin.«tuple.__mul__»
 wp_walk using wpAny_loadPart' hl
 rw[if_neg c1]
 wp_walk using wpAny_loadPart' hl
 exact h
theorem Iv(l:Addr)(items:Array Value)(n:Nat)(dd:Option Addr)(sl:Array (Option Value))(k:Int)(t:Tok)(h1:-(2^63)<=k)(h1':k<2^63)(h2:¬(items.isEmpty||k==1)=true)(h3:0<k)(h4:items.size*k.toNat<=sizeLine) :
  Meets (Builtin.«tuple.__mul__» ⟨[.ref l,.int k t],[]⟩) (λ_ R s=>s.heap.get? l=some { cls:=.type "tuple",dict:=dd,data:=.seq items n,slots:=sl }/\R (.ok (.ret (Value.ref s.heap.objs.size))) { s with heap:=s.heap.push { cls:=Value.type "tuple",data:=Data.seq (List.foldl (λx1 x2=>x1++x2) #[] (List.replicate k.toNat items)) } }):=by
 intro prog w A R s h;obtain⟨hp,g,d,tk,os⟩:=s;obtain⟨hl,h⟩:=h;have f1:=AutoSeq1.idx_int;have c1:¬(decide (k < -2^63)||decide (k ≥ 2^63))=true:=by simp;omega
 have c2:¬(decide (k<=0)||items.isEmpty)=true:=by
  have:items.isEmpty=false:=by cases q:items.isEmpty<;>simp_all
  simp[this];omega
 have hk:(items.size:Int)*k=((items.size*k.toNat:Nat):Int):=by rw[Int.natCast_mul,zY (by omega)]
 have hsl:(sizeLine:Nat)=2^24:=rfl;have c3:¬((items.size:Int)*k>(2^63-1)/8):=by rw[hk];omega
 have c4:¬Builtin.Tuple.tupleTooMany ((items.size:Int)*k)=true:=λz=>by have z':=NR z;rw[hk] at z';omega
 unfold Builtin.«tuple.__mul__»
 wp_walk using wpAny_loadPart' hl
 rw[if_neg c1]
 wp_walk using wpAny_loadPart' hl
 rw[if_neg c3]
 wp_walk using wpAny_loadPart' hl
 rw[if_neg c4]
 wp_walk using wpAny_loadPart' hl
 have hnew:List.foldl (λx1 x2=>x1++x2) #[] (List.replicate k.toNat items)=(List.replicate k.toNat items.toList).flatten.toArray:=by
  have:=ee items.toList k.toNat [];rw[dI] at this;simpa using this
 have c5:¬((List.foldl (λx1 x2=>x1++x2) #[] (List.replicate k.toNat items)).size>sizeLine):=by
  rw[hnew,eC,iG,wY,xa];omega
 rw[if_neg c5]
 wp_walk using wpAny_loadPart' hl
 exact h
section
theorem Inv.tnew{ys:List V}{its:List Value}(I:Inv X pins σ H s)(hv:Vals ys its)(hz:ys.length<=sizeLine) :
  Inv X pins σ (upd H s.heap.objs.size (.tup ys)) { s with heap:=s.heap.push { cls:=.type "tuple",data:=.seq its.toArray },toks:=t' }:=
 I.laid (λ_ _ q=>dH _ q) (cB _) ⟨hz,its,hv,IsTup.new _ _⟩
def u4(K:Nn):R2:=λx y H Q=>∃l k xs,x=.ref l/\y=.int k/\SqT K H l xs/\-(2^63)<=k/\k<2^63/\xs.length*k.toNat<=sizeLine/\
 ((xs=[]\/k=1)->Q (.ref l) H)/\∀p,H p=none->Q (.ref p) (upd H p (.tup (List.replicate k.toNat xs).flatten))
theorem Iw:OpR X (binaryOp .Mult) (u4 X.K):=by
 intro pins s σ H x y v u Q I rx ry h;obtain⟨l,k,xs,rfl,rfl,hq,h1,h2,hz,q1,q2⟩:=h;cases rx;obtain⟨t,rfl⟩:=ry;obtain⟨its,r,pl,_⟩:=I.tuple hq;have hl:xs.length=its.length:=r.length;obtain⟨⟨cls,dd,data,sl⟩,ho,hc,n,hd⟩:=id pl;simp only at hc hd;subst hc hd;refine wpAny_binaryOp_repeat_ref (T:= "tuple") (U:= "int") (by decide) ⟨_,ho,rfl⟩ (λs'=>typeIs_int s' k t) Io PySem.F.fills_int_mul PySem.F.slot_int_rmul Ip PySem.F.slot_int_index.lookup
  (call_meets PySem.F.slot_int_rmul (typeIs_int s k t) PySem.F.entry_int_rmul (PySem.F.args_int_rmul_2 _ _) (Iq k t l its.toArray n dd sl) ⟨ho,rfl,⟨_,ho,rfl⟩,?_⟩)
 by_cases hs:(its.toArray.isEmpty||k==1)=true
 .refine call_meets PySem.F.slot_tuple_mul ⟨_,ho,rfl⟩ PySem.F.entry_tuple_mul (PySem.F.args_tuple_mul_2 _ _) (Ir l its.toArray n dd sl k t h1 h2 hs) ⟨ho,⟨.ref l,H,I,rfl,q1 ?_⟩⟩
  rw[xb] at hs;rcases hs with hs|hs
  .exact .inl (r.nil_iff.mp (by simpa using hs))
  .exact .inr (beq_iff_eq.mp hs)
 .by_cases h3:k<=0
  .refine call_meets PySem.F.slot_tuple_mul ⟨_,ho,rfl⟩ PySem.F.entry_tuple_mul (PySem.F.args_tuple_mul_2 _ _) (Iu l its.toArray n dd sl k t h1 h2 hs h3) ⟨ho,⟨.ref _,_,I.tnew (its:=[]) (ys:=(List.replicate k.toNat xs).flatten) (t':=s.toks) ?_ ?_,rfl,q2 _ I.fresh⟩⟩
   .rw[show k.toNat=0 by omega];exact .nil
   .rw[show k.toNat=0 by omega];exact i6 _
  .have hnew:List.foldl (λx1 x2=>x1++x2) #[] (List.replicate k.toNat its.toArray)=(List.replicate k.toNat its).flatten.toArray:=by
    have:=ee its k.toNat [];rw[dI] at this;exact this
   refine call_meets PySem.F.slot_tuple_mul ⟨_,ho,rfl⟩ PySem.F.entry_tuple_mul (PySem.F.args_tuple_mul_2 _ _) (Iv l its.toArray n dd sl k t h1 h2 hs (by omega) (by rw[eC,<-hl];exact hz)) ⟨ho,?_⟩;rw[hnew];exact⟨.ref _,_,I.tnew (t':=s.toks) (r.rep k.toNat) (by rw[iG,xa];exact hz),rfl,q2 _ I.fresh⟩
end
theorem Ix(hh:A.handled=none)(it l:Addr)(hne:l≠it)(xs:Array Value):Draws prog w A it [it,l] xs.size (λi v=>xs[i]? = some v) (λi h=>SIt κ h it l i/\SSq κ h l xs) where
 live:=λ_ _ st=>let⟨o,ho,_⟩:=st.1.obj;⟨o,ho⟩
 frame:=λ_ _ _ st hk=>⟨st.1.keep λo e=>hk it (by simp) o e,st.2.keep λo e=>hk l (by simp) o e⟩
 item:=λi s Q E hi st hQ=>xI st.1 st.2 (x:=xs[i]) (by simp[hi]) λh' hit' hs'=>hQ _ h' s.toks (by simp[hi]) ⟨hit',st.2.keep λo e=>hs'.extBut l o hne e⟩ hs'
 done:=λs Q E st hE=>xJ hh st.1 st.2 (by simp) hE
theorem Iy(hh:A.handled=none)(it l:Addr)(xs:Array Value)(n:Nat)(hn:xs[n]? = none):Draws prog w A it [it,l] n (λ_ _=>False) (λj h=>j=n/\SIt κ h it l n/\SSq κ h l xs) where
 live:=λ_ _ st=>let⟨o,ho,_⟩:=st.2.1.obj;⟨o,ho⟩
 frame:=λ_ _ _ st hk=>⟨st.1,st.2.1.keep λo e=>hk it (by simp) o e,st.2.2.keep λo e=>hk l (by simp) o e⟩
 item:=λi s Q E hi st hQ=>Nq st.1 (hZ hi)
 done:=λs Q E st hE=>xJ hh st.2.1 st.2.2 hn hE
abbrev xM(κ:Bool)(h:Heap)(l:Addr):Heap:=h.push (io κ l)
abbrev AM(κ:Bool)(h:Heap)(l:Addr):Heap:=(xM κ h l).push { cls:=.type "enumerate",data:=.fields #[.none,.bool false,.ref h.objs.size,rawInt 0,.none,.none] }
theorem Iz(l:Addr)(xs:Array Value)(n:Nat)(dct:Option Addr)(sl:Array (Option Value)) :
  Meets (Builtin.«enumerate.__new__» ⟨[.type "enumerate",.ref l],[]⟩) (λ_ R s=>s.heap.get? l=some { cls:=.type "tuple",dict:=dct,data:=.seq xs n,slots:=sl }/\R (.ok (.ret (.ref (xM true s.heap l).objs.size))) { s with heap:=AM true s.heap l }):=
 .of_wp λprog w A R s h=>by
  obtain⟨hp,g,d,tk,os⟩:=s;obtain⟨hl,h⟩:=h;have hsub:=sub_enumerate;have hT:SSq true (Shared.heap ⟨hp,g,d,tk,os⟩) l xs:=(show Heap.IsTuple _ l xs from⟨_,hl,rfl,n,rfl⟩)
  wp_walk using AutoSeq1.wpAny_loadPart' hl
  refine wpAny_stack_any λst=>(Np ?_);split
  .rename_i c _ _ _ _ _
   cases(c==Value.type "enumerate")<;>(wp_walk using AutoSeq1.wpAny_loadPart' hl,xK hT;exact⟨_,rfl,h⟩)
  .wp_walk using AutoSeq1.wpAny_loadPart' hl,xK hT
   exact⟨_,rfl,h⟩
theorem IC{E:Value->Shared->Prop}(hL:SSq κ s.heap l xs)
  (h:∀h',IsEnum h' (s.heap.objs.size+1) s.heap.objs.size 0 .none->SIt κ h' s.heap.objs.size l 0->(∀b o,s.heap.get? b=some o->h'.get? b=some o)->Q (.ref (s.heap.objs.size+1)) { s with heap:=h' }) :
  wpAny (model prog w) A (call (.type "enumerate") [.ref l]) Q E s:=by
 cases κ with
 |false=>exact call_enumerate_list hL λh' he hi _ hk=>h h' he hi hk
 |true=>
  obtain⟨⟨c,dct,dt,sl⟩,hl,hc,n,hd⟩:=(show s.heap.IsTuple l xs from hL)
  replace hc:c=.type "tuple" :=hc;replace hd:dt=.seq xs n:=hd;subst hc hd;refine callType_new F.called_enumerate (by decide) (F.typeCall_enumerate_1 _) (F.newCall_enumerate_1 _) (λobj=>F.args_object_init_2 obj _) F.entry_enumerate_new (Iz l xs n dct sl) ⟨hl,?_⟩;have hz:(xM true s.heap l).objs.size=s.heap.objs.size+1:=mY ..;have g2:(AM true s.heap l).get? (xM true s.heap l).objs.size=some _:=gK _ rfl;have g1:(AM true s.heap l).get? s.heap.objs.size=some _:=dH _ (gK _ rfl);show _/\_;rw[hz] at g2 ⊢;exact⟨⟨_,g2,rfl⟩,h _ g2 (AJ g1) λb o x=>dH _ (dH _ x)⟩
def Dm(K:Nn)(κ:Bool)(a:Addr):It:=
  ⟨λi H=>∃ xs x,Sq K κ H a xs/\xs[i]? = some x,
   λi H v H'=>∃p x,v=.ref p/\H p=none/\H'=upd H p (.tup [.int i,x])/\∀xs,Sq K κ H a xs->xs[i]? = some x,
   λi H=>∃xs,Sq K κ H a xs/\xs.length<=i⟩
theorem ID{ps:Pos}(a e it:Addr)(hne:e≠it) :
  jL P w K (.Tuple es n1 ps) (Dm K κ a) [e,it] e (λi h=>(∃old,IsEnum h e it i old)/\SIt κ h it a i) where
 mem:=by simp
 obj:=λi h ⟨⟨old,q1⟩,q2⟩ c hc=>by
  simp only[Yan,gu,or_false] at hc;rcases hc with rfl|rfl
  .exact⟨_,q1,λv e=>by cases e⟩
  .exact q2.obj
 keep:=λi h h' ⟨⟨old,q1⟩,q2⟩ k=>⟨⟨old,k e (by simp) _ q1⟩,q2.keep λo x=>k it (by simp) o x⟩
 item:=by
  intro X hP hw hK hc i pins s σ H E I hf ⟨⟨old,q1⟩,q2⟩ hg;subst hP hw hK;obtain⟨xs,x,hx,ex⟩:=hg;obtain⟨its,rv,p,hz⟩:=I.sq hx;obtain⟨ux,hux,rux⟩:=rv.get ex;have oe:=I.sq_out hx (hf e (by simp));have oi:=I.sq_out hx (hf it (by simp));have hi:i<its.toArray.size:=by have:=(Yaq.mp hux).1;simpa using this
  refine wpAny_pyNext_enum_itemD (Ix (κ:=κ) (A:=X.A.in1) (I.ok.hd hc) it a oi its.toArray) q1 ⟨q2,p⟩ hi hne (by simp[hne,NB oe]) λy h' tk b1 b2 b3 b4 b5 b6=>⟨_,rfl,?_⟩;have ey:y=ux:=by
   have:its[i]? = some y:=by simpa using b1
   rw[hux] at this;exact(Nv this).symm
  subst ey;refine wpAny_letOwnedTupleGo_enum (s:={ s with heap:=h',toks:=tk+1 }) b2 λh2 c1 c2=>?_;have lt:∀{c o},s.heap.get? c=some o->c≠s.heap.objs.size:=λz=>hZ (du z);have el:=lt q1;have up:∀c o,c∉[e,it]->s.heap.get? c=some o->h2.get? c=some o:=λc o hc z=>by
   simp only[Yan,gu,or_false,not_or] at hc;exact c2.extBut _ _ hc.1 (b6 c o hc.1 hc.2 z)
  refine⟨.ref s.heap.objs.size,upd H s.heap.objs.size (.tup [.int i,x]),Inv.turnedN (s:=s) (t':=tk+1) [e,it] I up hf (cB _) ?_,rfl,⟨s.heap.objs.size,x,rfl,I.fresh,rfl,λxs' h'=>by rw[I.sq_inj h' hx];exact ex⟩,?_,λc hc=>?_⟩
  .refine⟨by rw[sizeLine_eq];simp,[.int i tk,y],.cons ⟨_,rfl⟩ (.cons rux .nil),?_⟩
   exact⟨_,c2.extBut _ _ (NB el) b4,rfl,_,rfl⟩
  .exact⟨⟨_,by simpa using c1⟩,b3.1.keep λo z=>c2.extBut _ o (NB hne) z⟩
  .have he:∃o,s.heap.get? c=some o:=by
    simp only[Yan,gu,or_false] at hc;rcases hc with rfl|rfl
    .exact⟨_,q1⟩
    .obtain⟨o,z,_⟩:=q2.obj;exact⟨o,z⟩
   obtain⟨o,z⟩:=he;rw[aI (lt z)];exact(hf c hc).1
 done:=by
  intro X hP hw hK hc i pins s σ H E I hf ⟨⟨old,q1⟩,q2⟩ hg;subst hP hw hK;obtain⟨xs,hx,en⟩:=hg;obtain⟨its,rv,p,hz⟩:=I.sq hx;have l1:=rv.length;have oi:=I.sq_out hx (hf it (by simp));refine wpAny_pyNext_enum_endD (Iy (κ:=κ) (A:=X.A.in1) (I.ok.hd hc) it a its.toArray i (by simp;omega)) q1 ⟨rfl,q2,p⟩ λh' k=>⟨rfl,?_⟩;refine I.turnedL (t':=s.toks) [e,it] (λc o hc z=>?_) hf;simp only[Yan,gu,or_false,not_or] at hc;exact k c o hc.2 z
 self:=λ_ _ _ _ _ st h=>let⟨⟨_,q⟩,_⟩:=st;wpAny_pyIter_enum q h
theorem IE(n b:Nat)(h:b=n+1\/b=n):n<=b:=by omega
section
def u5(K:Nn)(ta:TA):TI:=λσ H R=>ta σ H λvs H1=>∃κ a,vs=[.ref a]/\(∃xs,Sq K κ H1 a xs)/\R (Dm K κ a) H1
theorem IF{a:Expr}{pos ps:Pos}(hg:Gl X "enumerate")(hm:X.mg "enumerate" = none)(ha:PA X [a] ta)(hs:starEach [a] X.env=[(false,eval a X.env)]:=by rfl) :
  PI X (.Tuple es n1 ps) (.Call (.Name "enumerate" p) [a] [] pos) (u5 X.K ta):=by
 intro pins s σ H R I h;refine Call_ (eM I hg hm boot_enumerate (PyProof.Rows.callWith_type1 (bR (ha pos pins s σ H _ I h) λus s1 ⟨vs,H1,I1,r1,q1⟩=>?_) hs rfl));obtain⟨κ,l,rfl,⟨xs,hx⟩,q⟩:=q1;cases r1 with
 |cons r rr=>
  cases rr;cases r;obtain⟨its,rv,p1,hz⟩:=I1.sq hx;refine IC p1 λh' a1 a2 k=>wpAny_pyIter_enum (s:={ s1 with heap:=h' }) a1 ?_;refine⟨_,[s1.heap.objs.size+1,s1.heap.objs.size],_,_,H1,rfl,I1.kept (t':=s1.toks) k,ID (κ:=κ) l _ _ (Nat.succ_ne_self _),⟨⟨_,a1⟩,a2⟩,λb hb=>?_,q⟩;have hb':s1.heap.objs.size<=b:=by
   simp only[Yan,gu,or_false] at hb;exact IE _ _ hb
  exact I1.fpOk hb' (I1.hok.fresh hb')
end
end L2
namespace PySem
open Sem (wp)
open AutoSeq1 (wpAny_loadPart')
section
variable{prog:Program}{w:World}{A:Around}{E:Value->Shared->Prop}{s:Shared}
def ZpS(h:Heap)(a t:Addr)(i:Int):Prop:=∃o,h.get? a=some o/\o.cls=.type "reversed" /\o.data=.fields #[.ref t,rawInt i]
theorem ZpS.at{h h':Heap}{a t:Addr}{i:Int}(x:ZpS h a t i)(e:∀o,h.get? a=some o->h'.get? a=some o):ZpS h' a t i:=let⟨o,ho,r⟩:=x;⟨o,e _ ho,r⟩
end
section
variable{prog:Program}{w:World}{A:Around}{E:Value->Shared->Prop}{s:Shared}
end
end PySem
namespace L2
open PySem PySem.Spec PyProof.Rows
variable{X:Cx}{a elt:Expr}{ta te:TE}{w:World}{K:Nn}{mg:Str->Option Value}{scope sc:Scope}{f:Str}{A:Around}{s:Shared}{f2 ifs:List Expr}{pins:List (Addr×Obj)}{σ:St}{H1:Hp}{vars:List Str}{sel:List Nat}{wi2:TI}
section
variable{CX:kT}{E:XK}{pos:Pos}{c e:Expr}{es:List Expr}{tc:TE}{t:TA}
def IG(X:Cx)(CX:kT)(E:XK)(tc:TE)(t:TA):TE:=λσ H Q=>tc σ H λx H1=>∃(f:Addr) (k:Nat) (fd:FuncData) (ps:List Str) (sp:Sp),x=.ref f/\FnOk X.prog X.w X.K X.mg X.base CX k f fd ps sp/\Room k X.A/\PySem.W.keepIn X.K (.ref f)=true/\Binds X.K fd ps []/\t σ H1 λvs H2=>sp vs H2 Q E
theorem IH(hx:cQ CX X E)(hc:PE X c tc)(ha:PA X (e::es) t)
  (hcall:eval (.Call c (e::es) [] pos) X.env=(do callWith pos (<-eval c X.env) [] (backTo pos (starEach (e::es) X.env)) (backToKw pos (keywordEach [] X.env))):=by rfl)
  (he:starEach (e::es) X.env=(false,eval e X.env)::starEach es X.env:=by rfl) (hpl:(backTo pos (starEach es X.env)).any (·.1)=false:=by rfl) :
  PE X (.Call c (e::es) [] pos) (IG X CX E tc t):=by
 intro pins s σ H Q I h;rw[hcall];refine Nm (bR (hc pins s σ H _ I h) λu s1 ⟨x,H1,I1,r1,f,k,fd,ps,sp,ex,F,hr,hk,hb,q1⟩=>?_);subst ex;cases r1;refine PySem.W.callWith_K (h₀:=X.base) I1.ok.mod.kin hk (bR (ha pos pins s1 σ H1 _ I1 q1) λus s2 ⟨vs,H2,I2,r,q⟩=>⟨I2.kIn,?_⟩) he hpl;exact nN F hr hb .nil hx I2 r (by rw[qh];exact q)
end
section
variable{pos:Pos}
end
section
variable{b:Expr}{rest:List Expr}{pos:Pos}{tb:TE}
end
section
variable{pos:Pos}
end
open PySem.Builtin PySem.Builtin.Str in
section
variable{tg:Expr}
variable{pos p2:Pos}{b:Expr}{tb:TE}
end
namespace Fl
def quiet(f:Str):List Str:=["__setattr__", "__getattribute__", "__getattr__",f]
def Do(K:Nn)(ns:List Str)(bmB:List Value):List Value->Bool
 |[]=>bmB==[]
 |v::r=>(v::r)==bmB||match v with
  | .ref a=>(match K.lookup a with
   |some ⟨_,_,.cls cd,_⟩=>PySem.W.nsOkIn K cd.ns&&ns.all (λn=>PySem.W.nsIn K cd.ns n==some none)&&Do K ns bmB r
   |_=>false)
  |_=>false
def clsF(K:Nn)(C:Addr)(bmB:List Value)(newId:String)(f:Str)(fI:Addr):Bool:=match K.lookup C with
 | some ⟨.type "type",_,.cls cd,sl⟩=>(match cd.mro,sl.toList with
  |.ref C'::bm,[_,_,_,_,some (.builtin n),_]=>C'==C&&n==newId && !cd.hasDel&&cd.hasDict&&Do K ("__init__" ::quiet f) bmB bm&&PySem.W.nsOkIn K cd.ns&&PySem.W.nsIn K cd.ns "__init__" == some (some (.ref fI))&&(quiet f).all (λn=>PySem.W.nsIn K cd.ns n==some none)
  |_,_=>false)
 |_=>false
section
variable{P:Program}{base:Heap}{N:List Str}{qual:Str}{f:Addr}{cd:Value}{outer:List Env}{H:Hp}{E:XK}
end
abbrev bmV:List Value:=[.type "ValueError",.type "Exception",.type "BaseException",.type "object"]
section
variable{C fI:Addr}{newId:String}{o value:Expr}{pos pos':Pos}
end
section
variable{EX:XK}{C fI:Addr}{fd:FuncData}{x:Str}{ps:List Str}{k:Nat}{np cpos pos:Pos}
end
end Fl
section
variable{prog:Program}{E:Value->Shared->Prop}{R:Result->Shared->Prop}{t1 i1 t2 i2:Expr}{f1:List Expr}{pos:Pos}{it acc:Value}{env:Env}
end
section
variable{s2:Shared}{target iter t2 i2:Expr}{pos:Pos}{g g2:TG}{tf tf2:TT}
end
section
variable{s2:Shared}{target iter t2 i2:Expr}{fz:List Expr}{pos:Pos}{g g2:TG}{tf tf2:TT}
end
theorem Dp(f:Nat->Int):∀k,argBest (λi j=>decide (f i<f j)) k<=k/\∀j,j<=k->f (argBest (λi j=>decide (f i<f j)) k)<=f j
 |0=>⟨cB _,λj hj=>by rw[Ybs.mp hj];exact Int.le_refl _⟩
 |k+1=>by
  obtain⟨h1,h2⟩:=Dp f k;rw[argBest]
  by_cases z:f (k+1)<f (argBest (λi j=>decide (f i<f j)) k)
  .rw[if_pos (Nr z)]
   refine⟨cB _,λj hj=>?_⟩;rcases Nat.eq_or_lt_of_le hj with rfl|hj
   .exact Int.le_refl _
   .have:=h2 j (by omega);omega
  .rw[if_neg (by simpa using z)]
   refine⟨by omega,λj hj=>?_⟩;rcases Nat.eq_or_lt_of_le hj with rfl|hj
   .omega
   .exact h2 j (by omega)
section
theorem II(hc:X.calm=true):CallR X (.builtin "min") (λxs H Q=>∃(p:Addr) (ns:List Int),xs=[.ref p]/\SqL X.K H p (ns.map V.int)/\ns≠[]/\∀m∈ns,(∀x∈ns,m<=x)->Q (.int m) H):=by
 intro pins s σ H xs us Q I r h;obtain⟨p,ns,rfl,hq,hne,q⟩:=h;obtain⟨u,rfl,ru⟩:=eD r;cases ru;obtain⟨its,rv,pl,hz⟩:=I.list hq;have hits:∃ps:List (Int×Tok),its=ps.map (λp=>Value.int p.1 p.2)/\ps.map (·.1)=ns:=by
  clear hz pl hq q hne
  induction ns generalizing its with
  |nil=>cases rv;exact⟨[],rfl,rfl⟩
  |cons n ns ih=>
   cases rv with
   |cons r1 r2=>
    obtain⟨t,rfl⟩:=r1;obtain⟨ps,rfl,e⟩:=ih _ r2;exact⟨(n,t)::ps,rfl,by rw[cR,e]⟩
 obtain⟨ps,rfl,e⟩:=hits;have hl:s.heap.IsList p (intItems ps.toArray):=by
  have:=pl.isList;simpa[intItems] using this
 have h0:0<ps.length:=by
  cases ps with
  |nil=>rw[<-e] at hne;exact Nq rfl hne
  |cons _ _=>simp
 refine min_intList (I.ok.hd hc) hl (by simpa using h0) λv h' tk hv k=>?_;obtain⟨b1,b2⟩:=Dp (numAt ps.toArray) (ps.toArray.size-1);generalize argBest (λi j=>decide (numAt ps.toArray i<numAt ps.toArray j)) (ps.toArray.size-1)=a at hv b1 b2;have ha:a<ps.length:=by simp at b1;omega
 have na:∀j,j<ps.length->ns[j]? = some (numAt ps.toArray j):=λj hj=>by
  rw[<-e,cK,bW hj];simp[numAt,hj]
 have ev:v=.int (numAt ps.toArray a) (ps[a]'ha).2:=by
  rw[show(intItems ps.toArray)[a]? = some (Value.int (ps[a]'ha).1 (ps[a]'ha).2) by simp[intItems,ha]] at hv;rw[<-Nv hv];simp[numAt,ha]
 refine⟨.int (numAt ps.toArray a),H,I.kept k,⟨_,ev⟩,q _ (h8 (na a ha)) λx hx=>?_⟩;obtain⟨j,hj⟩:=List.mem_iff_getElem?.mp hx;have hj':j<ps.length:=by
  have:=(Yaq.mp hj).1;rw[<-e] at this;simpa using this
 rw[na j hj'] at hj;rw[<-Nv hj];exact b2 j (by simp;omega)
end
end L2
namespace LP
open PySem PySem.Spec PyProof.Rows L2
variable{n a b k i j n1 m b':Nat}{dx od an:Option Addr}{K:Nn}{vs us:List V}{e c tg elt target iter:Expr}{H H1 H2 H0:Hp}{o:HO}{σ:L2.St}{X:Cx}{EX:XK}{x qual name:Str}{op:CmpOp}{p p2 pos' spos apos cpos np:Pos}{es ifs:List Expr}{t:List (List Int)}{f fa:Addr}{fd:FuncData}{ps vars:List Str}{pins:List (Addr×Obj)}{s:List Int}{lo hi:Option Expr}{st:Stmt}{sc:Scope}{sel:List Nat}{body:List Stmt}{P:Program}{mg:Str->Option Value}{base h:Heap}{q q0:Rat}{r l:List Rat}{L U T':Nat->Nat->Rat}{A:Nat->Nat->Int}{osl:Array (Option Value)}{rs:List (List Rat)}{v':Nat->Int}{XP:(Str->Option Value)->Heap->Prop}{YP:World->Heap->Prop}
inductive D where
 |non|bl (b:Bool)|int (i:Int)|str (x:Str)|tup (xs:List D)|lst (xs:List D)|dic|pen|cls (n:Str)|exc (n:Str)|ty (n:String)|scr (xs:List D)
variable{ds xs ys:List D}{d y:D}{xss:List (List D)}{Q:D->Prop}{g:List D->(D->Prop)->Prop}{Q' dom QL:List D->Prop}{val:List D->D}{rel:List D->D->Prop}
structure Wd where
 G:Hp
 Pn:Addr->Prop
variable{W1 W2 W0:Wd}
def KT(K:Nn)(a:Addr)(vs:List V):Prop:=
 ∃(o:Obj) (its:Array Value) (n:Nat),K.lookup a=some o/\o.cls=.type "tuple" /\o.data=.seq its n/\its.size<=sizeLine/\Vals vs its.toList
def iH(K:Nn)(n:Str):Option Addr:=match PySem.W.nsIn K mainGlobals n with
 |some (some (.ref a))=>some a
 |_=>none
def xtab:List (Str×Str×Str×Int):=[("NotStrong1", "NotStrong", "size",1),("NotStrong2", "NotStrong", "size",2),("NotStrong3", "NotStrong", "size",3),("NotStrong4", "NotStrong", "size",4),("NotStrong5", "NotStrong", "size",5),("NoText0", "NoText", "row",0),("NoText1", "NoText", "row",1),("NoText2", "NoText", "row",2),("NoText3", "NoText", "row",3),("NoText4", "NoText", "row",4),("NoText5", "NoText", "row",5),("NoText6", "NoText", "row",6),("NoText7", "NoText", "row",7),("NoText8", "NoText", "row",8),("NoText9", "NoText", "row",9),("NoText10", "NoText", "row",10),("NoText11", "NoText", "row",11),("NoText12", "NoText", "row",12),("NoText13", "NoText", "row",13),("NoText14", "NoText", "row",14),("NoText15", "NoText", "row",15)]
def nV(n:Str):Option (Str×Str×Int):=(xtab.find? λr=>r.1==n).map (·.2)
def nX(n:Str):Str:=match nV n with
 |some r=>r.1
 |none=>n
def qy(C a:Addr)(dx:Option Addr):HO:=.ext λh=>∃oe,h.get? a=some oe/\oe.cls=.ref C/\PySem.W.notCls oe=true/\oe.dict=dx/\∃vs,oe.data=.fields vs
def XD(W:Wd)(n:Str)(dx:Option Addr):Prop:=∀c f k,nV n=some (c,f,k)->∃d,dx=some d/\W.G d=some (.xd [(f,.int k)])
theorem XD.none{W:Wd}{n:Str}(h:nV n=none):XD W n dx:=λc f k e=>by rw[h] at e;cases e
theorem XD.mono{W W':Wd}{n:Str}(g:∀a o,W.G a=some o->W'.G a=some o)(h:XD W n dx):XD W' n dx:=λc f k e=>let⟨d,e1,e2⟩:=h c f k e;⟨d,e1,g _ _ e2⟩
theorem IJ{n:Str}(h:nV n=none):nX n=n:=by unfold nX;rw[h]
def KL(K:Nn)(a:Addr)(vs:List V):Prop:=
 ∃(o:Obj) (its:Array Value) (n:Nat),K.lookup a=some o/\o.cls=.type "list" /\o.dict=none/\o.data=.seq its n/\its.size<=sizeLine/\Vals vs its.toList
mutual
inductive Rep (K:Nn) (W:Wd):V->D->Prop
 |non:Rep K W .non .non
 |bl (b:Bool):Rep K W (.bl b) (.bl b)
 |int (i:Int):Rep K W (.int i) (.int i)
 |str (x:Str):Rep K W (.str x) (.str x)
 |tup {a:Addr} {vs:List V} {ds:List D}:W.G a=some (.tup vs)->Reps K W vs ds->Rep K W (.ref a) (.tup ds)
 |ktup {a:Addr} {vs:List V} {ds:List D}:KT K a vs->Reps K W vs ds->Rep K W (.ref a) (.tup ds)
 |lst {a:Addr} {vs:List V} {ds:List D}:W.G a=some (.lst vs)->Reps K W vs ds->Rep K W (.ref a) (.lst ds)
 |scr {a:Addr} {vs:List V} {ds:List D}:((∃o,W.G a=some (.frz o (.lst vs)))\/KL K a vs)->Reps K W vs ds->Rep K W (.ref a) (.scr ds)
 |dic {a:Addr}:W.G a=some (.dK [])->Rep K W (.ref a) .dic
 |pen {a:Addr}:W.Pn a->Rep K W (.ref a) .pen
 |cls {a:Addr} {n:Str}:iH K n=some a->Rep K W (.ref a) (.cls n)
 |exc {a C:Addr} {n:Str} {dx:Option Addr}:W.G a=some (qy C a dx)->iH K (nX n)=some C->XD W n dx->Rep K W (.ref a) (.exc n)
 |ty (n:String):Rep K W (.ty n) (.ty n)
inductive Reps (K:Nn) (W:Wd):List V->List D->Prop
 |nil:Reps K W [] []
 |cons {v:V} {d:D} {vs:List V} {ds:List D}:Rep K W v d->Reps K W vs ds->Reps K W (v::vs) (d::ds)
end
section
variable{W W':Wd}
mutual
theorem Rep.mono(g:∀a o,W.G a=some o->W'.G a=some o)(p:∀a,W.Pn a->W'.Pn a):∀{v:V} {d:D},Rep K W v d->Rep K W' v d
 |_,_,.non=>.non
 |_,_,.bl b=>.bl b
 |_,_,.int i=>.int i
 |_,_,.str x=>.str x
 |_,_,.tup e r=>.tup (g _ _ e) (Reps.mono g p r)
 |_,_,.ktup e r=>.ktup e (Reps.mono g p r)
 |_,_,.lst e r=>.lst (g _ _ e) (Reps.mono g p r)
 |_,_,.scr e r=>.scr (e.elim (λ⟨o,z⟩=>.inl ⟨o,g _ _ z⟩) .inr) (Reps.mono g p r)
 |_,_,.dic e=>.dic (g _ _ e)
 |_,_,.pen e=>.pen (p _ e)
 |_,_,.cls e=>.cls e
 |_,_,.exc e h x=>.exc (g _ _ e) h (x.mono g)
 |_,_,.ty n=>.ty n
theorem Reps.mono(g:∀a o,W.G a=some o->W'.G a=some o)(p:∀a,W.Pn a->W'.Pn a):∀{vs:List V} {ds:List D},Reps K W vs ds->Reps K W' vs ds
 |_,_,.nil=>.nil
 |_,_,.cons r t=>.cons (Rep.mono g p r) (Reps.mono g p t)
end
theorem Reps.length:∀{vs:List V} {ds:List D},Reps K W vs ds->vs.length=ds.length
 |_,_,.nil=>rfl
 |_,_,.cons _ t=>by simp[Reps.length t]
theorem Reps.get:∀{vs:List V} {ds:List D} {i:Nat} {d:D},Reps K W vs ds->ds[i]? = some d->∃v,vs[i]? = some v/\Rep K W v d
 |_,_,_,_,.nil,e=>by simp at e
 |_,_,0,_,.cons r _,e=>by simp at e;subst e;exact⟨_,rfl,r⟩
 |_,_,i+1,d,.cons _ t,e=>by
  obtain⟨u,h1,h2⟩:=Reps.get (i:=i) (d:=d) t (by simpa using e);exact⟨u,by simpa using h1,h2⟩
theorem Reps.append:∀{vs us:List V} {ds es:List D},Reps K W vs ds->Reps K W us es->Reps K W (vs++us) (ds++es)
 |_,_,_,_,.nil,s=>s
 |_,_,_,_,.cons r t,s=>.cons r (Reps.append t s)
theorem Reps.take:∀{vs:List V} {ds:List D} (n:Nat),Reps K W vs ds->Reps K W (vs.take n) (ds.take n)
 |_,_,0,_=>.nil
 |_,_,_+1,.nil=>.nil
 |_,_,n+1,.cons r t=>.cons r (Reps.take n t)
theorem Reps.drop:∀{vs:List V} {ds:List D} (n:Nat),Reps K W vs ds->Reps K W (vs.drop n) (ds.drop n)
 |_,_,0,r=>r
 |_,_,_+1,.nil=>.nil
 |_,_,n+1,.cons _ t=>Reps.drop n t
theorem Reps.set{v:V}{d:D}(r:Rep K W v d):∀{vs:List V} {ds:List D} (i:Nat),Reps K W vs ds->Reps K W (vs.set i v) (ds.set i d)
 |_,_,_,.nil=>.nil
 |_,_,0,.cons _ t=>.cons r t
 |_,_,i+1,.cons q t=>.cons q (Reps.set r i t)
theorem Reps.rev(r:Reps K W vs ds):Reps K W vs.reverse ds.reverse:=by
 induction vs generalizing ds with
 |nil=>cases r;exact .nil
 |cons v vs ih=>cases r with|cons r t=>rw[td,td];exact(ih t).append (.cons r .nil)
theorem Reps.one(r:Reps K W us [d]):∃v,us=[v]/\Rep K W v d:=by
 cases r with|cons r t=>cases t;exact⟨_,rfl,r⟩
theorem Reps.two{e:D}(r:Reps K W us [d,e]):∃v u,us=[v,u]/\Rep K W v d/\Rep K W u e:=by
 cases r with|cons r t=>cases t with|cons r' t=>cases t;exact⟨_,_,rfl,r,r'⟩
end
def Zoh(H:Hp)(a:Addr):Prop:=∃i j k:Int,H a=some (.lst [.int i,.int j,.int k])
structure WOk(W:Wd)(H:Hp):Prop where
 g:∀a o,W.G a=some o->H a=some o
 p:∀a,W.Pn a->Zoh H a/\W.G a=none
structure Ext(W:Wd)(H:Hp)(W':Wd)(H':Hp):Prop where
 ok:WOk W' H'
 g:∀a o,W.G a=some o->W'.G a=some o
 p:∀a,W.Pn a->W'.Pn a
 gf:∀a,W.G a=none->W'.G a≠none->H a=none
 pf:∀a,¬W.Pn a->W'.Pn a->H a=none
 h:∀a o,H a=some o->¬W.Pn a->H' a=some o
section
variable{W:Wd}
theorem Ext.refl(ok:WOk W H):Ext W H W H:=⟨ok,λ_ _ e=>e,λ_ e=>e,λ_ e n=>Nq e n,λ_ n e=>Nq e n,λ_ _ e _=>e⟩
theorem Zoh.ne{a:Addr}(p:Zoh H a):H a≠none:=by obtain⟨_,_,_,e⟩:=p;rw[e];simp
theorem Ext.isN(x:Ext W H W1 H1){a:Addr}(h:H1 a=none):H a=none:=by
 cases q:H a with
 |none=>rfl
 |some o=>
  by_cases hp:W.Pn a
  .exact Nq h ((x.ok.p a (x.p a hp)).1.ne)
  .rw[x.h a o q hp] at h;cases h
theorem Ext.trans(x:Ext W H W1 H1)(y:Ext W1 H1 W2 H2):Ext W H W2 H2 where
 ok:=y.ok
 g:=λa o e=>y.g a o (x.g a o e)
 p:=λa e=>y.p a (x.p a e)
 gf:=λa e n=>by
  cases q:W1.G a with
  |none=>exact x.isN (y.gf a q n)
  |some o=>exact x.gf a e (by rw[q];simp)
 pf:=λa e n=>by
  by_cases q:W1.Pn a
  .exact x.pf a e q
  .exact x.isN (y.pf a q n)
 h:=λa o e n=>y.h a o (x.h a o e n) λq=>by have:=x.pf a n q;rw[e] at this;cases this
theorem Ext.rep(x:Ext W H W1 H1){v:V}(r:Rep K W v d):Rep K W1 v d:=r.mono x.g x.p
theorem Ext.reps(x:Ext W H W1 H1){v:List V}{d:List D}(r:Reps K W v d):Reps K W1 v d:=r.mono x.g x.p
def Wd.put(W:Wd)(a:Addr)(o:HO):Wd:=⟨upd W.G a o,W.Pn⟩
theorem Ext.put{a:Addr}{o:HO}(ok:WOk W H)(h:H a=none):Ext W H (W.put a o) (upd H a o) where
 ok:=⟨λb u e=>by
   unfold Wd.put at e;dsimp only at e
   by_cases hb:b=a
   .subst hb;rw[aP] at e ⊢;exact e
   .rw[aI hb] at e ⊢;exact ok.g b u e,
  λb hb=>by
   have⟨p1,p2⟩:=ok.p b hb;have hne:b≠a:=λz=>p1.ne (by rw[z];exact h);refine⟨?_,by unfold Wd.put;dsimp only;rw[aI hne];exact p2⟩;obtain⟨i,j,k,e⟩:=p1;exact⟨i,j,k,by rw[aI hne];exact e⟩⟩
 g:=λb u e=>by
  have:b≠a:=λz=>by have:=ok.g b u e;rw[z,h] at this;cases this
  unfold Wd.put;dsimp only;rw[aI this];exact e
 p:=λb e=>e
 gf:=λb e n=>by
  by_cases hb:b=a
  .rw[hb];exact h
  .unfold Wd.put at n;dsimp only at n;rw[aI hb] at n;exact Nq e n
 pf:=λb n e=>Nq e n
 h:=λb u e _=>by
  have:b≠a:=λz=>by rw[z,h] at e;cases e
  rw[aI this];exact e
theorem Ext.new{a:Addr}(ok:WOk W H)(h:H a=none):Ext W H W (upd H a o) where
 ok:=⟨λb u e=>by
   have q:=ok.g b u e;have:b≠a:=λz=>by rw[z,h] at q;cases q
   rw[aI this];exact q,
  λb hb=>by
   have⟨p1,p2⟩:=ok.p b hb;have hne:b≠a:=λz=>p1.ne (by rw[z];exact h);obtain⟨i,j,k,e⟩:=p1;exact⟨⟨i,j,k,by rw[aI hne];exact e⟩,p2⟩⟩
 g:=λ_ _ e=>e
 p:=λ_ e=>e
 gf:=λ_ e n=>Nq e n
 pf:=λ_ n e=>Nq e n
 h:=λb u e _=>by
  have:b≠a:=λz=>by rw[z,h] at e;cases e
  rw[aI this];exact e
theorem WOk.fresh(ok:WOk W H){a:Addr}(h:H a=none):W.G a=none/\¬W.Pn a:=by
 refine⟨?_,λp=>(ok.p a p).1.ne h⟩;cases q:W.G a with
 |none=>rfl
 |some o=>have:=ok.g a o q;rw[h] at this;cases this
theorem Ext.pub{a:Addr}(x:Ext W H W1 H1)(h:H a=none)(e:H1 a=some o)(n:¬W1.Pn a)(ng:W1.G a=none):Ext W H (W1.put a o) H1 where
 ok:=⟨λb u q=>by
   unfold Wd.put at q
   by_cases hb:b=a
   .subst hb;dsimp only at q;rw[aP] at q;cases q;exact e
   .dsimp only at q;rw[aI hb] at q;exact x.ok.g b u q,
  λb hb=>by
   have⟨p1,p2⟩:=x.ok.p b hb;have hne:b≠a:=λz=>n (by rw[<-z];exact hb);exact⟨p1,by unfold Wd.put;dsimp only;rw[aI hne];exact p2⟩⟩
 g:=λb u q=>by
  have q1:=x.g b u q;have:b≠a:=λz=>by rw[z,ng] at q1;cases q1
  unfold Wd.put;dsimp only;rw[aI this];exact q1
 p:=x.p
 gf:=λb q m=>by
  by_cases hb:b=a
  .rw[hb];exact h
  .unfold Wd.put at m;dsimp only at m;rw[aI hb] at m;exact x.gf b q m
 pf:=x.pf
 h:=x.h
theorem pQ{a:Addr}(ng:W.G a=none):∀b u,W.G b=some u->(W.put a o).G b=some u:=λb u q=>by
 have:b≠a:=λz=>by rw[z,ng] at q;cases q
 unfold Wd.put;dsimp only;rw[aI this];exact q
theorem Ext.chg{a:Addr}{o':HO}(x:Ext W H W1 H1)(h:H a=none)(e:H1 a=some o)(n:¬W1.Pn a)(ng:W1.G a=none):Ext W H W1 (upd H1 a o') where
 ok:=⟨λb u q=>by
   have:b≠a:=λz=>by rw[z,ng] at q;cases q
   rw[aI this];exact x.ok.g b u q,
  λb hb=>by
   have⟨p1,p2⟩:=x.ok.p b hb;have hne:b≠a:=λz=>n (by rw[<-z];exact hb);obtain⟨i,j,k,e⟩:=p1;exact⟨⟨i,j,k,by rw[aI hne];exact e⟩,p2⟩⟩
 g:=x.g
 p:=x.p
 gf:=x.gf
 pf:=x.pf
 h:=λb u q m=>by
  have:b≠a:=λz=>by rw[z,h] at q;cases q
  rw[aI this];exact x.h b u q m
end
inductive SV where
 |un|d (x:D)|ow (xs:List D)|oo (xss:List (List D))
abbrev cP:=List SV
variable{ρ ρ':cP}
def Own1(K:Nn)(H0:Hp)(W:Wd)(H:Hp)(b:Addr)(xs:List D):Prop:=∃vs,H b=some (HO.lst vs)/\W.G b=none/\¬W.Pn b/\H0 b=none/\Reps K W vs xs
structure OwnT(K:Nn)(H0:Hp)(W:Wd)(H:Hp)(a:Addr)(bs:List Addr)(xss:List (List D)):Prop where
 a1:H a=some (HO.lst (bs.map V.ref))
 a2:W.G a=none
 a3:¬W.Pn a
 a4:H0 a=none
 nd:(a::bs).Nodup
 len:bs.length=xss.length
 row:∀(i:Nat) b,bs[i]? = some b->∃xs,xss[i]? = some xs/\Own1 K H0 W H b xs
structure OOs(K:Nn)(H0:Hp)(W:Wd)(σ:L2.St)(H:Hp)(ρ:cP):Prop where
 t:∀(i:Nat) xss,ρ[i]? = some (SV.oo xss)->∃a bs,σ[i]? = some (some (V.ref a))/\OwnT K H0 W H a bs xss/\∀(j:Nat) ys c,ρ[j]? = some (SV.ow ys)->σ[j]? = some (some (V.ref c))->c∉a::bs
 u:∀(i j:Nat) xss yss,ρ[i]? = some (SV.oo xss)->ρ[j]? = some (SV.oo yss)->i=j
structure SOk(K:Nn)(W0:Wd)(H0:Hp)(W:Wd)(σ:L2.St)(H:Hp)(ρ:cP):Prop where
 ext:Ext W0 H0 W H
 len:ρ.length=σ.length
 d:∀(i:Nat) x,ρ[i]? = some (SV.d x)->∃v:V,σ[i]? = some (some v)/\Rep K W v x
 o:∀(i:Nat) xs,ρ[i]? = some (SV.ow xs)->∃a vs,σ[i]? = some (some (V.ref a))/\H a=some (HO.lst vs)/\W.G a=none/\¬W.Pn a/\H0 a=none/\Reps K W vs xs
 ne:∀(i j:Nat) xs ys a,i≠j->ρ[i]? = some (SV.ow xs)->ρ[j]? = some (SV.ow ys)->σ[i]? = some (some (V.ref a))->σ[j]?≠some (some (V.ref a))
 oo:OOs K H0 W σ H ρ
section
variable{W:Wd}
theorem SOk.ok(s:SOk K W0 H0 W σ H ρ):WOk W H:=s.ext.ok
theorem Own1.step{b:Addr}(o:Own1 K H0 W H b xs)(x:Ext W H W1 H1):Own1 K H0 W1 H1 b xs:=by
 obtain⟨vs,e2,e3,e4,e5,r⟩:=o;refine⟨vs,x.h b _ e2 e4,?_,λq=>?_,e5,x.reps r⟩
 .cases q:W1.G b with
  |none=>rfl
  |some o=>have:=x.gf b e3 (by rw[q];simp);rw[e2] at this;cases this
 .have:=x.pf b e4 q;rw[e2] at this;cases this
theorem OwnT.step{a:Addr}{bs:List Addr}{xss:List (List D)}(o:OwnT K H0 W H a bs xss)(x:Ext W H W1 H1):OwnT K H0 W1 H1 a bs xss:=by
 refine⟨x.h a _ o.a1 o.a3,?_,λq=>?_,o.a4,o.nd,o.len,λi b e=>let⟨xs,e1,q⟩:=o.row i b e;⟨xs,e1,q.step x⟩⟩
 .cases q:W1.G a with
  |none=>rfl
  |some u=>have:=x.gf a o.a2 (by rw[q];simp);rw[o.a1] at this;cases this
 .have:=x.pf a o.a3 q;rw[o.a1] at this;cases this
theorem OwnT.here{a c:Addr}{bs:List Addr}(o:OwnT K H0 W H a bs xss)(h:H c=none):c∉a::bs:=λq=>by
 rcases Yan.mp q with rfl|q
 .rw[o.a1] at h;cases h
 .obtain⟨i,hi,rfl⟩:=Ybu.mp q
  obtain⟨xs,_,vs,e,_⟩:=o.row i _ (bW hi);rw[e] at h;cases h
theorem OwnT.noPen{a c:Addr}{bs:List Addr}(o:OwnT K H0 W H a bs xss)(h:W.Pn c):c∉a::bs:=λq=>by
 rcases Yan.mp q with rfl|q
 .exact o.a3 h
 .obtain⟨i,hi,rfl⟩:=Ybu.mp q
  obtain⟨xs,_,vs,_,_,e,_⟩:=o.row i _ (bW hi);exact e h
theorem OwnT.upd{a c:Addr}{o':HO}{bs:List Addr}{xss:List (List D)}(o:OwnT K H0 W H a bs xss)(h:c∉a::bs):OwnT K H0 W (upd H c o') a bs xss:=by
 have ha:a≠c:=λz=>h (by rw[z];simp);refine⟨by rw[aI ha];exact o.a1,o.a2,o.a3,o.a4,o.nd,o.len,λi b e=>?_⟩;obtain⟨xs,e1,vs,q⟩:=o.row i b e;have hb:b≠c:=λz=>h (by rw[<-z];exact gR _ (h8 e));exact⟨xs,e1,vs,by rw[aI hb];exact q⟩
theorem OwnT.put{a c:Addr}{o':HO}{bs:List Addr}{xss:List (List D)}(o:OwnT K H0 W H a bs xss)(h:c∉a::bs)(hc:W.G c=none):OwnT K H0 (W.put c o') H a bs xss:=by
 have ha:a≠c:=λz=>h (by rw[z];simp);refine⟨o.a1,by unfold Wd.put;dsimp only;rw[aI ha];exact o.a2,o.a3,o.a4,o.nd,o.len,λi b e=>?_⟩;obtain⟨xs,e1,vs,q1,q2,q3,q4,q5⟩:=o.row i b e;have hb:b≠c:=λz=>h (by rw[<-z];exact gR _ (h8 e));exact⟨xs,e1,vs,q1,by unfold Wd.put;dsimp only;rw[aI hb];exact q2,q3,q4,q5.mono (pQ hc) λ_ z=>z⟩
theorem OOs.none(h:∀(i:Nat) xss,ρ[i]?≠some (SV.oo xss)):OOs K H0 W σ H ρ:=⟨λi xss e=>Nq e (h i xss),λi j xss yss e=>Nq e (h i xss)⟩
theorem OOs.step(o:OOs K H0 W σ H ρ)(x:Ext W H W1 H1):OOs K H0 W1 σ H1 ρ:=⟨λi xss e=>let⟨a,bs,e1,q,n⟩:=o.t i xss e;⟨a,bs,e1,q.step x,n⟩,o.u⟩
theorem OOs.set{σ':L2.St}(o:OOs K H0 W σ H ρ){i:Nat}{y:SV}(hy:∀xss,y≠.oo xss)(hσ:∀j,i≠j->σ'[j]? = σ[j]?)(hw:∀ys c,y=.ow ys->σ'[i]? = some (some (V.ref c))->∀(j:Nat) xss a bs,i≠j->ρ[j]? = some (SV.oo xss)->σ[j]? = some (some (V.ref a))->OwnT K H0 W H a bs xss->(∀(j:Nat) ys c,ρ[j]? = some (SV.ow ys)->σ[j]? = some (some (V.ref c))->c∉a::bs)->c∉a::bs):OOs K H0 W σ' H (ρ.set i y):=by
 have nt:∀{j:Nat} {xss:List (List D)},(ρ.set i y)[j]? = some (SV.oo xss)->i≠j/\ρ[j]? = some (SV.oo xss):=λ{j xss} e=>by
  by_cases h:i=j
  .subst h
   by_cases hi:i<ρ.length
   .rw[eI hi] at e;cases e;exact Nq rfl (hy xss)
   .rw[eP (by rw[d8];omega)] at e;cases e
  .rw[d7 h] at e;exact⟨h,e⟩
 refine⟨λj xss e=>?_,λj k xss yss e1 e2=>o.u j k xss yss (nt e1).2 (nt e2).2⟩;obtain⟨h,e'⟩:=nt e;clear e;obtain⟨a,bs,e1,q,n⟩:=o.t j xss e';refine⟨a,bs,by rw[hσ j h];exact e1,q,λk ys c ek ec=>?_⟩
 by_cases hk:i=k
 .subst hk
  by_cases hi:i<ρ.length
  .rw[eI hi] at ek;cases ek;exact hw ys c rfl ec j xss a bs h e' e1 q n
  .rw[eP (by rw[d8];omega)] at ek;cases ek
 .rw[d7 hk] at ek
  rw[hσ k hk] at ec;exact n k ys c ek ec
theorem SOk.step(s:SOk K W0 H0 W σ H ρ)(x:Ext W H W1 H1):SOk K W0 H0 W1 σ H1 ρ where
 ext:=s.ext.trans x
 len:=s.len
 d:=λi y e=>let⟨v,e1,r⟩:=s.d i y e;⟨v,e1,x.rep r⟩
 o:=λi ys e=>by
  obtain⟨a,vs,e1,e2,e3,e4,e5,r⟩:=s.o i ys e;refine⟨a,vs,e1,x.h a _ e2 e4,?_,λq=>?_,e5,x.reps r⟩
  .cases q:W1.G a with
   |none=>rfl
   |some o=>have:=x.gf a e3 (by rw[q];simp);rw[e2] at this;cases this
  .have:=x.pf a e4 q;rw[e2] at this;cases this
 ne:=s.ne
 oo:=s.oo.step x
end
abbrev Ex:=Str
def xN(K:Nn)(W:Wd)(_:Hp)(cls:Value)(dx:Option Addr)(ex:Ex):Prop:=∃C,iH K (nX ex)=some C/\cls=.ref C/\XD W ex dx
def jz(K:Nn)(W0:Wd)(H0:Hp)(E:Ex->Prop)(EX:XK):Prop:=∀ex W' H' cls dx,E ex->Ext W0 H0 W' H'->xN K W' H' cls dx ex->EX cls dx H'
abbrev WE:=(Ex->Prop)->cP->(D->Prop)->Prop
variable{wa wb wc w we wv wo:WE}
abbrev WT:=(Ex->Prop)->cP->(Bool->Prop)->Prop
variable{wf wt:WT}
abbrev WA:=(Ex->Prop)->cP->(List D->Prop)->Prop
variable{wi:WA}
def RQ(K:Nn)(W:Wd)(H:Hp)(Q:VK)(d:D):Prop:=∀v W' H',Ext W H W' H'->Rep K W' v d->Q v H'
structure PX(X:Cx)(EX:XK)(e:Expr)(w:WE):Prop where
 t:∃t,PE X e t/\∀W0 H0 W σ H ρ E Q,SOk X.K W0 H0 W σ H ρ->jz X.K W0 H0 E EX->w E ρ (RQ X.K W H Q)->t σ H Q
 mono:∀E ρ P P',(∀d,P d->P' d)->w E ρ P->w E ρ P'
structure lb(X:Cx)(EX:XK)(e:Expr)(w:WT):Prop where
 t:∃t,PT X e t/\∀W0 H0 W σ H ρ E Q,SOk X.K W0 H0 W σ H ρ->jz X.K W0 H0 E EX->w E ρ (λb=>∀W' H',Ext W H W' H'->Q b H')->t σ H Q
 mono:∀E ρ P P',(∀d,P d->P' d)->w E ρ P->w E ρ P'
structure iY(X:Cx)(EX:XK)(es:List Expr)(w:WA):Prop where
 t:∃t,PA X es t/\∀W0 H0 W σ H ρ E Q,SOk X.K W0 H0 W σ H ρ->jz X.K W0 H0 E EX->w E ρ (λds=>∀vs W' H',Ext W H W' H'->Reps X.K W' vs ds->Q vs H')->t σ H Q
 mono:∀E ρ P P',(∀d,P d->P' d)->w E ρ P->w E ρ P'
structure PXL(X:Cx)(EX:XK)(e:Expr)(w:WA):Prop where
 t:∃t,PE X e t/\∀W0 H0 W σ H ρ E Q,SOk X.K W0 H0 W σ H ρ->jz X.K W0 H0 E EX->
  w E ρ (λds=>∀a vs W' H',Ext W H W' H'->H' a=some (.lst vs)->W'.G a=none->¬W'.Pn a->H a=none->Reps X.K W' vs ds->Q (.ref a) H')->t σ H Q
 mono:∀E ρ P P',(∀d,P d->P' d)->w E ρ P->w E ρ P'
structure Nds where
 nx:cP->Prop
 rt:D->Prop
 bk:cP->Prop:=λ_=>False
 ct:cP->Prop:=λ_=>False
variable{N:Nds}
structure Wle(F W:Wd):Prop where
 g:∀a o,F.G a=some o->W.G a=some o
 p:∀a,F.Pn a->W.Pn a
theorem Wle.refl(F:Wd):Wle F F:=⟨λ_ _ e=>e,λ_ e=>e⟩
theorem Wle.trans{F W V:Wd}(a:Wle F W)(b:Wle W V):Wle F V:=⟨λx o e=>b.g x o (a.g x o e),λx e=>b.p x (a.p x e)⟩
theorem Wle.ext{F W:Wd}(a:Wle F W)(x:Ext W H W1 H1):Wle F W1:=a.trans ⟨x.g,x.p⟩
structure AN(K:Nn)(W0:Wd)(H0:Hp)(F:Wd)(Dn:jJ)(N:Nds):Prop where
 nx:∀W σ H ρ,SOk K W0 H0 W σ H ρ->Wle F W->N.nx ρ->Dn.nx σ H
 rt:∀d v W H,Ext W0 H0 W H->Rep K W v d->N.rt d->Dn.rt v H
 bk:∀W σ H ρ,SOk K W0 H0 W σ H ρ->Wle F W->N.bk ρ->Dn.bk σ H
 ct:∀W σ H ρ,SOk K W0 H0 W σ H ρ->Wle F W->N.ct ρ->Dn.ct σ H
structure Nds.le(N N':Nds):Prop where
 nx:∀ρ,N.nx ρ->N'.nx ρ
 rt:∀d,N.rt d->N'.rt d
 bk:∀ρ,N.bk ρ->N'.bk ρ
 ct:∀ρ,N.ct ρ->N'.ct ρ
theorem Nds.le.refl(N:Nds):N.le N:=⟨λ_ h=>h,λ_ h=>h,λ_ h=>h,λ_ h=>h⟩
abbrev WS:=(Ex->Prop)->Nds->cP->Prop
variable{z' zb:WS}
structure PZ(X:Cx)(EX:XK)(st:Stmt)(z:WS):Prop where
 t:∃t,PS X st t/\∀W0 H0 F W σ H ρ E Dn N,SOk X.K W0 H0 W σ H ρ->Wle F W->jz X.K W0 H0 E EX->AN X.K W0 H0 F Dn N->z E N ρ->t Dn σ H
 mono:∀E ρ N N',N.le N'->z E N ρ->z E N' ρ
structure je(X:Cx)(EX:XK)(st:List Stmt)(z:WS):Prop where
 t:∃t,PSs X st t/\∀W0 H0 F W σ H ρ E Dn N,SOk X.K W0 H0 W σ H ρ->Wle F W->jz X.K W0 H0 E EX->AN X.K W0 H0 F Dn N->z E N ρ->t Dn σ H
 mono:∀E ρ N N',N.le N'->z E N ρ->z E N' ρ
section
variable{W:Wd}{Q:VK}
theorem RQ.ext(h:RQ K W H Q d)(x:Ext W H W1 H1):RQ K W1 H1 Q d:=λv W' H' y r=>h v W' H' (x.trans y) r
theorem RQ.now(h:RQ K W H Q d)(ok:WOk W H){v:V}(r:Rep K W v d):Q v H:=h v W H (.refl ok) r
theorem RQ.tup{vs:List V}{ds:List D}(h:RQ K W H Q (.tup ds))(ok:WOk W H)(r:Reps K W vs ds){p:Addr}(hp:H p=none):Q (.ref p) (upd H p (.tup vs)):=by
 have x:=Ext.put (o:=.tup vs) ok hp;exact h _ _ _ x (.tup (by unfold Wd.put;dsimp only;rw[aP]) (x.reps r))
theorem RQ.lst{vs:List V}{ds:List D}(h:RQ K W H Q (.lst ds))(ok:WOk W H)(r:Reps K W vs ds){p:Addr}(hp:H p=none):Q (.ref p) (upd H p (.lst vs)):=by
 have x:=Ext.put (o:=.lst vs) ok hp;exact h _ _ _ x (.lst (by unfold Wd.put;dsimp only;rw[aP]) (x.reps r))
theorem Rep.sqt{a:V}(r:Rep K W a (.tup ds))(ok:WOk W H):∃p vs,a=.ref p/\SqT K H p vs/\Reps K W vs ds:=by
 cases r with
 |tup e r=>exact⟨_,_,rfl,.inl (.inl (ok.g _ _ e)),r⟩
 |ktup e r=>exact⟨_,_,rfl,.inr e,r⟩
theorem Rd.up{a:Addr}{u:HO}(r:Rd W.G a u)(ok:WOk W H):Rd H a u:=r.elim (λz=>.inl (ok.g _ _ z)) λ⟨o,z⟩=>.inr ⟨o,ok.g _ _ z⟩
theorem Rep.sql{a:V}(r:Rep K W a (.lst ds))(ok:WOk W H):∃p vs,a=.ref p/\SqL K H p vs/\Reps K W vs ds:=by
 cases r with
 |lst e r=>exact⟨_,_,rfl,.inl (.inl (ok.g _ _ e)),r⟩
theorem Rep.sqs{a:V}(r:Rep K W a (.scr ds))(ok:WOk W H):∃p vs,a=.ref p/\SqL K H p vs/\Reps K W vs ds:=by
 cases r with
 |scr e r=>exact⟨_,_,rfl,e.elim (λ⟨o,e⟩=>.inl (.inr ⟨o,ok.g _ _ e⟩)) .inr,r⟩
end
section
variable{pos:Pos}
def wN(i:Nat):WE:=λ_ ρ Q=>match ρ[i]? with
 |some (.d x)=>Q x
 |_=>False
theorem aD(i:Nat)(hN:X.N[i]? = some x:=by rfl)(hv:pq X.env.scope x:=by first|exact Or.inl rfl|exact Or.inr (Or.inl rfl)|exact Or.inr (Or.inr rfl))(hd:(x==("__debug__" : Str))=false:=by decide)
  (hcd:(x==("__classdict__" : Str))=false:=by decide):PX X EX (.Name x pos) (wN i):=by
 refine⟨⟨_,eL hN hv hd hcd,λW0 H0 W σ H ρ E Q s _ h=>?_⟩,λE ρ P P' hp h=>?_⟩
 .unfold wN at h
  split at h
  .rename_i x e
   obtain⟨v,e1,r⟩:=s.d i x e;exact⟨v,e1,h.now s.ok r⟩
  .exact h.elim
 .unfold wN at h ⊢
  split at h
  .exact hp _ h
  .exact h.elim
def wC(d:D):WE:=λ_ _ Q=>Q d
theorem wC.mono:∀(E:Ex->Prop) ρ P P',(∀d,P d->P' d)->wC d E ρ P->wC d E ρ P':=λ_ _ _ _ hp h=>hp _ h
theorem aL{i j}:PX X EX (.Constant (.int i) j pos) (wC (.int i)):=⟨⟨_,jK,λ_ _ _ _ _ _ _ _ s _ h=>RQ.now h s.ok (.int i)⟩,wC.mono⟩
theorem fN{b j}:PX X EX (.Constant (.bool b) j pos) (wC (.bl b)):=⟨⟨_,ur,λ_ _ _ _ _ _ _ _ s _ h=>RQ.now h s.ok (.bl b)⟩,wC.mono⟩
theorem xO{j}:PX X EX (.Constant .none j pos) (wC .non):=⟨⟨_,rg,λ_ _ _ _ _ _ _ _ s _ h=>RQ.now h s.ok .non⟩,wC.mono⟩
theorem iI{x j}:PX X EX (.Constant (.str x) j pos) (wC (.str x)):=⟨⟨_,rh,λ_ _ _ _ _ _ _ _ s _ h=>RQ.now h s.ok (.str x)⟩,wC.mono⟩
theorem AO{v:V}{u:Value}(hm:X.mg x=some u)(r:RelV v u)(rd:∀W,Rep X.K W v d)(hg:Gl X x:=by rfl)(hd:(x==("__debug__" : Str))=false:=by decide):PX X EX (.Name x pos) (wC d):=
 ⟨⟨_,pv hg hm r hd,λ_ _ _ _ _ _ _ _ s _ h=>RQ.now h s.ok (rd _)⟩,wC.mono⟩
theorem IK{v:V}{u:Value}(hm:X.mg x=none)(hv:bootBuiltins x=some u)(r:RelV v u)(rd:∀W,Rep X.K W v d)(hg:Gl X x:=by rfl)(hn:x≠ "__name__" :=by decide)(hd:(x==("__debug__" : Str))=false:=by decide):PX X EX (.Name x pos) (wC d):=
 ⟨⟨_,pw hg hm hv r hn hd,λ_ _ _ _ _ _ _ _ s _ h=>RQ.now h s.ok (rd _)⟩,wC.mono⟩
end
abbrev G2:=D->D->(D->Prop)->Prop
structure gA(X:Cx)(f:Value->Value->Sem Value)(g:G2):Prop where
 t:∃r,OpR X f r/\∀W H x y dx dy Q,WOk W H->Rep X.K W x dx->Rep X.K W y dy->g dx dy (RQ X.K W H Q)->r x y H Q
 mono:∀x y P P',(∀d,P d->P' d)->g x y P->g x y P'
section
variable{pos:Pos}{a b:Expr}
def w2(g:G2)(wa wb:WE):WE:=λE ρ Q=>wa E ρ λx=>wb E ρ λy=>g x y Q
theorem w2.mono{g:G2}(ha:PX X EX a wa)(hb:PX X EX b wb)(hg:∀x y P P',(∀d,P d->P' d)->g x y P->g x y P'):∀E ρ P P',(∀d,P d->P' d)->w2 g wa wb E ρ P->w2 g wa wb E ρ P':=
 λE ρ P P' hp h=>ha.mono E ρ _ _ (λx hx=>hb.mono E ρ _ _ (λy hy=>hg x y _ _ hp hy) hx) h
theorem lg{ta tb:TE}{R:V->V->Hp->Prop}{G:D->D->Prop}{W:Wd}{E:Ex->Prop}(hma:∀E ρ P P',(∀d,P d->P' d)->wa E ρ P->wa E ρ P')(hmb:∀E ρ P P',(∀d,P d->P' d)->wb E ρ P->wb E ρ P')
  (ka:∀W0 H0 W σ H ρ E Q,SOk X.K W0 H0 W σ H ρ->jz X.K W0 H0 E EX->wa E ρ (RQ X.K W H Q)->ta σ H Q) (kb:∀W0 H0 W σ H ρ E Q,SOk X.K W0 H0 W σ H ρ->jz X.K W0 H0 E EX->wb E ρ (RQ X.K W H Q)->tb σ H Q)
  (s:SOk X.K W0 H0 W σ H ρ) (eo:jz X.K W0 H0 E EX) (h:wa E ρ λx=>wb E ρ λy=>G x y)
  (k:∀W2 H2 x y dx dy,Ext W H W2 H2->Rep X.K W2 x dx->Rep X.K W2 y dy->G dx dy->R x y H2):ta σ H λx H1=>tb σ H1 λy H2=>R x y H2:=
 ka W0 H0 W σ H ρ E _ s eo (hma E ρ _ _ (λdx hx v W1 H1 x1 r1=>kb W0 H0 W1 σ H1 ρ E _ (s.step x1) eo (hmb E ρ _ _ (λdy hy u W2 H2 x2 r2=>k W2 H2 v u dx dy (x1.trans x2) (x2.rep r1) r2 hy) hx)) h)
theorem aZ{op:Operator}{g:G2}(ho:gA X (binaryOp op) g)(ha:PX X EX a wa)(hb:PX X EX b wb):PX X EX (.BinOp a op b pos) (w2 g wa wb):=by
 obtain⟨ta,pa,ka⟩:=ha.t;obtain⟨tb,pb,kb⟩:=hb.t;obtain⟨r,pr,kr⟩:=ho.t;refine⟨⟨_,qm pr pa pb,λW0 H0 W σ H ρ E Q s eo h=>?_⟩,w2.mono ha hb ho.mono⟩;exact lg ha.mono hb.mono ka kb s eo h λW2 H2 x y dx dy x2 rx ry hg=>kr W2 H2 x y dx dy Q x2.ok rx ry (ho.mono _ _ _ _ (λd hd=>RQ.ext hd x2) hg)
theorem g6{g:G2}(ho:gA X (compareOp op) g)(ha:PX X EX a wa)(hb:PX X EX b wb)(hm:behindInMarks op b=false:=by first|exact nE _|with_unfolding_all rfl):PX X EX (.Compare a [op] [b] pos) (w2 g wa wb):=by
 obtain⟨ta,pa,ka⟩:=ha.t;obtain⟨tb,pb,kb⟩:=hb.t;obtain⟨r,pr,kr⟩:=ho.t;refine⟨⟨_,pG pr pa pb hm,λW0 H0 W σ H ρ E Q s eo h=>?_⟩,w2.mono ha hb ho.mono⟩;exact lg ha.mono hb.mono ka kb s eo h λW2 H2 x y dx dy x2 rx ry hg=>kr W2 H2 x y dx dy Q x2.ok rx ry (ho.mono _ _ _ _ (λd hd=>RQ.ext hd x2) hg)
def isB(Q:Bool->Prop):D->Prop
 |.bl b=>Q b
 |_=>False
theorem isB.mono{Q Q':Bool->Prop}(h:∀b,Q b->Q' b):∀d,isB Q d->isB Q' d
 |.bl b,z=>h b z
 |.non,z=>z|.int _,z=>z|.str _,z=>z|.tup _,z=>z|.lst _,z=>z|.dic,z=>z|.pen,z=>z|.cls _,z=>z|.exc _,z=>z|.ty _,z=>z|.scr _,z=>z
def wT(w:WE):WT:=λE ρ Q=>w E ρ (isB Q)
theorem r8{Q:Bool->Prop}(h:isB Q d):∃b,d=.bl b/\Q b:=by
 cases d with
 |bl b=>exact⟨b,rfl,h⟩
 |_=>exact h.elim
theorem wT.mono{w:WE}(h:∀E ρ P P',(∀d,P d->P' d)->w E ρ P->w E ρ P'):∀E ρ P P',(∀d,P d->P' d)->wT w E ρ P->wT w E ρ P':=λE ρ _ _ hp z=>h E ρ _ _ (isB.mono hp) z
theorem dB{g:G2}(ho:gA X (compareOp op) g)(ha:PX X EX a wa)(hb:PX X EX b wb)(hm:behindInMarks op b=false:=by first|exact nE _|with_unfolding_all rfl):lb X EX (.Compare a [op] [b] pos) (wT (w2 g wa wb)):=by
 obtain⟨ta,pa,ka⟩:=ha.t;obtain⟨tb,pb,kb⟩:=hb.t;obtain⟨r,pr,kr⟩:=ho.t;refine⟨⟨_,pH pr pa pb hm,λW0 H0 W σ H ρ E Q s eo h=>?_⟩,wT.mono (w2.mono ha hb ho.mono)⟩;refine lg ha.mono hb.mono ka kb s eo h λW2 H2 x y dx dy x2 rx ry hg=>kr W2 H2 x y dx dy _ x2.ok rx ry (ho.mono _ _ _ _ (λd hd v W' H' x' r'=>?_) hg);obtain⟨b,rfl,q⟩:=r8 hd;cases r';exact⟨b,rfl,q W' H' (x2.trans x')⟩
theorem eE(ha:PX X EX a wa)(he:∀whole,isTrue a X.env whole=(do let v <-whole;standAt a.pos;holding [v] (truthy v)):=by intro _;rfl):lb X EX a (wT wa):=by
 obtain⟨ta,pa,ka⟩:=ha.t;refine⟨⟨_,nJ pa he,λW0 H0 W σ H ρ E Q s eo h=>?_⟩,wT.mono ha.mono⟩;refine ka W0 H0 W σ H ρ E _ s eo (ha.mono _ _ _ _ (λd hd v W' H' x' r'=>?_) h);obtain⟨b,rfl,q⟩:=r8 hd;cases r';exact⟨b,rfl,q W' H' x'⟩
def aW(w:WT):WT:=λE ρ Q=>w E ρ λb=>Q (!b)
theorem eh{w:WT}(ha:lb X EX a w):lb X EX (.UnaryOp .Not a pos) (aW w):=by
 obtain⟨ta,pa,ka⟩:=ha.t;refine⟨⟨_,rk pa,λW0 H0 W σ H ρ E Q s eo h=>?_⟩,λE ρ P P' hp h=>ha.mono _ _ _ _ (λb hb=>hp _ hb) h⟩;exact ka W0 H0 W σ H ρ E _ s eo h
structure PXW(X:Cx)(EX:XK)(e:Expr)(w:WT):Prop where
 t:∃t,PW X e t/\∀W0 H0 W σ H ρ E Q,SOk X.K W0 H0 W σ H ρ->jz X.K W0 H0 E EX->w E ρ (λb=>∀W' H',Ext W H W' H'->Q b H')->t σ H Q
 mono:∀E ρ P P',(∀d,P d->P' d)->w E ρ P->w E ρ P'
theorem PXW.pxt{w:WT}(h:PXW X EX a w):lb X EX a w:=let⟨t,p,k⟩:=h.t;⟨⟨t,p.pt,k⟩,h.mono⟩
variable{rest:List Expr}
def e7(w w':WT):WT:=λE ρ Q=>w E ρ λb=>if b=true then w' E ρ Q else Q false
def dC(w w':WT):WT:=λE ρ Q=>w E ρ λb=>if b=true then Q true else w' E ρ Q
theorem Ni{w:WT}(ha:lb X EX a w):PXW X EX (.BoolOp .And [a] pos) w:=let⟨t,p,k⟩:=ha.t;⟨⟨t,pz p,k⟩,ha.mono⟩
theorem i4{w:WT}(ha:lb X EX a w):PXW X EX (.BoolOp .Or [a] pos) w:=let⟨t,p,k⟩:=ha.t;⟨⟨t,rj p,k⟩,ha.mono⟩
theorem fU{w w':WT}(ha:lb X EX a w)(hb:PXW X EX (.BoolOp .Or (b::rest) pos) w'):PXW X EX (.BoolOp .Or (a::b::rest) pos) (dC w w'):=by
 obtain⟨ta,pa,ka⟩:=ha.t;obtain⟨tb,pb,kb⟩:=hb.t;refine⟨⟨_,ut pa pb,λW0 H0 W σ H ρ E Q s eo h=>?_⟩,λE ρ P P' hp h=>ha.mono _ _ _ _ (λb hb'=>?_) h⟩
 .refine ka W0 H0 W σ H ρ E _ s eo (ha.mono _ _ _ _ (λb hb' W1 H1 x1=>?_) h)
  cases b with
  |true=>rw[if_pos rfl] at hb' ⊢;exact hb' W1 H1 x1
  |false=>
   rw[if_neg (by decide)] at hb' ⊢;exact kb W0 H0 W1 σ H1 ρ E _ (s.step x1) eo (hb.mono _ _ _ _ (λb hq W' H' x'=>hq W' H' (x1.trans x')) hb')
 .cases b with
  |true=>rw[if_pos rfl] at hb' ⊢;exact hp _ hb'
  |false=>rw[if_neg (by decide)] at hb' ⊢;exact hb.mono _ _ _ _ hp hb'
end
section
variable{pos:Pos}{a b:Expr}{rest:List Expr}
def fo(wa wb:WE):WE:=λE ρ Q=>wa E ρ (isB λb=>if b=true then wb E ρ Q else Q (.bl false))
def e8(wa wb:WE):WE:=λE ρ Q=>wa E ρ (isB λb=>if b=true then Q (.bl true) else wb E ρ Q)
def jf(wa:WE):WE:=λE ρ Q=>wa E ρ (isB λb=>Q (.bl (!b)))
theorem oM{op}(h:PX X EX a wa):PX X EX (.BoolOp op [a] pos) wa:=let⟨t,q,k⟩:=h.t;⟨⟨t,rm q,k⟩,h.mono⟩
theorem lJ(ha:PX X EX a wa)(hb:PX X EX (.BoolOp .And (b::rest) pos) wb):PX X EX (.BoolOp .And (a::b::rest) pos) (fo wa wb):=by
 obtain⟨ta,pa,ka⟩:=ha.t;obtain⟨tb,pb,kb⟩:=hb.t;refine⟨⟨_,rn pa pb,λW0 H0 W σ H ρ E Q s eo h=>?_⟩,λE ρ P P' hp h=>ha.mono _ _ _ _ (isB.mono λb hb'=>?_) h⟩
 .refine ka W0 H0 W σ H ρ E _ s eo (ha.mono _ _ _ _ (λd hd v W1 H1 x1 r1=>?_) h)
  obtain⟨b,rfl,q⟩:=r8 hd;cases r1;refine⟨b,rfl,?_⟩;cases b with
  |true=>rw[if_pos rfl] at q ⊢;exact kb W0 H0 W1 σ H1 ρ E _ (s.step x1) eo (hb.mono _ _ _ _ (λd hd=>RQ.ext hd x1) q)
  |false=>rw[if_neg (by decide)] at q ⊢;exact q _ W1 H1 x1 (.bl false)
 .cases b with
  |true=>rw[if_pos rfl] at hb' ⊢;exact hb.mono _ _ _ _ hp hb'
  |false=>rw[if_neg (by decide)] at hb' ⊢;exact hp _ hb'
theorem Dq(ha:PX X EX a wa):PX X EX (.UnaryOp .Not a pos) (jf wa):=by
 obtain⟨ta,pa,ka⟩:=ha.t;refine⟨⟨_,rp pa,λW0 H0 W σ H ρ E Q s eo h=>?_⟩,λE ρ P P' hp h=>ha.mono _ _ _ _ (isB.mono λb hb'=>hp _ hb') h⟩;refine ka W0 H0 W σ H ρ E _ s eo (ha.mono _ _ _ _ (λd hd v W1 H1 x1 r1=>?_) h);obtain⟨b,rfl,q⟩:=r8 hd;cases r1;exact⟨b,rfl,q _ W1 H1 x1 (.bl _)⟩
def kx(wt:WT)(wa wb:WE):WE:=λE ρ Q=>wt E ρ λb=>if b=true then wa E ρ Q else wb E ρ Q
def Zb(g g':G2)(wa wb wc:WE):WE:=λE ρ Q=>wa E ρ λx=>wb E ρ λy=>g x y (isB λk=>if k=true then wc E ρ λz=>g' y z Q else Q (.bl false))
theorem Zb.mono{g g':G2}(ha:PX X EX a wa)(hb:PX X EX b wb)(hc:PX X EX c wc)(hg:∀x y P P',(∀d,P d->P' d)->g x y P->g x y P')(hg':∀x y P P',(∀d,P d->P' d)->g' x y P->g' x y P') :
  ∀E ρ P P',(∀d,P d->P' d)->Zb g g' wa wb wc E ρ P->Zb g g' wa wb wc E ρ P':=λE ρ P P' hp h=>
 ha.mono _ _ _ _ (λx hx=>hb.mono _ _ _ _ (λy hy=>hg x y _ _ (isB.mono λk hk=>by
  cases k with
  |true=>rw[if_pos rfl] at hk ⊢;exact hc.mono _ _ _ _ (λz hz=>hg' y z _ _ hp hz) hk
  |false=>rw[if_neg (by decide)] at hk ⊢;exact hp _ hk) hy) hx) h
theorem Dr{op':CmpOp}{g g':G2}(ho:gA X (compareOp op) g)(ho':gA X (compareOp op') g')(ha:PX X EX a wa)(hb:PX X EX b wb)(hc:PX X EX c wc)
  (hm:lastMarks [op,op'] [b,c]=false:=by with_unfolding_all rfl):PX X EX (.Compare a [op,op'] [b,c] pos) (Zb g g' wa wb wc):=by
 obtain⟨ta,pa,ka⟩:=ha.t;obtain⟨tb,pb,kb⟩:=hb.t;obtain⟨tc,pc,kc⟩:=hc.t;obtain⟨r,pr,kr⟩:=ho.t;obtain⟨r',pr',kr'⟩:=ho'.t;refine⟨⟨_,nG pr pr' pa pb pc hm,λW0 H0 W σ H ρ E Q s eo h=>?_⟩,Zb.mono ha hb hc ho.mono ho'.mono⟩;refine lg ha.mono hb.mono ka kb s eo h λW2 H2 x y dx dy x2 rx ry hg=>kr W2 H2 x y dx dy _ x2.ok rx ry (ho.mono _ _ _ _ (λd hd v W3 H3 x3 r3=>?_) hg);obtain⟨k,rfl,q⟩:=r8 hd;cases r3;refine⟨k,rfl,?_⟩;cases k with
 |true=>
  rw[if_pos rfl] at q ⊢;refine kc W0 H0 W3 σ H3 ρ E _ (s.step (x2.trans x3)) eo (hc.mono _ _ _ _ (λdz hz w W4 H4 x4 r4=>?_) q);exact kr' W4 H4 y w dy dz Q x4.ok (x4.rep (x3.rep ry)) r4 (ho'.mono _ _ _ _ (λd hd=>RQ.ext hd (x2.trans (x3.trans x4))) hz)
 |false=>rw[if_neg (by decide)] at q ⊢;exact q _ W3 H3 (x2.trans x3) (.bl false)
theorem IL{op':CmpOp}{g g':G2}(ho:gA X (compareOp op) g)(ho':gA X (compareOp op') g')(ha:PX X EX a wa)(hb:PX X EX b wb)(hc:PX X EX c wc)
  (hm:lastMarks [op,op'] [b,c]=false:=by with_unfolding_all rfl):lb X EX (.Compare a [op,op'] [b,c] pos) (wT (Zb g g' wa wb wc)):=by
 obtain⟨ta,pa,ka⟩:=ha.t;obtain⟨tb,pb,kb⟩:=hb.t;obtain⟨tc,pc,kc⟩:=hc.t;obtain⟨r,pr,kr⟩:=ho.t;obtain⟨r',pr',kr'⟩:=ho'.t;refine⟨⟨_,nI pr pr' pa pb pc hm,λW0 H0 W σ H ρ E Q s eo h=>?_⟩,wT.mono (Zb.mono ha hb hc ho.mono ho'.mono)⟩;refine lg ha.mono hb.mono ka kb s eo h λW2 H2 x y dx dy x2 rx ry hg=>kr W2 H2 x y dx dy _ x2.ok rx ry (ho.mono _ _ _ _ (λd hd v W3 H3 x3 r3=>?_) hg);obtain⟨k,rfl,q⟩:=r8 hd;cases r3;refine⟨k,rfl,?_⟩;cases k with
 |true=>
  rw[if_pos rfl] at q ⊢;refine kc W0 H0 W3 σ H3 ρ E _ (s.step (x2.trans x3)) eo (hc.mono _ _ _ _ (λdz hz w W4 H4 x4 r4=>?_) q);refine kr' W4 H4 y w dy dz _ x4.ok (x4.rep (x3.rep ry)) r4 (ho'.mono _ _ _ _ (λd hd v5 W5 H5 x5 r5=>?_) hz);obtain⟨b,rfl,q'⟩:=r8 hd;cases r5;exact⟨b,rfl,q' W5 H5 (x2.trans (x3.trans (x4.trans x5)))⟩
 |false=>rw[if_neg (by decide)] at q ⊢;exact⟨false,rfl,q W3 H3 (x2.trans x3)⟩
def aA:WA:=λ_ _ Q=>Q []
def aC(w:WE)(t:WA):WA:=λE ρ Q=>w E ρ λx=>t E ρ λxs=>Q (x::xs)
theorem aH:iY X EX [] aA:=⟨⟨_,nM,λ_ _ W _ H _ _ _ s _ h=>h [] W H (.refl s.ok) .nil⟩,λ_ _ _ _ hp h=>hp _ h⟩
theorem Za{t:WA}(ha:PX X EX e w)(hr:iY X EX es t)(hs:starEach (e::es) X.env=(false,eval e X.env)::starEach es X.env:=by rfl):iY X EX (e::es) (aC w t):=by
 obtain⟨ta,pa,ka⟩:=ha.t;obtain⟨tr,pr,kr⟩:=hr.t;refine⟨⟨_,kn pa pr hs,λW0 H0 W σ H ρ E Q s eo h=>?_⟩,λE ρ P P' hp h=>ha.mono _ _ _ _ (λd hd=>hr.mono _ _ _ _ (λds hds=>hp _ hds) hd) h⟩;refine ka W0 H0 W σ H ρ E _ s eo (ha.mono _ _ _ _ (λd hd v W1 H1 x1 r1=>?_) h);exact kr W0 H0 W1 σ H1 ρ E _ (s.step x1) eo (hr.mono _ _ _ _ (λds hds vs W2 H2 x2 r2=>hds _ W2 H2 (x1.trans x2) (.cons (x2.rep r1) r2)) hd)
def aM:Nat:=10000
theorem pR(h:n<=aM):n<=sizeLine:=fQ h (by rw[sizeLine_eq];decide)
def aX(t:WA):WE:=λE ρ Q=>t E ρ λxs=>xs.length<=aM/\Q (.tup xs)
def bN(t:WA):WA:=λE ρ Q=>t E ρ λxs=>xs.length<=aM/\Q xs
theorem fb{t:WA}{x1}(h:iY X EX es t):PX X EX (.Tuple es x1 pos) (aX t):=by
 obtain⟨ta,pa,ka⟩:=h.t;refine⟨⟨_,rO pa,λW0 H0 W σ H ρ E Q s eo hw=>?_⟩,λE ρ P P' hp z=>h.mono _ _ _ _ (λds hds=>⟨hds.1,hp _ hds.2⟩) z⟩;refine ka W0 H0 W σ H ρ E _ s eo (h.mono _ _ _ _ (λds hds vs W1 H1 x1 r1=>?_) hw);refine⟨by rw[r1.length];exact pR hds.1,λq hq=>?_⟩;exact(RQ.ext hds.2 x1).tup x1.ok r1 hq
theorem gB{t:WA}(h:iY X EX es t):PXL X EX (.List es pos) (bN t):=by
 obtain⟨ta,pa,ka⟩:=h.t;refine⟨⟨_,rP pa,λW0 H0 W σ H ρ E Q s eo hw=>?_⟩,λE ρ P P' hp z=>h.mono _ _ _ _ (λds hds=>⟨hds.1,hp _ hds.2⟩) z⟩;refine ka W0 H0 W σ H ρ E _ s eo (h.mono _ _ _ _ (λds hds vs W1 H1 x1 r1=>?_) hw);refine⟨by rw[r1.length];exact pR hds.1,λq hq=>?_⟩;exact hds.2 q vs W1 _ (x1.trans (.new x1.ok hq)) aP (x1.ok.fresh hq).1 (x1.ok.fresh hq).2 (x1.isN hq) r1
def wL(t:WA):WE:=λE ρ Q=>t E ρ λds=>Q (.lst ds)
theorem PXL.px{t:WA}(h:PXL X EX e t):PX X EX e (wL t):=by
 obtain⟨ta,pa,ka⟩:=h.t;refine⟨⟨_,pa,λW0 H0 W σ H ρ E Q s eo hw=>?_⟩,λE ρ P P' hp z=>h.mono _ _ _ _ (λds hds=>hp _ hds) z⟩;refine ka W0 H0 W σ H ρ E _ s eo (h.mono _ _ _ _ (λds hds a vs W1 H1 x1 e1 e2 e3 e4 r1=>?_) hw);refine hds _ _ _ (x1.pub e4 e1 e3 e2) (.lst (by unfold Wd.put;dsimp only;rw[aP]) (r1.mono (pQ e2) λ_ z=>z))
structure dZ(X:Cx)(f:Value)(g:List D->(D->Prop)->Prop):Prop where
 t:∃r,CallR X f r/\∀W H vs ds Q,WOk W H->Reps X.K W vs ds->g ds (RQ X.K W H Q)->r vs H Q
 mono:∀ds P P',(∀d,P d->P' d)->g ds P->g ds P'
structure qz(X:Cx)(f:Value)(g:List D->(List D->Prop)->Prop):Prop where
 t:∃r,CallR X f r/\∀W H vs ds Q,WOk W H->Reps X.K W vs ds->g ds (λes=>∀a us,H a=none->Reps X.K W us es->Q (.ref a) (upd H a (.lst us)))->r vs H Q
 mono:∀ds P P',(∀d,P d->P' d)->g ds P->g ds P'
def wB(g:List D->(D->Prop)->Prop)(t:WA):WE:=λE ρ Q=>t E ρ λds=>g ds Q
def aB(g:List D->(List D->Prop)->Prop)(t:WA):WA:=λE ρ Q=>t E ρ λds=>g ds Q
variable{id T:String}{t:WA}
theorem cC(hc:dZ X (.builtin id) g)(hm:X.mg x=none)(hv:bootBuiltins x=some (.builtin id))(ha:iY X EX (e::es) t)(hg:Gl X x:=by rfl)(hn:x≠ "__name__" :=by decide)(hdb:(x==("__debug__" : Str))=false:=by decide)
  (he:starEach (e::es) X.env=(false,eval e X.env)::starEach es X.env:=by rfl) (hpl:(backTo pos (starEach es X.env)).any (·.1)=false:=by rfl):PX X EX (.Call (.Name x p) (e::es) [] pos) (wB g t):=by
 obtain⟨ta,pa,ka⟩:=ha.t;obtain⟨r,pr,kr⟩:=hc.t;refine⟨⟨_,nO pr hg hm hv pa hn hdb he hpl,λW0 H0 W σ H ρ E Q s eo h=>?_⟩,λE ρ P P' hp z=>ha.mono _ _ _ _ (λds hds=>hc.mono _ _ _ hp hds) z⟩;exact ka W0 H0 W σ H ρ E _ s eo (ha.mono _ _ _ _ (λds hds vs W1 H1 x1 r1=>kr W1 H1 vs ds Q x1.ok r1 (hc.mono _ _ _ (λd hd=>RQ.ext hd x1) hds)) h)
theorem nY(hc:dZ X (.type T) g)(hm:X.mg x=none)(hv:bootBuiltins x=some (.type T))(ha:iY X EX (e::es) t)(hg:Gl X x:=by rfl)(hn:x≠ "__name__" :=by decide)(hdb:(x==("__debug__" : Str))=false:=by decide)
  (he:starEach (e::es) X.env=(false,eval e X.env)::starEach es X.env:=by rfl) (hpl:(backTo pos (starEach es X.env)).any (·.1)=false:=by rfl):PX X EX (.Call (.Name x p) (e::es) [] pos) (wB g t):=by
 obtain⟨ta,pa,ka⟩:=ha.t;obtain⟨r,pr,kr⟩:=hc.t;refine⟨⟨_,ii pr hg hm hv pa hn hdb he hpl,λW0 H0 W σ H ρ E Q s eo h=>?_⟩,λE ρ P P' hp z=>ha.mono _ _ _ _ (λds hds=>hc.mono _ _ _ hp hds) z⟩;exact ka W0 H0 W σ H ρ E _ s eo (ha.mono _ _ _ _ (λds hds vs W1 H1 x1 r1=>kr W1 H1 vs ds Q x1.ok r1 (hc.mono _ _ _ (λd hd=>RQ.ext hd x1) hds)) h)
theorem AQ{g:List D->(List D->Prop)->Prop}(hc:qz X (.type T) g)(hm:X.mg x=none)(hv:bootBuiltins x=some (.type T))(ha:iY X EX (e::es) t)(hg:Gl X x:=by rfl)(hn:x≠ "__name__" :=by decide)(hdb:(x==("__debug__" : Str))=false:=by decide)
  (he:starEach (e::es) X.env=(false,eval e X.env)::starEach es X.env:=by rfl) (hpl:(backTo pos (starEach es X.env)).any (·.1)=false:=by rfl):PXL X EX (.Call (.Name x p) (e::es) [] pos) (aB g t):=by
 obtain⟨ta,pa,ka⟩:=ha.t;obtain⟨r,pr,kr⟩:=hc.t;refine⟨⟨_,ii pr hg hm hv pa hn hdb he hpl,λW0 H0 W σ H ρ E Q s eo h=>?_⟩,λE ρ P P' hp z=>ha.mono _ _ _ _ (λds hds=>hc.mono _ _ _ hp hds) z⟩;refine ka W0 H0 W σ H ρ E _ s eo (ha.mono _ _ _ _ (λds hds vs W1 H1 x1 r1=>kr W1 H1 vs ds Q x1.ok r1 (hc.mono _ _ _ (λes' hd a us hn' r2=>?_) hds)) h);exact hd a us W1 _ (x1.trans (.new x1.ok hn')) aP (x1.ok.fresh hn').1 (x1.ok.fresh hn').2 (x1.isN hn') r2
abbrev bF:=List D->(Ex->Prop)->(D->Prop)->Prop
def nZ(S:bF):Prop:=∀ds E E' Q Q',(∀ex,E ex->E' ex)->(∀d,Q d->Q' d)->S ds E Q->S ds E' Q'
def fV(K:Nn)(S:bF):Sp:=λvs H Q EX=>∃ds W,WOk W H/\Reps K W vs ds/\S ds (λex=>∀W' H' cls dx,Ext W H W' H'->xN K W' H' cls dx ex->EX cls dx H') (RQ K W H Q)
def wF(S:bF)(t:WA):WE:=λE ρ Q=>t E ρ λds=>S ds E Q
theorem IM{CX:kT}{S:bF}(F:FnOk X.prog X.w X.K X.mg X.base CX k f fd ps (fV X.K S))(hS:nZ S)(hr:Room k X.A)(hm:X.mg x=some (.ref f))(hk:PySem.W.keepIn X.K (.ref f)=true)(hb:Binds X.K fd ps [])
  (hx:cQ CX X EX) (ha:iY X EX (e::es) t) (hg:Gl X x:=by rfl) (hdb:(x==("__debug__" : Str))=false:=by decide) (he:starEach (e::es) X.env=(false,eval e X.env)::starEach es X.env:=by rfl) (hpl:(backTo pos (starEach es X.env)).any (·.1)=false:=by rfl) :
  PX X EX (.Call (.Name x p) (e::es) [] pos) (wF S t):=by
 obtain⟨ta,pa,ka⟩:=ha.t;refine⟨⟨_,pI F hr hg hm hk hb .nil hx pa hdb he hpl,λW0 H0 W σ H ρ E Q s eo h=>?_⟩,λE ρ P P' hp z=>ha.mono _ _ _ _ (λds hds=>hS _ _ _ _ _ (λ_ q=>q) hp hds) z⟩;refine ka W0 H0 W σ H ρ E _ s eo (ha.mono _ _ _ _ (λds hds vs W1 H1 x1 r1=>?_) h);refine⟨ds,W1,x1.ok,by rw[qh];exact r1,hS _ _ _ _ _ (λex hex W' H' cls dx x' r'=>?_) (λd hd=>RQ.ext hd x1) hds⟩;exact eo ex W' H' cls dx hex (s.ext.trans (x1.trans x')) r'
structure AR(X:Cx)(g:G2):Prop where
 t:∃r,IxR X r/\∀W H x y dx dy Q,WOk W H->Rep X.K W x dx->Rep X.K W y dy->g dx dy (RQ X.K W H Q)->r x y H Q
 mono:∀x y P P',(∀d,P d->P' d)->g x y P->g x y P'
theorem bJ{g:G2}(ho:AR X g)(ha:PX X EX a wa)(hb:PX X EX b wb)(hs:iA b:=by exact λ_ _=>rfl):PX X EX (.Subscript a b pos) (w2 g wa wb):=by
 obtain⟨ta,pa,ka⟩:=ha.t;obtain⟨tb,pb,kb⟩:=hb.t;obtain⟨r,pr,kr⟩:=ho.t;refine⟨⟨_,qs pr pa pb hs,λW0 H0 W σ H ρ E Q s eo h=>?_⟩,w2.mono ha hb ho.mono⟩;exact lg ha.mono hb.mono ka kb s eo h λW2 H2 x y dx dy x2 rx ry hg=>kr W2 H2 x y dx dy Q x2.ok rx ry (ho.mono _ _ _ _ (λd hd=>RQ.ext hd x2) hg)
structure Ds(X:Cx)(f:Value->Sem Value)(g:D->(D->Prop)->Prop):Prop where
 t:∃r,xC X f r/\∀W H x dx Q,WOk W H->Rep X.K W x dx->g dx (RQ X.K W H Q)->r x H Q
 mono:∀x P P',(∀d,P d->P' d)->g x P->g x P'
def w1(g:D->(D->Prop)->Prop)(wa:WE):WE:=λE ρ Q=>wa E ρ λx=>g x Q
theorem qA{op:UnaryOp}{g:D->(D->Prop)->Prop}(ho:Ds X (unaryOp op) g)(ha:PX X EX a wa):PX X EX (.UnaryOp op a pos) (w1 g wa):=by
 obtain⟨ta,pa,ka⟩:=ha.t;obtain⟨r,pr,kr⟩:=ho.t;refine⟨⟨_,qo pr pa,λW0 H0 W σ H ρ E Q s eo h=>?_⟩,λE ρ P P' hp z=>ha.mono _ _ _ _ (λd hd=>ho.mono _ _ _ hp hd) z⟩;exact ka W0 H0 W σ H ρ E _ s eo (ha.mono _ _ _ _ (λd hd v W1 H1 x1 r1=>kr W1 H1 v d Q x1.ok r1 (ho.mono _ _ _ (λd hd=>RQ.ext hd x1) hd)) h)
structure qB(X:Cx)(EX:XK)(e:Option Expr)(w:(Ex->Prop)->cP->(Option Int->Prop)->Prop):Prop where
 t:∃t,PO X e t/\∀W0 H0 W σ H ρ E Q,SOk X.K W0 H0 W σ H ρ->jz X.K W0 H0 E EX->w E ρ (λo=>∀W' H',Ext W H W' H'->Q o H')->t σ H Q
 mono:∀E ρ P P',(∀d,P d->P' d)->w E ρ P->w E ρ P'
def isI(Q:Int->Prop):D->Prop
 |.int i=>Q i
 |_=>False
theorem isI.mono{Q Q':Int->Prop}(h:∀b,Q b->Q' b):∀d,isI Q d->isI Q' d
 |.int b,z=>h b z
 |.non,z=>z|.bl _,z=>z|.str _,z=>z|.tup _,z=>z|.lst _,z=>z|.dic,z=>z|.pen,z=>z|.cls _,z=>z|.exc _,z=>z|.ty _,z=>z|.scr _,z=>z
theorem qC{Q:Int->Prop}(h:isI Q d):∃b,d=.int b/\Q b:=by
 cases d with
 |int b=>exact⟨b,rfl,h⟩
 |_=>exact h.elim
def eG:(Ex->Prop)->cP->(Option Int->Prop)->Prop:=λ_ _ Q=>Q none
def dU(w:WE):(Ex->Prop)->cP->(Option Int->Prop)->Prop:=λE ρ Q=>w E ρ (isI λi=>Q (some i))
theorem jA:qB X EX none eG:=⟨⟨_,pK,λ_ _ W _ H _ _ _ s _ h=>h W H (.refl s.ok)⟩,λ_ _ _ _ hp h=>hp _ h⟩
theorem ik(ha:PX X EX a wa):qB X EX (some a) (dU wa):=by
 obtain⟨ta,pa,ka⟩:=ha.t;refine⟨⟨_,pL pa,λW0 H0 W σ H ρ E Q s eo h=>?_⟩,λE ρ P P' hp z=>ha.mono _ _ _ _ (isI.mono λi hi=>hp _ hi) z⟩;refine ka W0 H0 W σ H ρ E _ s eo (ha.mono _ _ _ _ (λd hd v W1 H1 x1 r1=>?_) h);obtain⟨i,rfl,q⟩:=qC hd;cases r1;exact⟨i,rfl,q W1 H1 x1⟩
def bZ{α:Type}(xs:List α)(lo hi:Option Int):List α:=(xs.drop (HT.sIx xs.length 0 lo)).take (HT.sIx xs.length xs.length hi-HT.sIx xs.length 0 lo)
def gCut(x:D)(lo hi:Option Int)(Q:D->Prop):Prop:=match x with
 |.tup xs=>Q (.tup (bZ xs lo hi))
 |.lst xs=>Q (.lst (bZ xs lo hi))
 |.scr xs=>Q (.lst (bZ xs lo hi))
 |_=>False
end
variable{S:bF}{Ss:List (Str×bF)}
def Bd(i:Int):Prop:=i.natAbs<2^8990
theorem Bd.log{i:Int}(h:Bd i):i.natAbs.log2<8990:=by
 by_cases h0:i.natAbs=0
 .rw[h0];decide
 .exact(Nat.log2_lt h0).mpr h
theorem Bd.bits{i:Int}(h:Bd i):Builtin.Int.intBits i<=2^20:=by
 unfold Builtin.Int.intBits;have:=h.log;have e:(2:Nat)^20=1048576:=by decide
 split<;>omega
def qD(i j:Int):Prop:=Bd i/\Bd j
def AS(_ j:Int):Prop:=j≠0/\Bd j
section
variable{pos:Pos}
theorem Zpc:OpR X (binaryOp .Mult) (rI qD λi j=>.int (i*j)):=xE λ_ _ _ _ _ _ _ hc q=>mul_int q (IntMulOk.of_bits hc.1.bits hc.2.bits)
theorem IN:OpR X (binaryOp .FloorDiv) (rI AS λi j=>.int (i.fdiv j)):=xE λ_ _ _ _ _ _ _ hc q=>floordiv_int hc.1 q (.inl (PyProof.noPylong_of_log2 (by have:=hc.2.log;omega)))
def gI2(C:Int->Int->Prop)(kd:Int->Int->D):G2:=λx y Q=>match x,y with
 |.int i,.int j=>C i j/\Q (kd i j)
 |_,_=>False
theorem gI2.mono{C:Int->Int->Prop}{kd:Int->Int->D}:∀x y P P',(∀d,P d->P' d)->gI2 C kd x y P->gI2 C kd x y P':=λx y P P' hp hg=>by
 unfold gI2 at hg ⊢;split at hg
 .exact⟨hg.1,hp _ hg.2⟩
 .exact hg.elim
theorem gI2.get{C:Int->Int->Prop}{kd:Int->Int->D}{x:D}(h:gI2 C kd x y Q):∃i j,x=.int i/\y=.int j/\C i j/\Q (kd i j):=by
 unfold gI2 at h;split at h
 .exact⟨_,_,rfl,rfl,h.1,h.2⟩
 .exact h.elim
theorem qE{f:Value->Value->Sem Value}{C:Int->Int->Prop}{k:Int->Int->V}{kd:Int->Int->D}(h:OpR X f (rI C k))(hk:∀W i j,Rep X.K W (k i j) (kd i j)):gA X f (gI2 C kd):=
 ⟨⟨_,h,λW H x y dx dy Q ok rx ry hg=>by
  obtain⟨i,j,rfl,rfl,hc,q⟩:=hg.get;cases rx;cases ry;exact⟨_,_,rfl,rfl,hc,q.now ok (hk _ _ _)⟩⟩,gI2.mono⟩
theorem tK{f:Value->Value->Sem Value}{k:Int->Int->V}(h:OpR X f (pD k)):OpR X f (rI (λ_ _=>True) k):=λpins s σ H x y v u Q I rx ry ⟨i,j,e1,e2,_,q⟩=>h pins s σ H x y v u Q I rx ry ⟨i,j,e1,e2,q⟩
theorem jg:gA X (binaryOp .Sub) (gI2 (λ_ _=>True) λi j=>.int (i-j)):=qE (tK rK) λ_ _ _=>.int _
theorem qF:gA X (binaryOp .Mod) (gI2 (λ_ j=>j≠0) λi j=>.int (i.fmod j)):=qE pF λ_ _ _=>.int _
theorem n4:gA X (binaryOp .FloorDiv) (gI2 AS λi j=>.int (i.fdiv j)):=qE IN λ_ _ _=>.int _
theorem u6:gA X (binaryOp .Pow) (gI2 rH λi j=>.int (i^j.toNat)):=qE rL λ_ _ _=>.int _
theorem IO:OpR X (compareOp .Lt) (pD λi j=>.bl (decide (i<j))):=pE λ_ _ _ _ _ _ _ q=>lt_int q
theorem IP:OpR X (compareOp .LtE) (pD λi j=>.bl (decide (i<=j))):=pE λ_ _ _ _ _ _ _ q=>le_int q
theorem IQ:OpR X (compareOp .Gt) (pD λi j=>.bl (decide (i>j))):=pE λ_ _ _ _ _ _ _ q=>gt_int q
theorem IR:OpR X (compareOp .GtE) (pD λi j=>.bl (decide (i ≥ j))):=pE λ_ _ _ _ _ _ _ q=>ge_int q
theorem sd:gA X (compareOp .Lt) (gI2 (λ_ _=>True) λi j=>.bl (decide (i<j))):=qE (tK IO) λ_ _ _=>.bl _
theorem jh:gA X (compareOp .LtE) (gI2 (λ_ _=>True) λi j=>.bl (decide (i<=j))):=qE (tK IP) λ_ _ _=>.bl _
theorem jV:gA X (compareOp .Gt) (gI2 (λ_ _=>True) λi j=>.bl (decide (i>j))):=qE (tK IQ) λ_ _ _=>.bl _
theorem AT:gA X (compareOp .GtE) (gI2 (λ_ _=>True) λi j=>.bl (decide (i ≥ j))):=qE (tK IR) λ_ _ _=>.bl _
theorem qG:Ds X (unaryOp .USub) (λx Q=>isI (λi=>Q (.int (-i))) x):=
 ⟨⟨_,nD,λW H x dx Q ok rx hg=>by
  obtain⟨i,rfl,q⟩:=qC hg;cases rx;exact⟨i,rfl,q.now ok (.int _)⟩⟩,λx P P' hp h=>isI.mono (λi hi=>hp _ hi) x h⟩
mutual
def g9:D->Option PyData
 |.non=>some .none
 |.bl b=>some (.bool b)
 |.int i=>some (.int i)
 |.str x=>some (.str x)
 |.tup xs=>(fD xs).map .tuple
 |.lst xs=>(fD xs).map .list
 |.dic=>none
 |.pen=>none
 |.cls _=>none
 |.exc _=>none
 |.ty _=>none
 |.scr _=>none
def fD:List D->Option (List PyData)
 |[]=>some []
 |x::r=>match g9 x,fD r with
  |some a,some b=>some (a::b)
  |_,_=>none
end
variable{s:Shared}{W:Wd}
mutual
theorem u7(I:Inv X pins σ H s)(ok:WOk W H):∀{v:V} {d:D} {u:Value} {p:PyData},Rep X.K W v d->RelV v u->g9 d=some p->∃as,Reads s.heap u p as
 |_,_,u,p,.non,r,e=>by cases e;cases r;exact⟨_,.none⟩
 |_,_,u,p,.bl b,r,e=>by cases e;cases r;exact⟨_,.bool b⟩
 |_,_,u,p,.int i,r,e=>by cases e;obtain⟨t,rfl⟩:=r;exact⟨_,.int i t⟩
 |_,_,u,p,.str x,r,e=>by cases e;obtain⟨t,rfl⟩:=r;exact⟨_,.str x t⟩
 |.ref a,.tup ds,u,p,.tup e0 rs,r,e=>by
  cases r;cases q:fD ds with
  |none=>rw[g9,q] at e;cases e
  |some ps=>
   rw[g9,q] at e;cases e;obtain⟨its,rv,⟨o,h1,h2,n,h3⟩,_⟩:=I.tuple (xs:=_) (SqT.of (ok.g _ _ e0));obtain⟨as,ra⟩:=xP I ok rs rv q;exact⟨_,.tuple h1 h2 h3 (by simpa using ra)⟩
 |.ref a,.tup ds,u,p,.ktup e0 rs,r,e=>by
  cases r;cases q:fD ds with
  |none=>rw[g9,q] at e;cases e
  |some ps=>
   rw[g9,q] at e;cases e;obtain⟨its,rv,⟨o,h1,h2,n,h3⟩,_⟩:=I.tuple (xs:=_) (.inr e0);obtain⟨as,ra⟩:=xP I ok rs rv q;exact⟨_,.tuple h1 h2 h3 (by simpa using ra)⟩
 |.ref a,.lst ds,u,p,.lst e0 rs,r,e=>by
  cases r;cases q:fD ds with
  |none=>rw[g9,q] at e;cases e
  |some ps=>
   rw[g9,q] at e;cases e;obtain⟨its,rv,⟨o,n,h1,h2,h3,h4⟩,_⟩:=I.list (xs:=_) (SqL.of (ok.g _ _ e0));obtain⟨as,ra⟩:=xP I ok rs rv q;exact⟨_,.list h1 h2 h4 (by simpa using ra)⟩
 |_,_,u,p,.dic _,r,e=>by rw[g9] at e;cases e
 |_,_,u,p,.pen _,r,e=>by rw[g9] at e;cases e
 |_,_,u,p,.cls _,r,e=>by rw[g9] at e;cases e
 |_,_,u,p,.exc _ _ _,r,e=>by rw[g9] at e;cases e
 |_,_,u,p,.ty _,r,e=>by rw[g9] at e;cases e
 |_,_,u,p,.scr _ _,r,e=>by rw[g9] at e;cases e
theorem xP(I:Inv X pins σ H s)(ok:WOk W H):∀{vs:List V} {ds:List D} {us:List Value} {ps:List PyData},Reps X.K W vs ds->Vals vs us->fD ds=some ps->∃as,ReadsAll s.heap us ps as
 |_,_,us,ps,.nil,r,e=>by rw[fD] at e;cases e;cases r;exact⟨_,.nil⟩
 |_,d::ds,us,ps,.cons rd rs,r,e=>by
  rw[fD] at e;cases q1:g9 d with
  |none=>rw[q1] at e;cases e
  |some a=>
   cases q2:fD ds with
   |none=>rw[q1,q2] at e;cases e
   |some b=>
    rw[q1,q2] at e;cases e;cases r with
    |cons r1 r2=>
     obtain⟨as,ra⟩:=u7 I ok rd r1 q1;obtain⟨bs,rb⟩:=xP I ok rs r2 q2;exact⟨_,.cons ra rb⟩
end
def gEq(neg:Bool):G2:=λx y Q=>∃p q,g9 x=some p/\g9 y=some q/\PySem.SeqAt.shaped p=true/\PySem.SeqAt.shaped q=true/\Q (.bl (if neg then !PyData.eqv p q else PyData.eqv p q))
theorem gEq.mono{neg:Bool}:∀x y P P',(∀d,P d->P' d)->gEq neg x y P->gEq neg x y P':=λx y P P' hp ⟨p,q,h1,h2,h3,h4,h5⟩=>⟨p,q,h1,h2,h3,h4,hp _ h5⟩
theorem da(hu:X.A.units+64<cLine):gA X (compareOp .Eq) (gEq false):=by
 refine⟨⟨λx y H Q=>∃W dx dy,WOk W H/\Rep X.K W x dx/\Rep X.K W y dy/\gEq false dx dy (RQ X.K W H Q),?_,λW H x y dx dy Q ok rx ry hg=>⟨W,dx,dy,ok,rx,ry,hg⟩⟩,gEq.mono⟩;rintro pins s σ H x y v u Q I rx ry ⟨W,dx,dy,ok,r1,r2,p,q,h1,h2,h3,h4,h5⟩;obtain⟨as,ra⟩:=u7 I ok r1 rx h1;obtain⟨bs,rb⟩:=u7 I ok r2 ry h2;exact eq_dataH ra rb h3 h4 hu ⟨.bl _,H,I,rfl,h5.now ok (.bl _)⟩
theorem dh(hu:X.A.units+64<cLine):gA X (compareOp .NotEq) (gEq true):=by
 refine⟨⟨λx y H Q=>∃W dx dy,WOk W H/\Rep X.K W x dx/\Rep X.K W y dy/\gEq true dx dy (RQ X.K W H Q),?_,λW H x y dx dy Q ok rx ry hg=>⟨W,dx,dy,ok,rx,ry,hg⟩⟩,gEq.mono⟩;rintro pins s σ H x y v u Q I rx ry ⟨W,dx,dy,ok,r1,r2,p,q,h1,h2,h3,h4,h5⟩;obtain⟨as,ra⟩:=u7 I ok r1 rx h1;obtain⟨bs,rb⟩:=u7 I ok r2 ry h2;exact ne_dataH ra rb h3 h4 hu ⟨.bl _,H,I,rfl,h5.now ok (.bl _)⟩
end
section
variable{pos:Pos}{a:Expr}
def gAdd:G2:=λx y Q=>match x,y with
 |.int i,.int j=>Q (.int (i+j))
 |.lst xs,.lst ys=>xs.length+ys.length<=aM/\Q (.lst (xs++ys))
 |.tup xs,.tup ys=>xs.length+ys.length<=aM/\Q (.tup (xs++ys))
 |_,_=>False
theorem gAdd.mono:∀x y P P',(∀d,P d->P' d)->gAdd x y P->gAdd x y P':=λx y P P' hp hg=>by
 unfold gAdd at hg ⊢;split at hg
 .exact hp _ hg
 .exact⟨hg.1,hp _ hg.2⟩
 .exact⟨hg.1,hp _ hg.2⟩
 .exact hg.elim
def u8(K:Nn):R2:=λx y H Q=>∃l b xs zs,x=.ref l/\y=.ref b/\SqL K H l xs/\SqL K H b zs/\xs.length+zs.length<=sizeLine/\∀p,H p=none->Q (.ref p) (upd H p (.lst (xs++zs)))
theorem ZmT:OpR X (binaryOp .Add) (u8 X.K):=by
 intro pins s σ H x y v u Q I rx ry h;obtain⟨l,b,xs,zs,rfl,rfl,hH,hB,hz,q⟩:=h;cases rx;cases ry;obtain⟨its,r,pl,z⟩:=I.list hH;obtain⟨its2,r2,Cc,z2⟩:=I.list hB;have hl:=r.length;have hl2:=r2.length;obtain⟨⟨cls,dd,data,sl⟩,n,ho,hc,_,hd⟩:=pl;obtain⟨⟨cls2,dd2,data2,sl2⟩,n2,ho2,hc2,_,hd2⟩:=Cc;simp only at hc hd hc2 hd2;subst hc hd hc2 hd2;have e:its.toArray++its2.toArray=(its++its2).toArray:=by simp
 refine concat_meets ⟨_,ho,rfl⟩ ⟨_,ho2,rfl⟩ noFill_list_add seq_list_add PySem.F.slot_list_add PySem.F.entry_list_add (PySem.F.args_list_add_2 _ _) (list_addW l b its.toArray its2.toArray n n2 dd dd2 sl sl2 (by simp;omega)) ⟨ho,ho2,?_⟩;rw[e];exact⟨.ref _,_,I.lnew (t':=s.toks) (r.append r2) (by rw[dX];omega),rfl,q _ I.fresh⟩
def IS(K:Nn):R2:=λx y H Q=>∃a b xs ys,x=.ref a/\y=.ref b/\SqT K H a xs/\SqT K H b ys/\xs.length+ys.length<=sizeLine/\
 (xs=[]->Q (.ref b) H)/\(ys=[]->Q (.ref a) H)/\∀p,H p=none->Q (.ref p) (upd H p (.tup (xs++ys)))
theorem IT:OpR X (binaryOp .Add) (IS X.K):=by
 intro pins s σ H x y v u Q I rx ry h;obtain⟨a,b,xs,ys,rfl,rfl,ha,hb,hz,q1,q2,q3⟩:=h
 by_cases hx:xs=[]
 .cases rx
  cases ry;obtain⟨its,r1,p1,_⟩:=I.tuple ha;obtain⟨its2,r2,p2,_⟩:=I.tuple hb;have hi:its=[]:=r1.nil_iff.mpr hx;obtain⟨⟨cls,dd,data,sl⟩,ho,hc,n,hd⟩:=id p1;obtain⟨⟨cls2,dd2,data2,sl2⟩,ho2,hc2,n2,hd2⟩:=id p2;simp only at hc hd hc2 hd2;subst hc hd hc2 hd2;exact concat_meets ⟨_,ho,rfl⟩ ⟨_,ho2,rfl⟩ noFill_tuple_add seq_tuple_add PySem.F.slot_tuple_add PySem.F.entry_tuple_add (PySem.F.args_tuple_add_2 _ _)
   (tuple_addW0 a b its.toArray its2.toArray n n2 dd dd2 sl sl2 (by simp[hi])) ⟨ho,ho2,⟨.ref b,H,I,rfl,q1 hx⟩⟩
 .exact pM pins s σ H _ _ v u Q I rx ry ⟨a,b,xs,ys,rfl,rfl,ha,hb,hx,hz,q2,λ_=>q3⟩
theorem eH:gA X (binaryOp .Add) gAdd:=by
 refine⟨⟨_,(tK rJ).or (ZmT.or IT),λW H x y dx dy Q ok rx ry hg=>?_⟩,gAdd.mono⟩;unfold gAdd at hg;split at hg
 .cases rx;cases ry
  exact .inl ⟨_,_,rfl,rfl,trivial,hg.now ok (.int _)⟩
 .obtain⟨p,vs,rfl,h1,r1⟩:=rx.sql ok
  obtain⟨q,us,rfl,h2,r2⟩:=ry.sql ok;refine .inr (.inl ⟨p,q,vs,us,rfl,rfl,h1,h2,by rw[r1.length,r2.length];exact pR hg.1,λa ha=>hg.2.lst ok (r1.append r2) ha⟩)
 .obtain⟨p,vs,rfl,h1,r1⟩:=rx.sqt ok
  obtain⟨q,us,rfl,h2,r2⟩:=ry.sqt ok;rename_i xs ys;refine .inr (.inr ⟨p,q,vs,us,rfl,rfl,h1,h2,by rw[r1.length,r2.length];exact pR hg.1,λe=>?_,λe=>?_,λa ha=>hg.2.tup ok (r1.append r2) ha⟩)
  .subst e
   cases r1;exact hg.2.now ok ry
  .subst e
   cases r2;rw[qh] at hg;exact hg.2.now ok rx
 .exact hg.elim
def gMul:G2:=λx y Q=>match x,y with
 |.int i,.int j=>qD i j/\Q (.int (i*j))
 |.lst xs,.int k=>k<1000/\-1000<k/\xs.length*k.toNat<=aM/\Q (.lst (List.replicate k.toNat xs).flatten)
 |_,_=>False
theorem gMul.mono:∀x y P P',(∀d,P d->P' d)->gMul x y P->gMul x y P':=λx y P P' hp hg=>by
 unfold gMul at hg ⊢;split at hg
 .exact⟨hg.1,hp _ hg.2⟩
 .exact⟨hg.1,hg.2.1,hg.2.2.1,hp _ hg.2.2.2⟩
 .exact hg.elim
theorem Du{W:Wd}(r:Reps K W vs ds)(n:Nat):Reps K W (List.replicate n vs).flatten (List.replicate n ds).flatten:=by
 induction n with
 |zero=>exact .nil
 |succ n ih=>rw[gT,gT,tm,tm];exact r.append ih
theorem fc:gA X (binaryOp .Mult) gMul:=by
 refine⟨⟨_,Zpc.or rW,λW H x y dx dy Q ok rx ry hg=>?_⟩,gMul.mono⟩;unfold gMul at hg;split at hg
 .cases rx;cases ry
  exact .inl ⟨_,_,rfl,rfl,hg.1,hg.2.now ok (.int _)⟩
 .cases ry
  cases rx with
  | @lst l vs _ e r=>
   refine .inr ⟨l,_,vs,rfl,rfl,ok.g _ _ e,by omega,by omega,?_,λp hp=>hg.2.2.2.lst ok (Du r _) hp⟩;rw[r.length];exact pR hg.2.2.1
 .exact hg.elim
theorem xQ{W:Wd}(r:Reps K W vs xs){i:Int}(h:eX xs i=some d):∃v,eX vs i=some v/\Rep K W v d:=by
 unfold eX at h ⊢;rw[r.length];cases q:ku xs.length i with
 |none=>rw[q] at h;cases h
 |some k=>
  rw[q] at h;obtain⟨v,e,rv⟩:=r.get (show xs[k]? = some d from h);exact⟨v,e,rv⟩
def gIx:G2:=λx y Q=>isI (λi=>match x with
 |.tup xs=>∃d,eX xs i=some d/\Q d
 |.lst xs=>∃d,eX xs i=some d/\Q d
 |.scr xs=>∃d,eX xs i=some d/\Q d
 |_=>False) y
theorem gIx.mono:∀ x y P P',(∀ d,P d->P' d)->gIx x y P->gIx x y P':=λx y P P' hp hg=>isI.mono (λi h=>by
 split at h
 .obtain⟨d,e,q⟩:=h;exact⟨d,e,hp _ q⟩
 .obtain⟨d,e,q⟩:=h;exact⟨d,e,hp _ q⟩
 .obtain⟨d,e,q⟩:=h;exact⟨d,e,hp _ q⟩
 .exact h.elim) y hg
theorem aN:AR X gIx:=by
 refine⟨⟨_,jT,λW H x y dx dy Q ok rx ry hg=>?_⟩,gIx.mono⟩;obtain⟨i,rfl,h⟩:=qC hg;cases ry;split at h
 .obtain⟨d,e,q⟩:=h
  obtain⟨p,vs,rfl,h1,r1⟩:=rx.sqt ok;obtain⟨v,e1,rv⟩:=xQ r1 e;exact .inr (.inl ⟨p,vs,i,v,rfl,rfl,h1,e1,q.now ok rv⟩)
 .obtain⟨d,e,q⟩:=h
  obtain⟨p,vs,rfl,h1,r1⟩:=rx.sql ok;obtain⟨v,e1,rv⟩:=xQ r1 e;exact .inl ⟨p,vs,i,v,rfl,rfl,h1,e1,q.now ok rv⟩
 .obtain⟨d,e,q⟩:=h
  obtain⟨p,vs,rfl,h1,r1⟩:=rx.sqs ok;obtain⟨v,e1,rv⟩:=xQ r1 e;exact .inl ⟨p,vs,i,v,rfl,rfl,h1,e1,q.now ok rv⟩
 .exact h.elim
theorem Reps.cut{W:Wd}(r:Reps K W vs ds)(lo hi:Option Int):Reps K W (jd vs lo hi) (bZ ds lo hi):=by
 unfold jd bZ;rw[r.length];exact(r.drop _).take _
theorem IU{lo hi:Option Int}(h:HT.sIx xs.length 0 lo=0/\HT.sIx xs.length xs.length hi=xs.length):bZ xs lo hi=xs:=by
 unfold bZ;rw[h.1,h.2];simp
theorem gCut.mono{lo hi:Option Int}:∀x P P',(∀d,P d->P' d)->gCut x lo hi P->gCut x lo hi P':=λx P P' hp hg=>by
 unfold gCut at hg ⊢;split at hg
 .exact hp _ hg
 .exact hp _ hg
 .exact hp _ hg
 .exact hg.elim
def cD(wa:WE)(wl wh:(Ex->Prop)->cP->(Option Int->Prop)->Prop):WE:=λE ρ Q=>wa E ρ λx=>wl E ρ λl=>wh E ρ λh=>gCut x l h Q
theorem ji{wl wh}(ha:PX X EX a wa)(hl:qB X EX lo wl)(hh:qB X EX hi wh):PX X EX (.Subscript a (.Slice lo hi none p2) pos) (cD wa wl wh):=by
 obtain⟨ta,pa,ka⟩:=ha.t;obtain⟨tl,pl,kl⟩:=hl.t;obtain⟨th,ph,kh⟩:=hh.t;refine⟨⟨_,jc (sl_list.or (sl_tup.or HM)) pa pl ph,λW0 H0 W σ H ρ E Q s eo h=>?_⟩,λE ρ P P' hp h=>ha.mono _ _ _ _ (λx hx=>hl.mono _ _ _ _ (λl hl'=>hh.mono _ _ _ _ (λu hu=>gCut.mono x _ _ hp hu) hl') hx) h⟩;refine ka W0 H0 W σ H ρ E _ s eo (ha.mono _ _ _ _ (λdx hx v W1 H1 x1 r1=>?_) h);refine kl W0 H0 W1 σ H1 ρ E _ (s.step x1) eo (hl.mono _ _ _ _ (λl hl' W2 H2 x2=>?_) hx);refine kh W0 H0 W2 σ H2 ρ E _ ((s.step x1).step x2) eo (hh.mono _ _ _ _ (λu hu W3 H3 x3=>?_) hl');have r3:=(x2.trans x3).rep r1;have hu':=gCut.mono dx _ _ (λd hd=>RQ.ext hd (x1.trans (x2.trans x3))) hu;unfold gCut at hu';split at hu'
 .obtain⟨p,vs,rfl,h1,rr⟩:=r3.sqt x3.ok
  rename_i xs
  by_cases hw:HT.sIx vs.length 0 l=0/\HT.sIx vs.length vs.length u=vs.length
  .refine .inr (.inr ⟨p,vs,rfl,h1,hw,?_⟩)
   rw[rr.length] at hw;rw[IU hw] at hu';exact hu'.now x3.ok r3
  .exact .inr (.inl ⟨p,vs,rfl,h1,hw,λq hq=>hu'.tup x3.ok (rr.cut l u) hq⟩)
 .obtain⟨p,vs,rfl,h1,rr⟩:=r3.sql x3.ok
  exact .inl ⟨p,vs,rfl,h1,λq hq=>hu'.lst x3.ok (rr.cut l u) hq⟩
 .obtain⟨p,vs,rfl,h1,rr⟩:=r3.sqs x3.ok
  exact .inl ⟨p,vs,rfl,h1,λq hq=>hu'.lst x3.ok (rr.cut l u) hq⟩
 .exact hu'.elim
def gRev:D->(D->Prop)->Prop:=λx Q=>match x with
 |.tup xs=>Q (.tup xs.reverse)
 |.lst xs=>Q (.lst xs.reverse)
 |_=>False
theorem gRev.mono:∀x P P',(∀d,P d->P' d)->gRev x P->gRev x P':=λx P P' hp hg=>by
 unfold gRev at hg ⊢;split at hg
 .exact hp _ hg
 .exact hp _ hg
 .exact hg.elim
theorem xR{j pos3 pos4}(ha:PX X EX a wa):PX X EX (.Subscript a (.Slice none none (some (.UnaryOp .USub (.Constant (.int 1) j pos3) pos4)) p2) pos) (w1 gRev wa):=by
 obtain⟨ta,pa,ka⟩:=ha.t;refine⟨⟨_,HP pa,λW0 H0 W σ H ρ E Q s eo h=>?_⟩,λE ρ P P' hp h=>ha.mono _ _ _ _ (λx hx=>gRev.mono x _ _ hp hx) h⟩;refine ka W0 H0 W σ H ρ E _ s eo (ha.mono _ _ _ _ (λdx hx v W1 H1 x1 r1=>?_) h);have hu':=gRev.mono dx _ _ (λd hd=>RQ.ext hd x1) hx;unfold gRev at hu';split at hu'
 .obtain⟨p,vs,rfl,h1,rr⟩:=r1.sqt x1.ok
  exact⟨p,vs,rfl,.inl ⟨h1,λq hq=>hu'.tup x1.ok rr.rev hq⟩⟩
 .obtain⟨p,vs,rfl,h1,rr⟩:=r1.sql x1.ok
  exact⟨p,vs,rfl,.inr ⟨h1,λq hq=>hu'.lst x1.ok rr.rev hq⟩⟩
 .exact hu'.elim
def bL:List D->(D->Prop)->Prop:=λds Q=>match ds with
 |[.tup xs]=>Q (.int xs.length)
 |[.lst xs]=>Q (.int xs.length)
 |[.scr xs]=>Q (.int xs.length)
 |_=>False
theorem eR:dZ X (.builtin "len") bL:=by
 refine⟨⟨_,iD,λW H vs ds Q ok r hg=>?_⟩,λds P P' hp hg=>?_⟩
 .unfold bL at hg
  split at hg
  .obtain⟨v,rfl,rv⟩:=r.one
   obtain⟨p,us,rfl,h1,rr⟩:=rv.sqt ok;exact⟨p,us,rfl,.inr h1,by rw[rr.length];exact hg.now ok (.int _)⟩
  .obtain⟨v,rfl,rv⟩:=r.one
   obtain⟨p,us,rfl,h1,rr⟩:=rv.sql ok;exact⟨p,us,rfl,.inl h1,by rw[rr.length];exact hg.now ok (.int _)⟩
  .obtain⟨v,rfl,rv⟩:=r.one
   obtain⟨p,us,rfl,h1,rr⟩:=rv.sqs ok;exact⟨p,us,rfl,.inl h1,by rw[rr.length];exact hg.now ok (.int _)⟩
  .exact hg.elim
 .unfold bL at hg ⊢
  split at hg
  .exact hp _ hg
  .exact hp _ hg
  .exact hp _ hg
  .exact hg.elim
def gC{α:Type}:List D->(List D->Prop)->Prop:=λds Q=>match ds with
 |[.tup xs]=>Q xs
 |[.lst xs]=>Q xs
 |[.scr xs]=>Q xs
 |_=>False
theorem AU:qz X (.type "list") (gC (α:=Unit)):=by
 refine⟨⟨_,iF,λW H vs ds Q ok r hg=>?_⟩,λds P P' hp hg=>?_⟩
 .unfold gC at hg
  split at hg
  .obtain⟨v,rfl,rv⟩:=r.one
   obtain⟨p,us,rfl,h1,rr⟩:=rv.sqt ok;exact⟨p,us,rfl,.inr h1,λl hl=>hg l us hl rr⟩
  .obtain⟨v,rfl,rv⟩:=r.one
   obtain⟨p,us,rfl,h1,rr⟩:=rv.sql ok;exact⟨p,us,rfl,.inl h1,λl hl=>hg l us hl rr⟩
  .obtain⟨v,rfl,rv⟩:=r.one
   obtain⟨p,us,rfl,h1,rr⟩:=rv.sqs ok;exact⟨p,us,rfl,.inl h1,λl hl=>hg l us hl rr⟩
  .exact hg.elim
 .unfold gC at hg ⊢
  split at hg
  .exact hp _ hg
  .exact hp _ hg
  .exact hp _ hg
  .exact hg.elim
def ky:List D->(D->Prop)->Prop:=λds Q=>match ds with
 |[.tup xs]=>Q (.tup xs)
 |[.lst xs]=>Q (.tup xs)
 |_=>False
theorem tL:dZ X (.type "tuple") ky:=by
 refine⟨⟨_,gX,λW H vs ds Q ok r hg=>?_⟩,λds P P' hp hg=>?_⟩
 .unfold ky at hg
  split at hg
  .obtain⟨v,rfl,rv⟩:=r.one
   obtain⟨p,us,rfl,h1,rr⟩:=rv.sqt ok;exact⟨p,us,rfl,.inr ⟨h1,hg.now ok rv⟩⟩
  .obtain⟨v,rfl,rv⟩:=r.one
   obtain⟨p,us,rfl,h1,rr⟩:=rv.sql ok;exact⟨p,us,rfl,.inl ⟨h1,λl hl=>hg.tup ok rr hl⟩⟩
  .exact hg.elim
 .unfold ky at hg ⊢
  split at hg
  .exact hp _ hg
  .exact hp _ hg
  .exact hg.elim
def iJ:List D->(D->Prop)->Prop:=λds Q=>match ds with
 |[.int i]=>Q (.int (if i<0 then -i else i))
 |_=>False
theorem AV:dZ X (.builtin "abs") iJ:=by
 refine⟨⟨_,nK,λW H vs ds Q ok r hg=>?_⟩,λds P P' hp hg=>?_⟩
 .unfold iJ at hg
  split at hg
  .obtain⟨v,rfl,rv⟩:=r.one
   cases rv;exact⟨_,rfl,hg.now ok (.int _)⟩
  .exact hg.elim
 .unfold iJ at hg ⊢
  split at hg
  .exact hp _ hg
  .exact hg.elim
def jW:List D->(D->Prop)->Prop:=λds Q=>match ds with
 |[.int i,.int j]=>Q (.int (if j>i then j else i))
 |_=>False
theorem u9(hc:X.calm=true):dZ X (.builtin "max") jW:=by
 refine⟨⟨_,kQ hc,λW H vs ds Q ok r hg=>?_⟩,λds P P' hp hg=>?_⟩
 .unfold jW at hg
  split at hg
  .obtain⟨v,u,rfl,rv,ru⟩:=r.two
   cases rv;cases ru;exact⟨_,_,rfl,hg.now ok (.int _)⟩
  .exact hg.elim
 .unfold jW at hg ⊢
  split at hg
  .exact hp _ hg
  .exact hg.elim
def fW:List D->(D->Prop)->Prop:=λds Q=>match ds with
 |[.int i]=>Q (.int i)
 |[.bl b]=>Q (.int (if b then 1 else 0))
 |_=>False
theorem va:dZ X (.type "int") fW:=by
 refine⟨⟨_,kR,λW H vs ds Q ok r hg=>?_⟩,λds P P' hp hg=>?_⟩
 .unfold fW at hg
  split at hg
  .obtain⟨v,rfl,rv⟩:=r.one
   cases rv;exact .inl ⟨_,rfl,hg.now ok (.int _)⟩
  .obtain⟨v,rfl,rv⟩:=r.one
   cases rv;exact .inr ⟨_,rfl,hg.now ok (.int _)⟩
  .exact hg.elim
 .unfold fW at hg ⊢
  split at hg
  .exact hp _ hg
  .exact hp _ hg
  .exact hg.elim
end
section
variable{pos:Pos}{a:Expr}
def xT:D->Option String
 |.non=>some "NoneType" |.bl _=>some "bool" |.int _=>some "int" |.str _=>some "str" |.tup _=>some "tuple" |.lst _=>some "list" |.dic=>some "dict"
 |.pen=>none|.cls _=>none|.exc _=>none|.ty _=>none|.scr _=>none
def fX(t T:String):Bool:=t==T||(t == "bool" && T == "int")
def xW:List String:=["int", "bool", "str", "tuple", "list"]
theorem IV(K:Nn){t T:String}(ht:xT d=some t)(hT:T∈xW):PySem.W.kitOne K (.type t) (.type T)=some (fX t T):=by
 simp only[xW,Yan,gu,or_false] at hT;cases d<;>first
  |(cases ht;done)
  |(cases ht;rcases hT with rfl|rfl|rfl|rfl|rfl<;>rfl)
def gIs:List D->(D->Prop)->Prop:=λds Q=>match ds with
 |[x,.ty T]=>∃t,xT x=some t/\T∈xW/\Q (.bl (fX t T))
 |_=>False
theorem gIs.mono:∀ds P P',(∀d,P d->P' d)->gIs ds P->gIs ds P':=λds P P' hp hg=>by
 unfold gIs at hg ⊢;split at hg
 .obtain⟨t,h1,h2,h3⟩:=hg;exact⟨t,h1,h2,hp _ h3⟩
 .exact hg.elim
theorem jB:dZ X (.builtin "isinstance") gIs:=by
 refine⟨⟨λvs H Q=>∃W ds,WOk W H/\Reps X.K W vs ds/\gIs ds (RQ X.K W H Q),?_,λW H vs ds Q ok r hg=>⟨W,ds,ok,r,hg⟩⟩,gIs.mono⟩;rintro pins s σ H vs us Q I rv ⟨W,ds,ok,rs,hg⟩;unfold gIs at hg;split at hg
 .rename_i x T
  obtain⟨t,h1,h2,q⟩:=hg;obtain⟨v,w',rfl,r1,r2⟩:=rs.two;cases r2;obtain⟨u,u2,rfl,ru,ru2⟩:=km rv;obtain rfl:u2=Value.type T:=ru2;have e:=IV X.K h1 h2;have fin:∀tk,EP X pins σ Q (.bool (fX t T)) { s with toks:=tk }:=λtk=>⟨.bl _,H,I.tok tk,rfl,q.now ok (.bl _)⟩;cases r1 with
  |non=>cases h1;cases ru;exact PySem.W.kia_one PySem.W.kitx_none I.kIn True.intro e (λz=>nomatch z) fin
  |bl b=>cases h1;cases ru;exact PySem.W.kia_one PySem.W.kitx_bool I.kIn True.intro e (λz=>nomatch z) fin
  |int i=>cases h1;obtain⟨t',rfl⟩:=ru;exact PySem.W.kia_one PySem.W.kitx_int I.kIn True.intro e (λz=>nomatch z) fin
  |str i=>cases h1;obtain⟨t',rfl⟩:=ru;exact PySem.W.kia_one PySem.W.kitx_str I.kIn True.intro e (λz=>nomatch z) fin
  |tup e0 rr=>
   cases h1;cases ru;obtain⟨its,_,⟨o,h1,h2,_⟩,_⟩:=I.tuple (SqT.of (ok.g _ _ e0));exact PySem.W.kia_one PySem.W.kitx_tuple I.kIn ⟨o,h1,h2⟩ e (λz=>nomatch z) fin
  |ktup e0 rr=>
   cases h1;cases ru;obtain⟨its,_,⟨o,h1,h2,_⟩,_⟩:=I.tuple (.inr e0);exact PySem.W.kia_one PySem.W.kitx_tuple I.kIn ⟨o,h1,h2⟩ e (λz=>nomatch z) fin
  |lst e0 rr=>
   cases h1;cases ru;obtain⟨its,_,⟨o,n,h1,h2,_⟩,_⟩:=I.list (SqL.of (ok.g _ _ e0));exact PySem.W.kia_one PySem.W.kitx_list I.kIn ⟨o,h1,h2⟩ e (λz=>nomatch z) fin
  | @dic a e0=>
   cases h1;cases ru;obtain⟨_,_,vs,_,p⟩:=(show ObjOk X.prog X.w H s.heap a (.dK []) from I.hok a _ (ok.g _ _ e0))
   obtain⟨o,es,ep,h1,h2,_⟩:=p;exact PySem.W.kia_one PySem.W.kitx_dict I.kIn ⟨o,h1,h2.1⟩ e (λz=>nomatch z) fin
  |pen _=>cases h1
  |cls _=>cases h1
  |exc _ _=>cases h1
  |ty _=>cases h1
  |scr _ _=>cases h1
 .exact hg.elim
theorem IW(hc:X.calm=true):CallR X (.builtin "all") (λxs H Q=>∃(p:Addr) (bs:List Bool),xs=[.ref p]/\SqL X.K H p (bs.map V.bl)/\Q (.bl (bs.all id)) H):=by
 intro pins s σ H xs us Q I r h;obtain⟨p,bs,rfl,hq,q⟩:=h;obtain⟨u,rfl,ru⟩:=eD r;cases ru;obtain⟨its,rv,pl,hz⟩:=I.list hq;have hpl:p<s.heap.objs.size:=by obtain⟨o,n,e,_⟩:=pl;exact du e
 have hits:its=bs.map Value.bool:=by
  clear hz pl hq q
  induction bs generalizing its with
  |nil=>cases rv;rfl
  |cons b bs ih=>
   cases rv with
   |cons r1 r2=>
    obtain rfl:_=Value.bool b:=r1;rw[cR,ih _ r2]
 subst hits;refine call_all_walk (wpAny_pyIter_list pl.isList ?_);have hh:X.A.in1.handled=none:=I.ok.hd hc;refine⟨s.heap.objs.size,_,_,_,_,_,λi=>(bs[i]?).getD true,rfl,Walks.list hh _ p (hZ hpl) (bs.map Value.bool).toArray,⟨⟨_,gK _ rfl,rfl,rfl⟩,pl.isList.at λo e=>dH _ e⟩,λi v s' Q' E' hP hQ=>?_,λh' tk hk=>?_⟩
 .have hP':(bs.map Value.bool)[i]? = some v:=by simpa using hP
  rw[cK] at hP';cases e:bs[i]? with
  |none=>rw[e] at hP';cases hP'
  |some b=>
   rw[e] at hP';have:v=Value.bool b:=(Nv hP').symm;subst this;refine NG ?_;have e2:(bs[i]?).getD true=b:=by rw[e];rfl
   dsimp only at hQ;rw[e2] at hQ;exact hQ
 .have e:((List.range (bs.map Value.bool).toArray.size).all λi=>(bs[i]?).getD true)=bs.all id:=by
   rw[eC,bC,o7,Ybf,Ybf];constructor
   .intro h b hb
    obtain⟨i,hi,e⟩:=Ybu.mp hb;have:=h i (Yah.mpr hi);rw[bW hi] at this;rw[<-e];exact this
   .intro h i hi
    have hi':=Yah.mp hi;rw[bW hi'];exact h _ (gU hi')
  rw[e];refine⟨.bl (bs.all id),H,?_,rfl,q⟩;refine I.kept λb o e=>hk b o ?_ (dH _ e);intro z;have:b=s.heap.objs.size:=by simpa using z
  exact Nq (du e) (by rw[this];exact gQ _)
def iK:List D->(D->Prop)->Prop:=λds Q=>match ds with
 |[.lst xs]=>∃bs:List Bool,xs=bs.map D.bl/\Q (.bl (bs.all id))
 |_=>False
theorem Dv{K:Nn}{W:Wd}:∀{vs:List V} {bs:List Bool},Reps K W vs (bs.map D.bl)->vs=bs.map V.bl
 |_,[],.nil=>rfl
 |_,b::bs,.cons r t=>by cases r;rw[cR,Dv t]
theorem vb(hc:X.calm=true):dZ X (.builtin "all") iK:=by
 refine⟨⟨_,IW hc,λW H vs ds Q ok r hg=>?_⟩,λds P P' hp hg=>?_⟩
 .unfold iK at hg
  split at hg
  .obtain⟨bs,rfl,q⟩:=hg
   obtain⟨v,rfl,rv⟩:=r.one;obtain⟨p,us,rfl,h1,rr⟩:=rv.sql ok;rw[Dv rr] at h1;exact⟨p,bs,rfl,h1,q.now ok (.bl _)⟩
  .exact hg.elim
 .unfold iK at hg ⊢
  split at hg
  .obtain⟨bs,e,q⟩:=hg;exact⟨bs,e,hp _ q⟩
  .exact hg.elim
end
section
variable{W:Wd}
theorem SOk.set(s:SOk K W0 H0 W σ H ρ){i:Nat}{v:V}{x:D}(r:Rep K W v x):SOk K W0 H0 W (σ.set i (some v)) H (ρ.set i (.d x)) where
 ext:=s.ext
 len:=by rw[d8,d8];exact s.len
 d:=λj y e=>by
  by_cases h:i=j
  .subst h
   by_cases hi:i<ρ.length
   .rw[eI hi] at e
    cases e;exact⟨v,eI (by rw[<-s.len];exact hi),r⟩
   .rw[eP (by rw[d8];omega)] at e;cases e
  .rw[d7 h] at e ⊢;exact s.d j y e
 o:=λj ys e=>by
  by_cases h:i=j
  .subst h
   by_cases hi:i<ρ.length
   .rw[eI hi] at e;cases e
   .rw[eP (by rw[d8];omega)] at e;cases e
  .rw[d7 h] at e ⊢;exact s.o j ys e
 ne:=λj k xs ys a hjk e1 e2 e3=>by
  have nj:i≠j:=λh=>by
   subst h
   by_cases hi:i<ρ.length
   .rw[eI hi] at e1;cases e1
   .rw[eP (by rw[d8];omega)] at e1;cases e1
  have nk:i≠k:=λh=>by
   subst h
   by_cases hi:i<ρ.length
   .rw[eI hi] at e2;cases e2
   .rw[eP (by rw[d8];omega)] at e2;cases e2
  rw[d7 nj] at e1 e3;rw[d7 nk] at e2 ⊢;exact s.ne j k xs ys a hjk e1 e2 e3
 oo:=s.oo.set (λ_ h=>by cases h) (λj h=>d7 h) λ_ _ h=>by cases h
theorem SOk.own(s1:SOk K W0 H0 W1 σ H1 ρ)(x:Ext W1 H1 W H){a:Addr}(hz:H1 a=none)(h1:H a=some (.lst vs))(h2:W.G a=none)(h3:¬W.Pn a)(r:Reps K W vs xs):SOk K W0 H0 W (σ.set i (some (.ref a))) H (ρ.set i (.ow xs)):=by
 have s:=s1.step x;have h4:H0 a=none:=s1.ext.isN hz;have hn:∀(j:Nat) ys b,j≠i->ρ[j]? = some (SV.ow ys)->σ[j]? = some (some (V.ref b))->b≠a:=λj ys b _ ej eb q=>by
  obtain⟨b',us,q1,q2,_⟩:=s1.o j ys ej;rw[eb] at q1;cases q1;rw[q,hz] at q2;cases q2
 exact{
  ext:=s.ext
  len:=by rw[d8,d8];exact s.len
  d:=λj y e=>by
    by_cases h:i=j
    · subst h
      by_cases hi:i<ρ.length
      · rw[eI hi] at e;cases e
      · rw[eP (by rw[d8];omega)] at e;cases e
    · rw[d7 h] at e ⊢;exact s.d j y e
  o:=λj ys e=>by
    by_cases h:i=j
    · subst h
      by_cases hi:i<ρ.length
      · rw[eI hi] at e
        cases e;exact⟨a,vs,eI (by rw[<-s.len];exact hi),h1,h2,h3,h4,r⟩
      · rw[eP (by rw[d8];omega)] at e;cases e
    · rw[d7 h] at e ⊢;exact s.o j ys e
  ne:=λj k ys zs b hjk e1 e2 e3 e4=>by
    by_cases hj:i=j
    · subst hj
      by_cases hi:i<ρ.length
      · rw[eI (by rw[<-s.len];exact hi)] at e3
        cases e3;rw[d7 hjk] at e2 e4;exact hn k zs _ (NB hjk) e2 e4 rfl
      · rw[eP (by rw[d8];omega)] at e1;cases e1
    · by_cases hk:i=k
      · subst hk
        by_cases hi:i<ρ.length
        · rw[eI (by rw[<-s.len];exact hi)] at e4
          cases e4;rw[d7 hj] at e1 e3;exact hn j ys _ (NB hj) e1 e3 rfl
        · rw[eP (by rw[d8];omega)] at e2;cases e2
      · rw[d7 hj] at e1 e3
        rw[d7 hk] at e2 e4;exact s.ne j k ys zs b hjk e1 e2 e3 e4
  oo:=by
    refine⟨λj xss e=>?_,λj k xss yss e1 e2=>?_⟩
    · have h:i≠j:=λh=>by
        subst h
        by_cases hi:i<ρ.length
        · rw[eI hi] at e;cases e
        · rw[eP (by rw[d8];omega)] at e;cases e
      rw[d7 h] at e;obtain⟨a',bs,e1,q,n⟩:=s1.oo.t j xss e;refine⟨a',bs,by rw[d7 h];exact e1,q.step x,λk ys c ek ec=>?_⟩
      by_cases hk:i=k
      · subst hk
        by_cases hi:i<ρ.length
        · rw[eI (by rw[<-s.len];exact hi)] at ec
          cases ec;exact q.here hz
        · rw[eP (by rw[d8];omega)] at ek;cases ek
      · rw[d7 hk] at ek ec
        exact n k ys c ek ec
    · have g:∀ {j:Nat} {xss:List (List D)},(ρ.set i (.ow xs))[j]? = some (SV.oo xss)->ρ[j]? = some (SV.oo xss):=fun {j xss} e=>by
        by_cases h:i=j
        · subst h
          by_cases hi:i<ρ.length
          · rw[eI hi] at e;cases e
          · rw[eP (by rw[d8];omega)] at e;cases e
        · rw[d7 h] at e;exact e
      exact s.oo.u j k xss yss (g e1) (g e2) }
def pub(i:Nat)(ρ:cP):cP:=match ρ[i]? with
 |some (.ow xs)=>ρ.set i (.d (.lst xs))
 |_=>ρ
theorem SOk.pub(s:SOk K W0 H0 W σ H ρ)(i:Nat):∃W',SOk K W0 H0 W' σ H (LP.pub i ρ)/\Wle W W':=by
 unfold LP.pub;split
 .rename_i xs e
  obtain⟨a,vs,e1,e2,e3,e4,e5,r⟩:=s.o i xs e;have hi:i<ρ.length:=(Yaq.mp e).1;refine⟨W.put a (.lst vs),⟨s.ext.pub e5 e2 e4 e3,by rw[d8];exact s.len,λj y ej=>?_,λj ys ej=>?_,λj k ys zs b hjk ej ek e6=>?_,?_⟩,⟨pQ e3,λ_ z=>z⟩⟩
  .by_cases h:i=j
   .subst h
    rw[eI hi] at ej;cases ej;exact⟨_,e1,.lst (by unfold Wd.put;dsimp only;rw[aP]) (r.mono (pQ e3) λ_ z=>z)⟩
   .rw[d7 h] at ej
    obtain⟨v,q1,q2⟩:=s.d j y ej;exact⟨v,q1,q2.mono (pQ e3) λ_ z=>z⟩
  .have h:i≠j:=λh=>by subst h;rw[eI hi] at ej;cases ej
   rw[d7 h] at ej;obtain⟨b,us,q1,q2,q3,q4,q5,rr⟩:=s.o j ys ej;have hba:b≠a:=λz=>s.ne i j xs ys a h e ej e1 (by rw[<-z];exact q1);refine⟨b,us,q1,q2,?_,q4,q5,rr.mono (pQ e3) λ_ z=>z⟩;unfold Wd.put;dsimp only;rw[aI hba];exact q3
  .have h:i≠j:=λh=>by subst h;rw[eI hi] at ej;cases ej
   have h':i≠k:=λh=>by subst h;rw[eI hi] at ek;cases ek
   rw[d7 h] at ej;rw[d7 h'] at ek;exact s.ne j k ys zs b hjk ej ek e6
  .exact OOs.set ⟨λj xss ej=>let⟨a',bs,q1,q,n⟩:=s.oo.t j xss ej;⟨a',bs,q1,q.put (n i xs a e e1) e3,n⟩,s.oo.u⟩ (λ_ h=>by cases h) (λ_ _=>rfl) λ_ _ h=>by cases h
 .exact⟨W,s,.refl W⟩
theorem SOk.chg(s:SOk K W0 H0 W σ H ρ){i:Nat}{a:Addr}{xs ys:List D}{us:List V}(e:ρ[i]? = some (.ow xs))(e1:σ[i]? = some (some (.ref a)))(r:Reps K W us ys):SOk K W0 H0 W σ (upd H a (.lst us)) (ρ.set i (.ow ys)):=by
 obtain⟨a',vs,q1,q2,q3,q4,q5,rr⟩:=s.o i xs e;rw[e1] at q1;cases q1;have hi:i<ρ.length:=(Yaq.mp e).1;refine⟨s.ext.chg q5 q2 q4 q3,by rw[d8];exact s.len,λj y ej=>?_,λj zs ej=>?_,λj k ys' zs b hjk ej ek e6=>?_,OOs.set ⟨λj xss ej=>let⟨a',bs,p1,q,n⟩:=s.oo.t j xss ej;⟨a',bs,p1,q.upd (n i xs a e e1),n⟩,s.oo.u⟩ (λ_ h=>by cases h) (λ_ _=>rfl) λys c _ ec j xss a' bs _ ej ea _ n=>n i xs c e ec⟩
 .have h:i≠j:=λh=>by subst h;rw[eI hi] at ej;cases ej
  rw[d7 h] at ej;exact s.d j y ej
 .by_cases h:i=j
  .subst h
   rw[eI hi] at ej;cases ej;exact⟨a,us,e1,aP,q3,q4,q5,r⟩
  .rw[d7 h] at ej
   obtain⟨b,ws,p1,p2,p3,p4,p5,pr⟩:=s.o j zs ej;have hba:b≠a:=λz=>s.ne i j xs zs a h e ej e1 (by rw[<-z];exact p1);exact⟨b,ws,p1,by rw[aI hba];exact p2,p3,p4,p5,pr⟩
 .by_cases h:i=j
  .subst h
   rw[d7 hjk] at ek;exact s.ne i k xs zs b hjk e ek e6
  .rw[d7 h] at ej
   by_cases h':i=k
   .subst h'
    intro z;exact s.ne i j xs ys' b h e ej z e6
   .rw[d7 h'] at ek
    exact s.ne j k ys' zs b hjk ej ek e6
end
section
variable{pos:Pos}{rest:List Stmt}{a b:Expr}{z:WS}
def cF:WS:=λ_ N ρ=>N.nx ρ
def aG(z z':WS):WS:=λE N ρ=>z E { N with nx:=z' E N } ρ
theorem Nds.le_nx{N':Nds}(h:N.le N'){n n':cP->Prop}(hn:∀ρ,n ρ->n' ρ):Nds.le { N with nx:=n } { N' with nx:=n' }:=⟨hn,h.rt,h.bk,h.ct⟩
theorem dv:je X EX [] cF:=⟨⟨_,pA,λ_ _ _ W σ H ρ _ Dn N s fl _ no h=>no.nx W σ H ρ s fl h⟩,λ_ _ _ _ hl h=>hl.nx _ h⟩
theorem aU(h1:PZ X EX st z)(h2:je X EX rest z'):je X EX (st::rest) (aG z z'):=by
 obtain⟨t1,p1,k1⟩:=h1.t;obtain⟨t2,p2,k2⟩:=h2.t;refine⟨⟨_,nr p1 p2,λW0 H0 F W σ H ρ E Dn N s fl eo no h=>?_⟩,λE ρ N N' hl h=>h1.mono _ _ _ _ (Nds.le_nx hl λρ' h'=>h2.mono _ _ _ _ hl h') h⟩;exact k1 W0 H0 F W σ H ρ E _ { N with nx:=z' E N } s fl eo ⟨λW1 σ1 H1 ρ1 s1 f1 hn=>k2 W0 H0 F W1 σ1 H1 ρ1 E Dn N s1 f1 eo no hn,no.rt,no.bk,no.ct⟩ h
theorem aS(h1:PZ X EX st z):je X EX [st] z:=by
 obtain⟨t1,p1,k1⟩:=h1.t;exact⟨⟨_,pB p1,k1⟩,h1.mono⟩
def bM(i:Nat)(z:WS):WS:=λE N ρ=>z E N (pub i ρ)
theorem gM(i:Nat){sts:List Stmt}(h:je X EX sts z):je X EX sts (bM i z):=by
 obtain⟨t,p,k⟩:=h.t;refine⟨⟨t,p,λW0 H0 F W σ H ρ E Dn N s fl eo no h=>?_⟩,λE ρ N N' hl q=>h.mono _ _ _ _ hl q⟩;obtain⟨W',s',f'⟩:=s.pub i;exact k W0 H0 F W' σ H _ E Dn N s' (fl.trans f') eo no h
def gO(w:WE):WS:=λE N ρ=>w E ρ λ_=>N.nx ρ
theorem se(he:PX X EX e w)(hs:swapsWith e none pos.line X.env=pure false:=by rfl):PZ X EX (.Expr e pos) (gO w):=by
 obtain⟨t,p,k⟩:=he.t;refine⟨⟨_,ke p hs,λW0 H0 F W σ H ρ E Dn N s fl eo no h=>?_⟩,λE ρ N N' hl q=>he.mono _ _ _ _ (λ_=>hl.nx ρ) q⟩;exact k W0 H0 W σ H ρ E _ s eo (he.mono _ _ _ _ (λd hd v W1 H1 x1 r1=>no.nx W1 σ H1 ρ (s.step x1) (fl.ext x1) hd) h)
def aK(w:WE):WS:=λE N ρ=>w E ρ N.rt
theorem bA(he:PX X EX e w):PZ X EX (.Return (some e) pos) (aK w):=by
 obtain⟨t,p,k⟩:=he.t;refine⟨⟨_,rq p,λW0 H0 F W σ H ρ E Dn N s fl eo no h=>?_⟩,λE ρ N N' hl q=>he.mono _ _ _ _ hl.rt q⟩;exact k W0 H0 W σ H ρ E _ s eo (he.mono _ _ _ _ (λd hd v W1 H1 x1 r1=>no.rt d v W1 H1 (s.ext.trans x1) r1 hd) h)
def cE(w:WT)(z z':WS):WS:=λE N ρ=>w E ρ λb=>if b=true then z E N ρ else z' E N ρ
theorem dw{w:WT}{as bs:List Stmt}(hc:lb X EX c w)(ha:je X EX as z)(hb:je X EX bs z'):PZ X EX (.If c as bs pos) (cE w z z'):=by
 obtain⟨t,p,k⟩:=hc.t;obtain⟨ta,pa,ka⟩:=ha.t;obtain⟨tb,pb,kb⟩:=hb.t;refine⟨⟨_,uA p pa pb,λW0 H0 F W σ H ρ E Dn N s fl eo no h=>?_⟩,λE ρ N N' hl q=>hc.mono _ _ _ _ (λb hb'=>?_) q⟩
 .refine k W0 H0 W σ H ρ E _ s eo (hc.mono _ _ _ _ (λb hb' W1 H1 x1=>?_) h)
  cases b with
  |true=>rw[if_pos rfl] at hb' ⊢;exact ka W0 H0 F W1 σ H1 ρ E Dn N (s.step x1) (fl.ext x1) eo no hb'
  |false=>rw[if_neg (by decide)] at hb' ⊢;exact kb W0 H0 F W1 σ H1 ρ E Dn N (s.step x1) (fl.ext x1) eo no hb'
 .cases b with
  |true=>rw[if_pos rfl] at hb' ⊢;exact ha.mono _ _ _ _ hl hb'
  |false=>rw[if_neg (by decide)] at hb' ⊢;exact hb.mono _ _ _ _ hl hb'
def aQ(i:Nat)(w:WE):WS:=λE N ρ=>w E ρ λx=>N.nx (ρ.set i (.d x))
theorem cU(i:Nat)(he:PX X EX e w)(hN:X.N.Nodup)(hi:X.N[i]? = some x:=by rfl)(hx:oJ X.env.scope x:=by first|exact Or.inl rfl|exact Or.inr rfl)(hs:swapsWith e (some (.Name x pos')) pos.line X.env=pure false:=by rfl)
  (hf:X.fn x=true\/X.env.scope.names.lookup x=some .local:=by first|exact .inl rfl|exact .inr rfl|assumption):PZ X EX (.Assign [.Name x pos'] e pos) (aQ i w):=by
 obtain⟨t,p,k⟩:=he.t;refine⟨⟨_,nw hN hi hx p hs hf,λW0 H0 F W σ H ρ E Dn N s fl eo no h=>?_⟩,λE ρ N N' hl q=>he.mono _ _ _ _ (λ_=>hl.nx _) q⟩;exact k W0 H0 W σ H ρ E _ s eo (he.mono _ _ _ _ (λd hd v W1 H1 x1 r1=>no.nx W1 _ H1 _ ((s.step x1).set r1) (fl.ext x1) hd) h)
def bX(i:Nat)(t:WA):WS:=λE N ρ=>t E ρ λxs=>N.nx (ρ.set i (.ow xs))
theorem sf(i:Nat){t:WA}(he:PXL X EX e t)(hN:X.N.Nodup)(hi:X.N[i]? = some x:=by rfl)(hx:oJ X.env.scope x:=by first|exact Or.inl rfl|exact Or.inr rfl)(hs:swapsWith e (some (.Name x pos')) pos.line X.env=pure false:=by rfl)
  (hf:X.fn x=true\/X.env.scope.names.lookup x=some .local:=by first|exact .inl rfl|exact .inr rfl|assumption):PZ X EX (.Assign [.Name x pos'] e pos) (bX i t):=by
 obtain⟨t,p,k⟩:=he.t;refine⟨⟨_,nw hN hi hx p hs hf,λW0 H0 F W σ H ρ E Dn N s fl eo no h=>?_⟩,λE ρ N N' hl q=>he.mono _ _ _ _ (λ_=>hl.nx _) q⟩;refine k W0 H0 W σ H ρ E _ s eo (he.mono _ _ _ _ (λxs hd a vs W1 H1 x1 e1 e2 e3 e4 r1=>no.nx W1 _ H1 _ (s.own x1 e4 e1 e2 e3 r1) (fl.ext x1) hd) h)
end
def pS(K:Nn)(W:Wd)(J:It)(ds:List D):Prop:=
 ∀W2 H2 (i:Nat),(∀a o,W.G a=some o->W2.G a=some o)->(∀a,W.Pn a->W2.Pn a)->WOk W2 H2->
  (∀d,ds[i]? = some d->J.go i H2/\∀x H3,J.yld i H2 x H3->∃W3,Ext W2 H2 W3 H3/\Rep K W3 x d)/\(ds.length<=i->J.stop i H2)
structure n6(X:Cx)(EX:XK)(tg iter:Expr)(w:WA):Prop where
 t:∃t,PI X tg iter t/\∀W0 H0 W σ H ρ E R,SOk X.K W0 H0 W σ H ρ->jz X.K W0 H0 E EX->w E ρ (λds=>∀W' H' J,Ext W H W' H'->pS X.K W' J ds->R J H')->t σ H R
 mono:∀E ρ P P',(∀d,P d->P' d)->w E ρ P->w E ρ P'
section
variable{pos:Pos}{a b:Expr}
def isL(Q:List D->Prop):D->Prop
 |.lst xs=>Q xs
 |_=>False
theorem AW{Q:List D->Prop}(h:isL Q d):∃xs,d=.lst xs/\Q xs:=by
 cases d with
 |lst xs=>exact⟨xs,rfl,h⟩
 |_=>exact h.elim
theorem isL.mono{Q:List D->Prop}(h:∀b,Q b->Q' b):∀d,isL Q d->isL Q' d:=λd z=>by
 obtain⟨xs,rfl,q⟩:=AW z;exact h _ q
def isT(Q:List D->Prop):D->Prop
 |.tup xs=>Q xs
 |_=>False
theorem IX{Q:List D->Prop}(h:isT Q d):∃xs,d=.tup xs/\Q xs:=by
 cases d with
 |tup xs=>exact⟨xs,rfl,h⟩
 |_=>exact h.elim
theorem isT.mono{Q:List D->Prop}(h:∀b,Q b->Q' b):∀d,isT Q d->isT Q' d:=λd z=>by
 obtain⟨xs,rfl,q⟩:=IX z;exact h _ q
def iL(w:WE):WA:=λE ρ Q=>w E ρ (isL Q)
def iT(w:WE):WA:=λE ρ Q=>w E ρ (isT Q)
def rng(lo:Int)(n:Nat):List D:=(List.range n).map λ(k:Nat)=>D.int (lo+k)
theorem Dw{W:Wd}(lo:Int)(n:Nat):pS K W (uE lo n) (rng lo n):=by
 intro W2 H2 i g2 p2 ok2;refine⟨λd hd=>?_,λhi=>?_⟩
 .unfold rng at hd
  rw[cK] at hd
  by_cases hi:i<n
  .rw[jG hi] at hd
   cases hd;refine⟨hi,λx H3 y=>?_⟩;obtain⟨rfl,rfl⟩:=y;exact⟨W2,.refl ok2,.int _⟩
  .rw[eP (by simpa using hi)] at hd;cases hd
 .have:(rng lo n).length=n:=by unfold rng;simp
  rw[this] at hi;exact hi
def i1(Q:List D->Prop):List D->Prop
 |[.int j]=>-10000<=j/\j<10000/\Q (rng 0 j.toNat)
 |_=>False
def i2(Q:List D->Prop):List D->Prop
 |[.int i,.int j]=>(-10000<=i/\i<10000/\-10000<=j/\j<10000)/\Q (rng i (j-i).toNat)
 |_=>False
theorem i1.mono{Q:List D->Prop}(h:∀b,Q b->Q' b):∀d,i1 Q d->i1 Q' d:=λd z=>by
 unfold i1 at z ⊢;split at z
 .exact⟨z.1,z.2.1,h _ z.2.2⟩
 .exact z.elim
theorem i2.mono{Q:List D->Prop}(h:∀b,Q b->Q' b):∀d,i2 Q d->i2 Q' d:=λd z=>by
 unfold i2 at z ⊢;split at z
 .exact⟨z.1,h _ z.2⟩
 .exact z.elim
def fO(t:WA):WA:=λE ρ Q=>t E ρ (i1 Q)
def i5(t:WA):WA:=λE ρ Q=>t E ρ (i2 Q)
theorem n8{t:WA}(hm:X.mg "range" = none)(ha:iY X EX [a] t)(hg:Gl X "range" :=by rfl)(hs:starEach [a] X.env=[(false,eval a X.env)]:=by rfl):n6 X EX tg (.Call (.Name "range" p) [a] [] pos) (fO t):=by
 obtain⟨t,q,k⟩:=ha.t;refine⟨⟨_,kN hg hm q hs,λW0 H0 W σ H ρ E R s eo h=>?_⟩,λE ρ P P' hp h=>ha.mono _ _ _ _ (i1.mono hp) h⟩;refine k W0 H0 W σ H ρ E _ s eo (ha.mono _ _ _ _ (λds hd vs W1 H1 x1 r1=>?_) h);unfold i1 at hd;split at hd
 .obtain⟨v,rfl,rv⟩:=r1.one
  cases rv;exact⟨_,rfl,by omega,by omega,hd.2.2 W1 H1 _ x1 (Dw _ _)⟩
 .exact hd.elim
theorem AX{t:WA}(hm:X.mg "range" = none)(ha:iY X EX [a,b] t)(hg:Gl X "range" :=by rfl)(hs:starEach [a,b] X.env=[(false,eval a X.env),(false,eval b X.env)]:=by rfl)(hs2:starEach [b] X.env=[(false,eval b X.env)]:=by rfl) :
  n6 X EX tg (.Call (.Name "range" p) [a,b] [] pos) (i5 t):=by
 obtain⟨t,q,k⟩:=ha.t;refine⟨⟨_,kO hg hm q hs hs2,λW0 H0 W σ H ρ E R s eo h=>?_⟩,λE ρ P P' hp h=>ha.mono _ _ _ _ (i2.mono hp) h⟩;refine k W0 H0 W σ H ρ E _ s eo (ha.mono _ _ _ _ (λds hd vs W1 H1 x1 r1=>?_) h);unfold i2 at hd;split at hd
 .obtain⟨v,u,rfl,rv,ru⟩:=r1.two
  cases rv;cases ru;exact⟨_,_,rfl,⟨by omega,by omega,by omega,by omega⟩,hd.2 W1 H1 _ x1 (Dw _ _)⟩
 .exact hd.elim
end
abbrev WG:=D->cP->(cP->Prop)->Prop
def Zif(ρ:cP):Prop:=∀(i:Nat),(∀xs,ρ[i]?≠some (SV.ow xs))/\∀xss,ρ[i]?≠some (SV.oo xss)
structure pT(X:Cx)(tg:Expr)(g:WG):Prop where
 t:∃t,PG X tg t/\∀W0 H0 W σ H ρ d v Q,SOk X.K W0 H0 W σ H ρ->Rep X.K W v d->g d ρ (λρ'=>∀σ',SOk X.K W0 H0 W σ' H ρ'->Q σ' H)->t v σ H Q
 mono:∀d ρ P P',(∀r,P r->P' r)->g d ρ P->g d ρ P'
 own:∀d ρ P,Zif ρ->g d ρ P->g d ρ (λr=>Zif r/\P r)
section
variable{pos:Pos}
theorem Zif.set{ρ:cP}(h:Zif ρ)(i:Nat)(d:D):Zif (ρ.set i (.d d)):=λj=>by
 by_cases hj:i=j
 .subst hj
  by_cases hi:i<ρ.length
  .rw[eI hi];exact⟨λ_ e=>(by cases e),λ_ e=>(by cases e)⟩
  .rw[eP (by rw[d8];omega)];exact⟨λ_ e=>(by cases e),λ_ e=>(by cases e)⟩
 .rw[d7 hj];exact h j
def gN(i:Nat):WG:=λd ρ k=>k (ρ.set i (.d d))
theorem cG(i:Nat)(hN:X.N.Nodup)(hi:X.N[i]? = some x:=by rfl)(hx:oJ X.env.scope x:=by first|exact Or.inl rfl|exact Or.inr rfl)(hf:X.fn x=true\/X.env.scope.names.lookup x=some .local:=by first|exact .inl rfl|exact .inr rfl|assumption) :
  pT X (.Name x pos) (gN i):=
 ⟨⟨_,pC hN hi hx hf,λW0 H0 W σ H ρ d v Q s r h=>h _ (s.set r)⟩,λd ρ P P' hp h=>hp _ h,λd ρ P ho h=>⟨ho.set i d,h⟩⟩
end
def ZbQ(nv:Nat)(sel:List Nat)(ρ:cP):cP:=List.replicate nv .un++sel.map λj=>match ρ[j]? with
 |some (.d x)=>.d x
 |_=>.un
theorem ZbQ.own(nv:Nat)(sel:List Nat)(ρ:cP):Zif (ZbQ nv sel ρ):=λi=>by
 have key:∀sv,(ZbQ nv sel ρ)[i]? = some sv->sv=.un\/∃x,sv=.d x:=λsv e=>by
  unfold ZbQ at e;rcases gp i nv with h|h
  .rw[lF (by simpa using h),lE] at e
   rw[if_pos h] at e;cases e;exact .inl rfl
  .rw[kJ (by simpa using h),cK] at e
   cases q:sel[i-(List.replicate nv SV.un).length]? with
   |none=>rw[q] at e;cases e
   |some j=>
    rw[q] at e;have e':=Nv e;dsimp only at e';split at e'
    .exact .inr ⟨_,e'.symm⟩
    .exact .inl e'.symm
 refine⟨λxs e=>?_,λxs e=>?_⟩
 .rcases key _ e with z|⟨x,z⟩<;>cases z
 .rcases key _ e with z|⟨x,z⟩<;>cases z
def No:Ex->Prop:=λ_=>False
def lcW(g:WG)(wf:WT)(we:WE):List D->cP->List D->(List D->Prop)->Prop
 |[],_,acc,Q=>Q acc
 |d::ds,ρ,acc,Q=>g d ρ λρ2=>wf No ρ2 λb=>if b=true then we No ρ2 λy=>acc.length<aM/\lcW g wf we ds ρ2 (acc++[y]) Q else lcW g wf we ds ρ2 acc Q
structure tM(X:Cx)(EX:XK)(ifs:List Expr)(w:WT):Prop where
 t:∃t,PF X ifs t/\∀W0 H0 W σ H ρ E Q,SOk X.K W0 H0 W σ H ρ->jz X.K W0 H0 E EX->w E ρ (λb=>∀W' H',Ext W H W' H'->Q b H')->t σ H Q
 mono:∀E ρ P P',(∀d,P d->P' d)->w E ρ P->w E ρ P'
def cV:WT:=λ_ _ Q=>Q true
section
variable{pos:Pos}{g:WG}
theorem eS:tM X EX [] cV:=⟨⟨_,HI,λ_ _ W _ H _ _ _ s _ h=>h W H (.refl s.ok)⟩,λ_ _ _ _ hp h=>hp _ h⟩
theorem Dx(h:lb X EX c wf):tM X EX [c] wf:=let⟨t,q,k⟩:=h.t;⟨⟨t,HJ q,k⟩,h.mono⟩
theorem lcW.mono(hg:∀d ρ P P',(∀r,P r->P' r)->g d ρ P->g d ρ P')(hf:∀E ρ P P',(∀d,P d->P' d)->wf E ρ P->wf E ρ P')(he:∀E ρ P P',(∀d,P d->P' d)->we E ρ P->we E ρ P') :
  ∀ds ρ acc P P',(∀xs,P xs->P' xs)->lcW g wf we ds ρ acc P->lcW g wf we ds ρ acc P'
 |[],_,acc,P,P',hp,h=>hp _ h
 | d::ds,ρ,acc,P,P',hp,h=>hg _ _ _ _ (λr hr=>hf _ _ _ _ (λb hb=>by
   cases b with
   |true=>rw[if_pos rfl] at hb ⊢;exact he _ _ _ _ (λy hy=>⟨hy.1,lcW.mono hg hf he ds r _ P P' hp hy.2⟩) hb
   |false=>rw[if_neg (by decide)] at hb ⊢;exact lcW.mono hg hf he ds r _ P P' hp hb) hr) h
def aLC(wi:WA)(nv:Nat)(sel:List Nat)(g:WG)(wf:WT)(we:WE):WA:=λE ρ Q=>wi E ρ λds=>lcW g wf we ds (ZbQ nv sel ρ) [] Q
theorem aLC.mono(hi:n6 X EX target iter wi)(hg:∀d ρ P P',(∀r,P r->P' r)->g d ρ P->g d ρ P')(hf:∀E ρ P P',(∀d,P d->P' d)->wf E ρ P->wf E ρ P')(he:∀E ρ P P',(∀d,P d->P' d)->we E ρ P->we E ρ P') :
  ∀E ρ P P',(∀d,P d->P' d)->aLC wi vars.length sel g wf we E ρ P->aLC wi vars.length sel g wf we E ρ P':=λE ρ P P' hp h=>hi.mono _ _ _ _ (λds hds=>lcW.mono hg hf he ds _ _ _ _ hp hds) h
theorem SOk.lc{W:Wd}(s:SOk X.K W0 H0 W σ H ρ)(nv:Nat)(sel:List Nat):SOk X.K W0 H0 W (gY nv sel σ) H (ZbQ nv sel ρ) where
 ext:=s.ext
 len:=by unfold ZbQ gY;simp
 d:=λi x e=>by
  unfold ZbQ at e;rcases gp i nv with h|h
  .rw[lF (by simpa using h),lE] at e
   split at e<;>cases e
  .rw[kJ (by simpa using h),cK,o5] at e
   cases q:sel[i-nv]? with
   |none=>rw[q] at e;cases e
   |some j=>
    rw[q] at e;have e':=Nv e;dsimp only at e';split at e'
    .rename_i y ey
     cases e';obtain⟨v,ev,r⟩:=s.d j x ey;refine⟨v,?_,r⟩;unfold gY;rw[kJ (by simpa using h),o5,cK,q];show some ((σ[j]?).getD none)=_;rw[ev];rfl
    .cases e'
 o:=λi xs e=>Nq e ((ZbQ.own nv sel ρ i).1 xs)
 ne:=λi j xs ys a _ e=>Nq e ((ZbQ.own nv sel ρ i).1 xs)
 oo:=.none λi=>(ZbQ.own nv sel ρ i).2
theorem SOk.chgD{W:Wd}{a:Addr}{o':HO}(s:SOk K W0 H0 W σ H ρ)(ho:Zif ρ)(h0:H0 a=none)(h1:H a=some o)(h2:¬W.Pn a)(h3:W.G a=none):SOk K W0 H0 W σ (upd H a o') ρ:=
 ⟨s.ext.chg h0 h1 h2 h3,s.len,s.d,λi xs e=>Nq e ((ho i).1 xs),λi j xs ys a _ e=>Nq e ((ho i).1 xs),.none λi=>(ho i).2⟩
theorem AY(hi:n6 X EX target iter wi)(hg:∀s H fp,pT (X.lc sc vars sel s H fp) target g)(hf:∀s H fp,tM (X.lc sc vars sel s H fp) E0 ifs wf)(he:∀s H fp,PX (X.lc sc vars sel s H fp) E0 elt we) :
  ∃(ti:TI) (tg:TG) (tf:TT) (te:TE),PI X target iter ti/\(∀s H fp,PG (X.lc sc vars sel s H fp) target tg)/\(∀s H fp,PF (X.lc sc vars sel s H fp) ifs tf)/\(∀s H fp,PE (X.lc sc vars sel s H fp) elt te)/\
   ∀W0 H0 W σ H ρ E Q,SOk X.K W0 H0 W σ H ρ->jz X.K W0 H0 E EX->
    aLC wi vars.length sel g wf we E ρ (λds=>∀a vs W' H',Ext W H W' H'->H' a=some (.lst vs)->W'.G a=none->¬W'.Pn a->H a=none->Reps X.K W' vs ds->Q (.ref a) H')->AF ti vars.length sel tg tf te σ H Q:=by
 obtain⟨ti,pi,ki⟩:=hi.t;refine ⟨ti,λv σ H Q=>∃ W0 H0 W ρ d,SOk X.K W0 H0 W σ H ρ/\Rep X.K W v d/\g d ρ (λρ'=>∀ σ',SOk X.K W0 H0 W σ' H ρ'->Q σ' H),
  λσ H Q=>∃W0 H0 W ρ,SOk X.K W0 H0 W σ H ρ/\wf No ρ (λb=>∀W' H',Ext W H W' H'->Q b H'),
  λσ H Q=>∃W0 H0 W ρ,SOk X.K W0 H0 W σ H ρ/\we No ρ (RQ X.K W H Q),pi,λs1 H1 fp=>?_,λs1 H1 fp=>?_,λs1 H1 fp=>?_,?_⟩
 .obtain⟨t,q,k⟩:=(hg s1 H1 fp).t
  rintro pins s σ H v u Q I r ⟨W0,H0,W,ρ,d,s',r',h⟩;exact q pins s σ H v u Q I r (k W0 H0 W σ H ρ d v Q s' r' h)
 .obtain⟨t,q,k⟩:=(hf s1 H1 fp).t
  rintro pins s σ H Q I ⟨W0,H0,W,ρ,s',h⟩;exact q pins s σ H Q I (k W0 H0 W σ H ρ No Q s' (λ_ _ _ _ _ z=>z.elim) h)
 .obtain⟨t,q,k⟩:=(he s1 H1 fp).t
  rintro pins s σ H Q I ⟨W0,H0,W,ρ,s',h⟩;exact q pins s σ H Q I (k W0 H0 W σ H ρ No Q s' (λ_ _ _ _ _ z=>z.elim) h)
 .have gm:=(hg {} (λ_=>none) []).mono
  have go:=(hg {} (λ_=>none) []).own;have fm:=(hf {} (λ_=>none) []).mono;have em:=(he {} (λ_=>none) []).mono;intro W0 H0 W σ H ρ E Q s eo h;refine ki W0 H0 W σ H ρ E _ s eo (hi.mono _ _ _ _ (λds hds W1 H1 J x1 it D hD=>?_) h);have hDf:=x1.ok.fresh hD;have hD0:H0 D=none:=s.ext.isN (x1.isN hD);refine ⟨λi m ys σ2 H2=>m=ds.length - i/\i<=ds.length/\∃ W2 ρ2 acc,Ext W1 H1 W2 H2/\SOk X.K W0 H0 W2 σ2 H2 ρ2/\Zif ρ2/\H2 D=some (.lst ys)/\W2.G D=none/\¬ W2.Pn D/\Reps X.K W2 ys acc/\
   lcW g wf we (ds.drop i) ρ2 acc (λds=>∀a vs W' H',Ext W H W' H'->H' a=some (.lst vs)->W'.G a=none->¬W'.Pn a->H a=none->Reps X.K W' vs ds->Q (.ref a) H'),⟨_,rfl,i6 _,W1,_,[],.new x1.ok hD,?_,ZbQ.own _ _ ρ,aP,hDf.1,hDf.2,.nil,by rw[tz];exact hds⟩,?_⟩
  .exact(((s.step x1).step (.new x1.ok hD)).lc vars.length sel)
  .rintro i m ys σ2 H2 ⟨rfl,hi',W2,ρ2,acc,x2,s2,no2,hD2,g2,p2,r2,q2⟩
   refine⟨hD2,?_⟩;obtain⟨itg,its⟩:=it W2 H2 i x2.g x2.p x2.ok;rcases gp i ds.length with hlt|hge
   .have hd:ds[i]? = some ds[i]:=bW hlt
    obtain⟨go',yl⟩:=itg _ hd;refine .inr ⟨go',λx H3 y=>?_⟩;obtain⟨W3,x3,r3⟩:=yl x H3 y;rw[tB hlt] at q2;have keepD:∀{W' H'},Ext W2 H2 W' H'->H' D=some (.lst ys)/\W'.G D=none/\¬W'.Pn D:=λ{W' H'} x'=>by
     refine⟨x'.h D _ hD2 p2,?_,λz=>?_⟩
     .cases q:W'.G D with
      |none=>rfl
      |some o=>have:=x'.gf D g2 (by rw[q];simp);rw[hD2] at this;cases this
     .have:=x'.pf D p2 z;rw[hD2] at this;cases this
    refine⟨W0,H0,W3,ρ2,ds[i],s2.step x3,r3,gm _ _ _ _ (λρ4 hr σ4 s4=>?_) (go _ _ _ no2 q2)⟩;obtain⟨no4,hr⟩:=hr;refine⟨W0,H0,W3,ρ4,s4,fm _ _ _ _ (λb hb W5 H5 x5=>?_) hr⟩;cases b with
    |false=>
     rw[if_neg (by decide)] at hb ⊢;have kD:=keepD (x3.trans x5);exact⟨ds.length-(i+1),by omega,rfl,hlt,W5,ρ4,acc,x2.trans (x3.trans x5),s4.step x5,no4,kD.1,kD.2.1,kD.2.2,(x3.trans x5).reps r2,hb⟩
    |true=>
     rw[if_pos rfl] at hb ⊢;refine⟨W0,H0,W5,ρ4,s4.step x5,em _ _ _ _ (λy hy v W6 H6 x6 r6=>?_) hb⟩;have xx:=x3.trans (x5.trans x6);have kD:=keepD xx;have hl:ys.length=acc.length:=r2.length;refine⟨kD.1,by rw[hl];exact de hy.1 (pR (cB _)),ds.length-(i+1),by omega,rfl,hlt,W6,ρ4,acc++[y],(x2.trans xx).chg hD kD.1 kD.2.2 kD.2.1,?_,no4,aP,kD.2.1,kD.2.2,(xx.reps r2).append (.cons r6 .nil),hy.2⟩;exact((s4.step x5).step x6).chgD no4 hD0 kD.1 kD.2.2 kD.2.1
   .have e:i=ds.length:=by omega
    refine .inl ⟨its hge,?_⟩;rw[List.drop_of_length_le hge] at q2;exact q2 D ys W2 H2 (x1.trans x2) hD2 g2 p2 (x1.isN hD) r2
theorem gg(vars:List Str)(sel:List Nat)(hc:X.calm=true)(hi:n6 X EX target iter wi)(hg:∀s H fp,pT (X.lc sc vars sel s H fp) target g)(hf:∀s H fp,tM (X.lc sc vars sel s H fp) E0 ifs wf)(he:∀s H fp,PX (X.lc sc vars sel s H fp) E0 elt we)
  (ok:lI sc X.env.scope=true:=by rfl) (so:rY X.N sc sel=true:=by rfl) (hs:∀x,foldedSetIterable iter X.env x=pure x:=by intro _;rfl):PXL X EX (.ListComp elt [⟨target,iter,ifs,0⟩] sc pos) (aLC wi vars.length sel g wf we):=by
 obtain⟨ti,tg,tf,te,pi,pg,pf,pe,k⟩:=AY hi hg hf he;exact⟨⟨_,uT vars sel hc pi ok so pg pf pe hs,k⟩,aLC.mono hi (hg {} (λ_=>none) []).mono (hf {} (λ_=>none) []).mono (he {} (λ_=>none) []).mono⟩
theorem tN(i:Nat)(vars:List Str)(sel:List Nat)(hc:X.calm=true)(hN:X.N.Nodup)(hi:n6 X EX target iter wi)(hg:∀s H fp,pT (X.lc sc vars sel s H fp) target g)(hf:∀s H fp,tM (X.lc sc vars sel s H fp) E0 ifs wf)(he:∀s H fp,PX (X.lc sc vars sel s H fp) E0 elt we)
  (hix:X.N[i]? = some x:=by rfl) (hx:oJ X.env.scope x:=by first|exact Or.inl rfl|exact Or.inr rfl)
  (hsw:swapsWith (.ListComp elt [⟨target,iter,ifs,0⟩] sc pos) (some (.Name x pos')) spos.line X.env=pure true:=by rfl)
  (ok:lI sc X.env.scope=true:=by rfl) (so:rY X.N sc sel=true:=by rfl) (hs:∀x,foldedSetIterable iter X.env x=pure x:=by intro _;rfl) (hfn:X.fn x=true\/X.env.scope.names.lookup x=some .local:=by first|exact .inl rfl|exact .inr rfl|assumption) :
  PZ X EX (.Assign [.Name x pos'] (.ListComp elt [⟨target,iter,ifs,0⟩] sc pos) spos) (bX i (aLC wi vars.length sel g wf we)):=by
 obtain⟨ti,tg,tf,te,pi,pg,pf,pe,k⟩:=AY hi hg hf he;have am:=aLC.mono (vars:=vars) (sel:=sel) hi (hg {} (λ_=>none) []).mono (hf {} (λ_=>none) []).mono (he {} (λ_=>none) []).mono;refine⟨⟨_,Di vars sel hc hN hix hx pi ok so pg pf pe hsw hs hfn,λW0 H0 F W σ H ρ E Dn N s fl eo no h=>?_⟩,λE ρ N N' hl q=>am _ _ _ _ (λ_=>hl.nx _) q⟩;refine k W0 H0 W σ H ρ E _ s eo (am _ _ _ _ (λxs hd a vs W1 H1 x1 e1 e2 e3 e4 r1=>no.nx W1 _ H1 _ (s.own x1 e4 e1 e2 e3 r1) (fl.ext x1) hd) h)
def Zbm(g:WG)(zb:WS)(E:Ex->Prop)(N:Nds):List D->cP->Prop
 |[],ρ=>N.nx ρ
 |d::ds,ρ=>g d ρ λρ1=>zb E { nx:=Zbm g zb E N ds,rt:=N.rt,bk:=N.nx,ct:=Zbm g zb E N ds } ρ1
def bD(wi:WA)(g:WG)(zb:WS):WS:=λE N ρ=>wi E ρ λds=>Zbm g zb E N ds ρ
theorem Zbm.mono{zb:WS}(hg:∀d ρ P P',(∀r,P r->P' r)->g d ρ P->g d ρ P')(hb:∀E ρ N N',N.le N'->zb E N ρ->zb E N' ρ){E:Ex->Prop}{N N':Nds}(hl:N.le N'):∀ds ρ,Zbm g zb E N ds ρ->Zbm g zb E N' ds ρ
 |[],ρ,h=>hl.nx _ h
 |d::ds,ρ,h=>hg _ _ _ _ (λr hr=>hb E r { nx:=Zbm g zb E N ds,rt:=N.rt,bk:=N.nx,ct:=Zbm g zb E N ds } _ ⟨Zbm.mono hg hb hl ds,hl.rt,hl.nx,Zbm.mono hg hb hl ds⟩ hr) h
theorem jj(hp:PassesOwn (model X.prog X.w) X.A X.env X.xe)(hc:X.calm=true)(hi:n6 X EX target iter wi)(hg:pT X target g)(hb:je X EX body zb)
  (hs:∀x,foldedSetIterable iter X.env x=pure x:=by intro _;rfl):PZ X EX (.For target iter body [] pos) (bD wi g zb):=by
 obtain⟨ti,pi,ki⟩:=hi.t;obtain⟨tg,pg,kg⟩:=hg.t;obtain⟨tb,pb,kb⟩:=hb.t;refine⟨⟨_,rF hp hc pi pg pb hs,λW0 H0 F W σ H ρ E Dn N s fl eo no h=>?_⟩,λE ρ N N' hl q=>hi.mono _ _ _ _ (λds hds=>Zbm.mono hg.mono hb.mono hl ds ρ hds) q⟩;refine ki W0 H0 W σ H ρ E _ s eo (hi.mono _ _ _ _ (λds hds W1 H1 J x1 it=>?_) h);refine⟨λi m σ2 H2=>m=ds.length-i/\i<=ds.length/\∃W2 ρ2,SOk X.K W0 H0 W2 σ2 H2 ρ2/\Wle W1 W2/\Zbm g zb E N (ds.drop i) ρ2,⟨_,rfl,i6 _,W1,ρ,s.step x1,.refl W1,by rw[tz];exact hds⟩,?_⟩;rintro i m σ2 H2 ⟨rfl,hi',W2,ρ2,s2,f2,q2⟩;obtain⟨itg,its⟩:=it W2 H2 i f2.g f2.p s2.ok;have fF:∀{V:Wd},Wle W1 V->Wle F V:=λf=>(fl.ext x1).trans f;rcases gp i ds.length with hlt|hge
 .have hd:ds[i]? = some ds[i]:=bW hlt
  obtain⟨go',yl⟩:=itg _ hd;rw[tB hlt] at q2;refine .inr ⟨go',λσ3 H3=>∃W3 ρ3,SOk X.K W0 H0 W3 σ3 H3 ρ3/\Wle W1 W3/\Zbm g zb E N (ds.drop (i+1)) ρ3,λσ3 H3 ⟨W3,ρ3,s3,f3,q3⟩=>⟨ds.length-(i+1),by omega,rfl,hlt,W3,ρ3,s3,f3,q3⟩,λx H3 y=>?_⟩;obtain⟨W3,x3,r3⟩:=yl x H3 y;refine kg W0 H0 W3 σ2 H3 ρ2 ds[i] x _ (s2.step x3) r3 (hg.mono _ _ _ _ (λρ4 hr σ4 s4=>?_) q2);refine kb W0 H0 W1 W3 σ4 H3 ρ4 E _ { nx:=Zbm g zb E N (ds.drop (i+1)),rt:=N.rt,bk:=N.nx,ct:=Zbm g zb E N (ds.drop (i+1)) } s4 (f2.ext x3) eo ⟨λW5 σ5 H5 ρ5 s5 f5 h5=>⟨W5,ρ5,s5,f5,h5⟩,no.rt,λW5 σ5 H5 ρ5 s5 f5 h5=>no.nx W5 σ5 H5 ρ5 s5 (fF f5) h5,λW5 σ5 H5 ρ5 s5 f5 h5=>⟨W5,ρ5,s5,f5,h5⟩⟩ hr
 .have e:i=ds.length:=by omega
  refine .inl ⟨its hge,?_⟩;rw[List.drop_of_length_le hge] at q2;exact no.nx W2 σ2 H2 ρ2 s2 (fF f2) q2
end
def ef(N:List Str)(ds:List D):cP:=ds.map .d++List.replicate (N.length-ds.length) .un
abbrev Rd(S:List D->(Ex->Prop)->(D->Prop)->Prop)(z:WS)(N:List Str):Prop:=∀ds E Q,S ds E Q->z E { nx:=λ_=>Q .non,rt:=Q } (ef N ds)
theorem Dy{W:Wd}{N:List Str}(ok:WOk W H)(r:Reps K W vs ds):SOk K W H W (start N vs) H (ef N ds) where
 ext:=.refl ok
 len:=by unfold ef L2.start;simp[r.length]
 d:=λi x e=>by
  unfold ef at e;rcases gp i ds.length with h|h
  .rw[lF (by simpa using h),cK] at e
   cases q:ds[i]? with
   |none=>rw[q] at e;cases e
   |some y=>
    rw[q] at e;cases e;obtain⟨v,ev,rv⟩:=r.get q;refine⟨v,?_,rv⟩;unfold L2.start;rw[lF (by rw[bC,r.length];exact h),cK,ev];rfl
  .rw[kJ (by simpa using h),lE] at e
   split at e<;>cases e
 o:=λi xs e=>by
  unfold ef at e;rcases gp i ds.length with h|h
  .rw[lF (by simpa using h),cK] at e
   cases q:ds[i]? with
   |none=>rw[q] at e;cases e
   |some y=>rw[q] at e;cases e
  .rw[kJ (by simpa using h),lE] at e
   split at e<;>cases e
 ne:=λi j xs ys a _ e=>by
  unfold ef at e;rcases gp i ds.length with h|h
  .rw[lF (by simpa using h),cK] at e
   cases q:ds[i]? with
   |none=>rw[q] at e;cases e
   |some y=>rw[q] at e;cases e
  .rw[kJ (by simpa using h),lE] at e
   split at e<;>cases e
 oo:=.none λi xs e=>by
  unfold ef at e;rcases gp i ds.length with h|h
  .rw[lF (by simpa using h),cK] at e
   cases q:ds[i]? with
   |none=>rw[q] at e;cases e
   |some y=>rw[q] at e;cases e
  .rw[kJ (by simpa using h),lE] at e
   split at e<;>cases e
section
variable{w:World}
theorem vc{N:List Str}{z:WS}(F:Fun K x qual st f fd)(sc:cS N ps (aJ st))(len:∀ds E Q,S ds E Q->ds.length=ps.length)
  (hbody:∀ (cdv:Value) (A:Around) (outer:List Env) (s:Shared) (H:Hp) (E:XK),Room k (A.deeper (envOfC qual (aJ st) s.heap.objs.size f cdv))->
   cQ (eQ P w) (dP (eQ P w) P w K mg base N qual (aJ st) f cdv A outer s H E) E->k9 (dP (eQ P w) P w K mg base N qual (aJ st) f cdv A outer s H E) E->
   je (dP (eQ P w) P w K mg base N qual (aJ st) f cdv A outer s H E) E (bH st) z)
  (h:∀ds E Q,S ds E Q->z E { nx:=λ_=>Q .non,rt:=Q } (ef N ds)):FnOk P w K mg base (eQ P w) (k+1) f fd ps (fV K S):=by
 obtain⟨oc,od,kV,doc,pm,an,cdv,ct,osl,rfl,lk,hcd⟩:=F.ex;refine qr lk hcd sc (λvs H Q E hs=>?_) λA outer s H vs Q E hr hs=>?_
 .obtain⟨ds,W,_,r,hS⟩:=hs
  rw[r.length];exact len _ _ _ hS
 .obtain⟨ds,W,ok,r,hS⟩:=hs
  obtain⟨t,p,k⟩:=(hbody cdv A outer s H E hr HS HU).t;refine ⟨t,p,k W H W W (start N vs) H (ef N ds) (λex=>∀ W' H' cls dx,Ext W H W' H'->xN K W' H' cls dx ex->E cls dx H') _ { nx:=λ_=>RQ K W H Q .non,rt:=RQ K W H Q } (Dy ok r) (.refl W) (λex W' H' cls dx he x r=>he W' H' cls dx x r)
   ⟨λW1 σ1 H1 ρ1 s1 _ q=>q _ W1 H1 s1.ext .non,λd v W1 H1 x1 r1 q=>q v W1 H1 x1 r1,λ_ _ _ _ _ _ q=>q.elim,λ_ _ _ _ _ _ q=>q.elim⟩ (h ds _ _ hS)⟩
end
structure Fp(P:Program)(w:World)(K:Nn)(mg:Str->Option Value)(base:Heap)(k:Nat)(x:Str)(ps:List Str)(S:bF):Prop where
 ok:∃f fd,FnOk P w K mg base (eQ P w) k f fd ps (fV K S)/\mg x=some (.ref f)/\PySem.W.keepIn K (.ref f)=true/\Binds K fd ps []
 mono:nZ S
section
variable{pos:Pos}{t:WA}
theorem aT(G:Fp X.prog X.w X.K X.mg X.base k x ps S)(hr:Room j X.A)(hx:cQ (eQ X.prog X.w) X EX)(ha:iY X EX (e::es) t)(hk:k<=j:=by decide)(hg:Gl X x:=by rfl)(hdb:(x==("__debug__" : Str))=false:=by decide)(he:starEach (e::es) X.env=(false,eval e X.env)::starEach es X.env:=by rfl)(hpl:(backTo pos (starEach es X.env)).any (·.1)=false:=by rfl) :
  PX X EX (.Call (.Name x p) (e::es) [] pos) (wF S t):=by
 obtain⟨f,fd,F,hm,kp,hb⟩:=G.ok;exact IM F G.mono (hr.mono hk) hm kp hb hx ha hg hdb he hpl
def bB(z:WS):WS:=λ_ N ρ=>z No N ρ
theorem iM{z:WS}(h:PZ X.nox E0 st z):PZ X EX st (bB z):=by
 obtain⟨t,p,k⟩:=h.t;refine⟨⟨t,λpins s σ H D I hw=>ND (p pins s σ H D (I.wish _) hw) (λ_ _ q=>q.unwish) λ_ _ z=>NC z,λW0 H0 F W σ H ρ E Dn N s fl eo no q=>k W0 H0 F W σ H ρ No Dn N s fl (λ_ _ _ _ _ z=>z.elim) no q⟩,λE ρ N N' hl q=>h.mono _ _ _ _ hl q⟩
end
section
variable{pos:Pos}{a b:Expr}
def isS(Q:List D->Prop):D->Prop
 |.lst xs=>Q xs
 |.tup xs=>Q xs
 |_=>False
theorem isS.mono{Q:List D->Prop}(h:∀b,Q b->Q' b):∀d,isS Q d->isS Q' d:=λd z=>by
 cases d<;>first|exact h _ z|exact z
def iS(w:WE):WA:=λE ρ Q=>w E ρ (isS Q)
theorem fe(he:PX X EX e w):n6 X EX tg e (iS w):=by
 obtain⟨t,q,k⟩:=he.t;refine⟨⟨_,HV q,λW0 H0 W σ H ρ E R s eo h=>?_⟩,λE ρ P P' hp h=>he.mono _ _ _ _ (isS.mono hp) h⟩;refine k W0 H0 W σ H ρ E _ s eo (he.mono _ _ _ _ (λd hd v W1 H1 x1 r1=>?_) h);have keyT:∀{l:Addr} {vs:List V} {xs:List D},(∀W' H' J,Ext W H W' H'->pS X.K W' J xs->R J H')->(∀W2 H2,(∀a o,W1.G a=some o->W2.G a=some o)->WOk W2 H2->SqT X.K H2 l vs)->Reps X.K W1 vs xs->(∃ys,SqT X.K H1 l ys)/\R (At X.K l) H1:=by
  intro l vs xs hq sq rr;refine⟨⟨vs,sq W1 H1 (λ_ _ z=>z) x1.ok⟩,hq W1 H1 _ x1 λW2 H2 i g2 p2 ok2=>⟨λd hd=>?_,λhi=>⟨vs,sq W2 H2 g2 ok2,by rw[rr.length];exact hi⟩⟩⟩;obtain⟨v,ev,rv⟩:=rr.get hd;refine⟨⟨vs,v,sq W2 H2 g2 ok2,ev⟩,λx H3 y=>?_⟩;obtain⟨rfl,y⟩:=y;have:=y vs (sq W2 _ g2 ok2);rw[ev] at this;cases this;exact⟨W2,.refl ok2,rv.mono g2 p2⟩
 cases r1 with
 | @lst l vs xs e1 rr=>
  have hq:∀W' H' J,Ext W H W' H'->pS X.K W' J xs->R J H':=hd;refine⟨l,rfl,.inl ⟨⟨vs,SqL.of (x1.ok.g _ _ e1)⟩,hq W1 H1 _ x1 λW2 H2 i g2 p2 ok2=>⟨λd hd=>?_,λhi=>⟨vs,SqL.of (ok2.g _ _ (g2 _ _ e1)),by rw[rr.length];exact hi⟩⟩⟩⟩;obtain⟨v,ev,rv⟩:=rr.get hd;have sq:SqL X.K H2 l vs:=SqL.of (ok2.g _ _ (g2 _ _ e1));refine⟨⟨vs,v,sq,ev⟩,λx H3 y=>?_⟩;obtain⟨rfl,y⟩:=y;have:=y vs sq;rw[ev] at this;cases this;exact⟨W2,.refl ok2,rv.mono g2 p2⟩
 |tup e1 rr=>exact⟨_,rfl,.inr (keyT hd (λW2 H2 g2 ok2=>SqT.of (ok2.g _ _ (g2 _ _ e1))) rr)⟩
 |ktup e1 rr=>exact⟨_,rfl,.inr (keyT hd (λW2 H2 g2 ok2=>.inr e1) rr)⟩
 |non=>exact hd.elim
 |bl _=>exact hd.elim
 |int _=>exact hd.elim
 |str _=>exact hd.elim
 |dic _=>exact hd.elim
 |pen _=>exact hd.elim
 |cls _=>exact hd.elim
 |exc _ _=>exact hd.elim
 |ty _=>exact hd.elim
 |scr _ _=>exact hd.elim
theorem jk{T:String}(hm:X.mg x=none)(hv:bootBuiltins x=some (.type T))(hg:Gl X x:=by rfl)(hn:x≠ "__name__" :=by decide)(hd:(x==("__debug__" : Str))=false:=by decide):PX X EX (.Name x pos) (wC (.ty T)):=
 IK (v:=.ty T) hm hv rfl (λ_=>.ty T) hg hn hd
theorem IY{i:Int}{t:Tok}(hm:X.mg x=some (.int i t))(hg:Gl X x:=by rfl)(hd:(x==("__debug__" : Str))=false:=by decide):PX X EX (.Name x pos) (wC (.int i)):=
 AO (v:=.int i) hm ⟨t,rfl⟩ (λ_=>.int i) hg hd
theorem IZ{a:Addr}(hm:X.mg x=some (.ref a))(hk:KT X.K a vs)(hr:∀W,Reps X.K W vs ds)(hg:Gl X x:=by rfl)(hd:(x==("__debug__" : Str))=false:=by decide):PX X EX (.Name x pos) (wC (.tup ds)):=
 AO (v:=.ref a) hm rfl (λW=>.ktup hk (hr W)) hg hd
end
def detS(n:Nat)(dom:List D->Prop)(val:List D->D):bF:=λds _ Q=>ds.length=n/\dom ds/\Q (val ds)
theorem detS.mono:nZ (detS n dom val):=λds E E' Q Q' _ hQ h=>⟨h.1,h.2.1,hQ _ h.2.2⟩
theorem detS.len(hp:ps.length=n):∀ds E Q,detS n dom val ds E Q->ds.length=ps.length:=λds E Q h=>h.1.trans hp.symm
def ndS(n:Nat)(dom:List D->Prop)(rel:List D->D->Prop):bF:=λds _ Q=>ds.length=n/\dom ds/\∀d,rel ds d->Q d
theorem ndS.mono:nZ (ndS n dom rel):=λds E E' Q Q' _ hQ h=>⟨h.1,h.2.1,λd r=>hQ _ (h.2.2 d r)⟩
theorem ndS.len(hp:ps.length=n):∀ds E Q,ndS n dom rel ds E Q->ds.length=ps.length:=λds E Q h=>h.1.trans hp.symm
theorem Fp.nd{w:World}(h:FnOk P w K mg base (eQ P w) k f fd ps (fV K (ndS n dom rel)))(hm:mg x=some (.ref f))(kp:PySem.W.keepIn K (.ref f)=true)(hb:Binds K fd ps []) :
  Fp P w K mg base k x ps (ndS n dom rel):=⟨⟨f,fd,h,hm,kp,hb⟩,ndS.mono⟩
theorem I0{neg:Bool}{i j:Int}(h:Q (.bl (if neg then !(i==j) else i==j))):gEq neg (.int i) (.int j) Q:=by
 refine⟨.int i,.int j,rfl,rfl,rfl,rfl,?_⟩;exact h
theorem kz{neg:Bool}{i j:Int}:gEq neg (.int i) (.int j) Q↔Q (.bl (if neg then !(i==j) else i==j)):=
 ⟨λ⟨p,q,h1,h2,_,_,h⟩=>by cases h1;cases h2;exact h,I0⟩
section
variable{pos:Pos}{a b:Expr}{g:WG}
abbrev sh:=List D->cP->(cP->Prop)->Prop
structure pV(X:Cx)(ts:List Expr)(g:sh):Prop where
 t:∃t,uB X ts t/\∀W0 H0 W σ H ρ ds vs Q,SOk X.K W0 H0 W σ H ρ->Reps X.K W vs ds->g ds ρ (λρ'=>∀σ',SOk X.K W0 H0 W σ' H ρ'->Q σ' H)->t vs σ H Q
 mono:∀d ρ P P',(∀r,P r->P' r)->g d ρ P->g d ρ P'
 own:∀d ρ P,Zif ρ->g d ρ P->g d ρ (λr=>Zif r/\P r)
def dE:sh:=λds ρ k=>match ds with
 |[]=>k ρ
 |_=>False
def cI(g:WG)(gs:sh):sh:=λds ρ k=>match ds with
 |d::ds=>g d ρ λρ'=>gs ds ρ' k
 |_=>False
theorem kA:pV X [] dE:=by
 refine⟨⟨_,kj,λW0 H0 W σ H ρ ds vs Q s r h=>?_⟩,λd ρ P P' hp h=>?_,λd ρ P ho h=>?_⟩
 .cases r with
  |nil=>exact⟨rfl,h σ s⟩
  |cons _ _=>exact h.elim
 .cases d with
  |nil=>exact hp _ h
  |cons _ _=>exact h.elim
 .cases d with
  |nil=>exact⟨ho,h⟩
  |cons _ _=>exact h.elim
theorem fq{gs:sh}(h1:pT X e g)(h2:pV X es gs)(hs:(assignEach (e::es) X.env).map (·.2)=assign e X.env::(assignEach es X.env).map (·.2):=by rfl):pV X (e::es) (cI g gs):=by
 obtain⟨t1,p1,k1⟩:=h1.t;obtain⟨t2,p2,k2⟩:=h2.t;refine⟨⟨_,gv p1 p2 hs,λW0 H0 W σ H ρ ds vs Q s r h=>?_⟩,λd ρ P P' hp h=>?_,λd ρ P ho h=>?_⟩
 .cases r with
  |nil=>exact h.elim
  |cons r rr=>exact⟨_,_,rfl,k1 W0 H0 W σ H ρ _ _ _ s r (h1.mono _ _ _ _ (λρ' h' σ' s'=>k2 W0 H0 W σ' H ρ' _ _ Q s' rr h') h)⟩
 .cases d with
  |nil=>exact h.elim
  |cons d ds=>exact h1.mono _ _ _ _ (λr hr=>h2.mono _ _ _ _ hp hr) h
 .cases d with
  |nil=>exact h.elim
  |cons d ds=>exact h1.mono _ _ _ _ (λr hr=>h2.own _ _ _ hr.1 hr.2) (h1.own _ _ _ ho h)
def dF(n:Nat)(gs:sh):WG:=λd ρ k=>match d with
 |.tup xs=>xs.length=n/\gs xs ρ k
 |_=>False
theorem kB{gs:sh}(hc:X.calm=true)(h:pV X es gs)(hn:(assignEach es X.env).length=n:=by rfl)(hst:(assignEach es X.env).findIdx? (·.1)=none:=by rfl):pT X (.Tuple es k pos) (dF n gs):=by
 obtain⟨t,p,kk⟩:=h.t;refine⟨⟨_,nu hc p hn hst,λW0 H0 W σ H ρ d v Q s r q=>?_⟩,λd ρ P P' hp q=>?_,λd ρ P ho q=>?_⟩
 .unfold dF at q
  split at q
  .obtain⟨a,vs,rfl,h1,rr⟩:=r.sqt s.ok
   exact⟨a,vs,rfl,h1,rr.length.trans q.1,kk W0 H0 W σ H ρ _ _ Q s rr q.2⟩
  .exact q.elim
 .unfold dF at q ⊢
  split at q
  .exact⟨q.1,h.mono _ _ _ _ hp q.2⟩
  .exact q.elim
 .unfold dF at q ⊢
  split at q
  .exact⟨q.1,h.own _ _ _ ho q.2⟩
  .exact q.elim
def dQ(w:WE)(g:WG):WS:=λE N ρ=>w E ρ λd=>g d ρ N.nx
theorem DA(he:PX X EX e w)(hg:pT X tg g)(hs:swapsWithSole [tg] e pos.line X.env=pure false:=by rfl)(hw:swappedStores [tg] e X.env=pure none:=by rfl)
  (h1:(assignEach [tg] X.env).map (·.2)=[assign tg X.env]:=by rfl):PZ X EX (.Assign [tg] e pos) (dQ w g):=by
 obtain⟨t,p,k⟩:=he.t;obtain⟨t2,p2,k2⟩:=hg.t;refine⟨⟨_,iy p p2 hs hw h1,λW0 H0 F W σ H ρ E Dn N s fl eo no h=>?_⟩,λE ρ N N' hl q=>he.mono _ _ _ _ (λd hd=>hg.mono _ _ _ _ hl.nx hd) q⟩;refine k W0 H0 W σ H ρ E _ s eo (he.mono _ _ _ _ (λd hd v W1 H1 x1 r1=>?_) h);exact k2 W0 H0 W1 σ H1 ρ d v _ (s.step x1) r1 (hg.mono _ _ _ _ (λρ' h' σ' s'=>no.nx W1 σ' H1 ρ' s' (fl.ext x1) h') hd)
def dL(i j:Nat)(t:WA):WS:=λE N ρ=>t E ρ λds=>match ds with
 |[x,y]=>N.nx ((ρ.set i (.d x)).set j (.d y))
 |_=>False
theorem AZ(i j:Nat){y:Str}{t:WA}{px py pt:Pos}{kt k2 pt2}(hN:X.N.Nodup)(ha:iY X EX [a,b] t)(hc:X.calm=true:=by rfl)(hi:X.N[i]? = some x:=by rfl)(hj:X.N[j]? = some y:=by rfl)(hij:i≠j:=by decide)
  (hx:X.env.scope.names.lookup x=some .local:=by rfl) (hy:X.env.scope.names.lookup y=some .local:=by rfl)
  (hw:swappedStores [.Tuple [.Name x px,.Name y py] kt pt] (.Tuple [a,b] k2 pt2) X.env=pure (some [x,y]):=by rfl)
  (hs:swapsWithSole [.Tuple [.Name x px,.Name y py] kt pt] (.Tuple [a,b] k2 pt2) pos.line X.env=pure false:=by rfl) :
  PZ X EX (.Assign [.Tuple [.Name x px,.Name y py] kt pt] (.Tuple [a,b] k2 pt2) pos) (dL i j t):=by
 obtain⟨ta,p,k⟩:=ha.t;refine⟨⟨_,rD hc hN hi hj hij hx hy p hw hs,λW0 H0 F W σ H ρ E Dn N s fl eo no h=>?_⟩,λE ρ N N' hl q=>ha.mono _ _ _ _ (λds hd=>?_) q⟩
 .refine k W0 H0 W σ H ρ E _ s eo (ha.mono _ _ _ _ (λds hd vs W1 H1 x1 r1=>?_) h)
  split at hd
  .obtain⟨v,u,rfl,rv,ru⟩:=r1.two
   exact⟨v,u,rfl,no.nx W1 _ H1 _ (((s.step x1).set rv).set ru) (fl.ext x1) hd⟩
  .exact hd.elim
 .split at hd
  .exact hl.nx _ hd
  .exact hd.elim
def vd(c:WT)(zb:WS):WS:=λE N ρ=>∃I:Nat->cP->Prop,(∃m,I m ρ)/\∀m ρ,I m ρ->c E ρ λb=>
 if b=true then zb E { nx:=λρ'=>∃m',m'<m/\I m' ρ',rt:=N.rt,bk:=N.nx,ct:=λρ'=>∃m',m'<m/\I m' ρ' } ρ else N.nx ρ
theorem A0(hp:PassesOwn (model X.prog X.w) X.A X.env X.xe)(hc:lb X EX c wt)(hb:je X EX body zb):PZ X EX (.While c body [] pos) (vd wt zb):=by
 obtain⟨tc,pc,kc⟩:=hc.t;obtain⟨tb,pb,kb⟩:=hb.t;refine⟨⟨_,ny hp pc pb,λW0 H0 F W σ H ρ E Dn N s fl eo no h=>?_⟩,λE ρ N N' hl q=>?_⟩
 .obtain⟨I,⟨m0,i0⟩,turn⟩:=h
  refine⟨λm σ H=>∃W ρ,SOk X.K W0 H0 W σ H ρ/\Wle F W/\I m ρ,⟨m0,W,ρ,s,fl,i0⟩,?_⟩;rintro m σ2 H2 ⟨W2,ρ2,s2,f2,i2⟩;refine kc W0 H0 W2 σ2 H2 ρ2 E _ s2 eo (hc.mono _ _ _ _ (λb hb' W3 H3 x3=>?_) (turn m ρ2 i2));cases b with
  |true=>
   rw[if_pos rfl] at hb' ⊢;refine⟨λσ4 H4=>∃m',m'<m/\∃W ρ,SOk X.K W0 H0 W σ4 H4 ρ/\Wle F W/\I m' ρ,λσ4 H4 ⟨m',hm,q⟩=>⟨m',hm,q⟩,?_⟩;exact kb W0 H0 F W3 σ2 H3 ρ2 E _ { nx:=λρ'=>∃m',m'<m/\I m' ρ',rt:=N.rt,bk:=N.nx,ct:=λρ'=>∃m',m'<m/\I m' ρ' } (s2.step x3) (f2.ext x3) eo
    ⟨λW5 σ5 H5 ρ5 s5 f5 ⟨m',hm,q⟩=>⟨m',hm,W5,ρ5,s5,f5,q⟩,no.rt,λW5 σ5 H5 ρ5 s5 f5 q=>no.nx W5 σ5 H5 ρ5 s5 f5 q,λW5 σ5 H5 ρ5 s5 f5 ⟨m',hm,q⟩=>⟨m',hm,W5,ρ5,s5,f5,q⟩⟩ hb'
  |false=>rw[if_neg (by decide)] at hb' ⊢;exact no.nx W3 σ2 H3 ρ2 (s2.step x3) (f2.ext x3) hb'
 .obtain⟨I,i0,turn⟩:=q
  refine⟨I,i0,λm ρ i=>hc.mono _ _ _ _ (λb hb'=>?_) (turn m ρ i)⟩;cases b with
  |true=>rw[if_pos rfl] at hb' ⊢;exact hb.mono E ρ { nx:=λρ'=>∃m',m'<m/\I m' ρ',rt:=N.rt,bk:=N.nx,ct:=λρ'=>∃m',m'<m/\I m' ρ' } _ ⟨λ_ z=>z,hl.rt,hl.nx,λ_ z=>z⟩ hb'
  |false=>rw[if_neg (by decide)] at hb' ⊢;exact hl.nx _ hb'
theorem Ja{tc:TT}(hc:PT X c tc)(hs:exec (.Assert c none pos) X.env=(do standAt pos;if<-isTrue c X.env (eval c X.env) then pure .next else assertFails c.pos (evalOpt none X.env)):=by rfl):PS X (.Assert c none pos) (λD σ H=>tc σ H λb H1=>b=true/\D.nx σ H1):=by
 intro pins s σ H D I h;rw[hs];refine Nm (NS (Nm (bR (hc pins s σ H _ I h) λb s1 ⟨H1,I1,e,q⟩=>?_)));subst e;rw[if_pos rfl];exact Np ⟨σ,H1,I1,q⟩
def jC(c:WT):WS:=λE N ρ=>c E ρ λb=>b=true/\N.nx ρ
theorem Jb(hc:lb X EX c wt)(hs:exec (.Assert c none pos) X.env=(do standAt pos;if<-isTrue c X.env (eval c X.env) then pure .next else assertFails c.pos (evalOpt none X.env)):=by rfl):PZ X EX (.Assert c none pos) (jC wt):=by
 obtain⟨tc,pc,kc⟩:=hc.t;refine⟨⟨_,Ja pc hs,λW0 H0 F W σ H ρ E Dn N s fl eo no h=>?_⟩,λE ρ N N' hl q=>hc.mono _ _ _ _ (λb hb=>⟨hb.1,hl.nx _ hb.2⟩) q⟩;exact kc W0 H0 W σ H ρ E _ s eo (hc.mono _ _ _ _ (λb hb W1 H1 x1=>⟨hb.1,no.nx W1 σ H1 ρ (s.step x1) (fl.ext x1) hb.2⟩) h)
def dj(i:Nat)(w:WE):WS:=λE N ρ=>match ρ[i]? with
 |some (.ow xs)=>w E ρ λd=>xs.length<aM/\N.nx (ρ.set i (.ow (xs++[d])))
 |_=>False
theorem xX(i:Nat)(he:PX X EX e w)(hN:X.N[i]? = some x:=by rfl)(hv:pq X.env.scope x:=by first|exact Or.inl rfl|exact Or.inr (Or.inl rfl)|exact Or.inr (Or.inr rfl))(hd:(x==("__debug__" : Str))=false:=by decide)
  (hcd:(x==("__classdict__" : Str))=false:=by decide) (hbase:attributeBase (.Name x p) "append" X.env (eval (.Name x p) X.env)=eval (.Name x p) X.env:=by rfl)
  (hfew:((backTo cpos (starEach [e] X.env)).all (λx=>!x.1)&&(backToKw cpos (keywordEach [] X.env)).all (λx=>x.1.isSome)&&decide ([e].length+([]:List Keyword).length+(if([]:List Keyword).isEmpty then 0 else 1)<30))=true:=by rfl)
  (hline:(apos.endLine==cpos.line)=true:=by rfl) (hs:starEach [e] X.env=(false,eval e X.env)::starEach [] X.env:=by rfl) (hplain:(backTo cpos (starEach [] X.env)).any (·.1)=false:=by rfl)
  (hsw:swapsWith (.Call (.Attribute (.Name x p) "append" apos) [e] [] cpos) none pos.line X.env=pure false:=by rfl):PZ X EX (.Expr (.Call (.Attribute (.Name x p) "append" apos) [e] [] cpos) pos) (dj i w):=by
 obtain⟨t,pe,k⟩:=he.t;refine⟨⟨_,ke (qu PySem.F.plainAttrs_list PySem.F.slot_list_append PySem.F.type_list_append kX (eL hN hv hd hcd) (kn pe nM hs) hbase hfew hline hs hplain) hsw,λW0 H0 F W σ H ρ E Dn N s fl eo no h=>?_⟩,λE ρ N N' hl q=>?_⟩
 .unfold dj at h
  split at h
  .rename_i xs ex
   obtain⟨a,vs,e1,e2,e3,e4,e5,r⟩:=s.o i xs ex;refine⟨_,e1,.inl ⟨rfl,vs,SqL.of e2⟩,?_⟩;refine k W0 H0 W σ H ρ E _ s eo (he.mono _ _ _ _ (λd hd v W1 H1 x1 r1=>?_) h);have e2':=x1.h a _ e2 e4;refine⟨a,vs,v,rfl,rfl,e2',by rw[r.length];exact de hd.1 (pR (cB _)),?_⟩;exact no.nx W1 σ _ _ ((s.step x1).chg ex e1 ((x1.reps r).append (.cons r1 .nil))) (fl.ext x1) hd.2
  .exact h.elim
 .unfold dj at q ⊢
  split at q
  .exact he.mono _ _ _ _ (λd hd=>⟨hd.1,hl.nx _ hd.2⟩) q
  .exact q.elim
end
section
variable{pos ps:Pos}{a b:Expr}
theorem Rep.sq{W:Wd}{v:V}{Q:List D->Prop}(r:Rep K W v d)(h:isS Q d):∃κ l vs xs,v=.ref l/\Reps K W vs xs/\Q xs/\∀W2 H2,(∀a o,W.G a=some o->W2.G a=some o)->WOk W2 H2->Sq K κ H2 l vs:=by
 cases r with
 |lst e1 rr=>exact⟨false,_,_,_,rfl,rr,h,λW2 H2 g ok=>SqL.of (ok.g _ _ (g _ _ e1))⟩
 |tup e1 rr=>exact⟨true,_,_,_,rfl,rr,h,λW2 H2 g ok=>SqT.of (ok.g _ _ (g _ _ e1))⟩
 |ktup e1 rr=>exact⟨true,_,_,_,rfl,rr,h,λW2 H2 g ok=>.inr e1⟩
 |_=>exact h.elim
def cW(xs ys:List D):List D:=List.zipWith (λx y=>.tup [x,y]) xs ys
def iZ(t:WA):WA:=λE ρ Q=>t E ρ λds=>match ds with
 |[x,y]=>isS (λxs=>isS (λys=>Q (cW xs ys)) y) x
 |_=>False
theorem xY{t:WA}(hm:X.mg "zip" = none)(ha:iY X EX [a,b] t)(hg:Gl X "zip" :=by rfl)(hs:starEach [a,b] X.env=[(false,eval a X.env),(false,eval b X.env)]:=by rfl)(hs2:starEach [b] X.env=[(false,eval b X.env)]:=by rfl) :
  n6 X EX (.Tuple es n1 ps) (.Call (.Name "zip" p) [a,b] [] pos) (iZ t):=by
 obtain⟨t,q,k⟩:=ha.t;refine⟨⟨_,Ic hg hm q hs hs2,λW0 H0 W σ H ρ E R s eo h=>?_⟩,λE ρ P P' hp h=>ha.mono _ _ _ _ (λds hd=>?_) h⟩
 .refine k W0 H0 W σ H ρ E _ s eo (ha.mono _ _ _ _ (λds hd vs W1 H1 x1 r1=>?_) h)
  split at hd
  .obtain⟨v,u,rfl,rv,ru⟩:=r1.two
   obtain⟨κ,l,vs,xs,rfl,rr,hd,sq⟩:=rv.sq hd;obtain⟨κ',l',us,ys,rfl,rr',hd,sq'⟩:=ru.sq hd;refine⟨κ,κ',l,l',rfl,⟨vs,sq W1 H1 (λ_ _ z=>z) x1.ok⟩,⟨us,sq' W1 H1 (λ_ _ z=>z) x1.ok⟩,hd W1 H1 _ x1 λW2 H2 i g2 p2 ok2=>⟨λd hd=>?_,λhi=>?_⟩⟩
   .have s1:=sq W2 H2 g2 ok2
    have s2:=sq' W2 H2 g2 ok2;unfold cW at hd;rw[List.getElem?_zipWith] at hd;cases ex:xs[i]? with
    |none=>rw[ex] at hd;cases hd
    |some x=>
     cases ey:ys[i]? with
     |none=>rw[ex,ey] at hd;cases hd
     |some y=>
      rw[ex,ey] at hd;cases hd;obtain⟨vx,evx,rvx⟩:=rr.get ex;obtain⟨vy,evy,rvy⟩:=rr'.get ey;refine⟨⟨vs,us,vx,vy,s1,s2,evx,evy⟩,λz H3 hy=>?_⟩;obtain⟨q,x',y',rfl,hq,rfl,e1,e2⟩:=hy;have e1:=e1 _ s1;have e2:=e2 _ s2;rw[evx] at e1;rw[evy] at e2;cases e1;cases e2;have xt:=Ext.put (o:=.tup [vx,vy]) ok2 hq;exact⟨_,xt,.tup (by unfold Wd.put;dsimp only;rw[aP]) (.cons (xt.rep (rvx.mono g2 p2)) (.cons (xt.rep (rvy.mono g2 p2)) .nil))⟩
   .refine⟨vs,us,sq W2 H2 g2 ok2,sq' W2 H2 g2 ok2,?_⟩
    rw[rr.length,rr'.length];unfold cW at hi;rw[iV] at hi;omega
  .exact hd.elim
 .split at hd
  .exact isS.mono (λxs h1=>isS.mono (λys h2=>hp _ h2) _ h1) _ hd
  .exact hd.elim
def il(i:Nat)(wi wv:WE):WS:=λE N ρ=>match ρ[i]? with
 |some (.ow xs)=>wv E ρ λd=>wi E ρ (isI λk=>∃j,ku xs.length k=some j/\N.nx (ρ.set i (.ow (xs.set j d))))
 |_=>False
theorem DB(i:Nat){wi:WE}{ix:Expr}(hix:PX X EX ix wi)(he:PX X EX e wv)(hN:X.N[i]? = some x:=by rfl)(hv:pq X.env.scope x:=by first|exact Or.inl rfl|exact Or.inr (Or.inl rfl)|exact Or.inr (Or.inr rfl))(hd:(x==("__debug__" : Str))=false:=by decide)
  (hcd:(x==("__classdict__" : Str))=false:=by decide)
  (ha:∀ v,assign (.Subscript (.Name x p) ix spos) X.env v=(do
   let ov <-holding [v] (eval (.Name x p) X.env)
   let iv <-holding [v,ov] (eval ix X.env)
   standAt spos
   holding [v,ov,iv] (setItem ov iv v)
   release [v,ov,iv] []):=by intro _;rfl)
  (hs:swapsWithSole [.Subscript (.Name x p) ix spos] e pos.line X.env=pure false:=by rfl) (hw:swappedStores [.Subscript (.Name x p) ix spos] e X.env=pure none:=by rfl)
  (h1:(assignEach [.Subscript (.Name x p) ix spos] X.env).map (·.2)=[assign (.Subscript (.Name x p) ix spos) X.env]:=by rfl):PZ X EX (.Assign [.Subscript (.Name x p) ix spos] e pos) (il i wi wv):=by
 obtain⟨t,pe,k⟩:=he.t;obtain⟨ti,pi,ki⟩:=hix.t;refine⟨⟨_,iy pe (iw (eL hN hv hd hcd) pi eY ha) hs hw h1,λW0 H0 F W σ H ρ E Dn N s fl eo no h=>?_⟩,λE ρ N N' hl q=>?_⟩
 .unfold il at h
  split at h
  .rename_i xs ex
   obtain⟨a,vs,e1,e2,e3,e4,e5,r⟩:=s.o i xs ex;refine k W0 H0 W σ H ρ E _ s eo (he.mono _ _ _ _ (λd hd v W1 H1 x1 r1=>⟨_,e1,?_⟩) h);refine ki W0 H0 W1 σ H1 ρ E _ (s.step x1) eo (hix.mono _ _ _ _ (λdi hdi vi W2 H2 x2 r2=>?_) hd);obtain⟨kk,rfl,j,hj,hn⟩:=qC hdi;cases r2;have xx:=x1.trans x2;have e2':=xx.h a _ e2 e4;refine⟨a,vs,kk,j,rfl,rfl,e2',by rw[r.length];exact hj,?_⟩;exact no.nx W2 σ _ _ ((s.step xx).chg ex e1 (Reps.set (x2.rep r1) j (xx.reps r))) (fl.ext xx) hn
  .exact h.elim
 .unfold il at q ⊢
  split at q
  .exact he.mono _ _ _ _ (λd hd=>hix.mono _ _ _ _ (isI.mono λkk ⟨j,hj,hn⟩=>⟨j,hj,hl.nx _ hn⟩) hd) q
  .exact q.elim
end
mutual
def jl:D->Bool
 |.lst _=>false
 |.scr _=>false
 |.dic=>false
 |.tup xs=>pW xs
 |.non=>true
 |.bl _=>true
 |.int _=>true
 |.str _=>true
 |.pen=>true
 |.cls _=>true
 |.exc _=>true
 |.ty _=>true
def pW:List D->Bool
 |[]=>true
 |x::r=>jl x&&pW r
end
def Wd.rem(W:Wd)(a:Addr):Wd:=⟨λb=>if b=a then none else W.G b,W.Pn⟩
section
variable{W:Wd}{a:Addr}
theorem Wd.rem_ne{b:Addr}(h:b≠a):(W.rem a).G b=W.G b:=by unfold Wd.rem;dsimp only;rw[if_neg h]
theorem Wd.rem_same:(W.rem a).G a=none:=by unfold Wd.rem;dsimp only;rw[if_pos rfl]
mutual
theorem Rep.rem(h:W.G a=some (.lst us)):∀{v:V} {d:D},Rep K W v d->jl d=true->Rep K (W.rem a) v d
 |_,_,.non,_=>.non
 |_,_,.bl b,_=>.bl b
 |_,_,.int i,_=>.int i
 |_,_,.str x,_=>.str x
 |_,_,.tup e r,f=>.tup (by rw[Wd.rem_ne (λz=>by rw[z,h] at e;cases e)];exact e) (Reps.rem h r (by rw[jl] at f;exact f))
 |_,_,.ktup e r,f=>.ktup e (Reps.rem h r (by rw[jl] at f;exact f))
 |_,_,.lst e r,f=>by rw[jl] at f;cases f
 |_,_,.scr e r,f=>by rw[jl] at f;cases f
 |_,_,.dic e,f=>by rw[jl] at f;cases f
 |_,_,.pen e,_=>.pen e
 |_,_,.cls e,_=>.cls e
 |_,_,.exc e n x,_=>.exc (by rw[Wd.rem_ne (λz=>by rw[z,h] at e;cases e)];exact e) n λc f k q=>let⟨d,e1,e2⟩:=x c f k q;⟨d,e1,by rw[Wd.rem_ne (λz=>by rw[z,h] at e2;cases e2)];exact e2⟩
 |_,_,.ty n,_=>.ty n
theorem Reps.rem(h:W.G a=some (.lst us)):∀{vs:List V} {ds:List D},Reps K W vs ds->pW ds=true->Reps K (W.rem a) vs ds
 |_,_,.nil,_=>.nil
 |_,_,.cons r t,f=>by
  rw[pW,c6] at f;exact .cons (Rep.rem h r f.1) (Reps.rem h t f.2)
end
theorem Ext.bor(x:Ext (W.put a (.lst us)) H W2 H2)(hg:W.G a=none):Ext W H (W2.rem a) H2 where
 ok:=⟨λb o e=>by
   by_cases hb:b=a
   .subst hb;rw[Wd.rem_same] at e;cases e
   .rw[Wd.rem_ne hb] at e;exact x.ok.g b o e,
  λb hb=>⟨(x.ok.p b hb).1,by
   by_cases hba:b=a
   .subst hba;exact Wd.rem_same
   .rw[Wd.rem_ne hba];exact(x.ok.p b hb).2⟩⟩
 g:=λb o e=>by
  have hb:b≠a:=λz=>by rw[z,hg] at e;cases e
  rw[Wd.rem_ne hb];exact x.g b o (by unfold Wd.put;dsimp only;rw[aI hb];exact e)
 p:=x.p
 gf:=λb e n=>by
  by_cases hb:b=a
  .subst hb;exact Nq Wd.rem_same n
  .rw[Wd.rem_ne hb] at n
   exact x.gf b (by unfold Wd.put;dsimp only;rw[aI hb];exact e) n
 pf:=x.pf
 h:=x.h
theorem SOk.pubAt(s:SOk K W0 H0 W σ H ρ)(e:ρ[i]? = some (.ow xs))(e1:σ[i]? = some (some (V.ref a)))(e2:H a=some (.lst us))(e3:W.G a=none)(e4:¬W.Pn a)(e5:H0 a=none)(r:Reps K W us xs) :
  SOk K W0 H0 (W.put a (.lst us)) σ H (LP.pub i ρ):=by
 have ep:LP.pub i ρ=ρ.set i (.d (.lst xs)):=by unfold LP.pub;rw[e]
 rw[ep];have hi:i<ρ.length:=(Yaq.mp e).1;refine⟨s.ext.pub e5 e2 e4 e3,by rw[d8];exact s.len,λj y ej=>?_,λj ys ej=>?_,λj k ys zs b hjk ej ek e6=>?_,OOs.set ⟨λj xss ej=>let⟨a',bs,q1,q,n⟩:=s.oo.t j xss ej;⟨a',bs,q1,q.put (n i xs a e e1) e3,n⟩,s.oo.u⟩ (λ_ h=>by cases h) (λ_ _=>rfl) λ_ _ h=>by cases h⟩
 .by_cases h:i=j
  .subst h
   rw[eI hi] at ej;cases ej;exact⟨_,e1,.lst (by unfold Wd.put;dsimp only;rw[aP]) (r.mono (pQ e3) λ_ z=>z)⟩
  .rw[d7 h] at ej
   obtain⟨v,q1,q2⟩:=s.d j y ej;exact⟨v,q1,q2.mono (pQ e3) λ_ z=>z⟩
 .have h:i≠j:=λh=>by subst h;rw[eI hi] at ej;cases ej
  rw[d7 h] at ej;obtain⟨b,us',q1,q2,q3,q4,q5,rr⟩:=s.o j ys ej;have hba:b≠a:=λz=>s.ne i j xs ys a h e ej e1 (by rw[<-z];exact q1);refine⟨b,us',q1,q2,?_,q4,q5,rr.mono (pQ e3) λ_ z=>z⟩;unfold Wd.put;dsimp only;rw[aI hba];exact q3
 .have h:i≠j:=λh=>by subst h;rw[eI hi] at ej;cases ej
  have h':i≠k:=λh=>by subst h;rw[eI hi] at ek;cases ek
  rw[d7 h] at ej;rw[d7 h'] at ek;exact s.ne j k ys zs b hjk ej ek e6
theorem SOk.lend(s:SOk K W0 H0 W σ H ρ)(i:Nat):(LP.pub i ρ=ρ)\/∃a us,SOk K W0 H0 (W.put a (.lst us)) σ H (LP.pub i ρ)/\W.G a=none/\H a=some (.lst us)/\(W.put a (.lst us)).G a=some (.lst us):=by
 cases e:ρ[i]? with
 |none=>exact .inl (by unfold LP.pub;rw[e])
 |some sv=>
  cases sv with
  |un=>exact .inl (by unfold LP.pub;rw[e])
  |d x=>exact .inl (by unfold LP.pub;rw[e])
  |oo xss=>exact .inl (by unfold LP.pub;rw[e])
  |ow xs=>
   obtain⟨a,us,e1,e2,e3,e4,e5,r⟩:=s.o i xs e;exact .inr ⟨a,us,s.pubAt e e1 e2 e3 e4 e5 r,e3,e2,by unfold Wd.put;dsimp only;rw[aP]⟩
end
section
variable{pos ps:Pos}{a b:Expr}
def dM(i:Nat)(w:WE):WE:=λE ρ Q=>w E (pub i ρ) λd=>jl d=true/\Q d
theorem A1(i:Nat)(he:PX X EX e w):PX X EX e (dM i w):=by
 obtain⟨t,q,k⟩:=he.t;refine⟨⟨t,q,λW0 H0 W σ H ρ E Q s eo h=>?_⟩,λE ρ P P' hp h=>he.mono _ _ _ _ (λd hd=>⟨hd.1,hp _ hd.2⟩) h⟩;unfold dM at h;rcases s.lend i with ep|⟨a,us,s',e3,e2,e6⟩
 .rw[ep] at h
  exact k W0 H0 W σ H ρ E Q s eo (he.mono _ _ _ _ (λd hd=>hd.2) h)
 .exact k W0 H0 _ σ H _ E Q s' eo (he.mono _ _ _ _ (λd hd v W2 H2 x2 r2=>hd.2 v _ H2 (x2.bor e3) (r2.rem (x2.g _ _ e6) hd.1)) h)
def fg(i:Nat)(w:WT):WT:=λE ρ Q=>w E (pub i ρ) Q
def dm(i:Nat)(t:WA):WA:=λE ρ Q=>t E (pub i ρ) λds=>pW ds=true/\Q ds
theorem DC(i:Nat){t:WA}(he:PXL X EX e t):PXL X EX e (dm i t):=by
 obtain⟨t,q,k⟩:=he.t;refine⟨⟨t,q,λW0 H0 W σ H ρ E Q s eo h=>?_⟩,λE ρ P P' hp h=>he.mono _ _ _ _ (λd hd=>⟨hd.1,hp _ hd.2⟩) h⟩;unfold dm at h;rcases s.lend i with ep|⟨a,us,s',e3,e2,e6⟩
 .rw[ep] at h
  exact k W0 H0 W σ H ρ E Q s eo (he.mono _ _ _ _ (λd hd=>hd.2) h)
 .refine k W0 H0 _ σ H _ E Q s' eo (he.mono _ _ _ _ (λd hd b vs W2 H2 x2 h1 h2 h3 h4 r2=>?_) h)
  have hb:b≠a:=λz=>by rw[z,e2] at h4;cases h4
  exact hd.2 b vs _ H2 (x2.bor e3) h1 (by rw[Wd.rem_ne hb];exact h2) h3 h4 (r2.rem (x2.g _ _ e6) hd.1)
def c7(i:Nat)(wb:WE):WE:=λE ρ Q=>match ρ[i]? with
 |some (.ow xs)=>wb E ρ (isI λk=>∃d,eX xs k=some d/\Q d)
 |_=>False
theorem xZ(i:Nat)(hb:PX X EX b wb)(hN:X.N[i]? = some x:=by rfl)(hv:pq X.env.scope x:=by first|exact Or.inl rfl|exact Or.inr (Or.inl rfl)|exact Or.inr (Or.inr rfl))(hd:(x==("__debug__" : Str))=false:=by decide)
  (hcd:(x==("__classdict__" : Str))=false:=by decide) (hs:iA b:=by exact λ_ _=>rfl):PX X EX (.Subscript (.Name x p) b pos) (c7 i wb):=by
 obtain⟨tb,pb,kb⟩:=hb.t;refine⟨⟨_,qs jT (eL hN hv hd hcd) pb hs,λW0 H0 W σ H ρ E Q s eo h=>?_⟩,λE ρ P P' hp h=>?_⟩
 .unfold c7 at h
  split at h
  .rename_i xs ex
   obtain⟨a,vs,e1,e2,e3,e4,e5,r⟩:=s.o i xs ex;refine⟨_,e1,kb W0 H0 W σ H ρ E _ s eo (hb.mono _ _ _ _ (λd hd v W1 H1 x1 r1=>?_) h)⟩;obtain⟨kk,rfl,d,hat,hq⟩:=qC hd;cases r1;obtain⟨v,e6,rv⟩:=xQ (x1.reps r) hat;exact .inl ⟨a,vs,kk,v,rfl,rfl,SqL.of (x1.h a _ e2 e4),e6,hq v W1 H1 x1 rv⟩
  .exact h.elim
 .unfold c7 at h ⊢
  split at h
  .exact hb.mono _ _ _ _ (isI.mono λk ⟨d,h1,h2⟩=>⟨d,h1,hp _ h2⟩) h
  .exact h.elim
def NL(K:Nn)(W:Wd)(H:Hp)(Q:VK)(ds:List D):Prop:=∀a vs W' H',Ext W H W' H'->H' a=some (.lst vs)->W'.G a=none->¬W'.Pn a->H a=none->Reps K W' vs ds->Q (.ref a) H'
theorem NL.new{K:Nn}{W W1:Wd}{H H1:Hp}{Q:VK}{ds:List D}{vs:List V}(h:NL K W H Q ds)(x1:Ext W H W1 H1)(r:Reps K W1 vs ds){q:Addr}(hq:H1 q=none):Q (.ref q) (upd H1 q (.lst vs)):=
 h q vs W1 _ (x1.trans (.new x1.ok hq)) aP (x1.ok.fresh hq).1 (x1.ok.fresh hq).2 (x1.isN hq) r
def ei(wa wb:WE):WA:=λE ρ Q=>wa E ρ (isL λxs=>wb E ρ (isL λys=>xs.length+ys.length<=aM/\Q (xs++ys)))
theorem Jc(ha:PX X EX a wa)(hb:PX X EX b wb):PXL X EX (.BinOp a .Add b pos) (ei wa wb):=by
 obtain⟨ta,pa,ka⟩:=ha.t;obtain⟨tb,pb,kb⟩:=hb.t;refine⟨⟨_,qm ZmT pa pb,λW0 H0 W σ H ρ E Q s eo h=>?_⟩,λE ρ P P' hp h=>ha.mono _ _ _ _ (isL.mono λxs hx=>hb.mono _ _ _ _ (isL.mono λys hy=>⟨hy.1,hp _ hy.2⟩) hx) h⟩;refine ka W0 H0 W σ H ρ E _ s eo (ha.mono _ _ _ _ (λd hd v W1 H1 x1 r1=>?_) h);obtain⟨xs,rfl,hd⟩:=AW hd;refine kb W0 H0 W1 σ H1 ρ E _ (s.step x1) eo (hb.mono _ _ _ _ (λd hd u W2 H2 x2 r2=>?_) hd);obtain⟨ys,rfl,hd⟩:=AW hd;obtain⟨p,vs,rfl,h1,q1⟩:=(x2.rep r1).sql x2.ok;obtain⟨q,us,rfl,h2,q2⟩:=r2.sql x2.ok;exact⟨p,q,vs,us,rfl,rfl,h1,h2,by rw[q1.length,q2.length];exact pR hd.1,λa ha=>NL.new hd.2 (x1.trans x2) (q1.append q2) ha⟩
def fh(wa wb:WE):WA:=λE ρ Q=>wa E ρ (isL λxs=>wb E ρ (isI λk=>k<1000/\-1000<k/\xs.length*k.toNat<=aM/\Q (List.replicate k.toNat xs).flatten))
def aCut(wa:WE)(wl wh:(Ex->Prop)->cP->(Option Int->Prop)->Prop):WA:=λE ρ Q=>wa E ρ λx=>wl E ρ λl=>wh E ρ λh=>match x with
 |.lst xs=>Q (bZ xs l h)
 |.scr xs=>Q (bZ xs l h)
 |_=>False
theorem aCut.mono{wl wh}{lo hi:Option Expr}(ha:PX X EX a wa)(hl:qB X EX lo wl)(hh:qB X EX hi wh):∀E ρ P P',(∀d,P d->P' d)->aCut wa wl wh E ρ P->aCut wa wl wh E ρ P':=
 λE ρ P P' hp h=>ha.mono _ _ _ _ (λx hx=>hl.mono _ _ _ _ (λl hl'=>hh.mono _ _ _ _ (λu hu=>by
  split at hu
  .exact hp _ hu
  .exact hp _ hu
  .exact hu.elim) hl') hx) h
theorem Jd{wl wh}(ha:PX X EX a wa)(hl:qB X EX lo wl)(hh:qB X EX hi wh):PXL X EX (.Subscript a (.Slice lo hi none p2) pos) (aCut wa wl wh):=by
 obtain⟨ta,pa,ka⟩:=ha.t;obtain⟨tl,pl,kl⟩:=hl.t;obtain⟨th,ph,kh⟩:=hh.t;refine⟨⟨_,jc sl_list pa pl ph,λW0 H0 W σ H ρ E Q s eo h=>?_⟩,aCut.mono ha hl hh⟩;refine ka W0 H0 W σ H ρ E _ s eo (ha.mono _ _ _ _ (λdx hx v W1 H1 x1 r1=>?_) h);refine kl W0 H0 W1 σ H1 ρ E _ (s.step x1) eo (hl.mono _ _ _ _ (λl hl' W2 H2 x2=>?_) hx);refine kh W0 H0 W2 σ H2 ρ E _ ((s.step x1).step x2) eo (hh.mono _ _ _ _ (λu hu W3 H3 x3=>?_) hl');have r3:=(x2.trans x3).rep r1;split at hu
 .obtain⟨p,vs,rfl,h1,rr⟩:=r3.sql x3.ok
  exact⟨p,vs,rfl,h1,λq hq=>NL.new hu (x1.trans (x2.trans x3)) (rr.cut l u) hq⟩
 .obtain⟨p,vs,rfl,h1,rr⟩:=r3.sqs x3.ok
  exact⟨p,vs,rfl,h1,λq hq=>NL.new hu (x1.trans (x2.trans x3)) (rr.cut l u) hq⟩
 .exact hu.elim
end
section
variable{W:Wd}{a:Addr}{i j k:Int}
def Wd.pen(W:Wd)(a:Addr):Wd:=⟨W.G,λb=>b=a\/W.Pn b⟩
theorem Ext.pen(x:Ext W H W1 H1)(h:H a=none)(e:H1 a=some (.lst [.int i,.int j,.int k]))(ng:W1.G a=none):Ext W H (W1.pen a) H1 where
 ok:=⟨x.ok.g,λb hb=>by
  rcases hb with rfl|hb
  .exact⟨⟨i,j,k,e⟩,ng⟩
  .exact x.ok.p b hb⟩
 g:=x.g
 p:=λb hb=>.inr (x.p b hb)
 gf:=x.gf
 pf:=λb n hb=>by
  rcases hb with rfl|hb
  .exact h
  .exact x.pf b n hb
 h:=x.h
theorem Ext.ink(x:Ext W H W1 H1)(hp:W1.Pn a):Ext W H W1 (upd H1 a (.lst [.int i,.int j,.int k])) where
 ok:=⟨λb o e=>by
   have hb:b≠a:=λz=>by rw[z,(x.ok.p a hp).2] at e;cases e
   rw[aI hb];exact x.ok.g b o e,
  λb hb=>by
   by_cases hba:b=a
   .subst hba;exact⟨⟨i,j,k,aP⟩,(x.ok.p b hb).2⟩
   .obtain⟨⟨i',j',k',e⟩,n⟩:=x.ok.p b hb
    exact⟨⟨i',j',k',by rw[aI hba];exact e⟩,n⟩⟩
 g:=x.g
 p:=x.p
 gf:=x.gf
 pf:=x.pf
 h:=λb o e n=>by
  have q:=x.h b o e n;have hb:b≠a:=λz=>by subst z;have:=x.pf b n hp;rw[e] at this;cases this
  rw[aI hb];exact q
theorem SOk.ink(s:SOk K W0 H0 W σ H ρ)(hp:W.Pn a):SOk K W0 H0 W σ (upd H a (.lst [.int i,.int j,.int k])) ρ where
 ext:=s.ext.ink hp
 len:=s.len
 d:=s.d
 o:=λn ys e=>by
  obtain⟨b,vs,e1,e2,e3,e4,e5,r⟩:=s.o n ys e;exact⟨b,vs,e1,by rw[aI (λz=>e4 (by rw[z];exact hp))];exact e2,e3,e4,e5,r⟩
 ne:=s.ne
 oo:=⟨λn xss e=>let⟨a',bs,e1,q,m⟩:=s.oo.t n xss e;⟨a',bs,e1,q.upd (q.noPen hp),m⟩,s.oo.u⟩
end
section
variable{pos ps:Pos}{a b:Expr}
def et(t:WA):WE:=λE ρ Q=>t E ρ λds=>(∃i j k,ds=[.int i,.int j,.int k])/\Q .pen
theorem Je{t:WA}(he:PXL X EX e t):PX X EX e (et t):=by
 obtain⟨t,q,k⟩:=he.t;refine⟨⟨t,q,λW0 H0 W σ H ρ E Q s eo h=>?_⟩,λE ρ P P' hp h=>he.mono _ _ _ _ (λd hd=>⟨hd.1,hp _ hd.2⟩) h⟩;refine k W0 H0 W σ H ρ E Q s eo (he.mono _ _ _ _ (λds hd a vs W1 H1 x1 e1 e2 e3 e4 r1=>?_) h);obtain⟨⟨i,j,k,rfl⟩,hd⟩:=hd;have ev:vs=[.int i,.int j,.int k]:=by
  cases r1 with|cons r t=>cases r;cases t with|cons r t=>cases r;cases t with|cons r t=>cases r;cases t;rfl
 subst ev;exact hd _ _ _ (x1.pen e4 e1 e2) (.pen (.inl rfl))
def dG:G2:=λx y Q=>x=.pen/\(y=.int 0\/y=.int 1\/y=.int 2)/\∀n,Q (.int n)
theorem ve:AR X dG:=by
 refine⟨⟨_,jT,λW H x y dx dy Q ok rx ry hg=>?_⟩,λx y P P' hp h=>⟨h.1,h.2.1,λn=>hp _ (h.2.2 n)⟩⟩;obtain⟨rfl,hy,hq⟩:=hg;cases rx with
 | @pen a hp=>
  obtain⟨⟨i,j,k,e⟩,ng⟩:=ok.p a hp;have key:∀(m:Int) (v:V),eX [V.int i,.int j,.int k] m=some v->(∃n,v=.int n)->Dc X.K (.ref a) (.int m) H Q:=λm v hv ⟨n,hn⟩=>by
   subst hn;exact .inl ⟨a,_,m,_,rfl,rfl,SqL.of e,hv,(hq n).now ok (.int n)⟩
  rcases hy with rfl|rfl|rfl
  .cases ry;exact key 0 (.int i) rfl ⟨i,rfl⟩
  .cases ry;exact key 1 (.int j) rfl ⟨j,rfl⟩
  .cases ry;exact key 2 (.int k) rfl ⟨k,rfl⟩
def d6(i:Nat)(wv:WE):WS:=λE N ρ=>ρ[i]? = some (.d .pen)/\wv E ρ (isI λ_=>N.nx ρ)
theorem DD(i:Nat)(m:Int){j}{ipos:Pos}(he:PX X EX e wv)(hm:m=0\/m=1\/m=2:=by decide)(hN:X.N[i]? = some x:=by rfl)(hv:pq X.env.scope x:=by first|exact Or.inl rfl|exact Or.inr (Or.inl rfl)|exact Or.inr (Or.inr rfl))(hd:(x==("__debug__" : Str))=false:=by decide)
  (hcd:(x==("__classdict__" : Str))=false:=by decide)
  (ha:∀ v,assign (.Subscript (.Name x p) (.Constant (.int m) j ipos) spos) X.env v=(do
   let ov <-holding [v] (eval (.Name x p) X.env)
   let iv <-holding [v,ov] (eval (.Constant (.int m) j ipos) X.env)
   standAt spos
   holding [v,ov,iv] (setItem ov iv v)
   release [v,ov,iv] []):=by intro _;rfl)
  (hs:swapsWithSole [.Subscript (.Name x p) (.Constant (.int m) j ipos) spos] e pos.line X.env=pure false:=by rfl) (hw:swappedStores [.Subscript (.Name x p) (.Constant (.int m) j ipos) spos] e X.env=pure none:=by rfl)
  (h1:(assignEach [.Subscript (.Name x p) (.Constant (.int m) j ipos) spos] X.env).map (·.2)=[assign (.Subscript (.Name x p) (.Constant (.int m) j ipos) spos) X.env]:=by rfl):PZ X EX (.Assign [.Subscript (.Name x p) (.Constant (.int m) j ipos) spos] e pos) (d6 i wv):=by
 obtain⟨t,pe,k⟩:=he.t;refine⟨⟨_,iy pe (iw (eL hN hv hd hcd) jK eY ha) hs hw h1,λW0 H0 F W σ H ρ E Dn N s fl eo no h=>?_⟩,λE ρ N N' hl q=>⟨q.1,he.mono _ _ _ _ (isI.mono λ_ hn=>hl.nx _ hn) q.2⟩⟩;obtain⟨hpen,h⟩:=h;obtain⟨v0,e0,r0⟩:=s.d i .pen hpen;cases r0 with
 | @pen a hp=>
  refine k W0 H0 W σ H ρ E _ s eo (he.mono _ _ _ _ (λd hd v W1 H1 x1 r1=>⟨_,e0,?_⟩) h);obtain⟨n,rfl,hn⟩:=qC hd;cases r1;have hp1:=x1.p a hp;obtain⟨⟨i',j',k',e'⟩,ng⟩:=x1.ok.p a hp1;rcases hm with rfl|rfl|rfl
  .exact⟨a,_,0,0,rfl,rfl,e',rfl,no.nx W1 σ _ ρ ((s.step x1).ink hp1) (fl.ext x1) hn⟩
  .exact⟨a,_,1,1,rfl,rfl,e',rfl,no.nx W1 σ _ ρ ((s.step x1).ink hp1) (fl.ext x1) hn⟩
  .exact⟨a,_,2,2,rfl,rfl,e',rfl,no.nx W1 σ _ ρ ((s.step x1).ink hp1) (fl.ext x1) hn⟩
end
abbrev jm:G2:=gI2 (λ_ _=>True) λi j=>.int (i-j)
abbrev qH:G2:=gI2 (λ_ j=>j≠0) λi j=>.int (i.fmod j)
abbrev gD:G2:=gI2 AS λi j=>.int (i.fdiv j)
abbrev vf:G2:=gI2 rH λi j=>.int (i^j.toNat)
abbrev si:G2:=gI2 (λ_ _=>True) λi j=>.bl (decide (i<j))
abbrev jn:G2:=gI2 (λ_ _=>True) λi j=>.bl (decide (i<=j))
abbrev jo:G2:=gI2 (λ_ _=>True) λi j=>.bl (decide (i>j))
abbrev A2:G2:=gI2 (λ_ _=>True) λi j=>.bl (decide (i ≥ j))
abbrev jp:D->(D->Prop)->Prop:=λx Q=>isI (λi=>Q (.int (-i))) x
abbrev kC:WS:=λ_ _ _=>False
def fnS{α:Type}(enc:α->List D)(dom:α->Prop)(val:α->D):bF:=λds _ Q=>∃a,ds=enc a/\dom a/\Q (val a)
theorem fnS.mono{α:Type}{enc:α->List D}{dom:α->Prop}{val:α->D}:nZ (fnS enc dom val):=λds E E' Q Q' _ hQ ⟨a,h1,h2,h3⟩=>⟨a,h1,h2,hQ _ h3⟩
theorem fnS.len{α:Type}{enc:α->List D}{dom:α->Prop}{val:α->D}(hp:∀a,(enc a).length=ps.length):∀ds E Q,fnS enc dom val ds E Q->ds.length=ps.length:=λds E Q ⟨a,h1,_⟩=>by rw[h1];exact hp a
def exQ(E:Ex->Prop)(Q:D->Prop):Except Str D->Prop
 |.ok v=>Q v
 |.error e=>E e
theorem exQ.mono{E E':Ex->Prop}{Q':D->Prop}(hE:∀e,E e->E' e)(hQ:∀d,Q d->Q' d):∀r,exQ E Q r->exQ E' Q' r
 |.ok v,h=>hQ v h
 |.error e,h=>hE e h
def xS{α:Type}(enc:α->List D)(dom:α->Prop)(res:α->Except Str D):bF:=λds E Q=>∃a,ds=enc a/\dom a/\exQ E Q (res a)
theorem xS.mono{α:Type}{enc:α->List D}{dom:α->Prop}{res:α->Except Str D}:nZ (xS enc dom res):=λds E E' Q Q' hE hQ ⟨a,h1,h2,h3⟩=>⟨a,h1,h2,exQ.mono hE hQ _ h3⟩
theorem xS.ok{α:Type}{enc:α->List D}{dom:α->Prop}{res:α->Except Str D}{E:Ex->Prop}{v:D}(a:α)(h:ds=enc a)(hd:dom a)(e:res a=.ok v)(q:Q v):xS enc dom res ds E Q:=⟨a,h,hd,by rw[e];exact q⟩
theorem xS.err{α:Type}{enc:α->List D}{dom:α->Prop}{res:α->Except Str D}{E:Ex->Prop}{n:Str}(a:α)(h:ds=enc a)(hd:dom a)(e:res a=.error n)(q:E n):xS enc dom res ds E Q:=⟨a,h,hd,by rw[e];exact q⟩
theorem xS.len{α:Type}{enc:α->List D}{dom:α->Prop}{res:α->Except Str D}(hp:∀a,(enc a).length=ps.length):∀ds E Q,xS enc dom res ds E Q->ds.length=ps.length:=λds E Q ⟨a,h1,_⟩=>by rw[h1];exact hp a
def rlS{α:Type}(enc:α->List D)(dom:α->Prop)(rel:α->D->Prop):bF:=λds _ Q=>∃a,ds=enc a/\dom a/\∀d,rel a d->Q d
theorem rlS.mono{α:Type}{enc:α->List D}{dom:α->Prop}{rel:α->D->Prop}:nZ (rlS enc dom rel):=λds E E' Q Q' _ hQ ⟨a,h1,h2,h3⟩=>⟨a,h1,h2,λd r=>hQ _ (h3 d r)⟩
theorem rlS.len{α:Type}{enc:α->List D}{dom:α->Prop}{rel:α->D->Prop}(hp:∀a,(enc a).length=ps.length):∀ds E Q,rlS enc dom rel ds E Q->ds.length=ps.length:=λds E Q ⟨a,h1,_⟩=>by rw[h1];exact hp a
theorem Fp.of{w:World}(h:FnOk P w K mg base (eQ P w) k f fd ps (fV K S))(m:nZ S)(hm:mg x=some (.ref f))(kp:PySem.W.keepIn K (.ref f)=true)(hb:Binds K fd ps []) :
  Fp P w K mg base k x ps S:=⟨⟨f,fd,h,hm,kp,hb⟩,m⟩
section
variable{tail:cP}{Q:List D->Prop}
theorem sj{f:D->D}(h:∀d∈ds,∀Q:D->Prop,Q (f d)->we No (.d d::tail) Q):∀(sv:SV) (acc:List D),acc.length+ds.length<=aM->Q (acc++ds.map f)->lcW (gN 0) cV we ds (sv::tail) acc Q:=by
 induction ds with
 |nil=>intro sv acc _ hq;simpa[lcW] using hq
 |cons d ds ih=>
  intro sv acc hl hq;rw[lcW];show we No (SV.d d::tail) _;refine h d (ju ..) _ ⟨?_,?_⟩
  .rw[dS] at hl;omega
  .refine ih (λd hd=>h d (gR _ hd)) (.d d) _ ?_ ?_
   .rw[dX,j6];rw[dS] at hl;omega
   .rw[mZ];exact hq
theorem DE{R:D->D->Prop}(h:∀d∈ds,∀Q:D->Prop,(∀y,R d y->Q y)->we No (.d d::tail) Q):∀(sv:SV) (acc:List D),acc.length+ds.length<=aM->(∀ys,ys.length=ds.length->(∀y∈ys,∃d,d∈ds/\R d y)->Q (acc++ys))->lcW (gN 0) cV we ds (sv::tail) acc Q:=by
 induction ds with
 |nil=>intro sv acc _ hq;simpa[lcW] using hq [] rfl (by simp)
 |cons d ds ih=>
  intro sv acc hl hq;rw[lcW];show we No (SV.d d::tail) _;refine h d (ju ..) _ λy hy=>⟨?_,?_⟩
  .rw[dS] at hl;omega
  .refine ih (λd hd=>h d (gR _ hd)) (.d d) _ ?_ λys hl' hys=>?_
   .rw[dX,j6];rw[dS] at hl;omega
   .rw[mZ]
    refine hq (y::ys) (by rw[dS,dS,hl']) λz hz=>?_;rcases Yan.mp hz with rfl|hz
    .exact⟨d,ju ..,hy⟩
    .obtain⟨d',h1,h2⟩:=hys z hz;exact⟨d',gR _ h1,h2⟩
end
mutual
def db:D->Nat->Bool
 |.non,_=>true
 |.bl _,_=>true
 |.int _,_=>true
 |.str x,_=>PyData.canLay0 (.str x)
 |.tup xs,n=>decide (0<n)&&fY xs (n-1)
 |.lst xs,n=>decide (0<n)&&fY xs (n-1)
 |.dic,_=>false
 |.pen,_=>false
 |.cls _,_=>false
 |.exc _,_=>false
 |.ty _,_=>false
 |.scr _,_=>false
def fY:List D->Nat->Bool
 |[],_=>true
 |x::r,n=>db x n&&fY r n
end
mutual
def pd:D->PyData
 |.non=>.none
 |.bl b=>.bool b
 |.int i=>.int i
 |.str x=>.str x
 |.tup xs=>.tuple (fP xs)
 |.lst xs=>.list (fP xs)
 |.dic=>.none
 |.pen=>.none
 |.cls _=>.none
 |.exc _=>.none
 |.ty _=>.none
 |.scr _=>.none
def fP:List D->List PyData
 |[]=>[]
 |x::r=>pd x::fP r
end
mutual
theorem ya:∀(x:D) (n:Nat),db x n=true->g9 x=some (pd x)/\(pd x).canLay0=true/\(pd x).depth<=n
 |.non,n,_=>⟨rfl,rfl,by rw[pd,PyData.depth];exact i6 _⟩
 |.bl _,n,_=>⟨rfl,rfl,by rw[pd,PyData.depth];exact i6 _⟩
 |.int _,n,_=>⟨rfl,rfl,by rw[pd,PyData.depth];exact i6 _⟩
 |.str x,n,h=>⟨rfl,by rw[db] at h;exact h,by rw[pd,PyData.depth];exact i6 _⟩
 |.tup xs,n,h=>by
  rw[db,c6,Nt] at h;obtain⟨h1,h2,h3⟩:=A3 xs (n-1) h.2;refine⟨by rw[g9,h1,pd];rfl,by rw[pd,PyData.canLay0];exact h2,by rw[pd,PyData.depth];omega⟩
 |.lst xs,n,h=>by
  rw[db,c6,Nt] at h;obtain⟨h1,h2,h3⟩:=A3 xs (n-1) h.2;refine⟨by rw[g9,h1,pd];rfl,by rw[pd,PyData.canLay0];exact h2,by rw[pd,PyData.depth];omega⟩
 |.dic,n,h=>by rw[db] at h;cases h
 |.pen,n,h=>by rw[db] at h;cases h
 |.cls _,n,h=>by rw[db] at h;cases h
 |.exc _,n,h=>by rw[db] at h;cases h
 |.ty _,n,h=>by rw[db] at h;cases h
 |.scr _,n,h=>by rw[db] at h;cases h
theorem A3:∀(xs:List D) (n:Nat),fY xs n=true->fD xs=some (fP xs)/\PyData.canLayAll0 (fP xs)=true/\PyData.depthAll (fP xs)<=n
 |[],n,_=>⟨by rw[fD,fP],by rw[fP,PyData.canLayAll0],by rw[fP,PyData.depthAll];exact i6 _⟩
 |x::r,n,h=>by
  rw[fY,c6] at h;obtain⟨h1,h2,h3⟩:=ya x n h.1;obtain⟨q1,q2,q3⟩:=A3 r n h.2;exact⟨by rw[fD,h1,q1,fP],by rw[fP,PyData.canLayAll0,h2,q2];rfl,by rw[fP,PyData.depthAll];omega⟩
end
def fE(x y:D):Bool:=PyData.eqv (pd x) (pd y)
theorem jq{x:D}{neg:Bool}(hx:db x 60=true)(hy:db y 60=true)(h:Q (.bl (if neg then !fE x y else fE x y))):gEq neg x y Q:=by
 obtain⟨a1,a2,a3⟩:=ya x 60 hx;obtain⟨b1,b2,b3⟩:=ya y 60 hy;refine⟨pd x,pd y,a1,b1,?_,?_,h⟩
 .unfold PySem.SeqAt.shaped;rw[a2,Nr (by omega)];rfl
 .unfold PySem.SeqAt.shaped;rw[b2,Nr (by omega)];rfl
mutual
theorem DF:∀p:PyData,p.canLay0=true->PyData.eqv p p=true
 |.none,_=>by rw[PyData.eqv]
 |.bool b,_=>by rw[PyData.eqv];exact NF b
 |.int i,_=>by rw[PyData.eqv];exact NF i
 |.str x,_=>by rw[PyData.eqv];exact NF x
 |.list xs,h=>by rw[PyData.eqv];exact A4 xs (by rw[PyData.canLay0] at h;exact h)
 |.tuple xs,h=>by rw[PyData.eqv];exact A4 xs (by rw[PyData.canLay0] at h;exact h)
 |.dict _,h=>by rw[PyData.canLay0] at h;cases h
theorem A4:∀ps:List PyData,PyData.canLayAll0 ps=true->PyData.eqvAll ps ps=true
 |[],_=>by rw[PyData.eqvAll]
 |p::ps,h=>by
  rw[PyData.canLayAll0,c6] at h;rw[PyData.eqvAll,DF p h.1,A4 ps h.2];rfl
end
theorem Zo{x:D}(h:db x n=true):fE x x=true:=DF _ (ya x n h).2.1
theorem pX{x:D}{neg:Bool}(hx:db x 60=true)(h:Q (.bl (!neg))):gEq neg x x Q:=by
 refine jq hx hx ?_;rw[Zo hx];cases neg<;>exact h
theorem Jf(i:Int)(n:Nat):db (.int i) n=true:=by rw[db]
theorem DG(h:∀x∈xs,db x n=true):fY xs n=true:=by
 induction xs with
 |nil=>rw[fY]
 |cons x xs ih=>rw[fY,h x (ju ..),ih λy hy=>h y (gR _ hy)];rfl
theorem yb(h:∀x∈xs,db x n=true):db (.tup xs) (n+1)=true:=by rw[db,DG (n:=n+1-1) h];simp
theorem yc(h:∀x∈xs,db x n=true):db (.lst xs) (n+1)=true:=by rw[db,DG (n:=n+1-1) h];simp
mutual
theorem DH:∀(x:D) {n m:Nat},n<=m->db x n=true->db x m=true
 |.non,_,_,_,_=>by rw[db]
 |.bl _,_,_,_,_=>by rw[db]
 |.int _,_,_,_,_=>by rw[db]
 |.str x,_,_,_,h=>by rw[db] at h ⊢;exact h
 |.tup xs,n,m,l,h=>by
  rw[db,c6,Nt] at h ⊢;exact⟨by omega,A5 xs (by omega) h.2⟩
 |.lst xs,n,m,l,h=>by
  rw[db,c6,Nt] at h ⊢;exact⟨by omega,A5 xs (by omega) h.2⟩
 |.dic,_,_,_,h=>by rw[db] at h;cases h
 |.pen,_,_,_,h=>by rw[db] at h;cases h
 |.cls _,_,_,_,h=>by rw[db] at h;cases h
 |.exc _,_,_,_,h=>by rw[db] at h;cases h
 |.ty _,_,_,_,h=>by rw[db] at h;cases h
 |.scr _,_,_,_,h=>by rw[db] at h;cases h
theorem A5:∀(xs:List D) {n m:Nat},n<=m->fY xs n=true->fY xs m=true
 |[],_,_,_,_=>by rw[fY]
 |x::r,n,m,l,h=>by
  rw[fY,c6] at h ⊢;exact⟨DH x l h.1,A5 r l h.2⟩
end
def aR(q:Rat):D:=.tup [.int q.num,.int (q.den:Int)]
def aE(r:List Rat):D:=.tup (r.map aR)
def Sz(n:Nat)(q:Rat):Prop:=q.num.natAbs<2^n/\q.den<2^n
theorem Sz.mono(l:n<=m)(h:Sz n q):Sz m q:=
 have:=j7 (n:=2) (by decide) l
 ⟨de h.1 this,de h.2 this⟩
theorem DI{a:Int}{g:Nat}(hg:g≠0)(h:(g:Int)∣a):(a/(g:Int)).natAbs<=a.natAbs:=by
 obtain⟨c,rfl⟩:=h;have hg':(g:Int)≠0:=by exact_mod_cast hg
 rw[zZ _ hg',d9,oE];exact Nat.le_mul_of_pos_left _ (by omega)
theorem DJ(a:Int)(hb:b≠0):(mkRat a b).num.natAbs<=a.natAbs/\(mkRat a b).den<=b:=by
 rw[Rat.num_mkRat,Rat.den_mkRat,if_neg hb,if_neg hb];refine⟨DI (λz=>?_) (Int.ofNat_dvd_left.mpr (Nat.gcd_dvd_right ..)),Nat.div_le_self _ _⟩;rw[Nat.gcd_eq_zero_iff] at z;exact hb z.1
theorem sr(h:a<2^n)(h':b<2^m):a*b<2^(n+m):=by
 rw[jH];rcases Nat.eq_zero_or_pos a with rfl|ha
 .rw[Nat.zero_mul];exact Nat.mul_pos (xg (by decide)) (xg (by decide))
 .exact de (Nat.mul_lt_mul_of_pos_left h' ha) (lG _ (ge h))
theorem Sz.add{p:Rat}(h:Sz n p)(h':Sz m q):Sz (n+m+1) (p+q):=by
 rw[Rat.add_def'];have z:p.den*q.den≠0:=z5 p.den_nz q.den_nz;have:=DJ (p.num*q.den+q.num*p.den) z;have a1:=sr h.1 h'.2;have a2:=sr h'.1 h.2;have a3:=sr h.2 h'.2;rw[Nat.add_comm m n] at a2;have e:2^(n+m+1)=2^(n+m)+2^(n+m):=by rw[qU];omega
 have t:=qi (p.num*q.den) (q.num*p.den);rw[d9,d9,oE,oE] at t;exact⟨by omega,by omega⟩
theorem Sz.neg{p:Rat}(h:Sz n p):Sz n (-p):=⟨by rw[Rat.neg_num,Int.natAbs_neg];exact h.1,h.2⟩
theorem Sz.sub{p:Rat}(h:Sz n p)(h':Sz m q):Sz (n+m+1) (p-q):=by rw[Rat.sub_eq_add_neg];exact h.add h'.neg
theorem Sz.mul{p:Rat}(h:Sz n p)(h':Sz m q):Sz (n+m) (p*q):=by
 rw[Rat.mul_def'];have z:p.den*q.den≠0:=z5 p.den_nz q.den_nz;have:=DJ (p.num*q.num) z;have a1:=sr h.1 h'.1;have a3:=sr h.2 h'.2;rw[d9] at this;exact⟨by omega,by omega⟩
theorem Sz.inv{p:Rat}(h:Sz n p):Sz n p⁻¹:=by
 unfold Sz;rw[Rat.num_inv,Rat.den_inv,d9,oE];have:=p.den_pos;have h1:=h.1;have h2:=h.2;constructor
 .rcases Int.lt_trichotomy p.num 0 with z|z|z
  .rw[C7 z];simpa using h2
  .rw[z];simp;omega
  .rw[Int.sign_eq_one_of_pos z];simpa using h2
 .split
  .omega
  .exact h1
theorem Sz.div{p:Rat}(h:Sz n p)(h':Sz m q):Sz (n+m) (p/q):=by rw[eJ];exact h.mul h'.inv
theorem Sz.int(i:Int)(hn:0<n)(h:i.natAbs<2^n):Sz n (i:Rat):=⟨by rw[xh];exact h,by rw[xj];exact uf (by omega)⟩
theorem Sz.zero(hn:0<n):Sz n (0:Rat):=⟨by rw[Rat.zero_num];exact Nat.two_pow_pos n,by rw[Rat.zero_den];exact uf (by omega)⟩
theorem Sz.bd(h:Sz n q)(l:n<=8990):Bd q.num/\Bd (q.den:Int):=by
 have:=h.mono l;exact⟨this.1,by unfold Bd;rw[oE];exact this.2⟩
def B2(p q:Rat):Prop:=∃n m,Sz n p/\Sz m q/\n+m<8990
theorem B2.of{p:Rat}(h:Sz n p)(h':Sz m q)(l:n+m<8990):B2 p q:=⟨n,m,h,h',l⟩
theorem B2.mul{p:Rat}(h:B2 p q):qD p.num q.den/\qD q.num p.den/\qD p.den q.den/\qD p.num q.num/\Bd ((p.den:Int)*q.den)/\(p.den:Int)*q.den≠0/\qD p.den q.num/\(Bd ((p.den:Int)*q.num)):=by
 obtain⟨n,m,h1,h2,l⟩:=h;have b1:=h1.bd (by omega);have b2:=h2.bd (by omega);refine⟨⟨b1.1,b2.2⟩,⟨b2.1,b1.2⟩,⟨b1.2,b2.2⟩,⟨b1.1,b2.1⟩,?_,?_,⟨b1.2,b2.1⟩,?_⟩
 .have:=sr h1.2 h2.2
  unfold Bd;rw[d9,oE,oE];exact de this (j7 (by decide) (by omega))
 .have:=z5 p.den_nz q.den_nz
  exact_mod_cast this
 .have:=sr h1.2 h2.1
  unfold Bd;rw[d9,oE];exact de this (j7 (by decide) (by omega))
def bV:List Rat->List Rat->Rat
 |[],_=>0
 |_::_,[]=>0
 |x::xs,y::ys=>x*y+bV xs ys
theorem qI(q:Rat)(n:Nat):db (aR q) (n+1)=true:=yb (by simp[db])
theorem ye(r:List Rat)(n:Nat):db (aE r) (n+2)=true:=yb λx hx=>by
 obtain⟨q,_,rfl⟩:=YbQ.mp hx;exact qI q n
def aO(xs:List Int):D:=.tup (xs.map .int)
def bT(xs:List Int):D:=.lst (xs.map .int)
theorem tO(xs:List Int)(n:Nat):db (aO xs) (n+1)=true:=yb λx hx=>by
 obtain⟨i,_,rfl⟩:=YbQ.mp hx;rw[db]
theorem DK{t b:Int}(hb:b≠0):(t.fdiv (if b<0 then -(Int.gcd t b:Int) else(Int.gcd t b:Int))=(Rat.divInt t b).num)/\(b.fdiv (if b<0 then -(Int.gcd t b:Int) else(Int.gcd t b:Int))=((Rat.divInt t b).den:Int)):=by
 have hg:0<Int.gcd t b:=z6 _ hb;have hg':(0:Int)<(Int.gcd t b:Int):=by exact_mod_cast hg
 obtain⟨c,hc⟩:=Int.gcd_dvd_left (a:=t) (b:=b);obtain⟨d,hd⟩:=Int.gcd_dvd_right (a:=t) (b:=b);rw[Rat.num_divInt,Rat.den_divInt,if_neg hb,Int.gcd_comm b t];generalize Int.gcd t b=g at *;subst hc hd;have gne:(g:Int)≠0:=by omega
 split
 .rename_i h
  have hd:d<0:=by
   rcases Int.lt_or_le d 0 with z|z
   .exact z
   .have:=Int.mul_nonneg (xk hg') z;omega
  rw[C7 h];constructor
  .rw[show(g:Int)*c=(-(g:Int))*(-c) by rw[xm],xo _ (by omega),xm,show(-1:Int)*((g:Int)*c)=(g:Int)*(-c) by rw[Int.neg_mul,tD,Int.mul_neg],zZ _ gne]
  .rw[show(g:Int)*d=(-(g:Int))*(-d) by rw[xm],xo _ (by omega),xm,d9,oE,Nat.mul_div_cancel_left _ hg]
   omega
 .rename_i h
  have hd:0<d:=by
   rcases Int.lt_or_le 0 d with z|z
   .exact z
   .exfalso
    have h1:(g:Int)*d<=0:=by
     have:=Int.mul_le_mul_of_nonneg_left z (xk hg')
     rwa [xp] at this
    omega
  have hp:0<(g:Int)*d:=Int.mul_pos hg' hd;rw[Int.sign_eq_one_of_pos hp,tD];constructor
  .rw[xo _ gne,zZ _ gne]
  .rw[xo _ gne,d9,oE,Nat.mul_div_cancel_left _ hg]
   omega
mutual
def kd:D->Bool
 |.tup xs=>decide (xs.length<=5000)&&n9 xs
 |.lst xs=>decide (xs.length<=5000)&&n9 xs
 |.non=>true
 |.bl _=>true
 |.int _=>true
 |.str _=>true
 |.dic=>true
 |.pen=>false
 |.cls _=>false
 |.exc _=>false
 |.ty _=>false
 |.scr _=>false
def n9:List D->Bool
 |[]=>true
 |x::r=>kd x&&n9 r
end
theorem A6:∀{xs:List D},n9 xs=true->∀x∈xs,kd x=true
 |x::r,h,y,hy=>by
  rw[n9,c6] at h;rcases Yan.mp hy with rfl|hy
  .exact h.1
  .exact A6 h.2 y hy
theorem A7:∀{xs:List D},(∀x∈xs,kd x=true)->n9 xs=true
 |[],_=>by rw[n9]
 |x::r,h=>by rw[n9,h x (ju ..),A7 λy hy=>h y (gR _ hy)];rfl
theorem oN(h:kd (.tup xs)=true):xs.length<=5000/\∀x∈xs,kd x=true:=by
 rw[kd,c6,Nt] at h;exact⟨h.1,A6 h.2⟩
theorem DL(h:kd (.lst xs)=true):xs.length<=5000/\∀x∈xs,kd x=true:=by
 rw[kd,c6,Nt] at h;exact⟨h.1,A6 h.2⟩
theorem vg(h1:xs.length<=5000)(h2:∀x∈xs,kd x=true):kd (.tup xs)=true:=by rw[kd,Nr h1,A7 h2];rfl
theorem Jg(h1:xs.length<=5000)(h2:∀x∈xs,kd x=true):kd (.lst xs)=true:=by rw[kd,Nr h1,A7 h2];rfl
theorem vh{x:D}(h:kd x=true):∃t,xT x=some t:=by
 cases x<;>first
  |exact⟨_,rfl⟩
  |(rw[kd] at h;cases h)
theorem DM(q:Rat):kd (aR q)=true:=vg (by simp) (by simp[kd])
theorem ss(h:r.length<=5000):kd (aE r)=true:=vg (by simpa using h) λx hx=>by
 obtain⟨q,_,rfl⟩:=YbQ.mp hx;exact DM q
theorem DN{r:List Int}(h:r.length<=5000):kd (aO r)=true:=vg (by simpa using h) λx hx=>by
 obtain⟨q,_,rfl⟩:=YbQ.mp hx;rw[kd]
def oO:D->Bool
 |.int _=>true
 |_=>false
def pY(l m:Int):D->Bool
 |.int i=>decide (l<=i)&&decide (i<=m)
 |_=>false
def lh(l m:Int):D->Bool
 |.tup xs=>xs.all (pY l m)
 |_=>false
def cN:D->Bool
 |.tup [.int t,.int b]=>decide (0<b)&&(Int.gcd t b==1)
 |_=>false
def fZ(n:Int):D->Bool
 |.tup xs=>((xs.length:Int)==n)&&xs.all cN
 |_=>false
def vj(l m:Int):D->Bool
 |.tup xs=>decide (l<=(xs.length:Int))&&decide ((xs.length:Int)<=m)&&xs.all cN
 |_=>false
def su:bF:=fnS (λx:D=>[x]) (λx=>kd x=true) λx=>.bl (oO x)
def A8:bF:=fnS (λx:D×Int×Int=>[x.1,.int x.2.1,.int x.2.2]) (λx=>kd x.1=true) λx=>.bl (pY x.2.1 x.2.2 x.1)
def yf:bF:=fnS (λx:D×Int×Int=>[x.1,.int x.2.1,.int x.2.2]) (λx=>kd x.1=true) λx=>.bl (lh x.2.1 x.2.2 x.1)
def vm:bF:=fnS (λx:Int×Int=>[.int x.1,.int x.2]) (λ_=>True) λx=>.int (Int.gcd x.1 x.2)
def tP:bF:=fnS (λx:D=>[x]) (λx=>kd x=true) λx=>.bl (cN x)
def yg:bF:=fnS (λx:D×Int×Int=>[x.1,.int x.2.1,.int x.2.2]) (λx=>kd x.1=true) λx=>.bl (vj x.2.1 x.2.2 x.1)
def tQ:bF:=fnS (λx:D×Int=>[x.1,.int x.2]) (λx=>kd x.1=true) λx=>.bl (fZ x.2 x.1)
def sx:bF:=fnS (λx:Int×Int=>[.int x.1,.int x.2]) (λx=>x.2≠0/\Bd x.2) λx=>aR (Rat.divInt x.1 x.2)
def yh:bF:=fnS (λx:Rat×Rat=>[aR x.1,aR x.2]) (λx=>B2 x.1 x.2) λx=>aR (x.1+x.2)
def tR:bF:=fnS (λx:Rat×Rat=>[aR x.1,aR x.2]) (λx=>B2 x.1 x.2) λx=>aR (x.1-x.2)
def qJ:bF:=fnS (λx:Rat×Rat=>[aR x.1,aR x.2]) (λx=>B2 x.1 x.2) λx=>aR (x.1*x.2)
def oa:bF:=fnS (λx:Rat×Rat=>[aR x.1,aR x.2]) (λx=>B2 x.1 x.2/\x.2≠0) λx=>aR (x.1/x.2)
def gE(b:Bool)(xs:List D):D:=if b then .tup xs else .lst xs
def vn:bF:=fnS (λx:Bool×List Int=>[gE x.1 (x.2.map .int)]) (λx=>x.2.length<=5000) λx=>aE (x.2.map λ(i:Int)=>(i:Rat))
def BR(p q:List Rat):Prop:=∃n m,(∀x∈p,Sz n x)/\(∀x∈q,Sz m x)/\p.length*(n+m+1)+(n+m)+1<8990
def vo:bF:=fnS (λx:(Bool×Bool)×List Rat×List Rat=>[gE x.1.1 (x.2.1.map aR),gE x.1.2 (x.2.2.map aR)]) (λx=>BR x.2.1 x.2.2) λx=>aR (bV x.2.1 x.2.2)
structure IsSl(s:List Int)(n:Nat):Prop where
 len:s.length+1=2*n
 n1:1<=n
 n5:n<=5
 b:∀x∈s,-50<=x/\x<=50
def tbl(s:List Int)(n:Nat):List (List Int):=(List.range n).map λi=>(s.drop (n-1-i)).take n
def bO(s:List Int)(n:Nat):D:=.lst ((tbl s n).map bT)
def gh:D->Bool
 |.tup xs=>xs.all (pY (-50) 50)&&decide (xs.length%2=1)&&decide (xs.length<=9)
 |_=>false
abbrev SL:=List Int×Nat
def oh:bF:=fnS (λx:List D=>[.tup x]) (λx=>x.length<=5000) λx=>.int (((x.length:Int)+1)/2)
def yi:bF:=fnS (λx:D=>[x]) (λx=>kd x=true) λx=>.bl (gh x)
def yj:D->Int
 |.int i=>i
 |_=>0
def sI:D->List Int
 |.tup xs=>xs.map yj
 |_=>[]
def sN(x:D):Nat:=((sI x).length+1)/2
def hJ(x:D)(v:Except Str D):Except Str D:=if gh x=true then v else .error "NoSlants"
def qK:bF:=xS (λx:D=>[x]) (λx=>kd x=true) λx=>hJ x (.ok .non)
def ym:bF:=xS (λx:D=>[x]) (λx=>kd x=true) λx=>hJ x (.ok (bO (sI x) (sN x)))
def hd(r:List Int):Int:=r.headD 0
def yo:bF:=xS (λx:D=>[x]) (λx=>kd x=true) λx=>hJ x (.ok (aO (sI x).reverse))
def cor(s:List Int)(n k:Nat):List Int:=(s.drop (n-k)).take (2*k-1)
def sB:bF:=xS (λx:D×D=>[x.1,x.2]) (λx=>kd x.1=true/\kd x.2=true) λx=>hJ x.1 (.ok (.bl (fZ (sN x.1) x.2)))
def cX(r:List Int):List Rat:=r.map λ(i:Int)=>(i:Rat)
def tS:bF:=fnS (λx:SL=>[aO x.1]) (λx=>IsSl x.1 x.2) λx=>.lst ((tbl x.1 x.2).map λr=>aE (cX r))
def bK(s:List Int)(n:Nat)(r:List Rat):List Rat:=(tbl s n).map λline=>bV (cX line) r
def BS(r:List Rat):Prop:=∃m,(∀x∈r,Sz m x)/\m<=1400
def sC:D->Rat
 |.tup [.int t,.int b]=>Rat.divInt t b
 |_=>0
def rQ:D->List Rat
 |.tup xs=>xs.map sC
 |_=>[]
def vp:bF:=xS (λx:D×D=>[x.1,x.2]) (λx=>kd x.1=true/\kd x.2=true/\∀r,x.2=aE r->BS r) λx=>hJ x.1 (if fZ (sN x.1) x.2=true then .ok (aE (bK (sI x.1) (sN x.1) (rQ x.2))) else .error "NoRow")
section
variable{E:Ex->Prop}{x:D}{l m a b:Int}{p:Rat}
theorem Jh(h:kd x=true)(q:Q (.bl (lh l m x))):yf [x,.int l,.int m] E Q:=⟨(x,l,m),rfl,h,q⟩
theorem Ji(h:kd x=true)(q:Q (.bl (cN x))):tP [x] E Q:=⟨x,rfl,h,q⟩
theorem Jj(h:kd x=true)(q:Q (.bl (vj l m x))):yg [x,.int l,.int m] E Q:=⟨(x,l,m),rfl,h,q⟩
theorem DO(h:kd x=true)(q:Q (.bl (fZ a x))):tQ [x,.int a] E Q:=⟨(x,a),rfl,h,q⟩
theorem DP(h:B2 p q)(z:Q (aR (p-q))):tR [aR p,aR q] E Q:=⟨(p,q),rfl,h,z⟩
theorem DQ(h:B2 p q)(z:Q (aR (p*q))):qJ [aR p,aR q] E Q:=⟨(p,q),rfl,h,z⟩
theorem vq(h:B2 p q)(h':q≠0)(z:Q (aR (p/q))):oa [aR p,aR q] E Q:=⟨(p,q),rfl,⟨h,h'⟩,z⟩
theorem DR{xs:List Int}(h:xs.length<=5000)(q:Q (aE (cX xs))):vn [bT xs] E Q:=⟨(false,xs),rfl,h,q⟩
theorem DS{p q:List Rat}(h:BR p q)(z:Q (aR (bV p q))):vo [aE p,aE q] E Q:=⟨((true,true),p,q),rfl,h,z⟩
theorem IsSl.l9(h:IsSl s n):s.length<=9:=by have:=h.len;have:=h.n5;omega
theorem A9(h:xs.length<=5000)(q:Q (.int (((xs.length:Int)+1)/2))):oh [.tup xs] E Q:=⟨xs,rfl,h,q⟩
theorem vt(h:IsSl s n)(q:Q (.int n)):oh [aO s] E Q:=by
 have:=h.l9;have:=h.len;refine A9 (by simp;omega) ?_;have e:(((s.map D.int).length:Int)+1)/2=n:=by rw[bC];omega
 rw[e];exact q
theorem Jk(h:kd x=true)(q:Q (.bl (gh x))):yi [x] E Q:=⟨x,rfl,h,q⟩
theorem DT(h:IsSl s n):gh (aO s)=true:=by
 unfold gh aO;simp only[bC];have hl:=h.len;have h5:=h.n5;have h1:=h.n1;rw[Nr (by omega:s.length%2=1),Nr (by omega:s.length<=9),Bool.and_true,Bool.and_true,Ybf];intro x hx;obtain⟨i,hi,rfl⟩:=YbQ.mp hx;have:=h.b i hi;simp[pY,this.1,this.2]
theorem IsSl.kd{s:List Int}{n:Nat}(h:IsSl s n):kd (aO s)=true:=DN (by have:=h.l9;omega)
theorem DU(q:Rat):cN (aR q)=true:=by
 unfold cN aR;have h1:(0:Int)<(q.den:Int):=by exact_mod_cast q.den_pos
 have h2:Int.gcd q.num (q.den:Int)=1:=q.reduced;simp[h2,q.den_pos]
theorem sD(r:List Rat):fZ r.length (aE r)=true:=by
 unfold fZ aE;simp[DU]
theorem gF(s:List Int):sI (aO s)=s:=by show(s.map D.int).map yj=s;rw[List.map_map];exact(h9 λ_ _=>rfl).trans (xq _)
theorem IsSl.sN(h:IsSl s n):sN (aO s)=n:=by unfold LP.sN;rw[gF];have:=h.len;omega
theorem im(h:IsSl s n){v:Except Str D}:hJ (aO s) v=v:=by unfold hJ;rw[DT h,if_pos rfl]
theorem pZ{v:Except Str D}(h:gh x=false):hJ x v=.error "NoSlants" :=by unfold hJ;rw[h,if_neg (by decide)]
theorem qL(h:gh x=true):∃s n,x=aO s/\IsSl s n:=by
 cases x<;>try (cases h;done)
 rename_i xs;simp only[gh,c6,Nt,Ybf] at h;obtain⟨⟨h1,h2⟩,h3⟩:=h;have e:xs=(xs.map yj).map D.int:=by
  rw[List.map_map];refine((h9 λx hx=>?_).trans (xq _)).symm;have:=h1 x hx;cases x<;>first|rfl|cases this
 refine⟨xs.map yj,(xs.length+1)/2,by unfold aO;rw[<-e],⟨by rw[bC];omega,by omega,by omega,λi hi=>?_⟩⟩;obtain⟨x,hx,rfl⟩:=YbQ.mp hi;have:=h1 x hx;cases x<;>first|(cases this;done)|skip
 simp only[pY,c6,Nt] at this;exact this
theorem qM(q:Rat):sC (aR q)=q:=by unfold sC aR;exact tE q
theorem p6(r:List Rat):rQ (aE r)=r:=by show(r.map aR).map sC=r;rw[List.map_map];exact(h9 λq _=>qM q).trans (xq _)
theorem Jl{r':List Rat}(h:aE r=aE r'):r=r':=by rw[<-p6 r,h,p6]
theorem yp(h:cN d=true):∃q,d=aR q:=by
 unfold cN at h;split at h
 .rename_i t b
  simp only[c6,Nt,NU] at h;have hb:((b.toNat:Nat):Int)=b:=zY (by omega);refine⟨⟨t,b.toNat,by omega,?_⟩,?_⟩
  .have:b.natAbs=b.toNat:=by omega
   have h2:=h.2;unfold Int.gcd at h2;rw[this] at h2;exact h2
  .unfold aR
   rw[hb]
 .cases h
theorem DV:∀{xs:List D},xs.all cN=true->∃r:List Rat,xs=r.map aR
 |[],_=>⟨[],rfl⟩
 |x::xs,h=>by
  rw[qT,c6] at h;obtain⟨q,rfl⟩:=yp h.1;obtain⟨r,rfl⟩:=DV h.2;exact⟨q::r,rfl⟩
theorem yq{a:Int}(h:fZ a x=true):∃r,x=aE r/\(r.length:Int)=a:=by
 cases x<;>try (cases h;done)
 rename_i xs;simp only[fZ,c6,NU] at h;obtain⟨r,rfl⟩:=DV h.2;exact⟨r,rfl,by simpa using h.1⟩
theorem Jm(h:IsSl s n)(q:Q .non):qK [aO s] E Q:=xS.ok (aO s) rfl h.kd (im h) q
theorem Jn(h:kd x=true)(hb:gh x=false)(e:E "NoSlants"):qK [x] E Q:=xS.err x rfl h (pZ hb) e
theorem Jo(h:IsSl s n)(q:Q (bO s n)):ym [aO s] E Q:=xS.ok (aO s) rfl h.kd (by(try dsimp only);rw[im h,gF,h.sN]) q
theorem Jp(h:IsSl s n)(q:Q (aO s.reverse)):yo [aO s] E Q:=xS.ok (aO s) rfl h.kd (by(try dsimp only);rw[im h,gF]) q
theorem Ba(h:IsSl s n)(hk:kd x=true)(q:Q (.bl (fZ n x))):sB [aO s,x] E Q:=xS.ok (aO s,x) rfl ⟨h.kd,hk⟩ (by(try dsimp only);rw[im h,h.sN]) q
theorem Jq(h:kd x=true)(hk:kd y=true)(hb:gh x=false)(e:E "NoSlants"):sB [x,y] E Q:=xS.err (x,y) rfl ⟨h,hk⟩ (pZ hb) e
theorem DW(h:IsSl s n)(q:Q (.lst ((tbl s n).map λr=>aE (cX r)))):tS [aO s] E Q:=⟨(s,n),rfl,h,q⟩
theorem DX(h:IsSl s n)(hl:r.length=n)(hb:BS r)(q:Q (aE (bK s n r))):vp [aO s,aE r] E Q:=xS.ok (aO s,aE r) rfl ⟨h.kd,ss (by have:=h.n5;omega),λr' e=>by rw [<- Jl e];exact hb⟩ (by
 have er:fZ n (aE r)=true:=by rw[<-hl];exact sD r
 dsimp only;rw[im h,h.sN,gF,er,if_pos rfl,p6]) q
end
theorem sE{C:Addr}(h:PySem.W.nsIn K mainGlobals x=some (some (.ref C))):iH K x=some C:=by unfold iH;rw[h]
section
variable{C:Addr}{pos:Pos}{newId initId:String}{bmB:List Value}
def iN(x:Str):WS:=λE _ _=>E x
structure XC(K:Nn)(mg:Str->Option Value)(x:Str):Prop where
 h:∃(C:Addr) (newId initId:String) (bmB:List Value),iH K x=some C/\mg x=some (.ref C)/\PySem.W.excIn K C bmB newId=true/\ExcBaseFacts "ValueError" newId initId bmB
theorem yr(hr:k9 X EX)(hx:XC X.K X.mg x)(hc:X.calm=true:=by rfl)(hxn:nV x=none:=by decide)(hg:Gl X x:=by rfl)(hd:(x==("__debug__" : Str))=false:=by decide) :
  PZ X EX (.Raise (some (.Call (.Name x np) [] [] cpos)) none pos) (iN x):=by
 obtain⟨C,newId,initId,bmB,h1,h2,h3,h4⟩:=hx.h;exact⟨⟨_,Id hr hc h2 h3 h4 hg hd,λW0 H0 F W σ H ρ E Dn N s fl eo no q=>eo x W H (.ref C) none q s.ext ⟨C,by rw[IJ hxn];exact h1,rfl,.none hxn⟩⟩,λE ρ N N' hl q=>q⟩
end
def tU(n i:Nat)(ex:Str):cP:=(List.replicate n SV.un).set i (.d (.exc ex))
structure XT(K:Nn)(mg:Str->Option Value)(x:Str)(L:List Str):Prop where
 h:∃(C:Addr) (newId:String) (bmB:List Value),mg x=some (.ref C)/\PySem.W.excIn K C bmB newId=true/\bmB.contains (.type "BaseException")=true/\∀n∈L,∀D,iH K (nX n)=some D->PySem.W.mroIn K D (.ref C)=some true
section
def eO(L:List Str)(n i:Nat)(zb zh:WS):WS:=λ_ N ρ=>∃E':Ex->Prop,(∀ex,E' ex->ex∈L/\zh No { nx:=λ_=>False,rt:=N.rt } (tU n i ex))/\zb E' N ρ
theorem Jr(L:List Str)(i:Nat){n cx:Str}{suite:List Stmt}{b0:Stmt}{zh:WS}{hpos pos:Pos}(hcx:XT X.K X.mg cx L)(hN:X.N.Nodup)
  (hb:∀xe pins EX',cQ (eQ X.prog X.w) (X.tr xe pins) EX'->je (X.tr xe pins) EX' body zb) (hh:∀e xe,je (X.hnd e xe) E0 (b0::suite) zh)
  (hstk:X.stack=X.env::X.outer/\X.env.frame=some X.env.locals:=by exact⟨rfl,rfl⟩) (hi:X.N[i]? = some n:=by rfl) (hx:X.env.scope.names.lookup n=some .local:=by rfl)
  (hg:Gl X cx:=by rfl) (hd:(cx==("__debug__" : Str))=false:=by decide) (hkf:X.env.scope.kind=.function:=by rfl) (hex:X.ex=[]:=by rfl) :
  PZ X EX (.Try body [.ExceptHandler (some (.Name cx np)) (some n) (b0::suite) hpos] [] [] pos) (eO L X.N.length i zb zh):=by
 have hbm:=(hb (λ_ _=>False) [] E0 dq).mono;refine⟨⟨λD σ H=>∃W0 H0 F W ρ N,SOk X.K W0 H0 W σ H ρ/\Wle F W/\AN X.K W0 H0 F D N/\eO L X.N.length i zb zh No N ρ,?_,λW0 H0 F W σ H ρ E Dn N s fl eo no h=>⟨W0,H0,F,W,ρ,N,s,fl,no,h⟩⟩,λE ρ N N' hl ⟨E',h1,h2⟩=>⟨E',λex he=>⟨(h1 ex he).1,(hh 0 λ_ _=>False).mono _ _ { nx:=λ_=>False,rt:=N.rt } { nx:=λ_=>False,rt:=N'.rt } ⟨λ_ z=>z,hl.rt,λ_ z=>z,λ_ z=>z⟩ (h1 ex he).2⟩,hbm _ _ _ _ hl h2⟩⟩;rintro pins s σ H D I ⟨W0,H0,F,W,ρ,N,so,fl,no,E',hE',hz⟩;obtain⟨Cs,newId,bmB,hm,hexc,hbase,hsub⟩:=hcx.h;have hcalm:=I.ok.hd
 let Eh:Value->Shared->Prop:=λe s1=>wpAny (model X.prog X.w) X.A (noteFrame e X.env) (λ_ s2=>wpAny (model X.prog X.w) X.A (setFlight e none) (λ_ s3=>wpAny (model X.prog X.w) X.A (handleBy e X.env [.ExceptHandler (some (.Name cx np)) (some n) (b0::suite) hpos]) (SP X pins D) X.xe s3) X.xe s2) X.xe s1
 have pass:cQ (eQ X.prog X.w) (X.tr Eh pins) (λcls dx H'=>∃W' ex,Ext W0 H0 W' H'/\xN X.K W' H' cls dx ex/\E' ex):=by
  rintro pins' σ1 H1 s1 _ s' I1 ⟨ea,cls,dx,H',B,rfl,fly,hos,hbare,un,hok,hB,hT,W',ex,x',⟨C,hcl,rfl,hxd⟩,he⟩;have J:Inv X pins σ1 H1 s1:=I1.untr;obtain⟨hL,hw⟩:=hE' ex he;have fly':Fl.Up (Fl.Is (.ref C) dx) B (X.env::X.outer) ea .none s'.heap:=by rw[<-hstk.1];exact fly
  have frm:∀b∈dn X.stack,∃o,s'.heap.get? b=some o/\∀vs,o.data≠.fields vs:=λb hb=>(fly.fr.mem hb).2;show wpAny (model X.prog X.w) X.A (noteFrame (.ref ea) X.env) _ _ s';refine Fl.note Fl.Is.firm (by rw[J.ok.frames,hstk.1]) hstk.2 fly' λh4 held4 up4=>?_;refine Fl.lands (s:={ s' with heap:=h4 }) held4 λh5 fl5 up5=>?_;have up45:=up4.trans up5;have J5:Inv X pins σ1 H' { s' with heap:=h5 }:=J.fly hos hbare un hok hB hT fly.st fl5.st up45 frm;refine wpAny_handleBy_cons (codeAny_handlers_test ?_) (by intro q;cases q);refine eV (X:=X.hnd ea X.xe) J5.hnd hg hm ?_ hd;refine Ie J5.kIn hexc hbase (let⟨ob,z1,z2,_⟩:=fl5.there;⟨ob,z1,z2.1⟩) (hsub ex hL C hcl) ?_;refine codeAny_handlers_suite_as ?_;refine Fl.lands (s:={ s' with heap:=h5 }) fl5 λh6 fl6 up6=>?_;have J6:Inv X pins σ1 H' { s' with heap:=h6 }:=J.fly hos hbare un hok hB hT fly.st fl6.st (up45.trans up6) frm
  -- the exception's own object
  obtain⟨oe0,g1,g2,vs0,g3⟩:=fly.there;have nofr:ea∉dn X.stack:=λhm=>by
   obtain⟨o,e,nf⟩:=frm ea hm;rw[g1] at e;cases e;exact nf _ g3
  have nB:B.get? ea=none:=fly.new;have noS:s1.heap.get? ea=none:=by
   cases q:s1.heap.get? ea with
   |none=>rfl
   |some o=>obtain⟨o',e⟩:=hB ea o q nofr;rw[nB] at e;cases e
  have hn':H' ea=none:=by
   cases q:H' ea with
   |none=>rfl
   |some u=>obtain⟨o,e⟩:=hT ea u q;rw[nB] at e;cases e
  have no0:X.s₀.heap.get? ea=none:=by
   cases q:X.s₀.heap.get? ea with
   |none=>rfl
   |some o=>
    obtain⟨o',e⟩:=J.base.there ea o q (by rw[hex];simp);rw[noS] at e;cases e
  have nL:ea≠X.env.locals:=λz=>by
   obtain⟨m,⟨o,es,ep,ho,_⟩,_⟩:=J.loc;rw[<-z,noS] at ho;cases ho
  have nC:∀x c,X.env.cells.lookup x=some c->c≠ea:=λx c e z=>by
   obtain⟨v,o,ho,_⟩:=J.cell x c e;rw[z,noS] at ho;cases ho
  have nP:∀p∈X.pn++pins,p.1≠ea:=λp hp z=>by
   have:=(J.pin p hp).1;rw[z,noS] at this;cases this
  obtain⟨oe,q1,q2,vs,q3⟩:=fl6.there;refine fv (X:=X.hnd ea X.xe) (v:=.ref ea) J6.hnd hN hi (Or.inl hx) rfl (λs7 J7 sb=>?_) (.inr hx);have hat:∃oe,s7.heap.get? ea=some oe/\oe.cls=.ref C/\PySem.W.notCls oe=true/\oe.dict=dx/\∃vs,oe.data=.fields vs:=by
   obtain⟨a,hs,ha⟩:=sb;have hne:ea≠a:=λz=>by
    rcases ha with ha|ha
    .exact nL (z.trans ha)
    .exact nC _ _ ha z.symm
   refine⟨oe,(hs.2 ea hne).trans q1,q2.1,?_,q2.2,vs,q3⟩;unfold PySem.W.notCls;rw[q3]
  have J8:Inv (X.hnd ea λ_ _=>False) pins (σ1.set i (some (.ref ea))) (upd H' ea (qy C ea dx)) s7:=by
   refine((J7.unhnd hcalm).hnd).track hn' no0 nL nC nP ⟨hat,?_,?_⟩ (λ_ z=>by first|cases z|(unfold qy at z;cases z))
   .obtain⟨o,e,_⟩:=hat;exact⟨o,e⟩
   .rintro g1 g2 ⟨o,e,r⟩ k
    exact⟨o,k o e,r⟩
  have xt:Ext W' H' (W'.put ea (qy C ea dx)) (upd H' ea (qy C ea dx)):=Ext.put x'.ok hn';have hil:i<X.N.length:=(Yaq.mp hi).1;have so2:SOk X.K W0 H0 (W'.put ea (qy C ea dx)) (σ1.set i (some (.ref ea))) (upd H' ea (qy C ea dx)) (tU X.N.length i ex):=by
   have hlen:σ1.length=X.N.length:=J.len;have slot:∀(j:Nat) sv,(tU X.N.length i ex)[j]? = some sv->sv=.un\/(j=i/\sv=.d (.exc ex)):=λj sv e=>by
    unfold tU at e
    by_cases h:i=j
    .subst h
     rw[eI (by simpa using hil)] at e;cases e;exact .inr ⟨rfl,rfl⟩
    .rw[d7 h,lE] at e
     split at e
     .cases e;exact .inl rfl
     .cases e
   refine⟨x'.trans xt,by unfold tU;rw[d8,d8,o5,hlen],λj y e=>?_,λj ys e=>?_,λj k ys zs b _ e=>?_,.none λj xss e=>?_⟩
   .rcases slot j _ e with z|⟨rfl,z⟩
    .cases z
    .cases z
     exact⟨.ref ea,eI (by rw[hlen];exact hil),.exc (by unfold Wd.put;dsimp only;rw[aP]) hcl (hxd.mono xt.g)⟩
   .rcases slot j _ e with z|⟨_,z⟩<;>cases z
   .rcases slot j _ e with z|⟨_,z⟩<;>cases z
   .rcases slot j _ e with z|⟨_,z⟩<;>cases z
  obtain⟨th,ph,kh⟩:=(hh ea λ_ _=>False).t;refine ND (ph pins s7 _ _ { nx:=λ_ _=>False,rt:=D.rt } J8 (kh W0 H0 _ _ _ _ _ No _ { nx:=λ_=>False,rt:=N.rt } so2 (.refl _) (λ_ _ _ _ _ z=>z.elim)
   ⟨λ_ _ _ _ _ _ z=>z.elim,no.rt,λ_ _ _ _ _ _ z=>z.elim,λ_ _ _ _ _ _ z=>z.elim⟩ hw)) (λf s9 q=>?_) λ_ _ z=>z.elim
  cases f with
  |next=>obtain⟨_,_,_,z⟩:=q;exact z.elim
  |brk=>obtain⟨_,_,_,z⟩:=q;exact z.elim
  |cont=>obtain⟨_,_,_,z⟩:=q;exact z.elim
  |ret u=>
   obtain⟨v,σ9,H9,J9,r9,q9⟩:=q;have K9:=J9.unhnd hcalm;obtain⟨m,hns,_⟩:=K9.loc;exact wpAny_nameGoes hx hns (by rw[hkf];rfl) λh' m' hn2 hs2=>⟨v,_,H9,K9.names hn2 hs2,r9,q9⟩
 obtain⟨tb,pb,kb⟩:=(hb Eh pins _ pass).t;refine wpAny_Try_except (ND (pb [] s σ H D I.tr (kb W0 H0 F W σ H ρ E' D N so fl (λex W' H' cls dx he x r=>⟨W',ex,x,r,he⟩) no hz)) (λf s1 q=>?_) λe s1 q=>q);cases f with
 |next=>exact NN q.untr
 |brk=>exact q.untr
 |cont=>exact q.untr
 |ret u=>exact q.untr
end
section
variable{w:World}
theorem Bb{N:List Str}{z:WS}(F:Fun K x qual st f fd)(sc:cS N ps (aJ st))(len:∀ds E Q,S ds E Q->ds.length=ps.length)
  (hbody:∀ (cdv:Value) (A:Around) (outer:List Env) (s:Shared) (H:Hp),RoomU k (A.deeper (envOfC qual (aJ st) s.heap.objs.size f cdv))->
   je (rZ P w K mg base N qual (aJ st) f cdv A outer s H) E0 (bH st) z)
  (h:∀ds E Q,S ds E Q->z No { nx:=λ_=>Q .non,rt:=Q } (ef N ds)):xL P w K mg base (k+1) f fd ps (fV K S):=by
 refine F.okU sc (λvs H Q E hs=>?_) λcdv A outer s H vs Q E hr hs=>?_
 .obtain⟨ds,W,_,r,hS⟩:=hs
  rw[r.length];exact len _ _ _ hS
 .obtain⟨ds,W,ok,r,hS⟩:=hs
  obtain⟨t,p,k⟩:=(hbody cdv A outer s H hr).t;exact ⟨t,p,k W H W W (start N vs) H (ef N ds) No _ { nx:=λ_=>RQ K W H Q .non,rt:=RQ K W H Q } (Dy ok r) (.refl W) (λ_ _ _ _ _ z=>z.elim)
   ⟨λW1 σ1 H1 ρ1 s1 _ q=>q _ W1 H1 s1.ext .non,λd v W1 H1 x1 r1 q=>q v W1 H1 x1 r1,λ_ _ _ _ _ _ q=>q.elim,λ_ _ _ _ _ _ q=>q.elim⟩ (h ds _ _ hS)⟩
structure yt(P:Program)(w:World)(K:Nn)(mg:Str->Option Value)(base:Heap)(k:Nat)(x:Str)(ps:List Str)(S:bF):Prop where
 ok:∃f fd,xL P w K mg base k f fd ps (fV K S)/\mg x=some (.ref f)/\PySem.W.keepIn K (.ref f)=true/\Binds K fd ps []
 mono:nZ S
end
section
variable{pos:Pos}{t:WA}
theorem DY(G:yt X.prog X.w X.K X.mg X.base k x ps S)(hr:RoomU j X.A)(ha:iY X EX (e::es) t)(hk:k<=j:=by decide)(hg:Gl X x:=by rfl)(hdb:(x==("__debug__" : Str))=false:=by decide)(he:starEach (e::es) X.env=(false,eval e X.env)::starEach es X.env:=by rfl)(hpl:(backTo pos (starEach es X.env)).any (·.1)=false:=by rfl) :
  PX X EX (.Call (.Name x p) (e::es) [] pos) (wF S t):=by
 obtain⟨f,fd,F,hm,kp,hb⟩:=G.ok;obtain⟨ta,pa,ka⟩:=ha.t;have hS:=G.mono;refine⟨⟨_,Ih (E:=EX) F (hr.mono hk) hg hm kp hb pa hdb he hpl,λW0 H0 W σ H ρ E Q s eo h=>?_⟩,λE ρ P P' hp z=>ha.mono _ _ _ _ (λds hds=>hS _ _ _ _ _ (λ_ q=>q) hp hds) z⟩;refine ka W0 H0 W σ H ρ E _ s eo (ha.mono _ _ _ _ (λds hds vs W1 H1 x1 r1=>?_) h);refine⟨ds,W1,x1.ok,by rw[qh];exact r1,hS _ _ _ _ _ (λex hex W' H' cls dx x' r'=>?_) (λd hd=>RQ.ext hd x1) hds⟩;exact eo ex W' H' cls dx hex (s.ext.trans (x1.trans x')) r'
end
structure XI(K:Nn)(L M:List Str):Prop where
 c:∀n∈L,∃D,iH K (nX n)=some D/\gZ K D/\PySem.W.kitOne K (.ref D) (.type "ValueError")=some true/\∀m∈M,∃C,iH K m=some C/\PySem.W.kitOne K (.ref D) (.ref C)=some (nX n==m)
section
variable{pos:Pos}{a:Expr}{L M:List Str}
def gIsX(L M:List Str):List D->(D->Prop)->Prop:=λds Q=>match ds with
 |[.exc n,.cls m]=>n∈L/\m∈M/\Q (.bl (nX n==m))
 |[.exc n,.ty T]=>n∈L/\T = "ValueError" /\Q (.bl true)
 |_=>False
theorem gIsX.mono:∀ds P P',(∀d,P d->P' d)->gIsX L M ds P->gIsX L M ds P':=λds P P' hp hg=>by
 unfold gIsX at hg ⊢;split at hg
 .exact⟨hg.1,hg.2.1,hp _ hg.2.2⟩
 .exact⟨hg.1,hg.2.1,hp _ hg.2.2⟩
 .exact hg.elim
theorem oP(hx:XI X.K L M):dZ X (.builtin "isinstance") (gIsX L M):=by
 refine⟨⟨λvs H Q=>∃W ds,WOk W H/\Reps X.K W vs ds/\gIsX L M ds (RQ X.K W H Q),?_,λW H vs ds Q ok r hg=>⟨W,ds,ok,r,hg⟩⟩,gIsX.mono⟩;rintro pins s σ H vs us Q I rv ⟨W,ds,ok,rs,hg⟩;have fin:∀{b:Bool},RQ X.K W H Q (.bl b)->∀tk,EP X pins σ Q (.bool b) { s with toks:=tk }:=λq tk=>⟨.bl _,H,I.tok tk,rfl,q.now ok (.bl _)⟩;have look:∀{x:V} {u:Value} {n:Str},n∈L->Rep X.K W x (.exc n)->RelV x u->∃a D,u=.ref a/\iH X.K (nX n)=some D/\XAt s.heap a D:=λ{x u n} hn r ru=>by
  cases r with
  | @exc a C n dx e0 e1 _=>
   cases ru;obtain⟨hx,_⟩:=(show ObjOk X.prog X.w H s.heap a (qy C a dx) from I.hok a _ (ok.g _ _ e0))
   exact⟨a,C,rfl,e1,let⟨oe,z1,z2,z3,_⟩:=hx;⟨oe,z1,z2,z3⟩⟩
 unfold gIsX at hg;split at hg
 .rename_i n m
  obtain⟨h1,h2,q⟩:=hg;obtain⟨v,w',rfl,r1,r2⟩:=rs.two;obtain⟨u,u2,rfl,ru,ru2⟩:=km rv;obtain⟨a,D,rfl,hD,hat⟩:=look h1 r1 ru;obtain⟨D',e1,cx,_,hm⟩:=hx.c n h1;rw[hD] at e1;cases e1;obtain⟨C,e2,hk⟩:=hm m h2;cases r2 with
  |cls e3=>
   rw[e3] at e2;cases e2;cases ru2;exact PySem.W.kia_one (Dl cx) I.kIn hat hk (λz=>nomatch z) (fin q)
 .rename_i n T
  obtain⟨h1,rfl,q⟩:=hg;obtain⟨v,w',rfl,r1,r2⟩:=rs.two;obtain⟨u,u2,rfl,ru,ru2⟩:=km rv;obtain⟨a,D,rfl,hD,hat⟩:=look h1 r1 ru;obtain⟨D',e1,cx,hk,_⟩:=hx.c n h1;rw[hD] at e1;cases e1;cases r2;obtain rfl:u2=Value.type "ValueError" :=ru2;exact PySem.W.kia_one (Dl cx) I.kIn hat hk (λz=>nomatch z) (fin q)
 .exact hg.elim
theorem Js{a:Addr}(hm:X.mg x=some (.ref a))(hc:iH X.K x=some a)(hg:Gl X x:=by rfl)(hd:(x==("__debug__" : Str))=false:=by decide):PX X EX (.Name x pos) (wC (.cls x)):=
 AO (v:=.ref a) hm rfl (λW=>.cls hc) hg hd
end
structure Bc(X:Cx)(id:String)(g:D->List D->(D->Prop)->Prop):Prop where
 t:∃r,MtR X id r/\∀W H x vs dx ds Q,WOk W H->Rep X.K W x dx->Reps X.K W vs ds->g dx ds (RQ X.K W H Q)->r x vs H Q
 ty:∀dx ds P,g dx ds P->∃xs,dx=.lst xs
 mono:∀x ds P P',(∀d,P d->P' d)->g x ds P->g x ds P'
def wM(g:D->List D->(D->Prop)->Prop)(wo:WE)(t:WA):WE:=λE ρ Q=>wo E ρ λx=>(∃xs,x=.lst xs)/\t E ρ λds=>g x ds Q
section
variable{o:Expr}{t:WA}{id:String}{g:D->List D->(D->Prop)->Prop}
theorem DZ(slot:Slot "list" name id)(hty:typeOf (.builtin id)=pure (.type "method_descriptor"))(hm:Bc X id g)(ho:PX X EX o wo)(ha:iY X EX (e::es) t)
  (hbase:attributeBase o name X.env (eval o X.env)=eval o X.env:=by rfl)
  (hfew:((backTo cpos (starEach (e::es) X.env)).all (λx=>!x.1) && (backToKw cpos (keywordEach [] X.env)).all (λx=>x.1.isSome)
   && decide ((e::es).length+([]:List Keyword).length+(if([]:List Keyword).isEmpty then 0 else 1)<30))=true:=by rfl)
  (hline:(apos.endLine==cpos.line)=true:=by rfl) (hs:starEach (e::es) X.env=(false,eval e X.env)::starEach es X.env:=by rfl) (hplain:(backTo cpos (starEach es X.env)).any (·.1)=false:=by rfl) :
  PX X EX (.Call (.Attribute o name apos) (e::es) [] cpos) (wM g wo t):=by
 obtain⟨to,po,ko⟩:=ho.t;obtain⟨ta,pa,ka⟩:=ha.t;obtain⟨r,pr,kr⟩:=hm.t;refine⟨⟨_,qu PySem.F.plainAttrs_list slot hty pr po pa hbase hfew hline hs hplain,λW0 H0 W σ H ρ E Q s eo h=>?_⟩,λE ρ P P' hp z=>ho.mono _ _ _ _ (λx ⟨h1,h2⟩=>⟨h1,ha.mono _ _ _ _ (λds hds=>hm.mono _ _ _ _ hp hds) h2⟩) z⟩;refine ko W0 H0 W σ H ρ E _ s eo (ho.mono _ _ _ _ (λd hd v W1 H1 x1 r1=>?_) h);obtain⟨⟨xs,rfl⟩,h2⟩:=hd;cases r1 with
 | @lst a vs ds e1 rr=>
  refine⟨.inl ⟨rfl,vs,SqL.of (x1.ok.g _ _ e1)⟩,?_⟩;refine ka W0 H0 W1 σ H1 ρ E _ (s.step x1) eo (ha.mono _ _ _ _ (λds hds us W2 H2 x2 r2=>?_) h2);exact kr W2 H2 _ us _ ds Q x2.ok (.lst (x2.g _ _ e1) (rr.mono x2.g x2.p)) r2 (hm.mono _ _ _ _ (λd hd=>RQ.ext hd (x1.trans x2)) hds)
end
def yu(bs:List Bool):List D:=bs.map .bl
def Be:D->List D->(D->Prop)->Prop:=λx ds Q=>∃bs b,x=.lst (yu bs)/\ds=[.bl b]/\Q (.int (bs.countP (· == b):Nat))
def Bf:D->List D->(D->Prop)->Prop:=λx ds Q=>∃bs b j,x=.lst (yu bs)/\ds=[.bl b]/\bs[j]? = some b/\(∀i<j,bs[i]?≠some b)/\Q (.int (j:Nat))
theorem Bg{K:Nn}{W:Wd}:∀{bs:List Bool} {vs:List V} {its:List Value},Reps K W vs (yu bs)->Vals vs its->its=bs.map Value.bool
 |[],_,_,.nil,.nil=>rfl
 |b::bs,_,_,.cons r1 r2,.cons v1 v2=>by
  cases r1;obtain rfl:_=Value.bool b:=v1;rw[Bg r2 v2];rfl
theorem D0(k:Bool):∀(bs:List Bool),(bs.map Value.bool).countP (isBoolOf k)=bs.countP (· == k)
 |[]=>rfl
 |b::bs=>by rw[cR,List.countP_cons,List.countP_cons,D0 k bs];rfl
section
theorem Jt:Bc X "list.count" Be:=by
 refine⟨⟨λx vs H Q=>∃W dx ds,WOk W H/\Rep X.K W x dx/\Reps X.K W vs ds/\Be dx ds (RQ X.K W H Q),?_,λW H x vs dx ds Q ok r rs hg=>⟨W,dx,ds,ok,r,rs,hg⟩⟩,λdx ds P ⟨bs,b,h,_⟩=>⟨_,h⟩,λx ds P P' hp ⟨bs,b,h1,h2,h3⟩=>⟨bs,b,h1,h2,hp _ h3⟩⟩;rintro pins s σ H x vs v us Q I rx rv ⟨W,dx,ds,ok,r,rs,bs,b,rfl,rfl,q⟩;obtain⟨y,rfl,ry⟩:=rs.one;cases ry;obtain⟨u,rfl,ru⟩:=eD rv;obtain rfl:u=Value.bool b:=ru;cases r with
 | @lst a xs ds e1 rr=>
  cases rx;obtain⟨its,rvs,pl,hz⟩:=I.list (SqL.of (ok.g _ _ e1));have hits:=Bg rr rvs;subst hits;obtain⟨⟨cls,dd,data,sl⟩,ho,hc,n,hd⟩:=pl.isList;simp only at hc hd;subst hc hd;refine call_meets PySem.F.slot_list_count ⟨_,ho,rfl⟩ PySem.F.entry_list_count (PySem.F.args_list_count_2 _ _) (SeqAt.list_countAt a _ n dd sl (.bool b) (isBoolOf b)) ⟨ho,λy hy=>?_,?_⟩
  .have hy':y∈bs.map Value.bool:=by simpa using hy
   obtain⟨c,_,rfl⟩:=YbQ.mp hy';exact PySem.SeqAt.EqAt.bool_bool c b
  .rw[show((bs.map Value.bool).toArray.toList)=bs.map Value.bool from rfl,D0]
   exact⟨.int _,H,I.tok _,⟨_,rfl⟩,q.now ok (.int _)⟩
theorem Ju:Bc X "list.index" Bf:=by
 refine⟨⟨λx vs H Q=>∃W dx ds,WOk W H/\Rep X.K W x dx/\Reps X.K W vs ds/\Bf dx ds (RQ X.K W H Q),?_,λW H x vs dx ds Q ok r rs hg=>⟨W,dx,ds,ok,r,rs,hg⟩⟩,λdx ds P ⟨bs,b,j,h,_⟩=>⟨_,h⟩,λx ds P P' hp ⟨bs,b,j,h1,h2,h3,h4,h5⟩=>⟨bs,b,j,h1,h2,h3,h4,hp _ h5⟩⟩;rintro pins s σ H x vs v us Q I rx rv ⟨W,dx,ds,ok,r,rs,bs,b,j,rfl,rfl,hj,hno,q⟩;obtain⟨y,rfl,ry⟩:=rs.one;cases ry;obtain⟨u,rfl,ru⟩:=eD rv;obtain rfl:u=Value.bool b:=ru;cases r with
 | @lst a xs ds e1 rr=>
  cases rx;obtain⟨its,rvs,pl,hz⟩:=I.list (SqL.of (ok.g _ _ e1));have hits:=Bg rr rvs;subst hits;have hlen:xs.length=bs.length:=by rw[rr.length];unfold yu;rw[bC]
  obtain⟨⟨cls,dd,data,sl⟩,ho,hc,n,hd⟩:=pl.isList;simp only at hc hd;subst hc hd;have hjl:j<bs.length:=(Yaq.mp hj).1;have hsz:((bs.map Value.bool).toArray).size=bs.length:=by simp
  refine call_meets PySem.F.slot_list_index ⟨_,ho,rfl⟩ PySem.F.entry_list_index (PySem.F.args_list_index_2 _ _) (SeqAt.list_indexAt a _ n dd sl (.bool b) (isBoolOf b) j (by rw[hsz];exact hjl) ?_ ?_ ?_) ⟨ho,λy hy=>?_,?_⟩
  .rw[sizeLine_eq] at hz
   have:bs.length<=2^62:=by first|(have:=hz;simp at this;omega)|omega
   have:=hjl;omega
  .have:=(Yaq.mp hj).2
   simp only[List.getElem_toArray,xr,isBoolOf];rw[this];simp
  .intro m hm hlt
   have hm':m<bs.length:=by rw[hsz] at hm;exact hm
   have:=hno m hlt;rw[bW hm'] at this;simp only[List.getElem_toArray,xr,isBoolOf];exact Bool.eq_false_iff.mpr λz=>this (by rw[beq_iff_eq.mp z])
  .have hy':y∈bs.map Value.bool:=by simpa using hy
   obtain⟨c,_,rfl⟩:=YbQ.mp hy';exact PySem.SeqAt.EqAt.bool_bool c b
  .exact⟨.int _,H,I.tok _,⟨_,rfl⟩,q.now ok (.int _)⟩
end
section
def Zdk:G2:=λx y Q=>match x,y with
 |.tup xs,.int k=>k<1000/\-1000<k/\xs.length*k.toNat<=aM/\Q (.tup (List.replicate k.toNat xs).flatten)
 |_,_=>False
theorem Zdk.mono:∀x y P P',(∀d,P d->P' d)->Zdk x y P->Zdk x y P':=λx y P P' hp hg=>by
 unfold Zdk at hg ⊢;split at hg
 .exact⟨hg.1,hg.2.1,hg.2.2.1,hp _ hg.2.2.2⟩
 .exact hg.elim
theorem D1:gA X (binaryOp .Mult) Zdk:=by
 refine⟨⟨_,Iw,λW H x y dx dy Q ok rx ry hg=>?_⟩,Zdk.mono⟩;unfold Zdk at hg;split at hg
 .obtain⟨p,vs,rfl,h1,r1⟩:=rx.sqt ok
  cases ry;rename_i xs k;refine⟨p,k,vs,rfl,rfl,h1,by omega,by omega,by rw[r1.length];exact pR hg.2.2.1,λe=>?_,λa ha=>hg.2.2.2.tup ok (Du r1 _) ha⟩;have e':(List.replicate k.toNat xs).flatten=xs:=by
   rcases e with e|e
   .subst e;cases r1;simp
   .subst e;simp
  have q:=hg.2.2.2;rw[e'] at q;exact q.now ok rx
 .exact hg.elim
end
section
variable{pos:Pos}
def its(js:List Int):List D:=js.map .int
def gIn(neg:Bool):G2:=λx y Q=>∃i js,x=.int i/\(y=.lst (its js)\/y=.tup (its js))/\Q (.bl (if neg then !js.contains i else js.contains i))
theorem gIn.mono{neg:Bool}:∀x y P P',(∀d,P d->P' d)->gIn neg x y P->gIn neg x y P':=λx y P P' hp ⟨i,js,h1,h2,h3⟩=>⟨i,js,h1,h2,hp _ h3⟩
theorem yv{K:Nn}{W:Wd}:∀{js:List Int} {vs:List V},Reps K W vs (its js)->vs=js.map V.int
 |[],_,.nil=>rfl
 |j::js,_,.cons r t=>by cases r;rw[yv t];rfl
theorem Bh(i:Int):∀js:List Int,xF (.int i) (js.map V.int)=js.contains i
 |[]=>rfl
 |j::js=>by
  have ih:=Bh i js;unfold xF at ih ⊢;rw[cR,w8,ih,List.contains_cons];congr 1;show(j==i)=(i==j)
  rw[o7,NU,NU];exact⟨Eq.symm,Eq.symm⟩
theorem Bi:∀js:List Int,(js.map V.int).all eZ=true
 |[]=>rfl
 |j::js=>by rw[cR,qT,Bi js];rfl
theorem vv{neg:Bool}{W:Wd}{x y:V}{dx dy:D}{Q:VK}(ok:WOk W H)(rx:Rep X.K W x dx)(ry:Rep X.K W y dy)(hg:gIn neg dx dy (RQ X.K W H Q)):Dd X.K neg x y H Q:=by
 obtain⟨i,js,rfl,h,q⟩:=hg;cases rx;rcases h with rfl|rfl
 .obtain⟨p,vs,rfl,h1,r1⟩:=ry.sql ok
  obtain rfl:=yv r1;exact⟨p,_,rfl,.inl h1,rfl,Bi js,by rw[Bh];exact q.now ok (.bl _)⟩
 .obtain⟨p,vs,rfl,h1,r1⟩:=ry.sqt ok
  obtain rfl:=yv r1;exact⟨p,_,rfl,.inr h1,rfl,Bi js,by rw[Bh];exact q.now ok (.bl _)⟩
theorem Bj:gA X (compareOp .In) (gIn false):=⟨⟨_,kW,λW H x y dx dy Q ok rx ry hg=>vv ok rx ry hg⟩,gIn.mono⟩
def Zpt:List D->(D->Prop)->Prop:=λds Q=>∃x p,ds=[x]/\g9 x=some p/\p.showable=true/\p.hasDict=false/\p.depth<=32/\p.shown.length<=sizeLine/\Q (.str p.shown)
theorem Zpt.mono:∀ds P P',(∀d,P d->P' d)->Zpt ds P->Zpt ds P':=λds P P' hp ⟨x,p,h1,h2,h3,h4,h5,h6,h7⟩=>⟨x,p,h1,h2,h3,h4,h5,h6,hp _ h7⟩
end
abbrev ZiB:List Str:=["thing"]
def D2:WS:=(aK (fo (wB gIs (aC (wN 0) (aC (wC (.ty "int")) aA))) (jf (wB gIs (aC (wN 0) (aC (wC (.ty "bool")) aA))))))
abbrev ZhY:List Str:=["thing", "least", "most"]
def D3:WS:=(aK (fo (wF su (aC (wN 0) aA)) (Zb jn jn (wN 1) (wN 0) (wN 2))))
abbrev Zgs:List Str:=["thing", "least", "most"]
def D4:WS:=(aK (fo (wB gIs (aC (wN 0) (aC (wC (.ty "tuple")) aA))) (wB iK (aC (wL (aLC (iS (wN 0)) 1 [1,2] (gN 0) cV (wF A8 (aC (wN 0) (aC (wN 1) (aC (wN 2) aA)))))) aA))))
abbrev Zeg:List Str:=["one", "other"]
def D5:WS:=(aG (bB (vd (wT (w2 (gEq true) (wN 1) (wC (D.int (0))))) (dL 0 1 (aC (wN 1) (aC (w2 qH (wN 0) (wN 1)) aA))))) (aK (wB iJ (aC (wN 0) aA))))
abbrev ZiC:List Str:=["thing", "top", "bottom"]
def D6:WS:=(aG (cE (dC (aW (wT (wB gIs (aC (wN 0) (aC (wC (.ty "tuple")) aA))))) (wT (w2 (gEq true) (wB bL (aC (wN 0) aA)) (wC (D.int (2)))))) (aK (wC (D.bl false))) cF) (aG (dQ (wN 0) (dF 2 (cI (gN 1) (cI (gN 2) dE)))) (aG (cE (dC (aW (wT (wF su (aC (wN 1) aA)))) (aW (wT (wF su (aC (wN 2) aA))))) (aK (wC (D.bl false))) cF) (aK (fo (w2 jo (wN 2) (wC (D.int (0)))) (w2 (gEq false) (wF vm (aC (wN 1) (aC (wN 2) aA))) (wC (D.int (1)))))))))
abbrev ZeQ:List Str:=["thing", "least", "most"]
def D7:WS:=(aG (cE (dC (aW (wT (wB gIs (aC (wN 0) (aC (wC (.ty "tuple")) aA))))) (aW (wT (Zb jn jn (wN 1) (wB bL (aC (wN 0) aA)) (wN 2))))) (aK (wC (D.bl false))) cF) (aK (wB iK (aC (wL (aLC (iS (wN 0)) 1 [] (gN 0) cV (wF tP (aC (wN 0) aA)))) aA))))
abbrev ZlP:List Str:=["thing", "many"]
def D8:WS:=(aK (wF yg (aC (wN 0) (aC (wN 1) (aC (wN 1) aA)))))
abbrev Ziy:List Str:=["top", "bottom", "divisor"]
def D9:WS:=(aG (jC (wT (w2 (gEq true) (wN 1) (wC (D.int (0)))))) (aG (aQ 2 (wF vm (aC (wN 0) (aC (wN 1) aA)))) (aG (cE (wT (w2 si (wN 1) (wC (D.int (0))))) (aQ 2 (w1 jp (wN 2))) cF) (aK (aX (aC (w2 gD (wN 0) (wN 2)) (aC (w2 gD (wN 1) (wN 2)) aA)))))))
abbrev ZoN:List Str:=["one", "other"]
def Ea:WS:=(aK (wF sx (aC (w2 gAdd (w2 gMul (w2 gIx (wN 0) (wC (D.int (0)))) (w2 gIx (wN 1) (wC (D.int (1))))) (w2 gMul (w2 gIx (wN 1) (wC (D.int (0)))) (w2 gIx (wN 0) (wC (D.int (1)))))) (aC (w2 gMul (w2 gIx (wN 0) (wC (D.int (1)))) (w2 gIx (wN 1) (wC (D.int (1))))) aA))))
abbrev ZnB:List Str:=["one", "other"]
def Eb:WS:=(aK (wF sx (aC (w2 gMul (w2 gIx (wN 0) (wC (D.int (0)))) (w2 gIx (wN 1) (wC (D.int (0))))) (aC (w2 gMul (w2 gIx (wN 0) (wC (D.int (1)))) (w2 gIx (wN 1) (wC (D.int (1))))) aA))))
abbrev ZlM:List Str:=["numbers"]
def Ed:WS:=(aK (wB ky (aC (wL (aLC (iS (wN 0)) 1 [] (gN 0) cV (aX (aC (wN 0) (aC (wC (D.int (1))) aA))))) aA)))
abbrev ZdA:List Str:=["one", "other", "total", "left", "right"]
def Ee:WS:=(aG (aQ 2 (wC (D.tup [(D.int (0)),(D.int (1))]))) (aG (bB (bD (iZ (aC (wN 0) (aC (wN 1) aA))) (dF 2 (cI (gN 3) (cI (gN 4) dE))) (aQ 2 (wF yh (aC (wN 2) (aC (wF qJ (aC (wN 3) (aC (wN 4) aA))) aA)))))) (aK (wN 2))))
abbrev Zkd:List Str:=["slants"]
def Ef:WS:=(aK (w2 gD (w2 gAdd (wB bL (aC (wN 0) aA)) (wC (D.int (1)))) (wC (D.int (2)))))
abbrev ZfN:List Str:=["thing"]
def Eg:WS:=(aG (cE (dC (aW (wT (wF yf (aC (wN 0) (aC (wC (.int (-50))) (aC (wC (.int (50))) aA)))))) (wT (w2 (gEq false) (w2 qH (wB bL (aC (wN 0) aA)) (wC (D.int (2)))) (wC (D.int (0)))))) (aK (wC (D.bl false))) cF) (aK (w2 jn (wF oh (aC (wN 0) aA)) (wC (.int (5))))))
abbrev ZfO:List Str:=["thing"]
def Ei:WS:=(cE (aW (wT (wF yi (aC (wN 0) aA)))) (iN (PySem.Str.ofString "NoSlants")) cF)
abbrev Zix:List Str:=["slants", "size"]
def Ej:WS:=(aG (gO (wF qK (aC (wN 0) aA))) (aG (aQ 1 (wF oh (aC (wN 0) aA))) (aK (wL (aLC (fO (aC (wN 1) aA)) 1 [0,1] (gN 0) cV (wL (aB (gC (α:=Unit)) (aC (cD (wN 1) (dU (w2 jm (w2 jm (wN 2) (wC (D.int (1)))) (wN 0))) (dU (w2 jm (w2 jm (w2 gMul (wC (D.int (2))) (wN 2)) (wC (D.int (1)))) (wN 0)))) aA))))))))
abbrev ZeP:List Str:=["slants"]
def Ek:WS:=(aG (gO (wF qK (aC (wN 0) aA))) (aK (w1 gRev (wN 0))))
abbrev ZiA:List Str:=["slants", "thing"]
def El:WS:=(aG (gO (wF qK (aC (wN 0) aA))) (aK (wF tQ (aC (wN 1) (aC (wF oh (aC (wN 0) aA)) aA)))))
abbrev Zgo:List Str:=["slants"]
def Zg:WS:=(aK (wL (aLC (iS (wF ym (aC (wN 0) aA))) 1 [] (gN 0) cV (wF vn (aC (wN 0) aA)))))
abbrev ZhW:List Str:=["slants", "row"]
def Em:WS:=(aG (cE (aW (wT (wF sB (aC (wN 0) (aC (wN 1) aA))))) (iN (PySem.Str.ofString "NoRow")) cF) (aK (wB ky (aC (wL (aLC (iS (wF tS (aC (wN 0) aA))) 1 [1] (gN 0) cV (wF vo (aC (wN 0) (aC (wN 1) aA))))) aA))))
local macro_rules | `(tactic| walk_at "wp")=>`(tactic| simp only[aK,aG,cE,aQ,cF,gO,bM,bX,bD,jC,dL,dQ,dj,il,d6,kC,bB,iN,fo,e8,jf,e7,dC,aW,wT,kx,w1,w2,wB,wF,wL,aX,cD,Zb,aB,bN,aC,aA,aLC,ZbQ,cV,iS,iL,iT,fO,i5,iZ,i1,i2,isS,isL,isT,isB,isI,eG,dU,wN,wC,gN,dF,cI,dE,gI2,gAdd,gMul,gIx,dG,gCut,gRev,bL,gC,ky,iJ,jW,fW,kz,et,dM,fg,dm,c7,ei,fh,aCut,ef,pub,cR,gL,dS,i7,ia,dI,List.replicate,eK,fk,List.set_cons_zero,List.set_cons_succ,Nat.reduceSub,Nat.reduceAdd,gT,j8,true_and,dO,if_true,if_false,ite_true,ite_false])
local macro_rules | `(tactic| walk_at "go")=>`(tactic| ((try dsimp only at *);(try walk_at "wp");(try dsimp only)))
theorem li{x:D}{T:String}(h:kd x=true)(hT:T∈xW)(q:∀t,xT x=some t->Q (.bl (fX t T))):gIs [x,.ty T] Q:=by
 obtain⟨t,ht⟩:=vh h;exact⟨t,ht,hT,q t ht⟩
theorem En:Rd su D2 ZiB:=by
 rintro _ E Q ⟨x,rfl,hk,q⟩;unfold D2;walk_at "wp";refine li hk (by decide) λt ht=>?_;cases x<;>cases ht<;>first
  |exact q
  |exact li hk (by decide) λt ht=>by cases ht;exact q
theorem Jv:Rd A8 D3 ZhY:=by
 rintro _ E Q ⟨⟨x,l,m⟩,rfl,hk,q⟩;unfold D3;walk_at "go";refine⟨x,rfl,hk,?_⟩;cases x<;>try exact q
 rename_i i;simp only[oO,isB,if_true,gI2,true_and]
 by_cases h:l<=i
 .simp only[h,decide_true,if_true]
  simpa[pY,h] using q
 .simp only[h,decide_false,if_false,dO]
  simpa[pY,h] using q
theorem Jw:Rd yf D4 Zgs:=by
 rintro _ E Q ⟨⟨x,l,m⟩,rfl,hk,q⟩;unfold D4;walk_at "go";refine li hk (by decide) λt ht=>?_;cases x<;>cases ht<;>try exact q
 rename_i xs;obtain⟨hl,hx⟩:=oN hk;show lcW _ _ _ xs _ _ _;refine sj (f:=λd=>.bl (pY l m d)) (λd hd Q hq=>?_) .un [] (by simp[aM];omega) ?_
 .walk_at "go"
  exact⟨(d,l,m),rfl,hx d hd,hq⟩
 .refine⟨xs.map (pY l m),by simp,?_⟩
  simpa[ug,Function.comp_def,lh] using q
theorem Eo(a b:Int):Int.gcd b (a.fmod b)=Int.gcd a b:=by
 have e:a.fmod b=a-b*a.fdiv b:=by have:=Int.mul_fdiv_add_fmod a b;omega
 rw[e,Int.gcd_sub_mul_left_right,Int.gcd_comm]
theorem Ep(a:Int){b:Int}(h:b≠0):(a.fmod b).natAbs<b.natAbs:=by
 have key:∀a b:Int,0<b->0<=a.fmod b/\a.fmod b<b:=λa b z=>by
  rw[C8 _ (xk z)];exact⟨Int.emod_nonneg _ (by omega),Int.emod_lt_of_pos _ z⟩
 rcases Int.lt_or_lt_of_ne h with z|z
 .have h1:=key (-a) (-b) (by omega)
  rw[Int.neg_fmod_neg] at h1;omega
 .have h1:=key a b z
  omega
theorem Jx:Rd vm D5 Zeg:=by
 rintro _ E Q ⟨⟨a,b⟩,rfl,_,q⟩;unfold D5;walk_at "go";refine⟨λm ρ=>∃x y:Int,m=y.natAbs/\ρ=[.d (.int x),.d (.int y)]/\Int.gcd x y=Int.gcd a b,⟨_,a,b,rfl,rfl,rfl⟩,?_⟩;rintro m _ ⟨x,y,rfl,rfl,hg⟩;walk_at "go"
 by_cases hy:y=0
 .subst hy
  simp only[NF,eT,dO,if_false];rw[Int.gcd_zero_right] at hg;rw[<-hg] at q;have:(if x<0 then -x else x)=((x.natAbs:Nat):Int):=by split<;>omega
  rw[this];exact q
 .rw[if_pos (by simpa using hy)]
  exact⟨hy,_,Ep x hy,_,_,rfl,rfl,by rw[Eo];exact hg⟩
theorem Er(h:xs.length≠2):cN (.tup xs)=false:=by
 unfold cN;split
 .rename_i e
  cases e;exact Nq rfl h
 .rfl
theorem Es{a b:D}(h:oO a=false):cN (.tup [a,b])=false:=by
 unfold cN;split
 .rename_i e
  cases e;cases h
 .rfl
theorem Et{a b:D}(h:oO b=false):cN (.tup [a,b])=false:=by
 unfold cN;split
 .rename_i e
  cases e;cases h
 .rfl
theorem yw{a:D}(h:oO a=true):∃i,a=.int i:=by
 cases a<;>first
  |exact⟨_,rfl⟩
  |cases h
theorem Jy:Rd tP D6 ZiC:=by
 rintro _ E Q ⟨x,rfl,hk,q⟩;unfold D6;walk_at "go";refine li hk (by decide) λt ht=>?_;cases x<;>cases ht<;>try exact q
 rename_i xs;obtain⟨hl,hx⟩:=oN hk;walk_at "go";simp only[show fX "tuple" "tuple" = true from rfl,eT,dO,if_false]
 by_cases h2:xs.length=2
 .match xs,h2,hx,q with
  |[a,b],_,hx,q=>
  rw[if_neg (by simp)];walk_at "go";refine⟨a,rfl,hx a (by simp),?_⟩;walk_at "go";cases ha:oO a with
  |false=>rw[Es ha] at q;exact q
  |true=>
   obtain⟨i,rfl⟩:=yw ha;simp only[eT,dO,if_false];refine⟨b,rfl,hx b (by simp),?_⟩;walk_at "go";cases hb:oO b with
   |false=>rw[Et hb] at q;exact q
   |true=>
    obtain⟨j,rfl⟩:=yw hb;simp only[eT,dO,if_false];walk_at "go"
    by_cases h:0<j
    .simp only[show j>0 from h,decide_true,if_true]
     refine⟨(i,j),rfl,trivial,?_⟩;walk_at "go";have:cN (.tup [.int i,.int j])=(((Int.gcd i j:Nat):Int)==1):=by
      simp only[cN,h,decide_true,uh];rw[o7];simp;omega
     rw[this] at q;simpa using q
    .have h':¬j>0:=h
     simp only[h',decide_false,if_false,dO];simpa[cN,h] using q
 .rw[Er h2] at q
  rw[if_pos (by simpa using λz=>h2 (by exact_mod_cast z))];exact q
theorem Jz:Rd yg D7 ZeQ:=by
 rintro _ E Q ⟨⟨x,l,m⟩,rfl,hk,q⟩;unfold D7;walk_at "go";refine li hk (by decide) λt ht=>?_;cases x<;>cases ht<;>try exact q
 rename_i xs;obtain⟨hl,hx⟩:=oN hk;walk_at "go";simp only[show fX "tuple" "tuple" = true from rfl,eT,dO,if_false];simp only[vj] at q;cases h1:decide (l<=(xs.length:Int)) with
 |false=>rw[h1] at q;simpa using q
 |true=>
  cases h2:decide ((xs.length:Int)<=m) with
  |false=>rw[h1,h2] at q;simpa using q
  |true=>
   simp only[if_true,eT,dO,if_false];walk_at "go";refine sj (f:=λd=>.bl (cN d)) (λd hd Q hq=>?_) .un [] (by simp[aM];omega) ?_
   .walk_at "go"
    exact⟨d,rfl,hx d hd,hq⟩
   .refine⟨xs.map cN,by simp,?_⟩
    rw[h1,h2] at q;simpa[ug,Function.comp_def] using q
theorem JA(n:Int)(x:D):vj n n x=fZ n x:=by
 cases x<;>try rfl
 rename_i xs;simp only[vj,fZ];congr 1;rw[o7];simp;omega
theorem JB:Rd tQ D8 ZlP:=by
 rintro _ E Q ⟨⟨x,n⟩,rfl,hk,q⟩;unfold D8;walk_at "go";refine Jj hk ?_;rw[JA];exact q
theorem Bd.le{i j:Int}(h:i.natAbs<=j.natAbs)(b:Bd j):Bd i:=oF h b
theorem JC:Rd sx D9 Ziy:=by
 rintro _ E Q ⟨⟨t,b⟩,rfl,⟨hb,hd⟩,q⟩;unfold D9;walk_at "go";refine⟨by simpa using hb,(t,b),rfl,trivial,?_⟩;walk_at "go";have hg:0<Int.gcd t b:=z6 _ hb;have hle:Int.gcd t b<=b.natAbs:=Nat.le_of_dvd (by omega) (Int.gcd_dvd_natAbs_right ..);obtain⟨e1,e2⟩:=DK (t:=t) hb;unfold aR at q;rw[<-e1,<-e2] at q
 by_cases h:b<0
 .simp only[h,decide_true,if_true] at q ⊢
  refine⟨⟨by omega,Bd.le (by omega) hd⟩,⟨by omega,Bd.le (by omega) hd⟩,by simp[aM],q⟩
 .simp only[h,decide_false,if_false,dO] at q ⊢
  refine⟨⟨by omega,Bd.le (by omega) hd⟩,⟨by omega,Bd.le (by omega) hd⟩,by simp[aM],q⟩
theorem oQ(h:Q (.int q.num)):gIx (aR q) (.int 0) Q:=⟨_,rfl,h⟩
theorem fi(h:Q (.int q.den)):gIx (aR q) (.int 1) Q:=⟨_,rfl,h⟩
theorem JD:Rd yh Ea ZoN:=by
 rintro _ E Q ⟨⟨p,q⟩,rfl,hb,h⟩;obtain⟨b1,b2,b3,b4,b5,b6,b7,b8⟩:=hb.mul;unfold Ea;simp only[aK,wF,aC,w2,wN,wC,ef,cR,ia,eK,fk];refine oQ (fi ⟨b1,oQ (fi ⟨b2,fi (fi ⟨b3,?_⟩)⟩)⟩);refine⟨(_,_),rfl,⟨b6,b5⟩,?_⟩;dsimp only at h ⊢;have e:Rat.divInt (p.num*q.den+q.num*p.den) ((p.den:Int)*q.den)=p+q:=by
  rw[Rat.add_def',<-z7];rfl
 rw[e];exact h
theorem JE:Rd qJ Eb ZnB:=by
 rintro _ E Q ⟨⟨p,q⟩,rfl,hb,h⟩;obtain⟨b1,b2,b3,b4,b5,b6,b7,b8⟩:=hb.mul;unfold Eb;simp only[aK,wF,aC,w2,wN,wC,ef,cR,ia,eK,fk];refine oQ (oQ ⟨b4,fi (fi ⟨b3,?_⟩)⟩);refine⟨(_,_),rfl,⟨b6,b5⟩,?_⟩;dsimp only at h ⊢;have e:Rat.divInt (p.num*q.num) ((p.den:Int)*q.den)=p*q:=by
  rw[Rat.mul_def',<-z7];rfl
 rw[e];exact h
theorem JF{b:Bool}{Q:List D->Prop}(h:Q xs):isS Q (gE b xs):=by cases b<;>exact h
theorem yx(i:Int):aR (i:Rat)=.tup [.int i,.int 1]:=by unfold aR;rw[xh,xj];rfl
theorem JG:Rd vn Ed ZlM:=by
 rintro _ E Q ⟨⟨b,xs⟩,rfl,hl,q⟩;dsimp only at hl q;unfold Ed;simp only[aK,wB,aC,aA,wL,aLC,iS,wN,ef,ZbQ,List.replicate,cR,gL,ia,dI,eK];refine JF (sj (f:=λd=>.tup [d,.int 1]) (λd hd Q hq=>?_) .un [] (by simp[aM];omega) ?_)
 .walk_at "go"
  exact⟨by simp[aM],hq⟩
 .have e:(xs.map D.int).map (λd=>D.tup [d,.int 1])=(xs.map λ(i:Int)=>(i:Rat)).map aR:=by
   rw[List.map_map,List.map_map];exact h9 λi _=>(yx i).symm
  rw[dI,e];exact q
theorem Eu{n m:Nat}:∀(p q:List Rat) {k:Nat},(∀x∈p,Sz n x)->(∀x∈q,Sz m x)->p.length<=k->Sz (k*(n+m+1)+1) (bV p q)
 |[],_,k,_,_,_=>by rw[bV];exact Sz.zero (by omega)
 |_::_,[],k,_,_,_=>by rw[bV];exact Sz.zero (by omega)
 |x::p,y::q,0,_,_,h=>by simp at h
 |x::p,y::q,k+1,h1,h2,hk=>by
  rw[bV];have a:=(h1 x (by simp)).mul (h2 y (by simp));have b:=Eu p q (k:=k) (λz hz=>h1 z (by simp[hz])) (λz hz=>h2 z (by simp[hz])) (by simpa using hk);refine(a.add b).mono ?_;rw[m6];omega
theorem JH:Rd vo Ee ZdA:=by
 rintro _ E Q ⟨⟨⟨b1,b2⟩,p,q⟩,rfl,⟨n,m,hp,hq,hb⟩,h⟩;dsimp only at hp hq hb h;unfold Ee;simp only[aG,aQ,wC,ef,cR,gL,dS,i7,ia,dI,List.replicate,List.set_cons_succ,List.set_cons_zero,bB,bD,iZ,aC,aA,wN,eK,fk,Nat.reduceSub,Nat.reduceAdd];have key:∀(p' q':List Rat) (s:Rat) (sv sv':SV) (j:Nat),(∀x∈p',Sz n x)->(∀x∈q',Sz m x)->Sz (j*(n+m+1)+1) s->j+p'.length<=p.length->s+bV p' q'=bV p q->
   Zbm (dF 2 (cI (gN 3) (cI (gN 4) dE))) (aQ 2 (wF yh (aC (wN 2) (aC (wF qJ (aC (wN 3) (aC (wN 4) aA))) aA)))) No { nx:=aK (wN 2) E { nx:=λ_=>Q .non,rt:=Q },rt:=Q,bk:=λ_=>False,ct:=λ_=>False }
    (cW (p'.map aR) (q'.map aR)) [.d (gE b1 (p.map aR)),.d (gE b2 (q.map aR)),.d (aR s),sv,sv']:=by
  intro p'
  induction p' with
  |nil=>
   intro q' s sv sv' j _ _ _ _ he;rw[bV,j9] at he;simp only[cW,gL,List.zipWith_nil_left,Zbm];show Q (aR s);rw[he];exact h
  |cons x p' ih=>
   intro q' s sv sv' j h1 h2 h3 h4 he;cases q' with
   |nil=>
    rw[bV,j9] at he;simp only[cW,gL,List.zipWith_nil_right,Zbm];show Q (aR s);rw[he];exact h
   |cons y q'=>
    have hx:=h1 x (by simp);have hy:=h2 y (by simp);rw[dS] at h4;have hj:j*(n+m+1)<=p.length*(n+m+1):=lG _ (by omega);have hj':(j+1)*(n+m+1)<=p.length*(n+m+1):=lG _ (by omega);rw[m6] at hj';simp only[cW,cR,z8,Zbm];refine⟨rfl,?_⟩;simp only[cI,dE,gN,aQ,wF,aC,aA,wN,eK,fk,List.set_cons_succ,List.set_cons_zero];refine⟨(x,y),rfl,B2.of hx hy (by omega),?_⟩;refine⟨(s,x*y),rfl,B2.of h3 (hx.mul hy) (by omega),?_⟩;refine ih q' (s+x*y) _ _ (j+1) (λz hz=>h1 z (by simp[hz])) (λz hz=>h2 z (by simp[hz])) ?_ (by omega) ?_
    .refine(h3.add (hx.mul hy)).mono ?_
     rw[m6];omega
    .rw[bV] at he
     rw[Rat.add_assoc];exact he
 have e0:D.tup [D.int 0,D.int 1]=aR 0:=rfl;rw[e0];have k:=key p q 0 .un .un 0 hp hq (Sz.zero (by omega)) (by omega) (Rat.zero_add _);cases b1<;>cases b2<;>exact k
theorem jX{α:Type}{we:WE}{tail:cP}{Q:List D->Prop}{g f:α->D}:∀(L:List α),(∀a∈L,∀Q:D->Prop,Q (f a)->we No (.d (g a)::tail) Q)->∀(sv:SV) (acc:List D),acc.length+L.length<=aM->Q (acc++L.map f)->lcW (gN 0) cV we (L.map g) (sv::tail) acc Q
 |[],_,sv,acc,_,hq=>by simpa[lcW] using hq
 |a::L,h,sv,acc,hl,hq=>by
  rw[cR,lcW];show we No (SV.d (g a)::tail) _;rw[dS] at hl;refine h a (ju ..) _ ⟨by omega,jX L (λd hd=>h d (gR _ hd)) _ _ ?_ ?_⟩
  .rw[dX,j6];omega
  .rw[mZ];exact hq
theorem Ev{α:Type}{xs:List α}{i:Int}{x:α}(hi:i=k)(h:xs[k]? = some x):eX xs i=some x:=by rw[hi];exact bY h
theorem JI{α:Type}{xs:List α}(h:a<=b)(hb:b<=xs.length):bZ xs (some (a:Int)) (some (b:Int))=(xs.drop a).take (b-a):=by
 unfold bZ;rw[HT.sIx_nat,HT.sIx_nat,ui hb,ui (fQ h hb)]
theorem vw{α:Type}{xs:List α}{i j:Int}(hi:i=a)(hj:j=b)(h:a<=b)(hb:b<=xs.length):bZ xs (some i) (some j)=(xs.drop a).take (b-a):=by
 rw[hi,hj];exact JI h hb
theorem yy{α:Type}{xs:List α}(h:a<=xs.length):bZ xs (some (a:Int)) none=xs.drop a:=by
 unfold bZ;rw[HT.sIx_nat,HT.sIx_none,ui h,<-jv,List.take_length]
theorem oj{α:Type}{xs:List α}{i:Int}(hi:i=b):bZ xs none (some i)=xs.take b:=by
 unfold bZ;rw[hi,HT.sIx_nat,HT.sIx_none,tz,Nat.sub_zero];rcases Nat.le_total b xs.length with h|h
 .rw[ui h]
 .rw[Nat.min_eq_right h,List.take_length,List.take_of_length_le h]
theorem jY{i:Int}(h:i.natAbs<2^n)(l:n<=8990):Bd i:=de h (j7 (by decide) l)
theorem JJ:Rd oh Ef Zkd:=by
 rintro _ E Q ⟨x,rfl,hl,q⟩;unfold Ef;walk_at "go";refine⟨⟨by decide,jY (n:=2) (by decide) (by omega)⟩,?_⟩;rw[xu _ (by decide)];exact q
theorem Zi:Rd yi Eg ZfN:=by
 rintro _ E Q ⟨x,rfl,hk,q⟩;unfold Eg;walk_at "go";refine Jh hk ?_;walk_at "go";cases ha:lh (-50) 50 x with
 |false=>
  have:gh x=false:=by
   cases x<;>try rfl
   simp only[lh] at ha;simp only[gh,ha,Bool.false_and]
  rw[this] at q;simpa using q
 |true=>
  cases x<;>try (cases ha;done)
  rename_i xs;obtain⟨hl,hx⟩:=oN hk;walk_at "go";simp only[eT,dO,if_false];refine⟨by decide,?_⟩;simp only[lh] at ha;simp only[gh,ha,uh] at q;rw[C8 _ (by decide)]
  by_cases h:xs.length%2=1
  .rw[if_neg (by simp;omega)]
   walk_at "go";refine A9 hl ?_;walk_at "go";rw[Nr h,uh] at q;have e:decide (((xs.length:Int)+1)/2<=5)=decide (xs.length<=9):=by
    rw[decide_eq_decide];omega
   rw[e];exact q
  .rw[if_pos (by simp;omega)]
   rw[Nw h,Bool.false_and] at q;exact q
theorem JK:Rd qK Ei ZfO:=by
 rintro _ E Q ⟨x,rfl,h,q⟩;unfold Ei;walk_at "go";refine Jk h ?_;walk_at "go";unfold hJ at q;cases e:gh x with
 |false=>rw[e] at q;exact q
 |true=>rw[e] at q;exact q
theorem Bl{x:D}{E:Ex->Prop}(h:kd x=true)(hb:gh x=false->E "NoSlants")(hg:∀s n,x=aO s->IsSl s n->Q .non):qK [x] E Q:=by
 cases e:gh x with
 |false=>exact Jn h e (hb e)
 |true=>
  obtain⟨s,n,rfl,hs⟩:=qL e;exact Jm hs (hg s n rfl hs)
theorem oR{x:D}{v:Except Str D}{E:Ex->Prop}(e:gh x=false)(q:exQ E Q (hJ x v)):E "NoSlants" :=by
 rw[pZ e] at q;exact q
theorem oS{v:Except Str D}{E:Ex->Prop}(h:IsSl s n)(q:exQ E Q (hJ (aO s) v)):exQ E Q v:=by
 rw[im h] at q;exact q
theorem JL(h:i<n):(tbl s n)[i]? = some ((s.drop (n-1-i)).take n):=by
 unfold tbl;rw[cK,jG h];rfl
theorem JM:Rd ym Ej Zix:=by
 rintro _ E Q ⟨x,rfl,hk,q⟩;unfold Ej;walk_at "go";refine Bl hk (λe=>oR e q) λs n e h=>?_;subst e;replace q:Q (bO s n):=by have:=oS h q;rw[gF,h.sN] at this;exact this
 refine vt h ?_;walk_at "go";have h5:=h.n5;have hl:=h.len;refine⟨by omega,by omega,?_⟩;rw[iU];refine sj (f:=λd=>match d with|.int i=>bT ((s.drop (n-1-i.toNat)).take n)|_=>.non) (λd hd Q hq=>?_) .un [] (by simp[rng,aM];omega) ?_
 .obtain⟨i,hi,rfl⟩:=YbQ.mp hd
  rw[Yah] at hi;walk_at "go";refine⟨⟨jY (n:=2) (by decide) (by omega),jY (n:=10) (by omega) (by omega)⟩,?_⟩;have e:bZ (s.map D.int) (some ((n:Int)-1-(0+(i:Int)))) (some (2*(n:Int)-1-(0+(i:Int))))=((s.drop (n-1-i)).take n).map D.int:=by
   rw[vw (a:=n-1-i) (b:=2*n-1-i) (by omega) (by omega) (by omega) (by rw[bC];omega),show 2*n-1-i-(n-1-i)=n by omega,<-tF,<-kK]
  show Q (D.lst (bZ (s.map D.int) _ _));rw[e];have e2:(0+(i:Int)).toNat=i:=by omega
  rw[e2] at hq;exact hq
 .have e:(rng 0 n).map (λd=>match d with|.int i=>bT ((s.drop (n-1-i.toNat)).take n)|_=>.non)=(tbl s n).map bT:=by
   unfold rng tbl;rw[List.map_map,List.map_map];refine h9 λi _=>?_;simp
  rw[dI,e];exact q
theorem jD(s:List Int)(n:Nat):(tbl s n).length=n:=by simp[tbl]
theorem lj(h:IsSl s n):∀r∈tbl s n,r.length=n/\∀x∈r,-50<=x/\x<=50:=by
 intro r hr;unfold tbl at hr;obtain⟨i,hi,rfl⟩:=YbQ.mp hr;rw[Yah] at hi;have hl:=h.len;refine⟨by rw[gS,jv];omega,λx hx=>h.b x (qV (m7 hx))⟩
theorem JN:Rd yo Ek ZeP:=by
 rintro _ E Q ⟨x,rfl,hk,q⟩;unfold Ek;walk_at "go";refine Bl hk (λe=>oR e q) λs n e h=>?_;subst e;replace q:Q (aO s.reverse):=by have:=oS h q;rw[gF] at this;exact this
 unfold aO;walk_at "go";rw[<-qj];exact q
theorem JO:Rd sB El ZiA:=by
 rintro _ E Q ⟨⟨x,y⟩,rfl,⟨hk,hk2⟩,q⟩;dsimp only at hk hk2 q;unfold El;walk_at "go";refine Bl hk (λe=>oR e q) λs n e h=>?_;subst e;replace q:=oS h q;rw[h.sN] at q;exact vt h (DO hk2 q)
theorem JP:Rd tS Zg Zgo:=by
 rintro _ E Q ⟨⟨s,n⟩,rfl,h,q⟩;have h5:=h.n5;unfold Zg;walk_at "go";refine Jo h ?_;unfold bO;walk_at "go";refine sj (f:=λd=>match d with|.lst xs=>.tup (xs.map λx=>.tup [x,.int 1])|_=>.non) (λd hd Q hq=>?_) .un [] (by simp[jD,aM];omega) ?_
 .obtain⟨r,hr,rfl⟩:=YbQ.mp hd
  walk_at "go";have:=(lj h r hr).1;refine DR (by omega) ?_;have e:aE (cX r)=.tup ((r.map D.int).map λx=>.tup [x,.int 1]):=by
   unfold aE cX;rw[List.map_map,List.map_map];exact congrArg D.tup (h9 λi _=>yx i)
  rw[e];exact hq
 .have e:((tbl s n).map bT).map (λd=>match d with|.lst xs=>.tup (xs.map λx=>.tup [x,.int 1])|_=>.non)=(tbl s n).map λr=>aE (cX r):=by
   rw[List.map_map];refine h9 λr _=>?_;unfold aE cX;simp only[Function.comp_apply,bT];rw[List.map_map,List.map_map];exact congrArg D.tup (h9 λi _=>(yx i).symm)
  rw[dI,e];exact q
theorem yz{x:Int}(h:-50<=x/\x<=50):Sz 6 (x:Rat):=Sz.int x (by omega) (by omega)
theorem JQ:Rd vp Em ZhW:=by
 rintro _ E Q ⟨⟨x,y⟩,rfl,⟨hk,hk2,hbs⟩,q⟩;dsimp only at hk hk2 hbs q;unfold Em;walk_at "go";cases e:gh x with
 |false=>exact Jq hk hk2 e (oR e q)
 |true=>
 obtain⟨s,n,rfl,h⟩:=qL e;have h5:=h.n5;refine Ba h hk2 ?_;replace q:=oS h q;rw[h.sN,gF] at q;walk_at "go";cases er:fZ n y with
 |false=>rw[er] at q;exact q
 |true=>
 rw[er] at q;obtain⟨r,rfl,hl'⟩:=yq er;have hl:r.length=n:=by omega
 have q:Q (aE (bK s n (rQ (aE r)))):=q;rw[p6] at q;obtain⟨m,hm,hb⟩:=hbs r rfl;simp only[eT,dO,if_false];refine DW h ?_;walk_at "go";have key:∀line∈tbl s n,BR (cX line) r:=λline hline=>by
  obtain⟨h1,h2⟩:=lj h line hline;refine⟨6,m,λx hx=>?_,hm,?_⟩
  .obtain⟨i,hi,rfl⟩:=YbQ.mp hx
   exact yz (h2 i hi)
  .have:(cX line).length=n:=by unfold cX;rw[bC];exact h1
   rw[this];have:n*(6+m+1)<=5*(6+m+1):=lG _ h5;omega
 refine jX (g:=λline=>aE (cX line)) (f:=λline=>aR (bV (cX line) r)) (tbl s n) (λline hl' Q hq=>?_) .un [] (by simp[jD,aM];omega) ?_
 .walk_at "go"
  exact DS (key line hl') hq
 .have e:(tbl s n).map (λline=>aR (bV (cX line) r))=(bK s n r).map aR:=by
   unfold bK;rw[List.map_map];rfl
  rw[dI,e];exact q
def yA:bF:=fnS (λx:List Int×Nat=>[.scr (x.1.map .int),.int x.2]) (λ_=>True) λx=>.int (x.1.getD x.2 0)
def vz:bF:=rlS (λx:Int=>[.int x]) (λ_=>True) λ_ d=>∃j:Int,d=.int j
def yB:bF:=fnS (λx:Int=>[.int x]) (λ_=>True) λ_=>.pen
def ol:bF:=rlS (λm:Nat=>[.pen,.int m]) (λm=>0<m/\m<2^30) λm d=>∃k:Nat,d=.int k/\k<m
def tV:bF:=sx
def Ew:bF:=rlS (λ_:Unit=>[.pen]) (λ_=>True) λ_ d=>∃s n,IsSl s n/\d=aO s
section
variable{E:Ex->Prop}{x:D}{l m a b:Int}{p:Rat}
theorem JR{xs:List Int}(q:Q (.int (xs.getD i 0))):yA [.scr (xs.map .int),.int i] E Q:=⟨(xs,i),rfl,trivial,q⟩
theorem Ey(q:∀j:Int,Q (.int j)):vz [.int a] E Q:=⟨a,rfl,trivial,λd ⟨j,hd⟩=>by rw[hd];exact q j⟩
theorem JS(q:Q .pen):yB [.int a] E Q:=⟨a,rfl,trivial,q⟩
theorem qN(h:0<n)(h':n<2^30)(q:∀k:Nat,k<n->Q (.int k)):ol [.pen,.int n] E Q:=⟨n,rfl,⟨h,h'⟩,λd ⟨k,hd,hk⟩=>by rw[hd];exact q k hk⟩
theorem Bm(h:b≠0)(h':Bd b)(q:Q (aR (Rat.divInt a b))):tV [.int a,.int b] E Q:=⟨(a,b),rfl,⟨h,h'⟩,q⟩
theorem JT(q:∀s n,IsSl s n->Q (aO s)):Ew [.pen] E Q:=⟨(),rfl,trivial,λd ⟨s,n,h,hd⟩=>by rw[hd];exact q s n h⟩
end
abbrev Ze9:List Str:=["_law_script", "_law_k"]
def Ez:WS:=(aG (cE (wT (w2 si (wN 1) (wB bL (aC (wN 0) aA)))) (aK (w2 gIx (wN 0) (wN 1))) cF) (aK (wC (D.int (0)))))
abbrev Zh0:List Str:=["_law_seed"]
def EA:WS:=(aG (aQ 0 (w2 qH (w2 gAdd (wN 0) (wC (D.int (7919)))) (wC (D.int (2147483647))))) (aK (w2 qH (w2 gAdd (w2 gAdd (w2 gMul (wN 0) (wN 0)) (w2 gMul (wC (D.int (48271))) (wN 0))) (wC (D.int (12345)))) (wC (D.int (2147483629))))))
abbrev ZfQ:List Str:=["_law_cell", "_law_left"]
def EB:WS:=(aG (aQ 1 (wB jW (aC (wN 0) (aC (w2 jm (wC (D.int (0))) (wN 0)) aA)))) (aK (et (bN (aC (wN 1) (aC (wB fW (aC (w2 A2 (wN 1) (w2 vf (wC (D.int (10))) (wC (D.int (18))))) aA)) (aC (w2 qH (wN 1) (wC (D.int (1000003)))) aA)))))))
abbrev Zh3:List Str:=["_law_pen", "_law_many", "_law_found"]
def EC:WS:=(aG (cE (wT (w2 (gEq false) (w2 dG (wN 0) (wC (D.int (1)))) (wC (D.int (1))))) (aG (aQ 2 (w2 qH (w2 dG (wN 0) (wC (D.int (0)))) (wN 1))) (aG (d6 0 (w2 gD (w2 dG (wN 0) (wC (D.int (0)))) (wN 1))) (aK (wN 2)))) cF) (aG (d6 0 (wF vz (aC (w2 gAdd (wF vz (aC (w2 dG (wN 0) (wC (D.int (2)))) aA)) (wC (D.int (7)))) aA))) (aK (w2 qH (w2 gD (w2 dG (wN 0) (wC (D.int (2)))) (wC (D.int (64)))) (wN 1)))))
theorem JU:Rd yA Ez Ze9:=by
 rintro _ E Q ⟨⟨xs,i⟩,rfl,_,q⟩;unfold Ez;walk_at "go"
 by_cases h:i<xs.length
 .rw[if_pos (by simp[h])]
  refine⟨.int (xs.getD i 0),Ev rfl ?_,q⟩;rw[cK,aY,bW h];rfl
 .rw[if_neg (by simp;omega)]
  rw[aY,eP (by omega)] at q;exact q
theorem JV:Rd vz EA Zh0:=by
 rintro _ E Q ⟨x,rfl,_,q⟩;unfold EA;walk_at "go";have h1:=z9 (x+7919) (show(0:Int)<2147483647 by decide);have h2:=Int.fmod_lt_of_pos (x+7919) (show(0:Int)<2147483647 by decide);have b:Bd ((x+7919).fmod 2147483647):=jY (n:=32) (by omega) (by omega);exact⟨by decide,⟨b,b⟩,⟨jY (n:=32) (by decide) (by omega),b⟩,by decide,q _ ⟨_,rfl⟩⟩
theorem JW:Rd yB EB ZfQ:=by
 rintro _ E Q ⟨x,rfl,_,q⟩;unfold EB;walk_at "go";exact⟨⟨by decide,by decide,by decide⟩,by decide,by decide,⟨_,_,_,rfl⟩,q⟩
theorem JX:Rd ol EC Zh3:=by
 rintro _ E Q ⟨m,rfl,⟨h0,h1⟩,q⟩;have hb:Bd (m:Int):=jY (n:=30) (by omega) (by omega);have fin:∀x:Int,Q (.int (x.fmod m)):=λx=>by
  have h1:=z9 x (show(0:Int)<m by omega);have h2:=Int.fmod_lt_of_pos x (show(0:Int)<m by omega);exact q _ ⟨(x.fmod m).toNat,by rw[zY h1],by omega⟩
 unfold EC;walk_at "go";refine⟨by simp,λj=>?_⟩;walk_at "go";split
 .refine⟨by simp,λi=>⟨by omega,?_⟩⟩
  walk_at "go";exact⟨by simp,λi'=>⟨⟨by omega,hb⟩,fin i⟩⟩
 .refine⟨by simp,λk=>Ey λk1=>?_⟩
  walk_at "go";refine Ey λk2=>?_;walk_at "go";exact⟨by simp,λk3=>⟨⟨by decide,jY (n:=7) (by decide) (by omega)⟩,by omega,fin _⟩⟩
theorem ED(x:Int):(if x<0 then -x else x)=((x.natAbs:Nat):Int):=by split<;>omega
theorem tW{t b:Int}(hb:b≠0)(h1:t.natAbs<2^n)(h2:b.natAbs<2^n):Sz n (Rat.divInt t b):=by
 unfold Sz;rw[Rat.num_divInt,Rat.den_divInt,if_neg hb];have hg:Int.gcd b t≠0:=by
  have:=Int.gcd_pos_of_ne_zero_left t hb;omega
 refine⟨oF (DI hg ?_) ?_,oF (Nat.div_le_self _ _) h2⟩
 .exact Int.dvd_mul_of_dvd_right (Int.gcd_dvd_right ..)
 .rw[d9,Int.natAbs_sign_of_ne_zero hb,Nat.one_mul];exact h1
local macro_rules | `(tactic| walk_at "w1")=>`(tactic| simp only[aK,cE,aQ,cF,gO,bM,bX,bD,jC,dL,dQ,dj,il,d6,kC,bB,iN,fo,e8,jf,e7,dC,aW,wT,kx,w1,w2,wB,wF,wL,aX,cD,Zb,aB,bN,aC,aA,aLC,ZbQ,cV,iS,iL,iT,fO,i5,iZ,i1,i2,isS,isL,isT,isB,isI,eG,dU,wN,wC,gN,dF,cI,dE,gI2,gAdd,gMul,gIx,dG,gCut,gRev,bL,gC,ky,iJ,jW,fW,kz,et,dM,fg,dm,c7,ei,fh,aCut,ef,pub,cR,gL,dS,i7,ia,dI,List.replicate,eK,fk,List.set_cons_zero,List.set_cons_succ,Nat.reduceSub,Nat.reduceAdd,gT,j8,true_and,dO,if_true,if_false,ite_true,ite_false])
local macro_rules | `(tactic| walk_at "st")=>`(tactic| ((try dsimp only at *);(try walk_at "w1");(try dsimp only)))
theorem cO{z:WS}{E:Ex->Prop}(h:z E { N with nx:=z' E N } ρ):aG z z' E N ρ:=h
theorem sF{z:WS}{E:Ex->Prop}(I:cP->Prop)(hz:∀nx:cP->Prop,(∀ρ,I ρ->nx ρ)->z E { N with nx:=nx } ρ)(hr:∀ρ,I ρ->z' E N ρ):aG z z' E N ρ:=hz _ hr
theorem gi{c:WT}{E:Ex->Prop}{b:Bool}(hc:∀Q:Bool->Prop,Q b->c E ρ Q)(h1:b=true->zb E N ρ)(h2:b=false->N.nx ρ):cE c zb cF E N ρ:=by
 refine hc _ ?_;cases b with
 |true=>rw[if_pos rfl];exact h1 rfl
 |false=>rw[if_neg (by decide)];exact h2 rfl
theorem Bn(xs:List Int):pW (xs.map D.int)=true:=by
 induction xs with
 |nil=>rfl
 |cons x xs ih=>rw[cR,pW,ih];rfl
theorem EE(h:∀y∈ys,∃i:Int,y=.int i/\-50<=i/\i<=50):∃s:List Int,ys=s.map D.int/\∀x∈s,-50<=x/\x<=50:=by
 induction ys with
 |nil=>exact⟨[],rfl,by simp⟩
 |cons y ys ih=>
  obtain⟨s,rfl,hs⟩:=ih λz hz=>h z (by simp[hz]);obtain⟨i,rfl,h1,h2⟩:=h y (by simp);exact ⟨i::s,rfl,λx hx=>by
   rcases Yan.mp hx with rfl|hx
   .exact⟨h1,h2⟩
   .exact hs x hx⟩
abbrev LX:List Str:=["NoSlants", "NoRow", "NoNumber", "NoLine", "NotEven", "NotFull"]
abbrev MX:List Str:=["NoSlants", "NoRow", "NoNumber", "NoLine", "NotEven", "NotFull", "NotStrong", "NoText", "TooGreat"]
def om(n:Str):Str:=if n == "NoSlants" then "slants" else if n == "NoRow" then "row" else if n == "NoNumber" then "number" else if n == "NoLine" then "line" else if n == "NotEven" then "even" else "full"
mutual
def eu(m:Nat):D->Bool
 |.int i=>decide (i.natAbs<2^m)
 |.tup xs=>dR m xs
 |.lst xs=>dR m xs
 |_=>true
def dR(m:Nat):List D->Bool
 |[]=>true
 |x::r=>eu m x&&dR m r
end
theorem vA{m:Nat}:∀{xs:List D},dR m xs=true↔∀x∈xs,eu m x=true
 |[]=>by simp[dR]
 |x::r=>by rw[dR,c6,vA];simp
theorem ZiN:eu m (aR q)=true↔Sz m q:=by
 unfold aR Sz;rw[eu,dR,dR,dR,eu,eu];simp
theorem Zc3:eu m (aE r)=true↔∀x∈r,Sz m x:=by
 unfold aE;rw[eu,vA];constructor
 .intro h x hx
  exact ZiN.mp (h _ (m8 hx))
 .intro h x hx
  obtain⟨q,hq,rfl⟩:=YbQ.mp hx;exact ZiN.mpr (h q hq)
def vB:bF:=su
def yC:bF:=fnS (λn:Str=>[.exc n]) (λn=>n∈LX) λn=>.str (om n)
section
variable{E:Ex->Prop}{x:D}
theorem EF(h:kd x=true)(q:Q (.bl (oO x))):vB [x] E Q:=⟨x,rfl,h,q⟩
theorem JY{n:Str}(h:n∈LX)(q:Q (.str (om n))):yC [.exc n] E Q:=⟨n,rfl,h,q⟩
end
abbrev Zgw:List Str:=["_law_found"]
def JZ:WS:=(aK (fo (wB gIs (aC (wN 0) (aC (wC (.ty "int")) aA))) (jf (wB gIs (aC (wN 0) (aC (wC (.ty "bool")) aA))))))
abbrev Zdo:List Str:=["_law_e", "_law_marks"]
def Bo:WS:=(aG (aQ 1 (wL (bN (aC (wB (gIsX LX MX) (aC (wN 0) (aC (wC (.cls (PySem.Str.ofString "NoSlants"))) aA))) (aC (wB (gIsX LX MX) (aC (wN 0) (aC (wC (.cls (PySem.Str.ofString "NoRow"))) aA))) (aC (wB (gIsX LX MX) (aC (wN 0) (aC (wC (.cls (PySem.Str.ofString "NoNumber"))) aA))) (aC (wB (gIsX LX MX) (aC (wN 0) (aC (wC (.cls (PySem.Str.ofString "NoLine"))) aA))) aA))))))) (aG (aQ 1 (w2 gAdd (wN 1) (wL (bN (aC (wB (gIsX LX MX) (aC (wN 0) (aC (wC (.cls (PySem.Str.ofString "NotEven"))) aA))) (aC (wB (gIsX LX MX) (aC (wN 0) (aC (wC (.cls (PySem.Str.ofString "NotFull"))) aA))) (aC (wB (gIsX LX MX) (aC (wN 0) (aC (wC (.cls (PySem.Str.ofString "NotStrong"))) aA))) aA))))))) (aG (aQ 1 (w2 gAdd (wN 1) (wL (bN (aC (wB (gIsX LX MX) (aC (wN 0) (aC (wC (.cls (PySem.Str.ofString "NoText"))) aA))) (aC (wB (gIsX LX MX) (aC (wN 0) (aC (wC (.cls (PySem.Str.ofString "TooGreat"))) aA))) aA)))))) (aG (cE (dC (aW (wT (wB (gIsX LX MX) (aC (wN 0) (aC (wC (.ty "ValueError")) aA))))) (wT (w2 (gEq true) (wM Be (wN 1) (aC (wC (D.bl true)) aA)) (wC (D.int (1)))))) (aK (wC (D.str (PySem.Str.ofString "other")))) cF) (aK (w2 gIx (wL (bN (aC (wC (D.str (PySem.Str.ofString "slants"))) (aC (wC (D.str (PySem.Str.ofString "row"))) (aC (wC (D.str (PySem.Str.ofString "number"))) (aC (wC (D.str (PySem.Str.ofString "line"))) (aC (wC (D.str (PySem.Str.ofString "even"))) (aC (wC (D.str (PySem.Str.ofString "full"))) (aC (wC (D.str (PySem.Str.ofString "strong"))) (aC (wC (D.str (PySem.Str.ofString "text"))) (aC (wC (D.str (PySem.Str.ofString "great"))) aA))))))))))) (wM Bf (wN 1) (aC (wC (D.bl true)) aA))))))))
def sm:Nat->(Nat->Rat)->Rat
 |0,_=>0
 |n+1,f=>f 0+sm n λi=>f (i+1)
theorem yD:∀{n:Nat} {f g:Nat->Rat},(∀i,i<n->f i=g i)->sm n f=sm n g
 |0,_,_,_=>rfl
 |n+1,f,g,h=>by rw[sm,sm,h 0 (by omega),yD λi hi=>h (i+1) (by omega)]
theorem EG:∀(n:Nat) (f g:Nat->Rat),sm n (λi=>f i+g i)=sm n f+sm n g
 |0,_,_=>by rw[sm,sm,sm,j9]
 |n+1,f,g=>by rw[sm,sm,sm,EG n (λi=>f (i+1)) λi=>g (i+1)];grind
theorem Bp:∀(n:Nat) (c:Rat) (f:Nat->Rat),c*sm n f=sm n λi=>c*f i
 |0,c,_=>by rw[sm,sm,fL]
 |n+1,c,f=>by rw[sm,sm,<-Bp n c λi=>f (i+1)];grind
theorem EH:∀{n:Nat} {f:Nat->Rat},(∀i,i<n->f i=0)->sm n f=0
 |0,_,_=>rfl
 |n+1,f,h=>by rw[sm,h 0 (by omega),EH λi hi=>h (i+1) (by omega),j9]
theorem EI(m:Nat):∀(n:Nat) (f:Nat->Nat->Rat),(sm n λi=>sm m λj=>f i j)=sm m λj=>sm n λi=>f i j
 |0,f=>by rw[sm];exact(EH λ_ _=>rfl).symm
 |n+1,f=>by
  rw[sm,EI m n λi j=>f (i+1) j,<-EG];rfl
theorem yE:∀(n:Nat) (f g:Nat->Rat),bV ((List.range n).map f) ((List.range n).map g)=sm n λi=>f i*g i
 |0,_,_=>rfl
 |n+1,f,g=>by
  rw[List.range_succ_eq_map,cR,cR,List.map_map,List.map_map,bV,sm,<-yE n (λi=>f (i+1)) λi=>g (i+1)];rfl
theorem Bq{α:Type}(r:List α)(d:α):r=(List.range r.length).map λi=>r.getD i d:=by
 refine tx λi=>?_;rcases gp i r.length with h|h
 .rw[cK,jG h,o6,aY,bW h];rfl
 .rw[eP h,eP (by simpa using h)]
theorem EJ{α:Type}{f g:Nat->α}(h:∀i,i<n->f i=g i):(List.range n).map f=(List.range n).map g:=
 h9 λi hi=>h i (Yah.mp hi)
def ent(s:List Int)(n i j:Nat):Int:=s.getD (n-1-i+j) 0
theorem Bt(h:IsSl s n):tbl s n=(List.range n).map λi=>(List.range n).map λj=>ent s n i j:=by
 unfold tbl;refine EJ λi hi=>tx λj=>?_;have hl:=h.len;rcases gp j n with hj|hj
 .rw[zS hj,List.getElem?_drop,cK,jG hj,bW (by omega)]
  unfold ent;rw[o6,aY,bW (by omega)];rfl
 .rw[eP (by rw[gS];omega),eP (by simpa using hj)]
theorem IsSl.rev(h:IsSl s n):IsSl s.reverse n:=⟨by rw[xc];exact h.len,h.n1,h.n5,λx hx=>h.b x (Yco.mp hx)⟩
theorem J0(h:IsSl s n)(hi:i<n)(hj:j<n):ent s.reverse n i j=ent s n j i:=by
 have hl:=h.len;unfold ent;rw[aY,aY,zX (by omega)];congr 2;omega
theorem EK(h:IsSl s n)(hr:r.length=n):bK s n r=(List.range n).map λi=>sm n λj=>(ent s n i j:Rat)*r.getD j 0:=by
 unfold bK;rw[Bt h,List.map_map];refine EJ λi hi=>?_;show bV (cX ((List.range n).map λj=>ent s n i j)) r=_;unfold cX;rw[List.map_map]
 conv=>lhs;rw[Bq r 0,hr]
 exact yE n _ _
theorem EL{o:List Rat}(h:IsSl s n)(hr:r.length=n)(ho:o.length=n):bV o (bK s n r)=bV r (bK s.reverse n o):=by
 rw[EK h hr,EK h.rev ho]
 conv=>lhs;rw[Bq o 0,ho]
 conv=>rhs;rw[Bq r 0,hr]
 rw[yE,yE];have e1:(sm n λi=>o.getD i 0*sm n λj=>(ent s n i j:Rat)*r.getD j 0)=sm n λi=>sm n λj=>o.getD i 0*((ent s n i j:Rat)*r.getD j 0):=yD λi _=>Bp _ _ _;rw[e1,EI];refine yD λj hj=>?_;rw[Bp];refine yD λi hi=>?_;rw[J0 h hj hi];grind
def bP(n p:Nat):List Rat:=(List.range n).map λj=>if j=p then 1 else 0
theorem Bu{g:WG}{zb:WS}{E:Ex->Prop}{N:Nds}(I:cP->Prop):∀(ds:List D),(∀d∈ds,∀ρ,I ρ->∀nx:cP->Prop,(∀ρ,I ρ->nx ρ)->g d ρ λρ1=>zb E { nx:=nx,rt:=N.rt,bk:=N.nx,ct:=nx } ρ1)->(∀ρ,I ρ->N.nx ρ)->∀ρ,I ρ->Zbm g zb E N ds ρ
 |[],_,hn,ρ,i=>hn ρ i
 |d::ds,h,hn,ρ,i=>h d (ju ..) ρ i _ (Bu I ds (λd hd=>h d (gR _ hd)) hn)
theorem sG{g:WG}{zb:WS}{E:Ex->Prop}{N:Nds}(I:List D->cP->Prop)(h:∀d ds ρ,I (d::ds) ρ->∀nx:cP->Prop,(∀ρ,I ds ρ->nx ρ)->g d ρ λρ1=>zb E { nx:=nx,rt:=N.rt,bk:=N.nx,ct:=nx } ρ1)(hn:∀ρ,I [] ρ->N.nx ρ):∀(ds:List D) ρ,I ds ρ->Zbm g zb E N ds ρ
 |[],ρ,i=>hn ρ i
 |d::ds,ρ,i=>h d ds ρ i _ (sG I h hn ds)
theorem p7(n:Nat):rng 0 n=(List.range n).map λ(k:Nat)=>D.int (k:Int):=by
 unfold rng;exact h9 λk _=>by rw[Int.zero_add]
section
variable{QI:Int->Prop}{QB:Bool->Prop}{i j:Int}{b:Bool}{o o':Option Int}
theorem lK:isB QB (.bl b)=QB b:=rfl
theorem lL:isI QI (.int i)=QI i:=rfl
theorem lM:isL QL (.lst xs)=QL xs:=rfl
theorem lN:isL QL (bT s)=QL (s.map .int):=rfl
theorem lO:isL QL (bO s n)=QL ((tbl s n).map bT):=rfl
theorem lP:isT QL (.tup xs)=QL xs:=rfl
theorem lQ:isS QL (.lst xs)=QL xs:=rfl
theorem lR:isS QL (.tup xs)=QL xs:=rfl
theorem lS:isS QL (aE r)=QL (r.map aR):=rfl
theorem Ze:isS QL (aO s)=QL (s.map .int):=rfl
theorem lT:isS QL (bT s)=QL (s.map .int):=rfl
theorem lU:isS QL (bO s n)=QL ((tbl s n).map bT):=rfl
theorem lV:bL [.tup xs] Q=Q (.int xs.length):=rfl
theorem lW:bL [.lst xs] Q=Q (.int xs.length):=rfl
theorem lX:bL [.scr xs] Q=Q (.int xs.length):=rfl
theorem lY:bL [aE r] Q=Q (.int r.length):=by show Q (.int ((r.map aR).length:Int))=_;rw[bC]
theorem lZ:bL [aO s] Q=Q (.int s.length):=by show Q (.int ((s.map D.int).length:Int))=_;rw[bC]
theorem l3:bL [bT s] Q=Q (.int s.length):=by show Q (.int ((s.map D.int).length:Int))=_;rw[bC]
theorem l4:bL [bO s n] Q=Q (.int n):=by show Q (.int (((tbl s n).map bT).length:Int))=_;rw[bC,jD]
theorem l6:gIx (.tup xs) (.int i) Q = ∃d,eX xs i=some d/\Q d:=rfl
theorem l7:gIx (.lst xs) (.int i) Q = ∃d,eX xs i=some d/\Q d:=rfl
theorem l8:gIx (.scr xs) (.int i) Q = ∃d,eX xs i=some d/\Q d:=rfl
theorem md:gIx (aE r) (.int i) Q = ∃d,eX (r.map aR) i=some d/\Q d:=rfl
theorem me:gIx (aO s) (.int i) Q = ∃d,eX (s.map .int) i=some d/\Q d:=rfl
theorem mf:gIx (bT s) (.int i) Q = ∃d,eX (s.map .int) i=some d/\Q d:=rfl
theorem mh:gIx (bO s n) (.int i) Q = ∃d,eX ((tbl s n).map bT) i=some d/\Q d:=rfl
theorem mi:gCut (.tup xs) o o' Q=Q (.tup (bZ xs o o')):=rfl
theorem mj:gCut (.lst xs) o o' Q=Q (.lst (bZ xs o o')):=rfl
theorem ml:gCut (.scr xs) o o' Q=Q (.lst (bZ xs o o')):=rfl
theorem mn:gCut (aE r) o o' Q=Q (.tup (bZ (r.map aR) o o')):=rfl
theorem mo:gCut (aO s) o o' Q=Q (.tup (bZ (s.map .int) o o')):=rfl
theorem mq:gCut (bT s) o o' Q=Q (.lst (bZ (s.map .int) o o')):=rfl
theorem ms:gCut (bO s n) o o' Q=Q (.lst (bZ ((tbl s n).map bT) o o')):=rfl
theorem mx:gRev (.tup xs) Q=Q (.tup xs.reverse):=rfl
theorem my:gRev (.lst xs) Q=Q (.lst xs.reverse):=rfl
theorem mz:gRev (aE r) Q=Q (aE r.reverse):=by show Q (.tup (r.map aR).reverse)=_;rw[<-qj];rfl
theorem mB:gRev (aO s) Q=Q (aO s.reverse):=by show Q (.tup (s.map D.int).reverse)=_;rw[<-qj];rfl
theorem mC:gRev (bT s) Q=Q (bT s.reverse):=by show Q (.lst (s.map D.int).reverse)=_;rw[<-qj];rfl
theorem mD{α:Type}:gC (α:=α) [.tup xs] QL=QL xs:=rfl
theorem mE{α:Type}:gC (α:=α) [.lst xs] QL=QL xs:=rfl
theorem mF{α:Type}:gC (α:=α) [aO s] QL=QL (s.map .int):=rfl
theorem mG:ky [.tup xs] Q=Q (.tup xs):=rfl
theorem mH:ky [.lst xs] Q=Q (.tup xs):=rfl
theorem mI:ky [bT s] Q=Q (aO s):=rfl
theorem mJ:gAdd (.int i) (.int j) Q=Q (.int (i+j)):=rfl
theorem mK:gAdd (.lst xs) (.lst ys) Q=(xs.length+ys.length<=aM/\Q (.lst (xs++ys))):=rfl
theorem mL:gAdd (.tup xs) (.tup ys) Q=(xs.length+ys.length<=aM/\Q (.tup (xs++ys))):=rfl
theorem mM:gMul (.int i) (.int j) Q=(qD i j/\Q (.int (i*j))):=rfl
theorem mO:gMul (.lst xs) (.int j) Q=(j<1000/\-1000<j/\xs.length*j.toNat<=aM/\Q (.lst (List.replicate j.toNat xs).flatten)):=rfl
theorem fG{C:Int->Int->Prop}{kd:Int->Int->D}:gI2 C kd (.int i) (.int j) Q=(C i j/\Q (kd i j)):=rfl
theorem mP:iJ [.int i] Q=Q (.int (if i<0 then -i else i)):=rfl
theorem mQ:jW [.int i,.int j] Q=Q (.int (if j>i then j else i)):=rfl
theorem mR:fW [.bl b] Q=Q (.int (if b then 1 else 0)):=rfl
theorem mS:fW [.int i] Q=Q (.int i):=rfl
theorem mT:iK [.lst xs] Q = ∃bs:List Bool,xs=bs.map D.bl/\Q (.bl (bs.all id)):=rfl
theorem f6:i1 QL [.int j]=(-10000<=j/\j<10000/\QL (rng 0 j.toNat)):=rfl
theorem f7:i2 QL [.int i,.int j]=((-10000<=i/\i<10000/\-10000<=j/\j<10000)/\QL (rng i (j-i).toNat)):=rfl
end
local macro_rules | `(tactic| walk_at "w1")=>`(tactic| simp only [aK,cE,aQ,cF,gO,bM,bX,bD,jC,dL,dQ,dj,il,d6,kC,bB,iN,eO,wM,Zdk,fo,e8,jf,e7,dC,aW,wT,kx,w1,w2,wB,wF,wL,aX,cD,Zb,aB,bN,aC,aA,aLC,ZbQ,cV,iS,iL,iT,fO,i5,iZ,eG,dU,wN,wC,gN,dF,cI,dE,dG,kz,et,dM,fg,dm,c7,ei,fh,aCut,ef,pub,cR,gL,dS,i7,ia,dI,List.replicate,eK,fk,List.set_cons_zero,List.set_cons_succ,Nat.reduceSub,Nat.reduceAdd,gT,j8,true_and,dO,if_true,if_false,ite_true,ite_false,iU,eT,lH,
 lK,lL,lM,lN,lO,lP,lQ,lR,lS,Ze,lT,lU,lV,lW,lX,lY,lZ,l3,l4,l6,l7,l8,md,me,mf,mh,mi,mj,ml,mn,mo,mq,ms,mx,my,mz,mB,mC,mD,mE,mF,mG,mH,mI,mJ,mK,mL,mM,mO,fG,mP,mQ,mR,mS,mT,f6,f7])
local macro_rules | `(tactic| walk_at "nx")=>`(tactic| ((try dsimp only);(refine cO ?_);walk_at "st"))
theorem J1:Rd vB JZ Zgw:=En
theorem vC:∀n∈LX,nX n=n:=by decide +kernel
theorem p8{n m:Str}(h:n∈LX)(hm:m∈MX)(q:Q (.bl (n==m))):gIsX LX MX [.exc n,.cls m] Q:=⟨h,hm,by rw[vC n h];exact q⟩
theorem J2:∀ds E Q,yC ds E Q->Bo No { nx:=λ_=>Q .non,rt:=Q } (ef Zdo ds):=by
 rintro _ E Q ⟨n,rfl,hn,q⟩;unfold Bo;walk_at "nx";refine p8 hn (by simp) (p8 hn (by simp) (p8 hn (by simp) (p8 hn (by simp) ⟨by decide,?_⟩)));walk_at "nx";refine p8 hn (by simp) (p8 hn (by simp) (p8 hn (by simp) ⟨by decide,?_⟩));walk_at "st";refine⟨by decide,?_⟩;walk_at "nx";refine p8 hn (by simp) (p8 hn (by simp) ⟨by decide,?_⟩);walk_at "st";refine⟨by decide,?_⟩;have key:(MX.map (n == ·)).countP (· == true)=1/\∃j:Nat,(MX.map (n == ·))[j]? = some true/\(∀i<j,(MX.map (n == ·))[i]?≠some true)/\[D.str "slants",.str "row",.str "number",.str "line",.str "even",.str "full",.str "strong",.str "text",.str "great"][j]? = some (.str (om n)):=by
  simp only[LX,Yan,gu,or_false] at hn;rcases hn with rfl|rfl|rfl|rfl|rfl|rfl
  .exact⟨by decide +kernel,0,by decide +kernel,by decide +kernel,rfl⟩
  .exact⟨by decide +kernel,1,by decide +kernel,by decide +kernel,rfl⟩
  .exact⟨by decide +kernel,2,by decide +kernel,by decide +kernel,rfl⟩
  .exact⟨by decide +kernel,3,by decide +kernel,by decide +kernel,rfl⟩
  .exact⟨by decide +kernel,4,by decide +kernel,by decide +kernel,rfl⟩
  .exact⟨by decide +kernel,5,by decide +kernel,by decide +kernel,rfl⟩
 obtain⟨k1,j,k2,k3,k4⟩:=key;walk_at "nx";refine⟨hn,rfl,?_⟩;walk_at "st";refine⟨⟨_,rfl⟩,⟨MX.map (n == ·),true,rfl,rfl,?_⟩⟩;rw[k1];walk_at "st";refine⟨by decide,⟨_,rfl⟩,MX.map (n == ·),true,j,rfl,rfl,k2,k3,?_⟩;exact⟨_,bY k4,q⟩
theorem J3(a b c d:Int):fE (.tup [.int a,.int b]) (.tup [.int c,.int d])=(a==c&&b==d):=by
 simp[fE,pd,fP,PyData.eqv,PyData.eqvAll]
theorem J4(h:xs.length+ys.length<=aM)(q:Q (.tup (xs++ys))):gAdd (.tup xs) (.tup ys) Q:=⟨h,q⟩
theorem hU(h:n<=5000):n<=aM:=by unfold aM;omega
def gd(d:D):Prop:=kd d=true/\eu 72 d=true
theorem Zk{g:WG}{E:Ex->Prop}(I:Nat->cP->Prop)(n:Nat)(h:∀k,k<n->∀ρ,I k ρ->∀nx:cP->Prop,(∀ρ,I (k+1) ρ->nx ρ)->g (.int k) ρ λρ1=>zb E { nx:=nx,rt:=N.rt,bk:=N.nx,ct:=nx } ρ1)(hn:∀ρ,I n ρ->N.nx ρ)(ρ:cP)(h0:I 0 ρ):Zbm g zb E N (rng 0 n) ρ:=by
 refine sG (λds ρ=>∃k,k<=n/\ds=(rng 0 n).drop k/\I k ρ) ?_ ?_ _ ρ ⟨0,i6 _,by rw[tz],h0⟩
 .rintro d ds ρ ⟨k,hk,e,i⟩ nx hnx
  have hlen:(rng 0 n).length=n:=by unfold rng;simp
  have hkn:k<n:=by
   rcases gp k n with z|z
   .exact z
   .rw[List.drop_eq_nil_of_le (by omega)] at e;cases e
  rw[tB (by omega)] at e;injection e with e1 e2
  have e3:(rng 0 n)[k]'(by omega)=.int k:=by unfold rng;simp
  rw[e1,e3];exact h k hkn ρ i nx λρ' i'=>hnx ρ' ⟨k+1,hkn,e2,i'⟩
 .rintro ρ ⟨k,hk,e,i⟩
  have hlen:(rng 0 n).length=n:=by unfold rng;simp
  have hkn:k=n:=by
   rcases gp k n with z|z
   .rw[tB (by omega)] at e;cases e
   .omega
  subst hkn;exact hn ρ i
theorem Ka:bootBuiltins "ValueError" = some (.type "ValueError"):=by decide +kernel
theorem clsX_of{D:Addr}(g:PySem.W.findIn K (.ref D) "__getattribute__" = some (some (.builtin "BaseException.__getattribute__")))(gn:PySem.W.findIn K (.ref D) "__getattr__" = some none)(be:PySem.W.mroIn K D (.type "BaseException")=some true)(h:PySem.W.hasDictIn K D=true)(a:PySem.W.findIn K (.ref D) "__class__" = some (some (.builtin "object.__class__")))(gt:PySem.W.specialIn K (.builtin "object.__class__") "__get__" = some (some (.builtin "getset_descriptor.__get__")))(tk:PySem.W.takesIn K (.builtin "object.__class__")=some true)(ob:PySem.W.mroIn K D (.type "object")=some true):gZ K D:=
 ⟨g,gn,be,by obtain⟨cd,hc,_⟩:=PySem.W.any_some h;rw[hc];rfl,a,gt,tk,ob⟩
section
def gNeS:G2:=λx y Q=>∃a b,x=.str a/\y=.str b/\Q (.bl (!(a==b)))
theorem gNeS.mono:∀x y P P',(∀d,P d->P' d)->gNeS x y P->gNeS x y P':=λx y P P' hp ⟨a,b,h1,h2,h3⟩=>⟨a,b,h1,h2,hp _ h3⟩
end
section
variable{pos:Pos}{g:WG}
def EM:WE:=λ_ _ _=>False
theorem Kb:PX X EX e EM:=⟨⟨λ_ _ _=>False,λ_ _ _ _ _ _ h=>h.elim,λ_ _ _ _ _ _ _ _ _ _ h=>h.elim⟩,λ_ _ _ _ _ h=>h⟩
theorem Kc{t:WA}{T:TE}(k:∀W0 H0 W σ H ρ E Q,SOk X.K W0 H0 W σ H ρ->jz X.K W0 H0 E EX->t E ρ (λds=>∀a vs W' H',Ext W H W' H'->H' a=some (.lst vs)->W'.G a=none->¬W'.Pn a->H a=none->Reps X.K W' vs ds->Q (.ref a) H')->T σ H Q)
  (m:∀E ρ P P',(∀d,P d->P' d)->t E ρ P->t E ρ P') (i:Nat):∀W0 H0 W σ H ρ E Q,SOk X.K W0 H0 W σ H ρ->jz X.K W0 H0 E EX->dm i t E ρ (λds=>∀a vs W' H',Ext W H W' H'->H' a=some (.lst vs)->W'.G a=none->¬W'.Pn a->H a=none->Reps X.K W' vs ds->Q (.ref a) H')->T σ H Q:=by
 intro W0 H0 W σ H ρ E Q s eo h;unfold dm at h;rcases s.lend i with ep|⟨a,us,s',e3,e2,e6⟩
 .rw[ep] at h
  exact k W0 H0 W σ H ρ E Q s eo (m _ _ _ _ (λd hd=>hd.2) h)
 .refine k W0 H0 _ σ H _ E Q s' eo (m _ _ _ _ (λd hd b vs W2 H2 x2 h1 h2 h3 h4 r2=>?_) h)
  have hb:b≠a:=λz=>by rw[z,e2] at h4;cases h4
  exact hd.2 b vs _ H2 (x2.bor e3) h1 (by rw[Wd.rem_ne hb];exact h2) h3 h4 (r2.rem (x2.g _ _ e6) hd.1)
theorem EN(i j:Nat)(vars:List Str)(sel:List Nat)(hc:X.calm=true)(hN:X.N.Nodup)(hi:n6 X EX target iter wi)(hg:∀s H fp,pT (X.lc sc vars sel s H fp) target g)(hf:∀s H fp,tM (X.lc sc vars sel s H fp) E0 ifs wf)(he:∀s H fp,PX (X.lc sc vars sel s H fp) E0 elt we)
  (hix:X.N[i]? = some x:=by rfl) (hx:oJ X.env.scope x:=by first|exact Or.inl rfl|exact Or.inr rfl)
  (hsw:swapsWith (.ListComp elt [⟨target,iter,ifs,0⟩] sc pos) (some (.Name x pos')) spos.line X.env=pure true:=by rfl)
  (ok:lI sc X.env.scope=true:=by rfl) (so:rY X.N sc sel=true:=by rfl) (hs:∀x,foldedSetIterable iter X.env x=pure x:=by intro _;rfl) (hfn:X.fn x=true\/X.env.scope.names.lookup x=some .local:=by first|exact .inl rfl|exact .inr rfl|assumption) :
  PZ X EX (.Assign [.Name x pos'] (.ListComp elt [⟨target,iter,ifs,0⟩] sc pos) spos) (bX i (dm j (aLC wi vars.length sel g wf we))):=by
 obtain⟨ti,tg,tf,te,pi,pg,pf,pe,k⟩:=AY hi hg hf he;have am:=aLC.mono (vars:=vars) (sel:=sel) hi (hg {} (λ_=>none) []).mono (hf {} (λ_=>none) []).mono (he {} (λ_=>none) []).mono;refine⟨⟨_,Di vars sel hc hN hix hx pi ok so pg pf pe hsw hs hfn,λW0 H0 F W σ H ρ E Dn N s fl eo no h=>?_⟩,λE ρ N N' hl q=>am _ _ _ _ (λ_ hq=>⟨hq.1,hl.nx _ hq.2⟩) q⟩;refine Kc k am j W0 H0 W σ H ρ E _ s eo (am _ _ _ _ (λxs hd=>⟨hd.1,λa vs W1 H1 x1 e1 e2 e3 e4 r1=>no.nx W1 _ H1 _ (s.own x1 e4 e1 e2 e3 r1) (fl.ext x1) hd.2⟩) h)
def EO:D->Bool
 |.non=>true
 |.bl _=>true
 |_=>false
def Bv:D->D->Bool
 |.non,.non=>true
 |.bl a,.bl b=>a==b
 |_,_=>false
def gIsC(neg:Bool):G2:=λx y Q=>EO y=true/\Q (.bl (if neg then !Bv x y else Bv x y))
theorem gIsC.mono{neg:Bool}:∀x y P P',(∀d,P d->P' d)->gIsC neg x y P->gIsC neg x y P':=λ_ _ _ _ hp h=>⟨h.1,hp _ h.2⟩
theorem Kd{W:Wd}{x y:V}{v u:Value}{dx dy:D}(r1:Rep K W x dx)(r2:Rep K W y dy)(rx:RelV x v)(ry:RelV y u)(h:EO dy=true):plainIs v u=true/\(v==u)=Bv dx dy:=by
  cases r2<;>first
    |(cases h;done)
    | (cases ry;cases r1<;>first
        |(cases rx;first|exact⟨rfl,rfl⟩|(rename_i a b;cases a<;>cases b<;>exact⟨rfl,rfl⟩))
        |(obtain⟨t,rfl⟩:=rx;exact⟨rfl,rfl⟩))
theorem Bw:gA X (compareOp .IsNot) (gIsC true):=by
 refine⟨⟨λx y H Q=>∃W dx dy,WOk W H/\Rep X.K W x dx/\Rep X.K W y dy/\gIsC true dx dy (RQ X.K W H Q),?_,λW H x y dx dy Q ok rx ry hg=>⟨W,dx,dy,ok,rx,ry,hg⟩⟩,gIsC.mono⟩;rintro pins s σ H x y v u Q I rx ry ⟨W,dx,dy,ok,r1,r2,h1,h2⟩;obtain⟨p,e⟩:=Kd r1 r2 rx ry h1;exact wpAny_isNot_plain p (rM I (h2.now ok (.bl _)) (by rw[e];rfl))
end
mutual
def Bx:D->Option PyData
 |.non=>some .none
 |.bl b=>some (.bool b)
 |.int i=>some (.int i)
 |.str x=>some (.str x)
 |.tup xs=>(sH xs).map .tuple
 |.lst xs=>(sH xs).map .list
 |.dic=>some (.dict [])
 |_=>none
def sH:List D->Option (List PyData)
 |[]=>some []
 |x::r=>match Bx x,sH r with
  |some a,some b=>some (a::b)
  |_,_=>none
end
mutual
def lm:D->Bool
 |.lst _=>false
 |.tup xs=>oq xs
 |_=>true
def oq:List D->Bool
 |[]=>true
 |x::r=>lm x&&oq r
end
section
variable{s:Shared}{W:Wd}
def Zpu:List D->(D->Prop)->Prop:=λds Q=>∃x p,ds=[x]/\Bx x=some p/\p.showable=true/\(p.hasDict=true->lm x=true)/\p.depth<=32/\p.shown.length<=sizeLine/\Q (.str p.shown)
theorem Zpu.mono:∀ds P P',(∀d,P d->P' d)->Zpu ds P->Zpu ds P':=λds P P' hp ⟨x,p,h1,h2,h3,h4,h5,h6,h7⟩=>⟨x,p,h1,h2,h3,h4,h5,h6,hp _ h7⟩
end
mutual
def mU:D->Bool
 |.dic=>false
 |.tup xs=>lq xs
 |.lst xs=>lq xs
 |_=>true
def lq:List D->Bool
 |[]=>true
 |x::r=>mU x&&lq r
end
theorem yF:∀{xs:List D},oq xs=true↔∀x∈xs,lm x=true
 |[]=>by simp[oq]
 |x::r=>by rw[oq,c6,yF];simp
theorem yG:∀{xs:List D},lq xs=true↔∀x∈xs,mU x=true
 |[]=>by simp[lq]
 |x::r=>by rw[lq,c6,yG];simp
def dl(x:D):Bool:=lm x||mU x
theorem Ke(q:Rat):lm (aR q)=true:=rfl
theorem Kf(q:Rat):mU (aR q)=true:=rfl
theorem By(r:List Rat):lm (aE r)=true:=by
 unfold aE;rw[lm,yF];intro x hx;obtain⟨q,_,rfl⟩:=YbQ.mp hx;exact Ke q
theorem EQ(r:List Rat):mU (aE r)=true:=by
 unfold aE;rw[mU,yG];intro x hx;obtain⟨q,_,rfl⟩:=YbQ.mp hx;exact Kf q
def sJ(T:List (List Rat)):D:=.tup (T.map aE)
def vD:D->Bool
 |.tup xs=>decide (1<=xs.length)&&decide (xs.length<=5)&&xs.all (fZ xs.length)
 |_=>false
structure IsT(T:List (List Rat))(n:Nat):Prop where
 len:T.length=n
 row:∀r∈T,r.length=n
 n1:1<=n
 n5:n<=5
def SzT(m:Nat)(T:List (List Rat)):Prop:=∀r∈T,∀x∈r,Sz m x
section
variable{E:Ex->Prop}{x:D}
theorem IsT.tb{T:List (List Rat)}(h:IsT T n):vD (sJ T)=true:=by
 have h1:=h.n1;have h5:=h.n5;have hl:=h.len;unfold vD sJ;simp only[bC];rw[Nr (by omega),Nr (by omega)];simp only[uh,Ybf];intro x hx;obtain⟨r,hr,rfl⟩:=YbQ.mp hx;rw[hl,<-h.row r hr];exact sD r
theorem IsT.kd{T:List (List Rat)}{n:Nat}(h:IsT T n):kd (sJ T)=true:=by
 have h5:=h.n5;have hl:=h.len;refine vg (by simp;omega) λx hx=>?_;obtain⟨r,hr,rfl⟩:=YbQ.mp hx;exact ss (by have:=h.row r hr;omega)
end
namespace B
def yH:bF:=fnS (λn:Str=>[.exc n]) (λn=>n∈LX) λn=>.tup [.str (om n)]
def tX:bF:=vm
def tY:bF:=tP
def vE:bF:=tQ
def vF:bF:=Ew
def yI:bF:=fnS (λx:SL=>[aO x.1]) (λx=>IsSl x.1 x.2) λx=>bO x.1 x.2
def jZ:Except Str D->D
 |.ok v=>v
 |.error e=>.tup [.str (om e)]
section
variable{E:Ex->Prop}{x:D}{a b:Int}
theorem Kg{n:Str}(h:n∈LX)(q:Q (.tup [.str (om n)])):yH [.exc n] E Q:=⟨n,rfl,h,q⟩
theorem ER(q:Q (.int (Int.gcd a b))):tX [.int a,.int b] E Q:=⟨(a,b),rfl,trivial,q⟩
theorem ES(h:kd x=true)(q:Q (.bl (cN x))):tY [x] E Q:=⟨x,rfl,h,q⟩
theorem ET(h:kd x=true)(q:Q (.bl (fZ a x))):vE [x,.int a] E Q:=⟨(x,a),rfl,h,q⟩
theorem EU(q:∀s n,IsSl s n->Q (aO s)):vF [.pen] E Q:=JT q
theorem Kh(h:IsSl s n)(q:Q (bO s n)):yI [aO s] E Q:=⟨(s,n),rfl,h,q⟩
end
abbrev Zdn:List Str:=["_law_e", "_law_kind"]
def Bz:WS:=(aG (aQ 1 (wF yC (aC (wN 0) aA))) (aG (cE (wT (w2 (gEq false) (wN 1) (wC (D.str (PySem.Str.ofString "strong"))))) (aK (aX (aC (wN 1) (aC EM aA)))) cF) (aK (aX (aC (wN 1) aA)))))
abbrev ZiE:List Str:=["_law_one", "_law_other"]
def EV:WS:=(aG (aQ 0 (wB iJ (aC (wN 0) aA))) (aG (aQ 1 (wB iJ (aC (wN 1) aA))) (aG (bB (vd (wT (w2 (gEq true) (wN 1) (wC (D.int (0))))) (dL 0 1 (aC (wN 1) (aC (w2 qH (wN 0) (wN 1)) aA))))) (aK (wN 0)))))
abbrev Zgy:List Str:=["_law_top", "_law_bottom", "_law_both"]
def EW:WS:=(aG (aQ 2 (wF tX (aC (wN 0) (aC (wN 1) aA)))) (aG (cE (wT (w2 si (wN 1) (wC (D.int (0))))) (aQ 2 (w1 jp (wN 2))) cF) (aK (aX (aC (w2 gD (wN 0) (wN 2)) (aC (w2 gD (wN 1) (wN 2)) aA))))))
abbrev Zbo:List Str:=["_law_thing"]
def yJ:WS:=(aG (cE (dC (aW (wT (wB gIs (aC (wN 0) (aC (wC (.ty "tuple")) aA))))) (dC (wT (w2 (gEq true) (wB bL (aC (wN 0) aA)) (wC (D.int (2))))) (dC (aW (wT (wF vB (aC (w2 gIx (wN 0) (wC (D.int (0)))) aA)))) (aW (wT (wF vB (aC (w2 gIx (wN 0) (wC (D.int (1)))) aA))))))) (aK (wC (D.bl false))) cF) (aK (fo (w2 jo (w2 gIx (wN 0) (wC (D.int (1)))) (wC (D.int (0)))) (w2 (gEq false) (wF tX (aC (w2 gIx (wN 0) (wC (D.int (0)))) (aC (w2 gIx (wN 0) (wC (D.int (1)))) aA))) (wC (D.int (1)))))))
abbrev ZeS:List Str:=["_law_thing", "_law_size"]
def EY:WS:=(aK (fo (wB gIs (aC (wN 0) (aC (wC (.ty "tuple")) aA))) (fo (w2 (gEq false) (wB bL (aC (wN 0) aA)) (wN 1)) (wB iK (aC (wL (aLC (iS (wN 0)) 1 [] (gN 0) cV (wF tY (aC (wN 0) aA)))) aA)))))
abbrev Zeh:List Str:=["_law_pen", "_law_size", "_law_most", "_law_found", "_law_way", "_law_step"]
def EZ:WS:=(aG (aQ 1 (w2 gAdd (wC (D.int (1))) (wF ol (aC (wN 0) (aC (wC (D.int (5))) aA))))) (aG (aQ 2 (w2 gIx (wL (bN (aC (wC (D.int (1))) (aC (wC (D.int (2))) (aC (wC (D.int (3))) (aC (wC (D.int (9))) (aC (wC (D.int (50))) aA))))))) (wF ol (aC (wN 0) (aC (wC (D.int (5))) aA))))) (aG (bX 3 (aLC (fO (aC (w2 jm (w2 gMul (wC (D.int (2))) (wN 1)) (wC (D.int (1)))) aA)) 1 [0,2] (gN 0) cV (w2 jm (wF ol (aC (wN 1) (aC (w2 gAdd (w2 gMul (wC (D.int (2))) (wN 2)) (wC (D.int (1)))) aA))) (wN 2)))) (aG (aQ 4 (wF ol (aC (wN 0) (aC (wC (D.int (10))) aA)))) (aG (aQ 5 (w2 gAdd (wC (D.int (1))) (wF ol (aC (wN 0) (aC (wC (D.int (3))) aA))))) (aG (cE (wT (w2 (gEq false) (wN 4) (wC (D.int (0))))) (bX 3 (dm 3 (aCut (w2 gMul (cD (wN 3) eG (dU (wN 5))) (wC (D.int (9)))) eG (dU (wB bL (aC (wN 3) aA)))))) cF) (aG (cE (wT (w2 (gEq false) (wN 4) (wC (D.int (1))))) (il 3 (w2 jm (wN 1) (wC (D.int (1)))) (w2 gIx (wL (bN (aC (wC (D.int (50))) (aC (w1 jp (wC (D.int (50)))) (aC (wC (D.int (0))) aA))))) (wF ol (aC (wN 0) (aC (wC (D.int (3))) aA))))) cF) (aG (cE (wT (w2 (gEq false) (wN 4) (wC (D.int (2))))) (bX 3 (dm 3 (aLC (iS (wN 3)) 1 [0] (gN 0) cV (w2 gMul (wN 0) (wB fW (aC (w2 (gEq false) (wF ol (aC (wN 1) (aC (wC (D.int (3))) aA))) (wC (D.int (0)))) aA)))))) cF) (aG (cE (wT (w2 (gIn false) (wN 4) (aX (aC (wC (D.int (3))) (aC (wC (D.int (4))) (aC (wC (D.int (5))) aA)))))) (bX 3 (dm 3 (ei (cD (wN 3) eG (dU (wN 1))) (w1 gRev (cD (wN 3) eG (dU (w2 jm (wN 1) (wC (D.int (1)))))))))) cF) (bM 3 (aK (wB ky (aC (wN 3) aA)))))))))))))
abbrev ZeR:List Str:=["_law_slants", "_law_size"]
def E2:WS:=(aG (aQ 1 (w2 gD (w2 gAdd (wB bL (aC (wN 0) aA)) (wC (D.int (1)))) (wC (D.int (2))))) (aK (wL (aLC (fO (aC (wN 1) aA)) 1 [0,1] (gN 0) cV (wL (aLC (fO (aC (wN 2) aA)) 1 [0,1,2] (gN 0) cV (w2 gIx (wN 2) (w2 jm (w2 gAdd (w2 jm (wN 0) (wN 1)) (wN 3)) (wC (D.int (1)))))))))))
end B
theorem SzT.mono{m m':Nat}{T:List (List Rat)}(h:SzT m T)(l:m<=m'):SzT m' T:=λr hr x hx=>(h r hr x hx).mono l
namespace B
theorem Ki:∀ds E Q,yH ds E Q->Bz No { nx:=λ_=>Q .non,rt:=Q } (ef Zdn ds):=by
 rintro _ E Q ⟨n,rfl,hn,q⟩;unfold Bz;walk_at "nx";refine JY hn ?_;have h:db (.str (om n)) 60=true/\fE (.str (om n)) (.str "strong")=false:=by
  simp only[LX,Yan,gu,or_false] at hn;rcases hn with rfl|rfl|rfl|rfl|rfl|rfl<;>exact⟨by decide +kernel,by decide +kernel⟩
 walk_at "nx";refine jq h.1 (by decide +kernel) ?_;rw[h.2];walk_at "st";exact⟨by decide,q⟩
theorem Kj:Rd tX EV ZiE:=by
 rintro _ E Q ⟨⟨a,b⟩,rfl,_,q⟩;unfold EV;walk_at "nx";walk_at "nx";refine cO ?_;rw[ED,ED];simp only[bB,vd];refine⟨λm ρ=>∃x y:Int,m=y.natAbs/\ρ=[.d (.int x),.d (.int y)]/\0<=x/\0<=y/\Int.gcd x y=Int.gcd a b,⟨_,_,_,rfl,rfl,by omega,by omega,by simp[Int.gcd]⟩,?_⟩;rintro m _ ⟨x,y,rfl,rfl,hx,hy0,hg⟩;walk_at "st"
 by_cases hy:y=0
 .subst hy
  simp only[NF,eT,dO,if_false];rw[Int.gcd_zero_right] at hg;rw[<-hg] at q;have:x=((x.natAbs:Nat):Int):=by omega
  rw[<-this] at q;exact q
 .rw[if_pos (by simpa using hy)]
  refine⟨hy,?_⟩;walk_at "st";exact⟨_,Ep x hy,_,_,rfl,rfl,hy0,z9 _ (by omega),by rw[Eo];exact hg⟩
theorem Kk:Rd tV EW Zgy:=by
 rintro _ E Q ⟨⟨t,b⟩,rfl,⟨hb,hd⟩,q⟩;have hg:0<Int.gcd t b:=z6 _ hb;have hle:Int.gcd t b<=b.natAbs:=Nat.le_of_dvd (by omega) (Int.gcd_dvd_natAbs_right ..);obtain⟨e1,e2⟩:=DK (t:=t) hb;unfold aR at q;dsimp only at q e1 e2;rw[<-e1,<-e2] at q;unfold EW;walk_at "nx";refine ER ?_;walk_at "nx"
 by_cases h:b<0
 .simp only[h,decide_true,if_true] at q ⊢
  walk_at "st";refine⟨⟨by omega,Bd.le (by omega) hd⟩,⟨by omega,Bd.le (by omega) hd⟩,by simp[aM],q⟩
 .simp only[h,decide_false,if_false,dO] at q ⊢
  walk_at "st";refine⟨⟨by omega,Bd.le (by omega) hd⟩,⟨by omega,Bd.le (by omega) hd⟩,by simp[aM],q⟩
theorem Kl:Rd vE EY ZeS:=by
 rintro _ E Q ⟨⟨x,n⟩,rfl,hk,q⟩;unfold EY;walk_at "st";refine li hk (by decide) λt ht=>?_;cases x<;>cases ht<;>try exact q
 rename_i xs;obtain⟨hl,hx⟩:=oN hk;walk_at "st";simp only[show fX "tuple" "tuple" = true from rfl,if_true]
 by_cases h:(xs.length:Int)=n
 .rw[if_pos (by simp[h])]
  refine sj (f:=λd=>.bl (cN d)) (λd hd Q hq=>?_) .un [] (by simp[aM];omega) ?_
  .walk_at "st"
   exact ES (hx d hd) hq
  .refine⟨xs.map cN,by simp,?_⟩
   simpa[ug,Function.comp_def,fZ,h] using q
 .rw[if_neg (by simpa using h)]
  have e:((xs.length:Int)==n)=false:=by simpa using h
  simpa[fZ,e] using q
theorem rd__law_share_like:Rd tY yJ Zbo:=by
 rintro _ E Q ⟨x,rfl,hk,q⟩;unfold yJ;walk_at "nx";refine li hk (by decide) λt ht=>?_;cases x<;>cases ht<;>try exact q
 rename_i xs;obtain⟨hl,hx⟩:=oN hk;walk_at "st";simp only[show fX "tuple" "tuple" = true from rfl,eT,dO,if_false]
 by_cases h2:xs.length=2
 .match xs,h2,hx,q with
  |[a,b],_,hx,q=>
  rw[if_neg (by simp)];refine⟨a,rfl,EF (hx a (by simp)) ?_⟩;walk_at "st";cases ha:oO a with
  |false=>rw[Es ha] at q;exact q
  |true=>
   obtain⟨i,rfl⟩:=yw ha;simp only[eT,dO,if_false];refine⟨b,rfl,EF (hx b (by simp)) ?_⟩;walk_at "st";cases hb:oO b with
   |false=>rw[Et hb] at q;exact q
   |true=>
    obtain⟨j,rfl⟩:=yw hb;simp only[eT,dO,if_false];walk_at "st";refine⟨_,rfl,?_⟩;walk_at "st"
    by_cases h:0<j
    .simp only[show j>0 from h,decide_true,if_true]
     refine⟨_,rfl,_,rfl,ER ?_⟩;walk_at "st";have:cN (.tup [.int i,.int j])=(((Int.gcd i j:Nat):Int)==1):=by
      simp only[cN,h,decide_true,uh];rw[o7];simp;omega
     rw[this] at q;simpa using q
    .have h':¬j>0:=h
     simp only[h',decide_false,if_false,dO];simpa[cN,h] using q
 .rw[Er h2] at q
  rw[if_pos (by simpa using λz=>h2 (by exact_mod_cast z))];exact q
theorem Km:Rd yI E2 ZeR:=by
 rintro _ E Q ⟨⟨s,n⟩,rfl,h,q⟩;dsimp only at h q;have h5:=h.n5;have hsl:=h.len;unfold E2;walk_at "nx";refine⟨⟨by decide,jY (n:=2) (by decide) (by omega)⟩,?_⟩;rw[xu _ (by decide),show((s.length:Int)+1)/2=n by omega];walk_at "st";refine⟨by omega,by omega,?_⟩;rw[p7];refine jX (g:=λk:Nat=>D.int (k:Int)) (f:=λi=>bT ((List.range n).map λj=>ent s n i j)) (List.range n) (λi hi Q hq=>?_) .un [] (by simp[aM];omega) ?_
 .rw[Yah] at hi
  walk_at "st";refine⟨by omega,by omega,?_⟩;rw[p7];refine jX (g:=λk:Nat=>D.int (k:Int)) (f:=λj=>D.int (ent s n i j)) (List.range n) (λj hj Q hq=>?_) .un [] (by simp[aM];omega) ?_
  .rw[Yah] at hj
   walk_at "st";have e1:(s.map D.int)[n-1-i+j]? = some (.int (ent s n i j)):=by
    unfold ent;rw[cK,aY,bW (by omega)];rfl
   exact⟨_,Ev (k:=n-1-i+j) (by omega) e1,hq⟩
  .rw[dI]
   unfold bT at hq;rw[List.map_map] at hq;exact hq
 .rw[dI]
  unfold bO at q;rw[Bt h,List.map_map] at q;exact q
theorem bd_le{i:Int}(h:i.natAbs<=2^k)(l:k<8990):Bd i:=oF h (Nat.pow_lt_pow_right (by decide) l)
theorem dot_step{t b:Int}{x y:Rat}(hb:b≠0):Rat.divInt (t*(x.den:Int)*(y.den:Int)+x.num*y.num*b) (b*(x.den:Int)*(y.den:Int))=Rat.divInt t b+x*y:=by
 have hx:((x.den:Int))≠0:=by have:=x.den_nz;omega
 have hy:((y.den:Int))≠0:=by have:=y.den_nz;omega
 conv=>rhs;rw[<-tE x,<-tE y]
 rw[o8,Rat.divInt_add_divInt _ _ hb (jI hx hy),Int.mul_assoc,Int.mul_assoc b]
theorem E3(h:(∀x∈xs,lm x=true)\/∀x∈xs,mU x=true):dl (.tup xs)=true:=by
 unfold dl;rw[lm,mU,xb,yF,yG];exact h
theorem nm_at{E:Ex->Prop}(h:ρ[i]? = some (.d d)):∀P:D->Prop,P d->wN i E ρ P:=λP q=>by unfold wN;rw[h];exact q
theorem Kn:Rd vF EZ Zeh:=by
 rintro _ E Q ⟨_,rfl,_,q⟩;have fin:∀(s:List Int) (n:Nat),s.length+1=2*n->1<=n->n<=5->(∀x∈s,-50<=x/\x<=50)->Q (D.tup (s.map D.int)):=λs n h1 h2 h3 h4=>q _ ⟨s,n,⟨h1,h2,h3,h4⟩,rfl⟩;unfold EZ;walk_at "nx";refine qN (n:=5) (by decide) (by decide) λk hk=>?_;walk_at "st";walk_at "nx";refine⟨by decide,qN (n:=5) (by decide) (by decide) λsp hsp=>?_⟩;have hgr:∃g:Nat,(1<=g/\g<=50)/\eX [D.int 1,D.int 2,D.int 3,D.int 9,D.int 50] (sp:Int)=some (.int g):=by
  have:sp=0\/sp=1\/sp=2\/sp=3\/sp=4:=by omega
  rcases this with rfl|rfl|rfl|rfl|rfl
  .exact⟨1,by decide,rfl⟩
  .exact⟨2,by decide,rfl⟩
  .exact⟨3,by decide,rfl⟩
  .exact⟨9,by decide,rfl⟩
  .exact⟨50,by decide,rfl⟩
 obtain⟨g,hg,hat⟩:=hgr;refine⟨_,hat,?_⟩;walk_at "nx";refine⟨⟨jY (n:=2) (by decide) (by omega),jY (n:=10) (by omega) (by omega)⟩,by omega,by omega,?_⟩;refine DE (R:=λ_ y=>∃i:Int,y=.int i/\-50<=i/\i<=50) (λd hd Q hq=>?_) .un [] (by simp[rng,aM];omega) λys hl hys=>?_
 .walk_at "st"
  refine⟨⟨jY (n:=2) (by decide) (by omega),jY (n:=10) (by omega) (by omega)⟩,?_⟩;have e:(2:Int)*(g:Int)+1=((2*g+1:Nat):Int):=by omega
  rw[e];refine qN (by omega) (by omega) λj hj=>?_;walk_at "st";exact hq _ ⟨_,rfl,by omega,by omega⟩
 .obtain⟨s,rfl,hs⟩:=EE λy hy=>let⟨_,_,h⟩:=hys y hy;h
  simp only[rng,bC,iX] at hl;rw[dI];have hm:∀x∈s,-50<=x/\x<=50:=hs;have hsl:s.length+1=2*(1+k):=by omega
  have hn:(1:Int)+(k:Int)=((1+k:Nat):Int):=by omega
  generalize 1+k=n at hn hsl;have n1:1<=n:=by omega
  have n5:n<=5:=by omega
  rw[hn];clear hl hys hat hsp hk q hn;walk_at "nx";refine qN (n:=10) (by decide) (by decide) λway hw=>?_;walk_at "nx";refine qN (n:=3) (by decide) (by decide) λst hst=>?_;walk_at "st";have c1:∀{s:List Int},s.length+1=2*n->bZ (s.map D.int) none (some (n:Int))=(s.take n).map D.int:=λ_=>by rw[oj rfl,kK]
  have c2:∀{s:List Int},s.length+1=2*n->bZ (s.map D.int) none (some ((n:Int)-1))=(s.take (n-1)).map D.int:=λ_=>by rw[oj (b:=n-1) (by omega),kK]
  have c3:∀{s:List Int},bZ (s.map D.int) none (some (1+(st:Int)))=(s.take (1+st)).map D.int:=λ{s}=>by rw[oj (b:=1+st) (by omega),kK]
  have mt:∀{s:List Int} {j:Nat},(∀x∈s,-50<=x/\x<=50)->∀x∈s.take j,-50<=x/\x<=50:=λh x hx=>h x (m7 hx);have fl:∀(m:Nat) (l:List Int),(List.replicate m (l.map D.int)).flatten=(List.replicate m l).flatten.map D.int:=λm l=>by
   rw[List.map_flatten,uj]
  refine sF (λρ=>∃s:List Int,ρ=[.d .pen,.d (.int n),.d (.int g),.ow (s.map .int),.d (.int way),.d (.int (1+(st:Int)))]/\s.length+1=2*n/\∀x∈s,-50<=x/\x<=50) (λnx hnx=>?_) ?_
  .walk_at "st"
   split
   .have hlt:(s.take (1+st)).length<=9:=by rw[gS];omega
    rw[c3,fl,oj (b:=s.length) (by rw[bC]),<-kK];refine⟨by decide,by decide,?_,Bn _,hnx _ ⟨_,rfl,?_,λx hx=>?_⟩⟩
    .rw[bC,gS]
     have:(9:Int).toNat=9:=rfl;rw[this];unfold aM;omega
    .rw[gS,List.length_flatten,uj,List.sum_replicate_nat,gS]
     have e9:(9:Int).toNat=9:=rfl;rw[e9];have:9*1<=9*min (1+st) s.length:=xv _ (by omega);omega
    .have:=m7 hx
     rw[List.mem_flatten] at this;obtain⟨l,hl,hxl⟩:=this;rw[(List.mem_replicate.mp hl).2] at hxl;exact mt hm x hxl
   .exact hnx _ ⟨s,rfl,hsl,hm⟩
  clear hs hm hsl s;rintro _ ⟨s,rfl,hsl,hm⟩;refine sF (λρ=>∃s:List Int,ρ=[.d .pen,.d (.int n),.d (.int g),.ow (s.map .int),.d (.int way),.d (.int (1+(st:Int)))]/\s.length+1=2*n/\∀x∈s,-50<=x/\x<=50) (λnx hnx=>?_) ?_
  .walk_at "st"
   split
   .refine⟨by decide,qN (n:=3) (by decide) (by decide) λk3 hk3=>?_⟩
    have hv:∃i:Int,(-50<=i/\i<=50)/\eX [D.int 50,D.int (-50),D.int 0] (k3:Int)=some (.int i):=by
     have:k3=0\/k3=1\/k3=2:=by omega
     rcases this with rfl|rfl|rfl
     .exact⟨50,by decide,rfl⟩
     .exact⟨-50,by decide,rfl⟩
     .exact⟨0,by decide,rfl⟩
    obtain⟨i,hi,hat⟩:=hv;refine⟨_,hat,?_⟩;walk_at "st";refine⟨n-1,?_,hnx _ ⟨s.set (n-1) i,by rw[xw],by rw[d8];exact hsl,λx hx=>?_⟩⟩
    .unfold ku
     rw[if_pos (by omega),if_pos (by rw[bC];omega),show((n:Int)-1).toNat=n-1 by omega]
    .rcases Aa hx with hx|rfl
     .exact hm x hx
     .exact hi
   .exact hnx _ ⟨s,rfl,hsl,hm⟩
  clear hm hsl s;rintro _ ⟨s,rfl,hsl,hm⟩;refine sF (λρ=>∃s:List Int,ρ=[.d .pen,.d (.int n),.d (.int g),.ow (s.map .int),.d (.int way),.d (.int (1+(st:Int)))]/\s.length+1=2*n/\∀x∈s,-50<=x/\x<=50) (λnx hnx=>?_) ?_
  .walk_at "st"
   split
   .refine DE (R:=λ_ y=>∃i:Int,y=.int i/\-50<=i/\i<=50) (λd hd Q hq=>?_) .un [] (by simp[aM];omega) λys hl hys=>?_
    .obtain⟨i,hi,rfl⟩:=YbQ.mp hd
     have hi':=hm i hi;walk_at "st";refine qN (n:=3) (by decide) (by decide) λk3 hk3=>?_;walk_at "st";refine⟨⟨jY (n:=10) (by omega) (by omega),?_⟩,hq _ ⟨_,rfl,?_⟩⟩
     .split<;>exact jY (n:=2) (by decide) (by omega)
     .split<;>omega
    .obtain⟨s',rfl,hs'⟩:=EE λy hy=>let⟨_,_,h⟩:=hys y hy;h
     rw[dI];rw[bC,bC] at hl;exact⟨Bn _,hnx _ ⟨s',rfl,by omega,hs'⟩⟩
   .exact hnx _ ⟨s,rfl,hsl,hm⟩
  clear hm hsl s;rintro _ ⟨s,rfl,hsl,hm⟩;refine sF (λρ=>∃s:List Int,ρ=[.d .pen,.d (.int n),.d (.int g),.ow (s.map .int),.d (.int way),.d (.int (1+(st:Int)))]/\s.length+1=2*n/\∀x∈s,-50<=x/\x<=50) (λnx hnx=>?_) ?_
  .walk_at "st"
   refine⟨by decide,way,[3,4,5],rfl,.inr rfl,?_⟩;walk_at "st";split
   .rw[c1 hsl,c2 hsl,<-qj,<-m9]
    refine⟨?_,Bn _,hnx _ ⟨_,rfl,?_,λx hx=>?_⟩⟩
    .simp[aM];omega
    .simp only[dX,xc,gS];omega
    .rcases Yao.mp hx with hx|hx
     .exact mt hm x hx
     .exact mt hm x (Yco.mp hx)
   .exact hnx _ ⟨s,rfl,hsl,hm⟩
  clear hm hsl s;rintro _ ⟨s,rfl,hsl,hm⟩;walk_at "st";exact fin s n hsl n1 n5 hm
end B
section
variable{pos ps:Pos}{a b:Expr}
def f8:Nat->List D->List D
 |_,[]=>[]
 |i,x::xs=>.tup [.int i,x]::f8 (i+1) xs
theorem E4:∀(i:Nat) (xs:List D),(f8 i xs).length=xs.length
 |_,[]=>rfl
 |i,x::xs=>by rw[f8,dS,dS,E4]
theorem E5:∀(i j:Nat) (xs:List D) (d:D),(f8 i xs)[j]? = some d->∃x,xs[j]? = some x/\d=.tup [.int ((i+j:Nat):Int),x]
 |_,_,[],_,h=>by simp[f8] at h
 |i,0,x::xs,d,h=>by
  rw[f8,eK] at h;exact⟨x,rfl,(Nv h).symm⟩
 |i,j+1,x::xs,d,h=>by
  rw[f8,fk] at h;obtain⟨y,e1,e2⟩:=E5 (i+1) j xs d h;exact⟨y,by rw[fk];exact e1,by rw[e2,show i+1+j=i+(j+1) by omega]⟩
def iE(t:WA):WA:=λE ρ Q=>t E ρ λds=>match ds with
 |[x]=>isS (λxs=>Q (f8 0 xs)) x
 |_=>False
theorem E6{t:WA}(hm:X.mg "enumerate" = none)(ha:iY X EX [a] t)(hg:Gl X "enumerate" :=by rfl)(hs:starEach [a] X.env=[(false,eval a X.env)]:=by rfl) :
  n6 X EX (.Tuple es n1 ps) (.Call (.Name "enumerate" p) [a] [] pos) (iE t):=by
 obtain⟨t,q,k⟩:=ha.t;refine⟨⟨_,IF hg hm q hs,λW0 H0 W σ H ρ E R s eo h=>?_⟩,λE ρ P P' hp h=>ha.mono _ _ _ _ (λds hd=>?_) h⟩
 .refine k W0 H0 W σ H ρ E _ s eo (ha.mono _ _ _ _ (λds hd vs W1 H1 x1 r1=>?_) h)
  split at hd
  .obtain⟨v,rfl,rv⟩:=r1.one
   obtain⟨κ,l,vs,xs,rfl,rr,hd,sq⟩:=rv.sq hd;refine⟨κ,l,rfl,⟨vs,sq W1 H1 (λ_ _ z=>z) x1.ok⟩,hd W1 H1 _ x1 λW2 H2 i g2 p2 ok2=>⟨λd hd=>?_,λhi=>?_⟩⟩
   .have s1:=sq W2 H2 g2 ok2
    obtain⟨x,ex,rfl⟩:=E5 0 i xs d hd;obtain⟨vx,evx,rvx⟩:=rr.get ex;refine⟨⟨vs,vx,s1,evx⟩,λz H3 hy=>?_⟩;obtain⟨q,x',rfl,hq,rfl,e1⟩:=hy;have e1:=e1 _ s1;rw[evx] at e1;cases e1;have xt:=Ext.put (o:=.tup [.int i,vx]) ok2 hq;rw[Nat.zero_add];exact⟨_,xt,.tup (by unfold Wd.put;dsimp only;rw[aP]) (.cons (.int _) (.cons (xt.rep (rvx.mono g2 p2)) .nil))⟩
   .refine⟨vs,sq W2 H2 g2 ok2,?_⟩
    rw[rr.length];rw[E4] at hi;omega
  .exact hd.elim
 .split at hd
  .exact isS.mono (λxs h1=>hp _ h1) _ hd
  .exact hd.elim
end
theorem E7:bootBuiltins "min" = some (.builtin "min"):=by decide +kernel
section
variable{pos p1 ps sp1 sp2:Pos}{a b:Expr}
def is2(Q:D->D->Prop):D->Prop
 |.tup [x,y]=>Q x y
 |_=>False
theorem is2.mono{Q Q':D->D->Prop}(h:∀x y,Q x y->Q' x y):∀d,is2 Q d->is2 Q' d:=λd z=>by
 unfold is2 at z ⊢;split at z
 .exact h _ _ z
 .exact z.elim
theorem Ko{Q:D->D->Prop}(h:is2 Q d):∃x y,d=.tup [x,y]/\Q x y:=by
 unfold is2 at h;split at h
 .exact⟨_,_,rfl,h⟩
 .exact h.elim
def qO(i:Nat)(wv w1 w2:WE):WS:=λE N ρ=>match ρ[i]? with
 |some (.ow xs)=>wv E ρ (is2 λx y=>w1 E ρ (isI λk1=>∃j1,ku xs.length k1=some j1/\w2 E (ρ.set i (.ow (xs.set j1 x))) (isI λk2=>∃j2,ku xs.length k2=some j2/\N.nx (ρ.set i (.ow ((xs.set j1 x).set j2 y))))))
 |_=>False
theorem Kp(i:Nat){w1 w2:WE}{fi ix2:Expr}{kt:Nat}{pt:Pos}(he:PX X EX e wv)(h1:PX X EX fi w1)(h2:PX X EX ix2 w2)(hc:X.calm=true:=by rfl)(hN:X.N[i]? = some x:=by rfl)(hv:pq X.env.scope x:=by first|exact Or.inl rfl|exact Or.inr (Or.inl rfl)|exact Or.inr (Or.inr rfl))(hd:(x==("__debug__" : Str))=false:=by decide)
  (hcd:(x==("__classdict__" : Str))=false:=by decide)
  (ha1:∀ v,assign (.Subscript (.Name x p1) fi sp1) X.env v=(do
   let ov <-holding [v] (eval (.Name x p1) X.env)
   let iv <-holding [v,ov] (eval fi X.env)
   standAt sp1
   holding [v,ov,iv] (setItem ov iv v)
   release [v,ov,iv] []):=by intro _;rfl)
  (ha2:∀ v,assign (.Subscript (.Name x p2) ix2 sp2) X.env v=(do
   let ov <-holding [v] (eval (.Name x p2) X.env)
   let iv <-holding [v,ov] (eval ix2 X.env)
   standAt sp2
   holding [v,ov,iv] (setItem ov iv v)
   release [v,ov,iv] []):=by intro _;rfl)
  (hs1:(assignEach [.Subscript (.Name x p1) fi sp1,.Subscript (.Name x p2) ix2 sp2] X.env).map (·.2)=assign (.Subscript (.Name x p1) fi sp1) X.env::(assignEach [.Subscript (.Name x p2) ix2 sp2] X.env).map (·.2):=by rfl)
  (hs2:(assignEach [.Subscript (.Name x p2) ix2 sp2] X.env).map (·.2)=assign (.Subscript (.Name x p2) ix2 sp2) X.env::(assignEach [] X.env).map (·.2):=by rfl)
  (hn:(assignEach [.Subscript (.Name x p1) fi sp1,.Subscript (.Name x p2) ix2 sp2] X.env).length=2:=by rfl) (hst:(assignEach [.Subscript (.Name x p1) fi sp1,.Subscript (.Name x p2) ix2 sp2] X.env).findIdx? (·.1)=none:=by rfl)
  (hs:swapsWithSole [.Tuple [.Subscript (.Name x p1) fi sp1,.Subscript (.Name x p2) ix2 sp2] kt pt] e pos.line X.env=pure false:=by rfl) (hw:swappedStores [.Tuple [.Subscript (.Name x p1) fi sp1,.Subscript (.Name x p2) ix2 sp2] kt pt] e X.env=pure none:=by rfl)
  (h3:(assignEach [.Tuple [.Subscript (.Name x p1) fi sp1,.Subscript (.Name x p2) ix2 sp2] kt pt] X.env).map (·.2)=[assign (.Tuple [.Subscript (.Name x p1) fi sp1,.Subscript (.Name x p2) ix2 sp2] kt pt) X.env]:=by rfl) :
  PZ X EX (.Assign [.Tuple [.Subscript (.Name x p1) fi sp1,.Subscript (.Name x p2) ix2 sp2] kt pt] e pos) (qO i wv w1 w2):=by
 obtain⟨t,pe,k⟩:=he.t;obtain⟨t1,pi1,k1⟩:=h1.t;obtain⟨t2,pi2,k2⟩:=h2.t;refine⟨⟨_,iy pe (nu hc (gv (iw (eL hN hv hd hcd) pi1 eY ha1) (gv (iw (eL hN hv hd hcd) pi2 eY ha2) kj hs2) hs1) hn hst) hs hw h3,λW0 H0 F W σ H ρ E Dn N s fl eo no h=>?_⟩,λE ρ N N' hl q=>?_⟩
 .unfold qO at h
  split at h
  .rename_i xs ex
   obtain⟨a,vs,e1,e2,e3,e4,e5,r⟩:=s.o i xs ex;have hi:i<ρ.length:=(Yaq.mp ex).1;refine k W0 H0 W σ H ρ E _ s eo (he.mono _ _ _ _ (λd hd v W1 H1 x1 r1=>?_) h);obtain⟨dx,dy,rfl,hd⟩:=Ko hd;obtain⟨q,us,rfl,sq,ru⟩:=r1.sqt x1.ok;obtain⟨vx,vy,rfl,rx,ry⟩:=ru.two;refine⟨q,[vx,vy],rfl,sq,rfl,vx,[vy],rfl,⟨_,e1,?_⟩⟩;refine k1 W0 H0 W1 σ H1 ρ E _ (s.step x1) eo (h1.mono _ _ _ _ (λdi hdi vi W2 H2 x2 r2=>?_) hd);obtain⟨kk,rfl,j,hj,hn2⟩:=qC hdi;cases r2;have xx:=x1.trans x2;have e2':=xx.h a _ e2 e4;refine⟨a,vs,kk,j,rfl,rfl,e2',by rw[r.length];exact hj,?_⟩;have s2:=(s.step xx).chg ex e1 (Reps.set (x2.rep rx) j (xx.reps r));refine⟨vy,[],rfl,⟨_,e1,?_⟩⟩;have ex2:(ρ.set i (.ow (xs.set j dx)))[i]? = some (.ow (xs.set j dx)):=eI hi;obtain⟨a',vs',f1,f2,f3,f4,f5,fr⟩:=s2.o i _ ex2;refine k2 W0 H0 W2 σ _ _ E _ s2 eo (h2.mono _ _ _ _ (λdk hdk vk W3 H3 x3 r3=>?_) hn2);obtain⟨k',rfl,j',hj',hn3⟩:=qC hdk;cases r3;have ea:a'=a:=by rw[e1] at f1;cases f1;rfl
   subst ea;have e2'':=x3.h _ _ f2 f4;refine⟨_,vs',k',j',rfl,rfl,e2'',by rw[fr.length,d8];exact hj',rfl,?_⟩;have s3:=(s2.step x3).chg ex2 e1 (Reps.set (x3.rep (x2.rep ry)) j' (x3.reps fr));rw[List.set_set] at s3;exact no.nx W3 σ _ _ s3 ((fl.ext xx).ext x3 |> λz=>z) hn3
  .exact h.elim
 .unfold qO at q ⊢
  split at q
  .exact he.mono _ _ _ _ (is2.mono λx y hxy=>h1.mono _ _ _ _ (isI.mono λk1 ⟨j1,a1,b1⟩=>⟨j1,a1,h2.mono _ _ _ _ (isI.mono λk2 ⟨j2,a2,b2⟩=>⟨j2,a2,hl.nx _ b2⟩) b1⟩) hxy) q
  .exact q.elim
end
section
variable{pos p1:Pos}{a:Expr}
end
def E9(f l:List Rat)(i j k:Nat):Rat:=f.getD (i-k) 0*l.getD (f.length-1-j+k) 0
def Kq(f l:List Rat)(i j k:Nat):Rat:=l.getD (i-k-1) 0*f.getD (f.length-j+k) 0
def sp(f l:List Rat)(i j:Nat):Nat->Rat
 |0=>0
 |k+1=>if k<min i j then sp f l i j k+E9 f l i j k-Kq f l i j k else sp f l i j k+E9 f l i j k
section
variable{E:Ex->Prop}{f:List Rat}
end
abbrev ZnC:List Str:=["one", "other"]
def Zm:WS:=(aK (wF sx (aC (w2 jm (w2 gMul (w2 gIx (wN 0) (wC (D.int (0)))) (w2 gIx (wN 1) (wC (D.int (1))))) (w2 gMul (w2 gIx (wN 1) (wC (D.int (0)))) (w2 gIx (wN 0) (wC (D.int (1)))))) (aC (w2 gMul (w2 gIx (wN 0) (wC (D.int (1)))) (w2 gIx (wN 1) (wC (D.int (1))))) aA))))
abbrev N_by:List Str:=["one", "other"]
def vG:WS:=(aK (wF sx (aC (w2 gMul (w2 gIx (wN 0) (wC (D.int (0)))) (w2 gIx (wN 1) (wC (D.int (1))))) (aC (w2 gMul (w2 gIx (wN 0) (wC (D.int (1)))) (w2 gIx (wN 1) (wC (D.int (0))))) aA))))
namespace B
theorem set_by{E:Ex->Prop}(e:ρ.set i (.d d)=ρ')(hw:∀P:D->Prop,P d->w E ρ P)(h:N.nx ρ'):aQ i w E N ρ:=hw _ (by rw[e];exact h)
end B
theorem Kr:Rd tR Zm ZnC:=by
 rintro _ E Q ⟨⟨p,q⟩,rfl,hb,h⟩;obtain⟨b1,b2,b3,b4,b5,b6,b7,b8⟩:=hb.mul;unfold Zm;simp only[aK,wF,aC,w2,wN,wC,ef,cR,ia,eK,fk];refine oQ (fi ⟨b1,oQ (fi ⟨b2,?_⟩)⟩);dsimp only;simp only[fG,true_and];refine fi (fi ⟨b3,?_⟩);refine⟨(_,_),rfl,⟨b6,b5⟩,?_⟩;dsimp only at h ⊢;have e:Rat.divInt (p.num*q.den-q.num*p.den) ((p.den:Int)*q.den)=p-q:=by
  rw[Rat.sub_def',<-z7];rfl
 rw[e];exact h
theorem vH:Rd oa vG N_by:=by
 rintro _ E Q ⟨⟨p,q⟩,rfl,⟨hb,h0⟩,h⟩;dsimp only at hb h0 h;obtain⟨b1,b2,b3,b4,b5,b6,b7,b8⟩:=hb.mul;unfold vG;simp only[aK,wF,aC,w2,wN,wC,ef,cR,ia,eK,fk];refine oQ (fi ⟨b1,fi (oQ ⟨b7,?_⟩)⟩);have hq:q.num≠0:=λz=>h0 (Rat.num_eq_zero.mp z);refine⟨(_,_),rfl,⟨jI (by exact_mod_cast p.den_nz) hq,b8⟩,?_⟩;dsimp only at h ⊢;have e:Rat.divInt (p.num*q.den) ((p.den:Int)*q.num)=p/q:=by
  rw[eJ,Rat.inv_def];have:p*Rat.divInt (q.den:Int) q.num=Rat.divInt p.num p.den*Rat.divInt (q.den:Int) q.num:=by rw[tE]
  rw[this,o8]
 rw[e];exact h
theorem vI(p q:Rat):fE (aR p) (aR q)=decide (p=q):=by
 unfold aR;rw[J3,o7];simp only[c6,NU,Nt];constructor
 .rintro⟨h1,h2⟩
  exact Rat.ext h1 (by exact_mod_cast h2)
 .rintro rfl
  exact⟨rfl,rfl⟩
theorem yK:aR 0=.tup [.int 0,.int 1]:=rfl
namespace B.C
def ga(r:List Int)(k:Nat):Int:=r.getD k 0
def gr(t:List (List Int))(k:Nat):List Int:=t.getD k []
def gG(row here:List Int)(a:Nat)(last:Int):List Int:=(List.range row.length).map λj=>(ga row j*ga here a-ga row a*ga here j).fdiv last
def gH(t:List (List Int))(a:Nat):List Nat:=((List.range (t.length-a)).map (a + ·)).filter λk=>ga (gr t k) a != 0
def c8(t:List (List Int))(a g:Nat):List (List Int):=(t.set a (gr t g)).set g (gr t a)
def bQ(t:List (List Int))(a k:Nat)(last:Int):List (List Int):=(List.range t.length).map λi=>if a<i/\i<k then gG (gr t i) (gr t a) a last else gr t i
structure St3 where
 t:List (List Int)
 s:Int
 l:Int
def f9(a:Nat)(x:St3):Option St3:=match gH x.t a with
 |[]=>none
 |g::_=>let t1:=c8 x.t a g
  let t2:=bQ t1 a t1.length x.l
  some ⟨t2,x.s*(1-2*(if g=a then 0 else 1)),ga (gr t2 a) a⟩
def cY(t:List (List Int)):Nat->Option St3
 |0=>some ⟨t,1,1⟩
 |a+1=>(cY t a).bind (f9 a)
def fH(t:List (List Int)):Int:=match cY t t.length with
 |none=>0
 |some x=>x.s*x.l
def mV(c:Nat):Nat->Nat
 |0=>c
 |a+1=>2*mV c a+1
abbrev bt:Nat->Nat:=mV 6
structure Sm(b n:Nat)(t:List (List Int)):Prop where
 len:t.length=n
 row:∀r∈t,r.length=n
 sm:∀r∈t,∀x∈r,x.natAbs<2^b
structure BA(c n a:Nat)(x:St3):Prop where
 t:Sm (mV c a) n x.t
 s:x.s=1\/x.s = -1
 l0:x.l≠0
 l:x.l.natAbs<2^mV c a
theorem Sm.up{c:Nat}(h:Sm b n t)(l:b<=c):Sm c n t:=⟨h.len,h.row,λr hr x hx=>de (h.sm r hr x hx) (j7 (by decide) l)⟩
theorem Ks{a b:Int}(h:b≠0):(a.fdiv b).natAbs<=a.natAbs:=Int.natAbs_fdiv_le_natAbs a b
theorem Sm.gr{b n k:Nat}{t:List (List Int)}(h:Sm b n t)(hk:k<n):t[k]? = some (gr t k)/\(C.gr t k).length=n/\∀x∈C.gr t k,x.natAbs<2^b:=by
 have e:=h.len;have:t[k]? = some (C.gr t k):=by unfold C.gr;rw[aY,bW (by omega)];rfl
 have hm:=h8 this;exact⟨this,h.row _ hm,h.sm _ hm⟩
theorem sK{r:List Int}(h:∀x∈r,x.natAbs<2^b):(ga r k).natAbs<2^b:=by
 unfold ga;rw[aY];cases e:r[k]? with
 |none=>exact Nat.two_pow_pos b
 |some v=>exact h _ (h8 e)
theorem Kt{r:List Int}(h:r.length=n)(hk:k<n):r[k]? = some (ga r k):=by
 unfold ga;rw[aY,bW (by omega)];rfl
theorem tak_num{w x y z:Int}(h1:w.natAbs<2^b)(h2:x.natAbs<2^b)(h3:y.natAbs<2^b)(h4:z.natAbs<2^b):(w*x-y*z).natAbs<2^(2*b+1):=by
 have m1:(w*x).natAbs<2^b*2^b:=by rw[d9];exact oG h1 h2
 have m2:(y*z).natAbs<2^b*2^b:=by rw[d9];exact oG h3 h4
 have:=xy (w*x) (y*z);rw[qU,show 2*b=b+b by omega,jH];omega
theorem Ku{row here:List Int}{last:Int}(h1:row.length=n)(h2:∀x∈row,x.natAbs<2^b)(h3:∀x∈here,x.natAbs<2^b)(hl:last≠0):(gG row here a last).length=n/\∀x∈gG row here a last,x.natAbs<2^(2*b+1):=by
 refine⟨by unfold gG;rw[bC,iX];exact h1,λx hx=>?_⟩;obtain⟨j,_,rfl⟩:=YbQ.mp hx;exact oF (Ks hl) (tak_num (sK h2) (sK h3) (sK h2) (sK h3))
theorem yL{r:List Int}(h:i<t.length):gr (t.set i r) k=if k=i then r else gr t k:=by
 unfold gr;rw[aY,Ab,aY]
 by_cases e:i=k
 .subst e
  rw[if_pos rfl,if_pos rfl,if_pos h];rfl
 .rw[if_neg e,if_neg (NB e)]
theorem BB{g:Nat}(h:Sm b n t)(ha:a<n)(hg:g<n):Sm b n (c8 t a g):=by
 have e:=h.len;have m:∀r∈c8 t a g,r∈t:=λr hr=>by
  unfold c8 at hr;rcases Aa hr with hr|rfl
  .rcases Aa hr with hr|rfl
   .exact hr
   .exact h8 (h.gr hg).1
  .exact h8 (h.gr ha).1
 exact⟨by unfold c8;rw[d8,d8];exact e,λr hr=>h.row r (m r hr),λr hr=>h.sm r (m r hr)⟩
theorem BC{g:Nat}(h:Sm b n t)(ha:a<n)(hg:g<n):gr (c8 t a g) a=gr t g:=by
 have e:=h.len;unfold c8;rw[yL (by rw[d8];omega)]
 by_cases z:a=g
 .subst z;rw[if_pos rfl]
 .rw[if_neg z,yL (by omega),if_pos rfl]
theorem BD{g:Nat}(h:Sm b n t)(hg:g∈gH t a):a<=g/\g<n/\ga (gr t g) a≠0:=by
 have e:=h.len;unfold gH at hg;obtain⟨h1,h2⟩:=Yag.mp hg;obtain⟨k,hk,rfl⟩:=YbQ.mp h1;rw[Yah] at hk;exact⟨by omega,by omega,by simpa using h2⟩
theorem tZ{l:Int}(hi:i<t.length):gr (bQ t a k l) i=if a<i/\i<k then gG (gr t i) (gr t a) a l else gr t i:=by
 show(bQ t a k l).getD i []=_;unfold bQ;rw[aY,cK,jG hi];rfl
theorem yM{l:Int}(h:Sm b n t)(ha:a<n)(hl:l≠0):Sm (2*b+1) n (bQ t a k l):=by
 have e:=h.len;have key:∀r∈bQ t a k l,r.length=n/\∀x∈r,x.natAbs<2^(2*b+1):=λr hr=>by
  unfold bQ at hr;obtain⟨i,hi,rfl⟩:=YbQ.mp hr;have hi':i<n:=by rw[<-e];simpa using hi
  split
  .exact Ku (h.gr hi').2.1 (h.gr hi').2.2 (h.gr ha).2.2 hl
  .exact⟨(h.gr hi').2.1,λx hx=>de ((h.gr hi').2.2 x hx) (j7 (by decide) (by omega))⟩
 exact⟨by unfold bQ;rw[bC,iX];exact e,λr hr=>(key r hr).1,λr hr=>(key r hr).2⟩
theorem Kv{c:Nat}{x y:St3}(h:BA c n a x)(ha:a<n)(e:f9 a x=some y):BA c n (a+1) y:=by
 unfold f9 at e;split at e
 .cases e
 .rename_i g gs eg
  cases e;obtain⟨g1,g2,g3⟩:=BD h.t (g:=g) (by rw[eg];simp);have w:=BB h.t ha g2;have r:=yM (k:=(c8 x.t a g).length) w ha h.l0;have el:ga (gr (bQ (c8 x.t a g) a (c8 x.t a g).length x.l) a) a=ga (gr x.t g) a:=by
   rw[tZ (by rw[w.len];exact ha),if_neg (by omega),BC h.t ha g2]
  refine⟨r,?_,?_,?_⟩
  .show x.s*_=1\/x.s*_ = -1
   rcases h.s with e|e<;>rw[e]<;>split<;>decide
  .show ga _ _≠0
   rw[el];exact g3
  .exact sK (r.gr ha).2.2
theorem BE{c n:Nat}{t:List (List Int)}(h:Sm c n t)(hc:1<=c):∀{a:Nat},a<=n->∀{x:St3},cY t a=some x->BA c n a x
 |0,_,x,e=>by
  cases e;exact⟨h,.inl rfl,show(1:Int)≠0 by decide,uf (by show c≠0;omega)⟩
 |a+1,ha,x,e=>by
  rw[cY] at e;cases e1:cY t a with
  |none=>rw[e1] at e;cases e
  |some y=>rw[e1] at e;exact Kv (BE h hc (by omega) e1) (by omega) e
theorem Fa{t:List (List Int)}{a:Nat}(h:cY t a=none):∀k:Nat,cY t (a+k)=none
 |0=>h
 |k+1=>by rw[<-Nat.add_assoc,cY,Fa h k];rfl
def p9(t:List (List Int)):D:=.lst (t.map bT)
def BF:bF:=fnS (λx:(List Int×List Int)×Nat×Int=>[bT x.1.1,bT x.1.2,.int x.2.1,.int x.2.2]) (λx=>x.1.1.length<=5/\x.1.2.length=x.1.1.length/\x.2.1<x.1.1.length/\(∀y∈x.1.1,y.natAbs<2^223)/\(∀y∈x.1.2,y.natAbs<2^223)/\x.2.2≠0/\x.2.2.natAbs<2^223) λx=>bT (gG x.1.1 x.1.2 x.2.1 x.2.2)
def BG:bF:=fnS (λt:List (List Int)=>[p9 t]) (λt=>Sm 10 t.length t/\t.length<=5) λt=>.int (fH t)
abbrev Zgx:List Str:=["_law_row", "_law_here", "_law_at", "_law_last", "_law_found", "_law_j", "_law_number"]
def BH:WS:=(aG (bX 4 (bN aA)) (aG (bB (bD (fO (aC (wB bL (aC (wN 0) aA)) aA)) (gN 5) (aG (aQ 6 (w2 jm (w2 gMul (w2 gIx (wN 0) (wN 5)) (w2 gIx (wN 1) (wN 2))) (w2 gMul (w2 gIx (wN 0) (wN 2)) (w2 gIx (wN 1) (wN 5))))) (dj 4 (w2 gD (wN 6) (wN 3)))))) (bM 4 (aK (wN 4)))))
abbrev Zei:List Str:=["_law_table", "_law_rows", "_law_sign", "_law_last", "_law_at", "_law_good", "_law_k"]
def BJ:WS:=(aG (bX 1 (aLC (iS (wN 0)) 1 [] (gN 0) cV (wL (aB (gC (α:=Unit)) (aC (wN 0) aA))))) (aG (aQ 2 (wC (D.int (1)))) (aG (aQ 3 (wC (D.int (1)))) (bM 5 (aG (bB (bD (fO (aC (dM 1 (wB bL (aC (wN 1) aA))) aA)) (gN 4) (aG (bX 5 (dm 1 (aLC (i5 (aC (wN 4) (aC (wB bL (aC (wN 1) aA)) aA))) 1 [1,4] (gN 0) (wT (w2 (gEq true) (w2 gIx (w2 gIx (wN 1) (wN 0)) (wN 2)) (wC (D.int (0))))) (wN 0)))) (bM 5 (aG (cE (wT (w2 (gEq false) (wN 5) (wL (bN aA)))) (aK (wC (D.int (0)))) cF) (bM 5 (aG (qO 1 (aX (aC (c7 1 (w2 gIx (wN 5) (wC (D.int (0))))) (aC (c7 1 (wN 4)) aA))) (wN 4) (w2 gIx (wN 5) (wC (D.int (0))))) (bM 5 (aG (aQ 2 (w2 gMul (wN 2) (w2 jm (wC (D.int (1))) (w2 gMul (wC (D.int (2))) (wB fW (aC (w2 (gEq true) (w2 gIx (wN 5) (wC (D.int (0)))) (wN 4)) aA)))))) (aG (bB (bD (i5 (aC (w2 gAdd (wN 4) (wC (D.int (1)))) (aC (dM 1 (wB bL (aC (wN 1) aA))) aA))) (gN 6) (il 1 (wN 6) (wF BF (aC (c7 1 (wN 6)) (aC (c7 1 (wN 4)) (aC (wN 4) (aC (wN 3) aA)))))))) (aQ 3 (dM 1 (w2 gIx (w2 gIx (wN 1) (wN 4)) (wN 4)))))))))))))) (aK (w2 gMul (wN 2) (wN 3))))))))
theorem qa{x:Int}(h:x.natAbs<2^b)(hb:b<=8990):Bd x:=de h (j7 (by decide) hb)
theorem t0{r:List Int}{a:Int}(hk:k<r.length)(ea:a=k)(q:Q (.int (ga r k))):gIx (bT r) (.int a) Q:=by
 subst ea;exact⟨_,bY (by rw[cK,Kt rfl hk];rfl),q⟩
theorem Kw:Rd BF BH Zgx:=by
 rintro _ E Q ⟨⟨⟨row,here⟩,a,last⟩,rfl,⟨h5,hh,ha,s1,s2,l0,s3⟩,q⟩;dsimp only at h5 hh ha s1 s2 l0 s3 q;have b1:∀k,Bd (ga row k):=λk=>qa (sK s1) (by decide);have b2:∀k,Bd (ga here k):=λk=>qa (sK s2) (by decide);show BH E _ [.d (bT row),.d (bT here),.d (.int a),.d (.int last),.un,.un,.un];unfold BH;walk_at "nx";refine⟨by decide,?_⟩;refine cO ?_;simp only[bB,bD];walk_at "st";refine⟨by omega,by omega,?_⟩;refine Zk (λn ρ=>∃s5 s6,ρ=[.d (bT row),.d (bT here),.d (.int a),.d (.int last),.ow ((List.range n).map λj=>D.int ((ga row j*ga here a-ga row a*ga here j).fdiv last)),s5,s6]) row.length ?_ ?_ _ ⟨_,_,rfl⟩
 .rintro j hj _ ⟨s5,s6,rfl⟩ nx hnx
  show aG _ _ _ _ [.d (bT row),.d (bT here),.d (.int a),.d (.int last),.ow ((List.range j).map λj=>D.int ((ga row j*ga here a-ga row a*ga here j).fdiv last)),.d (.int j),s6];rw[List.range_succ,m9] at hnx;have hvl:((List.range j).map (λj=>D.int ((ga row j*ga here a-ga row a*ga here j).fdiv last))).length=j:=by rw[bC,iX]
  generalize (List.range j).map (λj=>D.int ((ga row j*ga here a-ga row a*ga here j).fdiv last))=vs at hnx hvl;have hlen:vs.length=j:=hvl;refine cO (B.set_by (d:=.int (ga row j*ga here a-ga row a*ga here j)) (ρ':=[.d (bT row),.d (bT here),.d (.int a),.d (.int last),.ow vs,.d (.int j),.d (.int (ga row j*ga here a-ga row a*ga here j))]) (by rfl) (λP hP=>?_) ?_)
  .simp only[w2,wN,eK,fk]
   refine t0 hj rfl (t0 (by omega) rfl ⟨⟨b1 _,b2 _⟩,t0 ha rfl (t0 (by omega) rfl ⟨⟨b1 _,b2 _⟩,?_⟩)⟩);exact⟨trivial,hP⟩
  dsimp only;walk_at "st";exact⟨⟨l0,qa s3 (by decide)⟩,by rw[hlen];unfold aM;omega,hnx _ ⟨_,_,rfl⟩⟩
 .rintro _ ⟨s5,s6,rfl⟩
  walk_at "st";unfold gG bT at q;rw[List.map_map] at q;exact q
end B.C
theorem Kx{g:WG}{E:Ex->Prop}(lo:Int)(I:Nat->cP->Prop)(n:Nat)(h:∀k,k<n->∀ρ,I k ρ->∀nx:cP->Prop,(∀ρ,I (k+1) ρ->nx ρ)->g (.int (lo+k)) ρ λρ1=>zb E { nx:=nx,rt:=N.rt,bk:=N.nx,ct:=nx } ρ1)(hn:∀ρ,I n ρ->N.nx ρ)(ρ:cP)(h0:I 0 ρ):Zbm g zb E N (rng lo n) ρ:=by
 refine sG (λds ρ=>∃k,k<=n/\ds=(rng lo n).drop k/\I k ρ) ?_ ?_ _ ρ ⟨0,i6 _,by rw[tz],h0⟩
 .rintro d ds ρ ⟨k,hk,e,i⟩ nx hnx
  have hlen:(rng lo n).length=n:=by unfold rng;simp
  rcases gp k n with hkn|hkn
  .rw[tB (by omega)] at e
   injection e with e1 e2
   have e3:d=.int (lo+k):=by rw[e1];unfold rng;simp
   rw[e3];exact h k hkn ρ i nx λρ' i'=>hnx ρ' ⟨k+1,by omega,e2,i'⟩
  .rw[List.drop_eq_nil_of_le (by omega)] at e
   cases e
 .rintro ρ ⟨k,hk,e,i⟩
  have hlen:(rng lo n).length=n:=by unfold rng;simp
  have:k=n:=by
   have:=congrArg List.length e;rw[jv,hlen] at this;simp at this;omega
  subst this;exact hn ρ i
theorem yN{α:Type}{wf:WT}{tail:cP}{Q:List D->Prop}{g:α->D}{p:α->Bool}:∀(L:List α),(∀a∈L,∀P:Bool->Prop,P (p a)->wf No (.d (g a)::tail) P)->∀(sv:SV) (acc:List D),acc.length+L.length<=aM->Q (acc++(L.filter p).map g)->lcW (gN 0) wf (wN 0) (L.map g) (sv::tail) acc Q
 |[],_,sv,acc,_,hq=>by simpa[lcW] using hq
 |a::L,h,sv,acc,hl,hq=>by
  rw[cR,lcW];show wf No (SV.d (g a)::tail) _;rw[dS] at hl;refine h a (by simp) _ ?_;cases e:p a with
  |true=>
   rw[if_pos rfl];refine⟨by omega,yN L (λb hb=>h b (by simp[hb])) _ _ (by rw[dX,j6];omega) ?_⟩;rw[List.filter_cons_of_pos e,cR] at hq;rw[mZ];exact hq
  |false=>
   rw[if_neg (by decide)];refine yN L (λb hb=>h b (by simp[hb])) _ _ (by omega) ?_;rw[List.filter_cons_of_neg (by rw[e];decide)] at hq;exact hq
namespace B.C
theorem Ky{l:Int}(hk:k<=a+1):bQ t a k l=t:=by
 unfold bQ;refine tx λi=>?_;rw[cK];rcases gp i t.length with z|z
 .rw[jG z]
  simp only[o6];rw[if_neg (by omega)];unfold gr;rw[aY,bW z];rfl
 .rw[eP (by simpa using z),eP z]
  rfl
theorem Kz{l:Int}(ha:a<k)(hk:k<t.length):bQ t a (k+1) l=(bQ t a k l).set k (gG (gr (bQ t a k l) k) (gr (bQ t a k l) a) a l):=by
 have e1:gr (bQ t a k l) k=gr t k:=by rw[tZ hk,if_neg (by omega)]
 have e2:gr (bQ t a k l) a=gr t a:=by rw[tZ (by omega),if_neg (by omega)]
 rw[e1,e2];refine tx λi=>?_;rw[Ab];unfold bQ;rw[cK,cK,bC,iX];rcases gp i t.length with z|z
 .rw[jG z]
  simp only[o6]
  by_cases c:k=i
  .subst c
   rw[if_pos rfl,if_pos z,if_pos ⟨ha,by omega⟩]
  .rw[if_neg c]
   by_cases d:a<i/\i<k
   .rw[if_pos ⟨d.1,by omega⟩,if_pos d]
   .rw[if_neg (by omega),if_neg d]
 .rw[eP (by simpa using z)]
  rw[if_neg (by omega)];rfl
theorem BK{c:Nat}(h:a<=b):mV c a<=mV c b:=by
 induction h with
 |refl=>exact cB _
 |step _ ih=>rw[mV];omega
theorem own_by{t:WA}{E:Ex->Prop}(e:ρ.set i (.ow xs)=ρ')(ht:∀P:List D->Prop,P xs->t E ρ P)(h:N.nx ρ'):bX i t E N ρ:=ht _ (by rw[e];exact h)
theorem pub_by{z:WS}{E:Ex->Prop}(e:pub i ρ=ρ')(h:z E N ρ'):bM i z E N ρ:=by unfold bM;rw[e];exact h
theorem BL(h:k<n):ku n (k:Int)=some k:=by
 unfold ku;rw[if_pos (by omega),if_pos (by omega),iU]
theorem t7{a:Int}(hk:k<t.length)(ea:a=k):eX (t.map bT) a=some (bT (gr t k)):=by
 subst ea;refine bY ?_;rw[cK];unfold gr;rw[aY,bW hk];rfl
theorem KA(L:List Nat):pW (L.map λ(k:Nat)=>D.int (k:Int))=true:=by
 induction L with
 |nil=>rfl
 |cons a L ih=>rw[cR,pW,ih];rfl
theorem KB{w1 w2:WE}{E:Ex->Prop}{x:D}{k1 k2:Nat}(e:ρ[i]? = some (.ow xs))(hv:∀P:D->Prop,P (.tup [x,y])->wv E ρ P)(h1:∀P:D->Prop,P (.int k1)->w1 E ρ P)(h2:∀P:D->Prop,P (.int k2)->w2 E (ρ.set i (.ow (xs.set k1 x))) P)
  (l1:k1<xs.length) (l2:k2<xs.length) (h:N.nx (ρ.set i (.ow ((xs.set k1 x).set k2 y)))):qO i wv w1 w2 E N ρ:=by
 unfold qO;rw[e];exact hv _ (h1 _ ⟨k1,BL l1,h2 _ ⟨k2,BL l2,h⟩⟩)
theorem KC:Rd BG BJ Zei:=by
 rintro _ E Q ⟨t,rfl,⟨h,h5⟩,q⟩;dsimp only at h h5 q;generalize hn:t.length=n at h h5;unfold fH at q;rw[hn] at q;show BJ E _ [.d (p9 t),.un,.un,.un,.un,.un,.un];unfold BJ;refine cO ?_;unfold p9;walk_at "st";refine jX (g:=bT) (f:=bT) t (λr hr Q hq=>?_) .un [] (by simp[aM];omega) ?_
 .unfold bT
  walk_at "st";exact hq
 rw[dI];walk_at "nx";walk_at "nx";refine cO ?_;simp only[bB,bD];walk_at "st";refine⟨rfl,by omega,by rw[bC];omega,?_⟩;rw[bC,hn];refine Zk (λa ρ=>∃x s4 s5 s6,cY t a=some x/\ρ=[.d (.lst (t.map bT)),.ow (x.t.map bT),.d (.int x.s),.d (.int x.l),s4,s5,s6]) n ?_ ?_ _ ⟨⟨t,1,1⟩,_,_,_,rfl,rfl⟩
 rotate_left
 .rintro _ ⟨x,s4,s5,s6,ex,rfl⟩
  rw[ex] at q;have o:=BE h (by decide) (cB _) ex;walk_at "st";refine⟨⟨?_,qa o.l (fQ (BK (c:=10) h5) (by decide))⟩,q⟩;rcases o.s with z|z<;>rw[z]<;>exact qa (b:=1) (by decide) (by decide)
 rintro a ha _ ⟨x,s4,s5,s6,ex,rfl⟩ nx hnx;have o:=BE h (by decide) (by omega) ex;have xl:=o.t.len;show aG _ _ _ _ [.d (.lst (t.map bT)),.ow (x.t.map bT),.d (.int x.s),.d (.int x.l),.d (.int a),s5,s6];have hl:(x.t.map bT).length=n:=by rw[bC];exact xl
 refine cO (own_by (xs:=(gH x.t a).map λ(k:Nat)=>D.int (k:Int)) (ρ':=[.d (.lst (t.map bT)),.ow (x.t.map bT),.d (.int x.s),.d (.int x.l),.d (.int a),.ow ((gH x.t a).map λ(k:Nat)=>D.int (k:Int)),s6]) (by rfl) (λP hP=>?_) ?_)
 .walk_at "st"
  rw[bC,xl];refine⟨by omega,?_⟩;have el:rng (a:Int) ((n:Int)-(a:Int)).toNat=((List.range (n-a)).map (a + ·)).map λ(k:Nat)=>D.int (k:Int):=by
   unfold rng;rw[List.map_map,show((n:Int)-(a:Int)).toNat=n-a by omega];exact h9 λk _=>by simp
  rw[el];refine yN (p:=λk=>ga (gr x.t k) a != 0) _ (λk hk P hP=>?_) .un [] (by simp[aM];omega) ?_
  .obtain⟨k',hk',rfl⟩:=YbQ.mp hk
   rw[Yah] at hk';walk_at "st";refine⟨_,t7 (by omega) rfl,?_⟩;refine t0 (k:=a) (by rw[(o.t.gr (k:=a+k') (by omega)).2.1];exact ha) rfl ?_;walk_at "st";exact hP
  .rw[dI]
   refine⟨KA _,?_⟩;unfold gH at hP;rw[xl] at hP;exact hP
 have bb:mV 10 a<=175:=by
  have:a<=4:=by omega
  exact fQ (BK this) (by decide)
 dsimp only;refine pub_by (ρ':=[.d (.lst (t.map bT)),.ow (x.t.map bT),.d (.int x.s),.d (.int x.l),.d (.int a),.d (.lst ((gH x.t a).map λ(k:Nat)=>D.int (k:Int))),s6]) rfl ?_;have er:cY t (a+1)=f9 a x:=by rw[cY,ex];rfl
 cases eg:gH x.t a with
 |nil=>
  have:cY t n=none:=by
   have z:cY t (a+1)=none:=by rw[er];unfold f9;rw[eg]
   have:=Fa z (n-(a+1));rw[show a+1+(n-(a+1))=n by omega] at this;exact this
  rw[this] at q;refine cO (gi (b:=true) (λP hP=>?_) (λ_=>q) λe=>nomatch e);walk_at "st";exact⟨by decide,pX (by decide +kernel) hP⟩
 |cons g gs=>
 obtain⟨g1,g2,g3⟩:=BD o.t (g:=g) (by rw[eg];simp);generalize hG:(List.map (λ(k:Nat)=>D.int (k:Int)) (g::gs))=G;have hGa:eX G 0=some (.int g):=by rw[<-hG];exact bY (j:=0) rfl
 refine cO (gi (b:=false) (λP hP=>?_) (λe=>nomatch e) λ_=>?_)
 .walk_at "st"
  refine⟨by decide,?_⟩;rw[<-hG];refine jq (DH _ (n:=1) (by decide) (yc λd hd=>?_)) (by decide +kernel) ?_
  .obtain⟨k,_,rfl⟩:=YbQ.mp hd
   exact Jf _ _
  .have:fE (.lst (List.map (λ(k:Nat)=>D.int (k:Int)) (g::gs))) (.lst [])=false:=by
    unfold fE;rw[cR,pd,pd,PyData.eqv,fP,fP,PyData.eqvAll]
   rw[this];exact hP
 dsimp only;refine pub_by (ρ':=[.d (.lst (t.map bT)),.ow (x.t.map bT),.d (.int x.s),.d (.int x.l),.d (.int a),.d (.lst G),s6]) rfl ?_;refine cO ?_;have hsw:((x.t.map bT).set a (bT (gr x.t g))).set g (bT (gr x.t a))=(c8 x.t a g).map bT:=by unfold c8;rw[xw,xw]
 have w:=BB o.t ha g2;have wl:=w.len;have pre:qO 1 (aX (aC (c7 1 (w2 gIx (wN 5) (wC (D.int (0))))) (aC (c7 1 (wN 4)) aA))) (wN 4) (w2 gIx (wN 5) (wC (D.int (0))))=qO 1 (aX (aC (c7 1 (w2 gIx (wN 5) (wC (D.int (0))))) (aC (c7 1 (wN 4)) aA))) (wN 4) (w2 gIx (wN 5) (wC (D.int (0)))):=rfl;clear pre;generalize ht1:c8 x.t a g=t1 at hsw w wl;refine KB (xs:=x.t.map bT) (x:=bT (gr x.t g)) (y:=bT (gr x.t a)) (k1:=a) (k2:=g) rfl (λP hP=>?_) (λP hP=>hP) (λP hP=>⟨_,hGa,hP⟩) (by rw[hl];exact ha) (by rw[hl];exact g2) ?_
 .refine⟨_,hGa,_,t7 (by omega) rfl,_,t7 (by omega) rfl,show 2<=aM by decide,hP⟩
 rw[hsw];dsimp only;refine pub_by (ρ':=[.d (.lst (t.map bT)),.ow (t1.map bT),.d (.int x.s),.d (.int x.l),.d (.int a),.d (.lst G),s6]) rfl ?_;generalize hs':x.s*(1-2*(if g=a then(0:Int) else 1))=s';refine cO (B.set_by (d:=.int s') (ρ':=[.d (.lst (t.map bT)),.ow (t1.map bT),.d (.int s'),.d (.int x.l),.d (.int a),.d (.lst G),s6]) (by rfl) (λP hP=>?_) ?_)
 .walk_at "st"
  refine⟨_,hGa,?_⟩;walk_at "st";have e1:(if(!((g:Int)==(a:Int)))=true then(1:Int) else 0)=if g=a then 0 else 1:=by
   by_cases z:g=a
   .subst z;simp
   .rw[if_neg z]
    have:((g:Int)==(a:Int))=false:=by rw[beq_eq_false_iff_ne];omega
    rw[this];rfl
  rw[e1,hs'];refine⟨⟨?_,?_⟩,⟨?_,?_⟩,hP⟩
  all_goals first|exact qa (b:=3) (by decide) (by decide)|(split<;>exact qa (b:=3) (by decide) (by decide))|(rcases o.s with z|z<;>rw[z]<;>exact qa (b:=3) (by decide) (by decide))
 dsimp only;refine cO ?_;simp only[bB,bD];walk_at "st";rw[bC,wl];refine⟨rfl,by omega,?_⟩;have e0:t1.map bT=(bQ t1 a (a+1+0) x.l).map bT:=by rw[Ky (by omega)]
 rw[e0];refine Kx ((a:Int)+1) (λk ρ=>∃s6,ρ=[.d (.lst (t.map bT)),.ow ((bQ t1 a (a+1+k) x.l).map bT),.d (.int s'),.d (.int x.l),.d (.int a),.d (.lst G),s6]) _ ?_ ?_ _ ⟨_,rfl⟩
 .rintro k hk _ ⟨s6,rfl⟩ nx2 hnx2
  have hk':a+1+k<n:=by omega
  have r:=yM (k:=a+1+k) w ha o.l0;have rl:=r.len;have nxt:=Kz (t:=t1) (a:=a) (k:=a+1+k) (l:=x.l) (by omega) (by omega);rw[show a+1+(k+1)=a+1+k+1 by omega,nxt] at hnx2;generalize bQ t1 a (a+1+k) x.l=R at r rl hnx2;have b3:2*mV 10 a+1<=223:=by
   have:mV 10 a<=mV 10 3:=BK (by omega);exact fQ (Nat.succ_le_succ (xv 2 this)) (by decide)
  simp only[gN,List.set_cons_succ,List.set_cons_zero];show il _ _ _ _ _ [.d (.lst (t.map bT)),.ow (R.map bT),.d (.int s'),.d (.int x.l),.d (.int a),.d (.lst G),.d (.int ((a:Int)+1+k))];refine⟨_,t7 (t:=R) (k:=a+1+k) (by omega) (by omega),_,t7 (t:=R) (k:=a) (by omega) rfl,?_⟩;have up:∀{y:Int},y.natAbs<2^(2*mV 10 a+1)->y.natAbs<2^223:=λh=>de h (j7 (by decide) b3);refine⟨((gr R (a+1+k),gr R a),a,x.l),rfl,⟨?_,?_,?_,λy hy=>up ((r.gr hk').2.2 y hy),λy hy=>up ((r.gr ha).2.2 y hy),o.l0,de o.l (j7 (by decide) (by omega))⟩,?_⟩
  .show(gr R (a+1+k)).length<=5
   rw[(r.gr hk').2.1];exact h5
  .show(gr R a).length=(gr R (a+1+k)).length
   rw[(r.gr hk').2.1,(r.gr ha).2.1]
  .show a<(gr R (a+1+k)).length
   rw[(r.gr hk').2.1];exact ha
  .refine⟨a+1+k,?_,?_⟩
   .rw[bC,rl,show(a:Int)+1+(k:Int)=((a+1+k:Nat):Int) by omega]
    exact BL hk'
   .rw[xw] at hnx2
    exact hnx2 _ ⟨_,rfl⟩
 .rintro _ ⟨s6,rfl⟩
  rw[show a+1+((n:Int)-((a:Int)+1)).toNat=n by omega];have r:=yM (k:=n) w ha o.l0;have rl:=r.len;have er2:cY t (a+1)=some ⟨bQ t1 a n x.l,s',ga (gr (bQ t1 a n x.l) a) a⟩:=by
   rw[er];unfold f9;rw[eg];show some (St3.mk (bQ (c8 x.t a g) a (c8 x.t a g).length x.l) _ _)=_;rw[ht1,wl,hs']
  generalize bQ t1 a n x.l=R at r rl er2;dsimp only;refine B.set_by (d:=.int (ga (gr R a) a)) (ρ':=[.d (.lst (t.map bT)),.ow (R.map bT),.d (.int s'),.d (.int (ga (gr R a) a)),.d (.int a),.d (.lst G),s6]) (by rfl) (λP hP=>?_) (hnx _ ⟨_,_,_,_,er2,rfl⟩);walk_at "st";refine⟨_,t7 (t:=R) (k:=a) (by omega) rfl,t0 (k:=a) (by rw[(r.gr ha).2.1];exact ha) rfl ⟨rfl,hP⟩⟩
def Dz:Nat->List Rat->List Rat->Prop
 |_,[],_=>True
 |_,_::_,[]=>True
 |N,x::p,y::q=>∃n m,Sz n x/\Sz m y/\n+m+1<=N/\Dz (N-(n+m+1)) p q
def sL:bF:=fnS (λx:(Bool×Bool)×List Rat×List Rat=>[gE x.1.1 (x.2.1.map aR),gE x.1.2 (x.2.2.map aR)]) (λx=>Dz 8989 x.2.1 x.2.2) λx=>aR (bV x.2.1 x.2.2)
section
variable{E:Ex->Prop}{f:List Rat}{a x y:Rat}
end
abbrev ZiF:List Str:=["_law_one", "_law_other", "_law_top", "_law_bottom", "_law_left", "_law_right"]
def Fb:WS:=(aG (aQ 2 (wC (D.int (0)))) (aG (aQ 3 (wC (D.int (1)))) (aG (bB (bD (iZ (aC (wN 0) (aC (wN 1) aA))) (dF 2 (cI (gN 4) (cI (gN 5) dE))) (aG (aQ 2 (w2 gAdd (w2 gMul (w2 gMul (wN 2) (w2 gIx (wN 4) (wC (D.int (1))))) (w2 gIx (wN 5) (wC (D.int (1))))) (w2 gMul (w2 gMul (w2 gIx (wN 4) (wC (D.int (0)))) (w2 gIx (wN 5) (wC (D.int (0))))) (wN 3)))) (aQ 3 (w2 gMul (w2 gMul (wN 3) (w2 gIx (wN 4) (wC (D.int (1))))) (w2 gIx (wN 5) (wC (D.int (1))))))))) (aK (wF tV (aC (wN 2) (aC (wN 3) aA)))))))
theorem Bm{a b:Int}{E:Ex->Prop}(h:b≠0)(h':Bd b)(q:Q (aR (Rat.divInt a b))):tV [.int a,.int b] E Q:=⟨(a,b),rfl,⟨h,h'⟩,q⟩
def sgn(i j:Nat):Int:=1-2*(((i:Int)+j)%2)
end B.C
section
variable{s:Shared}{W:Wd}
end
section
def Zpv:List D->(D->Prop)->Prop:=λds Q=>∃x p,ds=[x]/\Bx x=some p/\p.showable=true/\p.depth<=32/\p.shown.length<=sizeLine/\Q (.str p.shown)
theorem Zpv.mono:∀ds P P',(∀d,P d->P' d)->Zpv ds P->Zpv ds P':=λds P P' hp ⟨x,p,h1,h2,h3,h5,h6,h7⟩=>⟨x,p,h1,h2,h3,h5,h6,hp _ h7⟩
end
def gI(x:D):Bool:=decide ((sI x).reverse=sI x)
def KD(x:D):Except Str D:=hJ x (.ok (.bl (gI x)))
def BM(s:List Int)(n:Nat)(y z:D):Except Str D:=if fZ n y=true/\fZ n z=true then .ok (aR (bV (rQ y) (bK s n (rQ z)))) else .error "NoRow"
def BN(x y z:D):Except Str D:=hJ x (if gI x=true then BM (sI x) (sN x) y z else .error "NotEven")
def BO:bF:=xS (λx:D=>[x]) (λx=>kd x=true) KD
def sM:bF:=xS (λx:D=>[x]) (λx=>kd x=true) λx=>hJ x (if gI x=true then .ok .non else .error "NotEven")
def mW:bF:=xS (λx:D×D×D=>[x.1,x.2.1,x.2.2]) (λx=>kd x.1=true/\kd x.2.1=true/\kd x.2.2=true/\eu 170 x.2.1=true/\eu 170 x.2.2=true) λx=>BN x.1 x.2.1 x.2.2
namespace B
section
variable{E:Ex->Prop}{x z:D}{p:List Rat}
end
end B
abbrev Zkg:List Str:=["slants"]
def Fc:WS:=(aK (w2 (gEq false) (wF yo (aC (wN 0) aA)) (wN 0)))
abbrev ZhX:List Str:=["slants"]
def Zh:WS:=(cE (aW (wT (wF BO (aC (wN 0) aA)))) (iN (PySem.Str.ofString "NotEven")) cF)
abbrev Zke:List Str:=["slants", "one", "other"]
def Fd:WS:=(aG (gO (wF sM (aC (wN 0) aA))) (aG (cE (aW (wT (wF sB (aC (wN 0) (aC (wN 1) aA))))) (iN (PySem.Str.ofString "NoRow")) cF) (aK (wF vo (aC (wN 1) (aC (wF vp (aC (wN 0) (aC (wN 2) aA))) aA))))))
theorem BP(a b:List Int):fE (aO a) (aO b)=decide (a=b):=by
 unfold fE aO;rw[pd,pd,PyData.eqv]
 induction a generalizing b with
 |nil=>cases b<;>simp[fP,PyData.eqvAll]
 |cons x a ih=>
  cases b with
  |nil=>simp[fP,PyData.eqvAll]
  |cons y b=>
   rw[cR,cR,fP,fP,PyData.eqvAll,ih b,pd,pd,PyData.eqv,o7];simp
theorem KG(h:IsSl s n)(hm:∀x∈r,Sz m x):∀x∈bK s n r,Sz (5*(6+m+1)+1) x:=by
 intro x hx;unfold bK at hx;obtain⟨line,hl,rfl⟩:=YbQ.mp hx;obtain⟨h1,h2⟩:=lj h line hl;refine Eu _ _ (λx hx=>?_) hm (by unfold cX;rw[bC,h1];exact h.n5);obtain⟨i,hi,rfl⟩:=YbQ.mp hx;exact yz (h2 i hi)
theorem BQ{p:List Rat}(h:IsSl s n)(hp:p.length=n)(h1:∀x∈p,Sz 170 x)(h2:∀x∈r,Sz 170 x):BR p (bK s n r):=by
 refine⟨170,_,h1,KG h h2,?_⟩;rw[hp];have h5:=h.n5;have:n*(170+(5*(6+170+1)+1)+1)<=5*(170+(5*(6+170+1)+1)+1):=lG _ h5;omega
theorem KH:Rd BO Fc Zkg:=by
 rintro _ E Q ⟨x,rfl,hk,q⟩;unfold Fc;walk_at "st";cases e:gh x with
 |false=>exact xS.err x rfl hk (pZ e) (oR e q)
 |true=>
  obtain⟨s,n,rfl,h⟩:=qL e;refine Jp h (jq (tO _ 59) (tO _ 59) ?_);replace q:=oS h q;unfold gI at q;rw[gF] at q;simp only[dO,if_false];rw[BP];exact q
theorem KI:Rd sM Zh ZhX:=by
 rintro _ E Q ⟨x,rfl,hk,q⟩;unfold Zh;walk_at "st";cases e:gh x with
 |false=>exact xS.err x rfl hk (pZ e) (oR e q)
 |true=>
  obtain⟨s,n,rfl,h⟩:=qL e;replace q:=oS h q;refine xS.ok (aO s) rfl hk (im h) ?_;walk_at "st";cases ev:gI (aO s) with
  |true=>rw[ev] at q;simpa[exQ] using q
  |false=>rw[ev] at q;simpa[exQ] using q
theorem KJ:Rd mW Fd Zke:=by
 rintro _ E Q ⟨⟨x,y,z⟩,rfl,⟨hk,hk1,hk2,hs1,hs2⟩,q⟩;dsimp only at hk hk1 hk2 hs1 hs2 q;unfold Fd;walk_at "nx";cases e:gh x with
 |false=>exact xS.err x rfl hk (pZ e) (oR e q)
 |true=>
 obtain⟨s,n,rfl,h⟩:=qL e;replace q:=oS h q;cases ev:gI (aO s) with
 |false=>
  rw[ev] at q;exact xS.err (aO s) rfl hk (by(try dsimp only);rw[im h,ev];rfl) q
 |true=>
 rw[ev,gF,h.sN] at q;simp only[if_true] at q;refine xS.ok (aO s) rfl hk (v:=.non) (by(try dsimp only);rw[im h,ev];rfl) ?_;walk_at "nx";refine Ba h hk1 ?_;walk_at "st";unfold BM at q;cases e1:fZ n y with
 |false=>rw[e1] at q;simpa[exQ] using q
 |true=>
 obtain⟨p,rfl,hp'⟩:=yq e1;have hp:p.length=n:=by omega
 simp only[eT,dO,if_false];rw[e1] at q;cases e2:fZ n z with
 |false=>
  rw[e2] at q;exact xS.err (aO s,z) rfl ⟨hk,hk2,λr er=>⟨170,Zc3.mp (by rw[<-er];exact hs2),by decide⟩⟩ (by(try dsimp only);rw[im h,h.sN,e2];rfl) (by simpa[exQ] using q)
 |true=>
 obtain⟨r,rfl,hr'⟩:=yq e2;have hr:r.length=n:=by omega
 rw[e2,p6,p6] at q;refine DX h hr ⟨170,Zc3.mp hs2,by decide⟩ (DS (BQ h hp (Zc3.mp hs1) (Zc3.mp hs2)) ?_);simpa[exQ] using q
namespace B.C.Q0
mutual
def fx:D->List Nat->Bool
 |.non,_=>true
 |.bl _,_=>true
 |.int i,_=>decide (i.natAbs<2^115)
 |.str x,_=>decide (x.cps.size<=4)&&x.cps.toList.all λc=>decide (c<16^8)
 |.dic,_=>true
 |.tup _,[]=>false
 |.lst _,[]=>false
 |.tup xs,w::ws=>decide (xs.length<=w)&&vJ xs ws
 |.lst xs,w::ws=>decide (xs.length<=w)&&vJ xs ws
 |.pen,_=>false
 |.cls _,_=>false
 |.exc _,_=>false
 |.ty _,_=>false
 |.scr _,_=>false
def vJ:List D->List Nat->Bool
 |[],_=>true
 |x::r,ws=>fx x ws&&vJ r ws
end
mutual
theorem BT:∀(x:D) (ws:List Nat),(∀w∈ws,w<=5000)->fx x ws=true->kd x=true/\eu 115 x=true
 |.non,_,_,_=>⟨by rw[kd],by rw[eu]<;>simp⟩
 |.bl _,_,_,_=>⟨by rw[kd],by rw[eu]<;>simp⟩
 |.int _,_,_,h=>⟨by rw[kd],by rw[fx] at h;rw[eu];exact h⟩
 |.str _,_,_,_=>⟨by rw[kd],by rw[eu]<;>simp⟩
 |.dic,_,_,_=>⟨by rw[kd],by rw[eu]<;>simp⟩
 |.tup xs,[],_,h=>by rw[fx] at h;cases h
 |.lst xs,[],_,h=>by rw[fx] at h;cases h
 |.tup xs,w::ws,hw,h=>by
  rw[fx,c6,Nt] at h;have a:=BU xs ws (λw h=>hw w (gR _ h)) h.2;have:=hw w (ju ..);exact⟨by rw[kd,c6,Nt];exact⟨by omega,a.1⟩,by rw[eu];exact a.2⟩
 |.lst xs,w::ws,hw,h=>by
  rw[fx,c6,Nt] at h;have a:=BU xs ws (λw h=>hw w (gR _ h)) h.2;have:=hw w (ju ..);exact⟨by rw[kd,c6,Nt];exact⟨by omega,a.1⟩,by rw[eu];exact a.2⟩
 |.pen,n,_,h=>by rw[fx] at h;cases h
 |.cls _,n,_,h=>by rw[fx] at h;cases h
 |.exc _,n,_,h=>by rw[fx] at h;cases h
 |.ty _,n,_,h=>by rw[fx] at h;cases h
 |.scr _,n,_,h=>by rw[fx] at h;cases h
theorem BU:∀(xs:List D) (ws:List Nat),(∀w∈ws,w<=5000)->vJ xs ws=true->n9 xs=true/\dR 115 xs=true
 |[],_,_,_=>⟨by rw[n9],by rw[dR]⟩
 |x::r,n,hw,h=>by
  rw[vJ,c6] at h;have a:=BT x n hw h.1;have b:=BU r n hw h.2;exact⟨by rw[n9,a.1,b.1];rfl,by rw[dR,a.2,b.2];rfl⟩
end
end B.C.Q0
namespace B.C
mutual
def bx(b:Nat):D->Nat->Bool
 |.non,_=>true
 |.bl _,_=>true
 |.int i,_=>decide (i.natAbs<2^300)
 |.str x,_=>decide (x.cps.size<=4)&&x.cps.toList.all λc=>decide (c<16^8)
 |.dic,_=>true
 |.tup xs,n=>decide (0<n)&&decide (xs.length<=b)&&oU b xs (n-1)
 |.lst xs,n=>decide (0<n)&&decide (xs.length<=b)&&oU b xs (n-1)
 |.pen,_=>false
 |.cls _,_=>false
 |.exc _,_=>false
 |.ty _,_=>false
 |.scr _,_=>false
def oU(b:Nat):List D->Nat->Bool
 |[],_=>true
 |x::r,n=>bx b x n&&oU b r n
end
theorem Znv{b:Nat}:∀{xs:List D} {n:Nat},oU b xs n=true↔∀x∈xs,bx b x n=true
 |[],_=>by simp[oU]
 |x::r,n=>by rw[oU,c6,Znv];simp
mutual
theorem BV{b:Nat}:∀(x:D) {n m:Nat},n<=m->bx b x n=true->bx b x m=true
 |.non,_,_,_,h=>h
 |.bl _,_,_,_,h=>h
 |.int _,_,_,_,h=>h
 |.str _,_,_,_,h=>h
 |.dic,_,_,_,h=>h
 |.tup xs,n,m,l,h=>by
  rw[bx,c6,c6,Nt,Nt] at h ⊢;exact⟨⟨by omega,h.1.2⟩,BW xs (by omega) h.2⟩
 |.lst xs,n,m,l,h=>by
  rw[bx,c6,c6,Nt,Nt] at h ⊢;exact⟨⟨by omega,h.1.2⟩,BW xs (by omega) h.2⟩
 |.pen,n,_,_,h=>by rw[bx] at h;cases h
 |.cls _,n,_,_,h=>by rw[bx] at h;cases h
 |.exc _,n,_,_,h=>by rw[bx] at h;cases h
 |.ty _,n,_,_,h=>by rw[bx] at h;cases h
 |.scr _,n,_,_,h=>by rw[bx] at h;cases h
theorem BW{b:Nat}:∀(xs:List D) {n m:Nat},n<=m->oU b xs n=true->oU b xs m=true
 |[],_,_,_,_=>by rw[oU]
 |x::r,n,m,l,h=>by
  rw[oU,c6] at h ⊢;exact⟨BV x l h.1,BW r l h.2⟩
end
theorem BX(hl:xs.length<=b)(h:∀x∈xs,bx b x n=true):bx b (.tup xs) (n+1)=true:=by
 rw[bx,Nr hl,Nr (Nat.succ_pos n),Znv.mpr (by simpa using h)];rfl
theorem KK(hb:2<=b)(h:Sz 223 q):bx b (aR q) (n+1)=true:=by
 unfold aR;refine BX hb λx hx=>?_;simp only[Yan,gu,or_false] at hx;have h1:q.num.natAbs<2^300:=wW h.1 (by decide);have h2:(q.den:Int).natAbs<2^300:=wW (by simpa using h.2) (by decide:2^223<2^300);rcases hx with rfl|rfl
 .rw[bx,Nr h1]
 .rw[bx,Nr h2]
theorem Fe(hb:2<=b)(hl:r.length<=b)(h:∀x∈r,Sz 223 x):bx b (aE r) (n+2)=true:=by
 unfold aE;refine BX (by simpa using hl) λx hx=>?_;obtain⟨q,hq,rfl⟩:=YbQ.mp hx;exact KK hb (h q hq)
end B.C
section
variable{pos:Pos}{t:WA}
def sO(Ss:List (Str×bF))(wc:WE)(t:WA):WE:=λE ρ Q=>wc E ρ λd=>∃x∈Ss,d=.cls x.1/\t E ρ λds=>x.2 ds E Q
def sP(X:Cx)(j:Nat)(x:Str×bF):Prop:=∃a k ps,X.mg x.1=some (.ref a)/\iH X.K x.1=some a/\k<=j/\Fp X.prog X.w X.K X.mg X.base k x.1 ps x.2
theorem KM(hr:Room j X.A)(hx:cQ (eQ X.prog X.w) X EX)(hG:∀x∈Ss,sP X j x)(hc:PX X EX c wc)(ha:iY X EX (e::es) t)
  (hcall:eval (.Call c (e::es) [] pos) X.env=(do callWith pos (<-eval c X.env) [] (backTo pos (starEach (e::es) X.env)) (backToKw pos (keywordEach [] X.env))):=by rfl)
  (he:starEach (e::es) X.env=(false,eval e X.env)::starEach es X.env:=by rfl) (hpl:(backTo pos (starEach es X.env)).any (·.1)=false:=by rfl) :
  PX X EX (.Call c (e::es) [] pos) (sO Ss wc t):=by
 obtain⟨tc,pc,kc⟩:=hc.t;obtain⟨ta,pa,ka⟩:=ha.t;refine⟨⟨_,IH hx pc pa hcall he hpl,λW0 H0 W σ H ρ E Q s eo h=>?_⟩,λE ρ P P' hp z=>hc.mono _ _ _ _ (λd ⟨x,hm,ed,q⟩=>⟨x,hm,ed,ha.mono _ _ _ _ (λds hds=>?_) q⟩) z⟩
 .refine kc W0 H0 W σ H ρ E _ s eo (hc.mono _ _ _ _ (λd ⟨x,hm,ed,q⟩ v W1 H1 x1 r1=>?_) h)
  subst ed;obtain⟨a,k,ps,hma,hca,hk,⟨f,fd,F,hmf,kp,hb⟩,mono⟩:=hG x hm;cases r1 with
  |cls ec=>
   rw[hca] at ec;cases ec;rw[hma] at hmf;cases hmf;refine⟨_,k,fd,ps,_,rfl,F,hr.mono hk,kp,hb,ka W0 H0 W1 σ H1 ρ E _ (s.step x1) eo (ha.mono _ _ _ _ (λds hds vs W2 H2 x2 r2=>?_) q)⟩;refine⟨ds,W2,x2.ok,r2,mono _ _ _ _ _ (λex hex W' H' cls dx x' r'=>?_) (λd hd=>RQ.ext hd (x1.trans x2)) hds⟩;exact eo ex W' H' cls dx hex (s.ext.trans ((x1.trans x2).trans x')) r'
 .obtain⟨a,k,ps,_,_,_,G⟩:=hG x hm
  exact G.mono _ _ _ _ _ (λ_ q=>q) hp hds
end
theorem KN:∀x∈([]:List (Str×bF)),sP X j x:=λ_ h=>nomatch h
theorem KO{a:Str×bF}{l:List (Str×bF)}(h:sP X j a)(t:∀x∈l,sP X j x):∀x∈a::l,sP X j x:=λx hx=>(Yan.mp hx).elim (λe=>e▸h) (t x)
section
def gEqS:G2:=λx y Q=>∃a b,x=.str a/\y=.str b/\Q (.bl (a==b))
theorem gEqS.mono:∀x y P P',(∀d,P d->P' d)->gEqS x y P->gEqS x y P':=λx y P P' hp ⟨a,b,h1,h2,h3⟩=>⟨a,b,h1,h2,hp _ h3⟩
end
namespace B.C
section
variable{E:Ex->Prop}{x:D}{f:List Rat}
end
theorem for_seq{g:WG}{E:Ex->Prop}(hw:∀P:D->Prop,P (.lst xs)->w E ρ P)(h:Zbm g zb E N xs ρ):bD (iS w) g zb E N ρ:=hw _ h
theorem pair_at{w1 w2:WE}{E:Ex->Prop}{a b:D}(h1:∀P:D->Prop,P a->w1 E ρ P)(h2:∀P:D->Prop,P b->w2 E ρ P):∀P:D->Prop,P (.tup [a,b])->aX (aC w1 (aC w2 aA)) E ρ P:=λP h=>h1 _ (h2 _ ⟨show 2<=aM by decide,h⟩)
theorem one_at{a b:Int}{E:Ex->Prop}:∀P:D->Prop,P (.tup [.tup [.int a,.int b]])->aX (aC (aX (aC (wC (.int a)) (aC (wC (.int b)) aA))) aA) E ρ P:=λP h=>⟨show 2<=aM by decide,show 1<=aM by decide,h⟩
def okp(d:D):Prop:=∃a b,d=.tup [a,b]/\bx 7 a 3=true/\bx 7 b 3=true/\dl (.tup [a,b])=true
theorem okp.of{a b:D}(h1:bx 7 a 3=true)(h2:bx 7 b 3=true)(h3:dl (.tup [a,b])=true):okp (.tup [a,b]):=⟨a,b,rfl,h1,h2,h3⟩
theorem KP{a b:D}(h1:lm a=true)(h2:mU a=true)(h:dl b=true):dl (.tup [a,b])=true/\dl (.tup [b,a])=true:=by
 refine ⟨E3 ?_,E3 ?_⟩<;>(
  rcases Bool.or_eq_true_iff.mp (show(lm b||mU b)=true from h) with e|e
  .refine .inl λx hx=>?_
   simp only[Yan,gu,or_false] at hx;rcases hx with rfl|rfl<;>assumption
  .refine .inr λx hx=>?_
   simp only[Yan,gu,or_false] at hx;rcases hx with rfl|rfl<;>assumption)
theorem KQ(r:List Rat):dl (aE r)=true:=by unfold dl;rw[By];rfl
theorem Ff(h:r.length<=7)(hs:∀x∈r,Sz 223 x):bx 7 (aE r) 3=true:=BV _ (n:=2) (by decide) (Fe (by decide) h hs)
theorem okp.rows{p:List Rat}(h1:p.length<=7)(h2:r.length<=7)(s1:∀x∈p,Sz 223 x)(s2:∀x∈r,Sz 223 x):okp (.tup [aE p,aE r]):=.of (Ff h1 s1) (Ff h2 s2) (KP (By _) (EQ _) (KQ _)).1
set_option maxHeartbeats 2000000 in
theorem KR:Rd sL Fb ZiF:=by
 rintro _ E Q ⟨⟨⟨b1,b2⟩,p,q⟩,rfl,hd,h⟩;dsimp only at hd h;obtain⟨N0,hN0,hd⟩:∃N,N<8990/\Dz N p q:=⟨8989,by decide,hd⟩
 unfold Fb;have key:∀(p' q':List Rat) (t b:Int) (sv sv':SV) (j:Nat),Dz (N0-j) p' q'->t.natAbs<=2^j->b.natAbs<=2^j->b≠0->j<=N0->Rat.divInt t b+bV p' q'=bV p q->
   Zbm (dF 2 (cI (gN 4) (cI (gN 5) dE))) (aG (aQ 2 (w2 gAdd (w2 gMul (w2 gMul (wN 2) (w2 gIx (wN 4) (wC (D.int (1))))) (w2 gIx (wN 5) (wC (D.int (1))))) (w2 gMul (w2 gMul (w2 gIx (wN 4) (wC (D.int (0)))) (w2 gIx (wN 5) (wC (D.int (0))))) (wN 3)))) (aQ 3 (w2 gMul (w2 gMul (wN 3) (w2 gIx (wN 4) (wC (D.int (1))))) (w2 gIx (wN 5) (wC (D.int (1)))))))
    No { nx:=aK (wF tV (aC (wN 2) (aC (wN 3) aA))) E { nx:=λ_=>Q .non,rt:=Q },rt:=Q,bk:=λ_=>False,ct:=λ_=>False }
    (cW (p'.map aR) (q'.map aR)) [.d (gE b1 (p.map aR)),.d (gE b2 (q.map aR)),.d (.int t),.d (.int b),sv,sv']:=by
  intro p'
  induction p' with
  |nil=>
   intro q' t b sv sv' j _ h3 h4 h5 h6 he;rw[bV,j9] at he;simp only[cW,gL,List.zipWith_nil_left,Zbm];walk_at "st";exact Bm h5 (B.bd_le h4 (by omega)) (by rw[he];exact h)
  |cons x p' ih=>
   intro q' t b sv sv' j hz h3 h4 h5 h6 he;cases q' with
   |nil=>
    rw[bV,j9] at he;simp only[cW,gL,List.zipWith_nil_right,Zbm];walk_at "st";exact Bm h5 (B.bd_le h4 (by omega)) (by rw[he];exact h)
   |cons y q'=>
    obtain⟨n,m,hx,hy,hnm,hz'⟩:=hz;simp only[cW,cR,z8,Zbm];refine⟨rfl,?_⟩;walk_at "st";walk_at "nx";have xd:((x.den:Int)).natAbs<=2^n:=by simpa using ge hx.2
    have yd:((y.den:Int)).natAbs<=2^m:=by simpa using ge hy.2
    have xn:x.num.natAbs<=2^n:=ge hx.1;have yn:y.num.natAbs<=2^m:=ge hy.1;have mm:∀{i k:Int} {c d:Nat},i.natAbs<=2^c->k.natAbs<=2^d->(i*k).natAbs<=2^(c+d):=λh h'=>by
     rw[d9,jH];exact i8 h h'
    have t1:=mm h3 xd;have t2:=mm t1 yd;have t3:=mm xn yn;have t4:=mm t3 h4;have t5:=mm h4 xd;have t6:=mm t5 yd;refine fi ⟨⟨B.bd_le h3 (by omega),B.bd_le xd (by omega)⟩,fi ⟨⟨B.bd_le t1 (by omega),B.bd_le yd (by omega)⟩,oQ (oQ ⟨⟨B.bd_le xn (by omega),B.bd_le yn (by omega)⟩,⟨⟨B.bd_le t3 (by omega),B.bd_le h4 (by omega)⟩,?_⟩⟩)⟩⟩;walk_at "st";refine fi ⟨⟨B.bd_le h4 (by omega),B.bd_le xd (by omega)⟩,fi ⟨⟨B.bd_le t5 (by omega),B.bd_le yd (by omega)⟩,?_⟩⟩;refine ih q' _ _ _ _ (j+(n+m+1)) (by rw[Nat.sub_add_eq];exact hz') ?_ ?_ ?_ (by omega) ?_
    .refine fQ (qi _ _) ?_
     rw[show j+(n+m+1)=(j+n+m)+1 by omega,qU];have t4':(x.num*y.num*b).natAbs<=2^(j+n+m):=by rw[show j+n+m=n+m+j by omega];exact t4
     omega
    .exact fQ t6 (j7 (by decide) (by omega))
    .exact jI (jI h5 (by have:=x.den_nz;omega)) (by have:=y.den_nz;omega)
    .rw[B.dot_step h5,Rat.add_assoc]
     rw[bV] at he;exact he
 walk_at "nx";walk_at "nx";have k:=key p q 0 1 .un .un 0 hd (by simp) (by simp) (by decide) (by omega) (by rw[uk,Rat.zero_add]);cases b1<;>cases b2<;>exact k
def Fg:bF:=su
abbrev Zbo:List Str:=["_law_thing"]
def yJ:WS:=(aG (cE (dC (aW (wT (wB gIs (aC (wN 0) (aC (wC (.ty "tuple")) aA))))) (dC (wT (w2 (gEq true) (wB bL (aC (wN 0) aA)) (wC (D.int (2))))) (dC (aW (wT (wF Fg (aC (w2 gIx (wN 0) (wC (D.int (0)))) aA)))) (aW (wT (wF Fg (aC (w2 gIx (wN 0) (wC (D.int (1)))) aA))))))) (aK (wC (D.bl false))) cF) (aK (fo (w2 jo (w2 gIx (wN 0) (wC (D.int (1)))) (wC (D.int (0)))) (w2 (gEq false) (wF tX (aC (w2 gIx (wN 0) (wC (D.int (0)))) (aC (w2 gIx (wN 0) (wC (D.int (1)))) aA))) (wC (D.int (1)))))))
theorem rd__law_share_like:Rd tY yJ Zbo:=B.rd__law_share_like
end B.C
def yO:bF:=fnS (λx:Nat×Nat=>[.int x.1,.int x.2]) (λx=>x.2<=5) λx=>aE (bP x.2 x.1)
section
variable{E:Ex->Prop}{x:D}
theorem KS(h:n<=5)(q:Q (aE (bP n k))):yO [.int k,.int n] E Q:=⟨(k,n),rfl,h,q⟩
end
theorem BY{α:Type}[DecidableEq α]{f:α->D}(h:∀a b,fE (f a) (f b)=decide (a=b)):∀xs ys:List α,PyData.eqvAll (fP (xs.map f)) (fP (ys.map f))=decide (xs=ys)
 |[],[]=>by simp[fP,PyData.eqvAll]
 |[],_::_=>by simp[fP,PyData.eqvAll]
 |_::_,[]=>by simp[fP,PyData.eqvAll]
 |x::xs,y::ys=>by
  have:=h x y;unfold fE at this;rw[cR,cR,fP,fP,PyData.eqvAll,this,BY h xs ys,o7];simp
theorem KU{α:Type}[DecidableEq α]{f:α->D}(h:∀a b,fE (f a) (f b)=decide (a=b))(xs ys:List α):fE (.tup (xs.map f)) (.tup (ys.map f))=decide (xs=ys):=by
 unfold fE;rw[pd,pd,PyData.eqv,BY h]
theorem KW{α:Type}[DecidableEq α]{f:α->D}(h:∀a b,fE (f a) (f b)=decide (a=b))(xs ys:List α):fE (.lst (xs.map f)) (.lst (ys.map f))=decide (xs=ys):=by
 unfold fE;rw[pd,pd,PyData.eqv,BY h]
theorem Fh(a b:List Rat):fE (aE a) (aE b)=decide (a=b):=KU vI a b
namespace B.C.E
section
variable{E:Ex->Prop}{x:D}{S T:List (List Rat)}
end
end B.C.E
abbrev ZlO:List Str:=["place", "many"]
def Fi:WS:=(aK (wF vn (aC (wL (aLC (fO (aC (wN 1) aA)) 1 [0] (gN 0) cV (wB fW (aC (w2 (gEq false) (wN 0) (wN 1)) aA)))) aA)))
theorem kE(n k:Nat):(bP n k).length=n:=by unfold bP;rw[bC,iX]
theorem KY(n k:Nat):cX ((List.range n).map λi:Nat=>if(i:Int)=(k:Int) then(1:Int) else 0)=bP n k:=by
 unfold cX bP;rw[List.map_map];refine h9 λi _=>?_;show(((if(i:Int)=(k:Int) then(1:Int) else 0):Int):Rat)=_
 by_cases e:i=k
 .rw[if_pos (by omega),if_pos e];rfl
 .rw[if_neg (by omega),if_neg e];rfl
theorem KZ:Rd yO Fi ZlO:=by
 rintro _ E Q ⟨⟨k,n⟩,rfl,h,q⟩;dsimp only at h q;unfold Fi;walk_at "st";refine⟨by omega,by omega,?_⟩;rw[p7];refine jX (g:=λi:Nat=>D.int (i:Int)) (f:=λi:Nat=>D.int (if(i:Int)=(k:Int) then 1 else 0)) (List.range n) (λi hi Q hq=>?_) .un [] (by simp[aM];omega) ?_
 .walk_at "st"
  by_cases e:(i:Int)=(k:Int)
  .rw[if_pos e] at hq
   simpa[e] using hq
  .rw[if_neg e] at hq
   simpa[e] using hq
 .have:=DR (E:=E) (Q:=Q) (xs:=(List.range n).map λi:Nat=>if(i:Int)=(k:Int) then(1:Int) else 0) (by simp;omega) (by rw[KY];exact q)
  unfold bT at this;rw[List.map_map] at this;exact this
def aV(a:List Rat)(s:Rat)(c:List Rat):List Rat:=List.zipWith (λl r=>l-s*r) a c
def ez(a:List Rat)(s:Rat):List Rat:=a.map λx=>x/s
def dA:List (List Rat)->Nat->Option Nat
 |[],_=>none
 |r::R,p=>if r.getD p 0=0 then(dA R p).map (· + 1) else some 0
def bE(R:List (List Rat))(lead:List Rat)(p:Nat):List (List Rat):=R.map λr=>aV r (r.getD p 0) lead
structure Cl where
 ld:List (List Rat)
 pl:List Nat
 rs:List (List Rat)
def iO(R:List (List Rat))(a p:Nat):List Rat:=ez (R.getD a []) ((R.getD a []).getD p 0)
def qb(p:Nat)(x:Cl):Cl:=match dA x.rs p with
 |none=>x
 |some a=>⟨bE x.ld (iO x.rs a p) p++[iO x.rs a p],x.pl++[p],bE (x.rs.take a++x.rs.drop (a+1)) (iO x.rs a p) p⟩
def cL(R:List (List Rat)):Nat->Cl
 |0=>⟨[],[],R⟩
 |p+1=>qb p (cL R p)
structure Lf(b m:Nat)(row:List Rat):Prop where
 ex:∃(c:List Int) (e:Int),c.length=m/\e≠0/\e.natAbs<2^b/\(∀x∈c,x.natAbs<2^b)/\row=c.map λx=>Rat.divInt x e
theorem Lf.len{row:List Rat}(h:Lf b m row):row.length=m:=by
 obtain⟨c,e,h1,_,_,_,rfl⟩:=h.ex;rw[bC];exact h1
theorem Lf.mono{row:List Rat}(l:b<=b')(h:Lf b m row):Lf b' m row:=by
 obtain⟨c,e,h1,h2,h3,h4,h5⟩:=h.ex;have p:2^b<=2^b':=j7 (by decide) l;exact⟨c,e,h1,h2,de h3 p,λx hx=>de (h4 x hx) p,h5⟩
theorem Lf.sz{row:List Rat}(h:Lf b m row):∀x∈row,Sz b x:=by
 obtain⟨c,e,h1,h2,h3,h4,rfl⟩:=h.ex;intro x hx;obtain⟨y,hy,rfl⟩:=YbQ.mp hx;exact tW h2 (h4 y hy) h3
theorem Lf.int{c:List Int}(hb:0<b)(h:∀x∈c,x.natAbs<2^b):Lf b c.length (cX c):=by
 refine⟨c,1,rfl,by decide,?_,h,?_⟩
 .show 1<2^b
  exact uf (by omega)
 .unfold cX
  exact h9 λx _=>by have:=tE (x:Rat);rw[xh,xj] at this;exact this.symm
theorem BZ{c e:Int}(he:e≠0):Rat.divInt c e≠0↔c≠0:=by
 constructor
 .rintro h rfl
  exact h (uk e)
 .intro h z
  have e1:Rat.divInt c e*Rat.divInt e c=1:=by
   rw[o8,o9 e c];have:=tG (n:=1) (d:=1) (jI h he);rw[tD] at this;rw[this];rfl
  rw[z,fS] at e1;exact Nq e1 (by decide)
theorem Lf.norm{p:Nat}{row:List Rat}(h:Lf b m row)(hp:p<m)(h0:row.getD p 0≠0):Lf b m (ez row (row.getD p 0)):=by
 obtain⟨c,e,h1,h2,h3,h4,rfl⟩:=h.ex;have hc:c[p]? = some (c.getD p 0):=by rw[aY,bW (by omega)];rfl
 have eg:(c.map λx=>Rat.divInt x e).getD p 0=Rat.divInt (c.getD p 0) e:=by
  rw[aY,cK,hc];rfl
 rw[eg] at h0 ⊢;have hc0:c.getD p 0≠0:=(BZ h2).mp h0;refine⟨c,c.getD p 0,h1,hc0,h4 _ (h8 hc),h4,?_⟩;unfold ez;rw[List.map_map];refine h9 λx _=>?_;show Rat.divInt x e/(Rat.divInt (c.getD p 0) e)=Rat.divInt x (c.getD p 0);rw[eJ,Rat.inv_divInt,o8 _ _ ,o9 e];exact tG h2
theorem K0{w x y z:Int}(h1:w.natAbs<2^b)(h2:x.natAbs<2^b)(h3:y.natAbs<2^b)(h4:z.natAbs<2^b):(w*x-y*z).natAbs<2^(2*b+1):=by
 have m1:(w*x).natAbs<2^b*2^b:=by rw[d9];exact oG h1 h2
 have m2:(y*z).natAbs<2^b*2^b:=by rw[d9];exact oG h3 h4
 have:=xy (w*x) (y*z);rw[qU,show 2*b=b+b by omega,jH];omega
theorem Lf.less{p:Nat}{row piv:List Rat}(h:Lf b m row)(hq:Lf b m piv)(hp:p<m):Lf (2*b+1) m (aV row (row.getD p 0) piv):=by
 obtain⟨c,e,h1,h2,h3,h4,rfl⟩:=h.ex;obtain⟨d,f,g1,g2,g3,g4,rfl⟩:=hq.ex;have hc:c[p]? = some (c.getD p 0):=by rw[aY,bW (by omega)];rfl
 have eg:(c.map λx=>Rat.divInt x e).getD p 0=Rat.divInt (c.getD p 0) e:=by
  rw[aY,cK,hc];rfl
 rw[eg];have bc:(c.getD p 0).natAbs<2^b:=h4 _ (h8 hc);refine⟨List.zipWith (λx y=>x*f-c.getD p 0*y) c d,e*f,by rw[iV];omega,jI h2 g2,?_,λz hz=>?_,?_⟩
 .rw[d9,qU,show 2*b=b+b by omega,jH]
  have:=oG h3 g3;omega
 .obtain⟨i,hi,e1⟩:=Ybu.mp hz
  rw[oH] at e1;rw[<-e1];exact K0 (h4 _ (gU _)) g3 bc (g4 _ (gU _))
 .unfold aV
  rw[List.zipWith_map,ul];refine congrArg (λg=>List.zipWith g c d) ?_;funext x y;rw[o8,Rat.divInt_sub_divInt _ _ h2 (jI h2 g2)];rw[show x*(e*f)-c.getD p 0*y*e=(x*f-c.getD p 0*y)*e by grind,o9 e (e*f)];exact(tG h2)
def bq(b:Nat):Nat->Nat
 |0=>b
 |k+1=>2*bq b k+1
theorem qc{b:Nat}:∀{k k':Nat},k<=k'->bq b k<=bq b k'
 |k,0,h=>by rw[Ybs.mp h];exact cB _
 |k,k'+1,h=>by
  by_cases e:k=k'+1
  .rw[e];exact cB _
  .have:=qc (b:=b) (k:=k) (k':=k') (by omega)
   rw[bq];omega
theorem oV:∀{R:List (List Rat)} {p a:Nat},dA R p=some a->a<R.length/\(R.getD a []).getD p 0≠0
 |[],_,_,h=>nomatch h
 |r::R,p,a,h=>by
  rw[dA] at h;split at h
  .cases e:dA R p with
   |none=>rw[e] at h;cases h
   |some b=>
    rw[e] at h;have h':b+1=a:=by simpa using h
    subst h';obtain⟨h1,h2⟩:=oV e;exact⟨by simpa using h1,by simpa using h2⟩
  .rename_i h0
   have h':0=a:=by simpa using h
   subst h';exact⟨by simp,by simpa using h0⟩
structure ot(b w p m:Nat)(x:Cl):Prop where
 ld:∀r∈x.ld,Lf (bq b p) w r
 rs:∀r∈x.rs,Lf (bq b p) w r
 ln:x.ld.length+x.rs.length=m
 pl:x.pl.length=x.ld.length
 lt:∀a∈x.pl,a<p
theorem gP{R:List (List Rat)}(h:a<R.length):R.getD a []∈R:=by
 rw[aY,bW h];exact gU _
theorem ip{α:Type}{R:List α}{r:α}(h:r∈R.take a++R.drop (a+1)):r∈R:=by
 rcases Yao.mp h with h|h
 .exact m7 h
 .exact qV h
theorem Fj{w p:Nat}{x:Cl}(h:ot b w p m x)(hp:p<w)(e:dA x.rs p=some a):Lf (bq b p) w (iO x.rs a p):=by
 obtain⟨h1,h2⟩:=oV e;exact(h.rs _ (gP h1)).norm hp h2
theorem K1{w p:Nat}{x:Cl}(h:ot b w p m x)(hp:p<w):ot b w (p+1) m (qb p x):=by
 have up:bq b p<=bq b (p+1):=qc (by omega);unfold qb;split
 .exact⟨λr hr=>(h.ld r hr).mono up,λr hr=>(h.rs r hr).mono up,h.ln,h.pl,λa ha=>xz (h.lt a ha)⟩
 .rename_i a e
  have hl:=Fj h hp e;obtain⟨h1,h2⟩:=oV e;have ln:=h.ln;refine⟨λr hr=>?_,λr hr=>?_,?_,?_,λc hc=>?_⟩
  .rcases Yao.mp hr with hr|hr
   .unfold bE at hr
    obtain⟨r0,hr0,rfl⟩:=YbQ.mp hr;exact(h.ld r0 hr0).less hl hp
   .rw[YcJ.mp hr];exact hl.mono up
  .unfold bE at hr
   obtain⟨r0,hr0,rfl⟩:=YbQ.mp hr;exact(h.rs r0 (ip hr0)).less hl hp
  .show(bE _ _ _++[_]).length+(bE _ _ _).length=m
   unfold bE;simp only[dX,bC,j6,gS,jv];omega
  .show(x.pl++[p]).length=(bE _ _ _++[_]).length
   unfold bE;rw[dX,dX,bC,h.pl];rfl
  .rcases Yao.mp hc with hc|hc
   .exact xz (h.lt c hc)
   .rw[YcJ.mp hc];exact zR p
theorem Fk{b w:Nat}{R:List (List Rat)}(h:∀r∈R,Lf b w r):∀{p:Nat},p<=w->ot b w p R.length (cL R p)
 |0,_=>⟨(λr hr=>by cases hr),h,(by simp[cL]),rfl,(λa ha=>by cases ha)⟩
 |p+1,hp=>K1 (Fk h (by omega)) (by omega)
def bU(R:List (List Rat)):D:=.lst (R.map aE)
def Fm(xs:List Nat):D:=.lst (xs.map λ(k:Nat)=>D.int (k:Int))
def qd:Option Nat->D
 |none=>.non
 |some a=>.int (a:Int)
def Rz(b w:Nat)(R:List (List Rat)):Prop:=∀r∈R,r.length=w/\∀x∈r,Sz b x
def vK:bF:=fnS (λx:Nat×List Rat×Rat=>[aE x.2.1,aR x.2.2]) (λx=>2*x.1<8990/\x.2.1.length<=1000/\(∀y∈x.2.1,Sz x.1 y)/\Sz x.1 x.2.2/\x.2.2≠0) λx=>aE (ez x.2.1 x.2.2)
def oW:bF:=fnS (λx:(Nat×Nat×Nat)×List Rat×Rat×List Rat=>[aE x.2.1,aR x.2.2.1,aE x.2.2.2]) (λx=>x.1.1+x.1.2.1+x.1.2.2<8990/\x.2.1.length<=1000/\(∀y∈x.2.1,Sz x.1.1 y)/\Sz x.1.2.1 x.2.2.1/\∀y∈x.2.2.2,Sz x.1.2.2 y) λx=>aE (aV x.2.1 x.2.2.1 x.2.2.2)
def yP:bF:=fnS (λx:Nat×List (List Rat)=>[bU x.2,.int x.1]) (λx=>x.2.length<=1000/\∀r∈x.2,x.1<r.length) λx=>qd (dA x.2 x.1)
def vL:bF:=fnS (λx:((Nat×Nat)×Nat)×List (List Rat)×List Rat=>[bU x.2.1,aE x.2.2,.int x.1.2]) (λx=>3*x.1.1.1<8990/\x.1.1.2<=1000/\x.2.1.length<=1000/\x.1.2<x.1.1.2/\Rz x.1.1.1 x.1.1.2 x.2.1/\∀y∈x.2.2,Sz x.1.1.1 y) λx=>bU (bE x.2.1 x.2.2 x.1.2)
structure ClIn(b w m:Nat)(R:List (List Rat)):Prop where
 mw:m<=w
 w1:w<=1000
 len:R.length<=1000
 bits:3*bq b (m-1)<8990
 lf:∀r∈R,Lf b w r
structure yQ(w m:Nat)(R:List (List Rat)):Prop where
 mw:m<=w
 w1:w<=1000
 len:R.length<=1000
 ln:∀p,p<m->(cL R p).ld.length+(cL R p).rs.length=R.length/\(cL R p).pl.length=(cL R p).ld.length
 rl:∀p,p<m->∀r∈(cL R p).rs,r.length=w
 st:∀p,p<m->∀a,dA (cL R p).rs p=some a->(∃B,2*B<8990/\∀y∈(cL R p).rs.getD a [],Sz B y)/\(∃B,3*B<8990/\Rz B w (cL R p).ld/\∀y∈iO (cL R p).rs a p,Sz B y)/\∃B,3*B<8990/\Rz B w ((cL R p).rs.take a++(cL R p).rs.drop (a+1))/\∀y∈iO (cL R p).rs a p,Sz B y
theorem ClIn.z{w:Nat}{R:List (List Rat)}(h:ClIn b w m R):yQ w m R:=by
 have mw:=h.mw;have ok:∀p,p<m->ot b w p R.length (cL R p):=λp hp=>Fk h.lf (by omega);refine⟨h.mw,h.w1,h.len,λp hp=>⟨(ok p hp).ln,(ok p hp).pl⟩,λp hp r hr=>((ok p hp).rs r hr).len,λp hp a e=>?_⟩;have o:=ok p hp;obtain⟨a1,a2⟩:=oV e;have hbp:3*bq b p<8990:=by have:=qc (b:=b) (show p<=m-1 by omega);have:=h.bits;omega
 have hlead:=Fj o (show p<w by omega) e;exact⟨⟨bq b p,by omega,(o.rs _ (gP a1)).sz⟩,⟨bq b p,hbp,λr hr=>⟨(o.ld r hr).len,(o.ld r hr).sz⟩,hlead.sz⟩,bq b p,hbp,λr hr=>⟨(o.rs r (ip hr)).len,(o.rs r (ip hr)).sz⟩,hlead.sz⟩
def B0:bF:=fnS (λx:(Nat×Nat)×List (List Rat)=>[bU x.2,.int x.1.2]) (λx=>yQ x.1.1 x.1.2 x.2) λx=>.tup [bU (cL x.2 x.1.2).ld,Fm (cL x.2 x.1.2).pl]
def B4(place n:Nat)(L:List (List Rat))(pl:List Nat):List Rat:=(L.zip pl).foldl (λrow x=>row.set x.2 (0-x.1.getD place 0)) (bP n place)
def kF(s:List Int)(n:Nat):List (List Rat):=(tbl s n).map cX
def sQ(s:List Int)(n:Nat):Cl:=cL (kF s n) n
def Fn(s:List Int)(n:Nat):List (List Rat):=((List.range n).filter λp=>!(sQ s n).pl.contains p).map λp=>B4 p n (sQ s n).ld (sQ s n).pl
section
variable{E:Ex->Prop}{x:D}{w p:Nat}{t lead:List Rat}{R L:List (List Rat)}{pl:List Nat}
theorem Fo(h1:2*b<8990)(h2:r.length<=1000)(h3:∀y∈r,Sz b y)(h4:Sz b q0)(h5:q0≠0)(q:Q (aE (ez r q0))):vK [aE r,aR q0] E Q:=⟨(b,r,q0),rfl,⟨h1,h2,h3,h4,h5⟩,q⟩
theorem Fq{c:Nat}(h0:a+b+c<8990)(h1:r.length<=1000)(h2:∀y∈r,Sz a y)(h3:Sz b q0)(h4:∀y∈t,Sz c y)(q:Q (aE (aV r q0 t))):oW [aE r,aR q0,aE t] E Q:=⟨((a,b,c),r,q0,t),rfl,⟨h0,h1,h2,h3,h4⟩,q⟩
theorem B5(h1:3*b<8990)(h2:r.length<=1000)(h3:∀y∈r,Sz b y)(h4:Sz b q0)(h5:∀y∈t,Sz b y)(q:Q (aE (aV r q0 t))):oW [aE r,aR q0,aE t] E Q:=Fq (a:=b) (b:=b) (c:=b) (by omega) h2 h3 h4 h5 q
theorem K2(h1:R.length<=1000)(h2:∀r∈R,p<r.length)(q:Q (qd (dA R p))):yP [bU R,.int p] E Q:=⟨(p,R),rfl,⟨h1,h2⟩,q⟩
theorem Fs(h1:3*b<8990)(h2:w<=1000)(h3:R.length<=1000)(h4:p<w)(h5:Rz b w R)(h6:∀y∈lead,Sz b y)(q:Q (bU (bE R lead p))):vL [bU R,aE lead,.int p] E Q:=⟨(((b,w),p),R,lead),rfl,⟨h1,h2,h3,h4,h5,h6⟩,q⟩
end
abbrev ZlN:List Str:=["row", "share"]
def B6:WS:=(aK (wB ky (aC (wL (aLC (iS (wN 0)) 1 [1] (gN 0) cV (wF oa (aC (wN 0) (aC (wN 1) aA))))) aA)))
abbrev Ziz:List Str:=["one", "share", "other"]
def B7:WS:=(aK (wB ky (aC (wL (aLC (iZ (aC (wN 0) (aC (wN 2) aA))) 2 [1] (dF 2 (cI (gN 0) (cI (gN 1) dE))) cV (wF tR (aC (wN 0) (aC (wF qJ (aC (wN 2) (aC (wN 1) aA))) aA))))) aA)))
abbrev Zgr:List Str:=["rows", "place", "at", "row"]
def B8:WS:=(aG (bB (bD (iE (aC (wN 0) aA)) (dF 2 (cI (gN 2) (cI (gN 3) dE))) (cE (wT (w2 (gEq true) (w2 gIx (wN 3) (wN 1)) (wC (D.tup [(D.int (0)),(D.int (1))])))) (aK (wN 2)) cF))) (aK (wC D.non)))
abbrev ZeO:List Str:=["rows", "lead", "place"]
def B9:WS:=(aK (wL (aLC (iS (wN 0)) 1 [1,2] (gN 0) cV (wF oW (aC (wN 0) (aC (w2 gIx (wN 0) (wN 2)) (aC (wN 1) aA)))))))
abbrev Zkh:List Str:=["rows", "many", "leading", "places", "rest", "place", "at", "lead"]
def Ca:WS:=(aG (aQ 2 (wL (bN aA))) (aG (bX 3 (bN aA)) (aG (aQ 4 (wL (aB (gC (α:=Unit)) (aC (wN 0) aA)))) (aG (bB (bD (fO (aC (wN 1) aA)) (gN 5) (aG (aQ 6 (wF yP (aC (wN 4) (aC (wN 5) aA)))) (cE (wT (w2 (gIsC true) (wN 6) (wC D.non))) (aG (aQ 7 (wF vK (aC (w2 gIx (wN 4) (wN 6)) (aC (w2 gIx (w2 gIx (wN 4) (wN 6)) (wN 5)) aA)))) (aG (aQ 2 (w2 gAdd (wF vL (aC (wN 2) (aC (wN 7) (aC (wN 5) aA)))) (wL (bN (aC (wN 7) aA))))) (aG (aQ 4 (wF vL (aC (w2 gAdd (cD (wN 4) eG (dU (wN 6))) (cD (wN 4) (dU (w2 gAdd (wN 6) (wC (D.int (1))))) eG)) (aC (wN 7) (aC (wN 5) aA))))) (dj 3 (wN 5))))) cF)))) (bM 3 (aK (aX (aC (wN 2) (aC (wN 3) aA)))))))))
local macro_rules | `(tactic| walk_at "w1")=>`(tactic| simp only [aK,cE,aQ,cF,gO,bM,bX,bD,jC,dL,dQ,dj,il,d6,kC,bB,iN,eO,wM,Zdk,fo,e8,jf,e7,dC,aW,wT,kx,w1,w2,wB,wF,wL,aX,cD,Zb,aB,bN,aC,aA,aLC,ZbQ,cV,iS,iE,iL,iT,fO,i5,iZ,eG,dU,wN,wC,gN,dF,cI,dE,dG,kz,et,dM,fg,dm,c7,ei,fh,aCut,ef,pub,cR,gL,dS,i7,ia,dI,List.replicate,eK,fk,List.set_cons_zero,List.set_cons_succ,Nat.reduceSub,Nat.reduceAdd,gT,j8,true_and,dO,if_true,if_false,ite_true,ite_false,iU,eT,lH,
 lK,lL,lM,lN,lO,lP,lQ,lR,lS,Ze,lT,lU,lV,lW,lX,lY,lZ,l3,l4,l6,l7,l8,md,me,mf,mh,mi,mj,ml,mn,mo,mq,ms,mx,my,mz,mB,mC,mD,mE,mF,mG,mH,mI,mJ,mK,mL,mM,mO,fG,mP,mQ,mR,mS,mT,f6,f7])
theorem K3:Rd vK B6 ZlN:=by
 rintro _ E Q ⟨⟨b,r,q0⟩,rfl,⟨h1,h2,h3,h4,h5⟩,q⟩;dsimp only at h1 h2 h3 h4 h5 q;show B6 E _ [.d (aE r),.d (aR q0)];unfold B6 aE;walk_at "st";refine jX (g:=aR) (f:=λx:Rat=>aR (x/q0)) r (λx hx Q hq=>?_) .un [] (by simp[aM];omega) ?_
 .walk_at "st"
  exact vq (B2.of (h3 x hx) h4 (by omega)) h5 hq
 .walk_at "st"
  unfold aE ez at q;rw[List.map_map] at q;exact q
theorem Ft{we:WE}{tail:cP}{Q:List D->Prop}{f:Rat->Rat->D}:∀(A C:List Rat),(∀x∈A,∀y∈C,∀Q:D->Prop,Q (f x y)->we No (.d (aR x)::.d (aR y)::tail) Q)->∀(sv sv':SV) (acc:List D),acc.length+A.length<=aM->Q (acc++List.zipWith f A C)->lcW (dF 2 (cI (gN 0) (cI (gN 1) dE))) cV we (cW (A.map aR) (C.map aR)) (sv::sv'::tail) acc Q
 |[],C,_,sv,sv',acc,_,hq=>by simpa[lcW,cW] using hq
 |x::A,[],_,sv,sv',acc,_,hq=>by simpa[lcW,cW] using hq
 |x::A,y::C,h,sv,sv',acc,hl,hq=>by
  have e:cW ((x::A).map aR) ((y::C).map aR)=.tup [aR x,aR y]::cW (A.map aR) (C.map aR):=by simp[cW]
  rw[e,lcW];refine⟨rfl,?_⟩;rw[dS] at hl;refine h x (by simp) y (by simp) _ ⟨by omega,Ft A C (λa ha c hc=>h a (by simp[ha]) c (by simp[hc])) _ _ _ (by simp;omega) ?_⟩;rw[mZ];simpa using hq
theorem K6:Rd oW B7 Ziz:=by
 rintro _ E Q ⟨⟨⟨a,b,c⟩,r,q0,t⟩,rfl,⟨h1,h2,h3,h4,h5⟩,q⟩;dsimp only at h1 h2 h3 h4 h5 q;show B7 E _ [.d (aE r),.d (aR q0),.d (aE t)];unfold B7 aE;walk_at "st";refine Ft (f:=λx y=>aR (x-q0*y)) r t (λx hx y hy Q hq=>?_) .un .un [] (by simp[aM];omega) ?_
 .walk_at "st"
  exact DQ (B2.of h4 (h5 y hy) (by omega)) (DP (B2.of (h3 x hx) (h4.mul (h5 y hy)) (by omega)) hq)
 .walk_at "st"
  unfold aE aV at q;rw[ul] at q;exact q
theorem K7(q:Rat):(if true=true then !fE (aR q) (.tup [.int 0,.int 1]) else fE (aR q) (.tup [.int 0,.int 1])) = !decide (q=0):=by
 rw[if_pos rfl,<-yK,vI]
theorem Fu{p:Nat}{Q:D->Prop}{E:Ex->Prop}{N:Nds}{s0:SV}(hN:N.rt=Q):∀(R:List (List Rat)) (k:Nat) (s2 s3:SV),(∀r∈R,p<r.length)->(∀a,dA R p=some a->Q (.int ((k+a:Nat):Int)))->(dA R p=none->∀s2 s3,N.nx [s0,.d (.int p),s2,s3])->Zbm (dF 2 (cI (gN 2) (cI (gN 3) dE))) (cE (wT (w2 (gEq true) (w2 gIx (wN 3) (wN 1)) (wC (D.tup [(D.int (0)),(D.int (1))])))) (aK (wN 2)) cF) E N (f8 k (R.map aE)) [s0,.d (.int p),s2,s3]
 |[],k,s2,s3,_,_,h2=>h2 rfl s2 s3
 |r::R,k,s2,s3,hp,h1,h2=>by
  rw[cR,f8,Zbm];refine⟨rfl,?_⟩;simp only[cI,dE,gN,List.set_cons_succ,List.set_cons_zero];have hr:=hp r (by simp);have e1:(r.map aR)[p]? = some (aR (r.getD p 0)):=by
   rw[cK,aY,bW hr];rfl
  refine gi (b:=!decide (r.getD p 0=0)) (λP hP=>?_) (λe=>?_) λe=>?_
  .unfold aE
   walk_at "st";refine⟨_,bY e1,jq (qI _ 59) (by decide +kernel) ?_⟩;rw[K7];exact hP
  .have e0:¬r.getD p 0=0:=by simpa using e
   have:=h1 0 (by rw[dA,if_neg e0]);rw[<-hN] at this;exact this
  .have e0:r.getD p 0=0:=by simpa using e
   refine Fu hN R (k+1) _ _ (λx hx=>hp x (by simp[hx])) (λa ha=>?_) λhn=>?_
   .have:=h1 (a+1) (by rw[dA,if_pos e0,ha];rfl)
    rw[show k+1+a=k+(a+1) by omega];exact this
   .exact h2 (by rw[dA,if_pos e0,hn];rfl)
theorem La:Rd yP B8 Zgr:=by
 rintro _ E Q ⟨⟨p,R⟩,rfl,⟨h1,h2⟩,q⟩;dsimp only at h1 h2 q;show B8 E _ [.d (bU R),.d (.int p),.un,.un];unfold B8 bU;refine cO ?_;simp only[bB,bD,iE,aC,aA,wN,eK];refine Fu (Q:=Q) rfl R 0 .un .un h2 (λa ha=>?_) λhn s2 s3=>?_
 .rw[ha] at q
  rw[Nat.zero_add];exact q
 .rw[hn] at q
  exact q
theorem Lc:Rd vL B9 ZeO:=by
 rintro _ E Q ⟨⟨⟨⟨b,w⟩,p⟩,R,lead⟩,rfl,⟨h1,h2,h3,h4,h5,h6⟩,q⟩;dsimp only at h1 h2 h3 h4 h5 h6 q;show B9 E _ [.d (bU R),.d (aE lead),.d (.int p)];unfold B9 bU;walk_at "st";refine jX (g:=aE) (f:=λr:List Rat=>aE (aV r (r.getD p 0) lead)) R (λr hr Q hq=>?_) .un [] (by simp[aM];omega) ?_
 .obtain⟨hl,hs⟩:=h5 r hr
  have e0:r[p]? = some (r.getD p 0):=by rw[aY,bW (by omega)];rfl
  have e1:(r.map aR)[p]? = some (aR (r.getD p 0)):=by rw[cK,e0];rfl
  simp only[wF,aC,aA,wN,w2,eK,fk];exact⟨_,bY e1,B5 h1 (by omega) hs (hs _ (h8 e0)) h6 hq⟩
 .unfold bU bE at q
  rw[List.map_map] at q;exact q
theorem iP{E:Ex->Prop}(e:ρ.set i (.d d)=ρ')(hw:∀P:D->Prop,P d->w E ρ P)(h:N.nx ρ'):aQ i w E N ρ:=hw _ (by rw[e];exact h)
theorem sR{E:Ex->Prop}(e:ρ[i]? = some (.ow xs))(hl:xs.length<aM)(e2:ρ.set i (.ow (xs++[d]))=ρ')(hw:∀P:D->Prop,P d->w E ρ P)(h:N.nx ρ'):dj i w E N ρ:=by
 unfold dj;rw[e];exact hw _ ⟨hl,by rw[e2];exact h⟩
theorem Fv{R:List (List Rat)}(h:k<R.length):eX (R.map aE) (k:Int)=some (aE (R.getD k [])):=by
 refine bY ?_;rw[cK,aY,bW h];rfl
theorem Le(h:k<r.length):eX (r.map aR) (k:Int)=some (aR (r.getD k 0)):=by
 refine bY ?_;rw[cK,aY,bW h];rfl
theorem Lg{p:Nat}(h:p<r.length):r.getD p 0∈r:=by
 rw[aY,bW h];exact gU _
theorem Lh:Rd B0 Ca Zkh:=by
 rintro _ E Q ⟨⟨⟨w,m⟩,R⟩,rfl,h,q⟩;dsimp only at h q;obtain⟨mw,w1,hl,hln,hrl,hst⟩:=h;show Ca E _ [.d (bU R),.d (.int m),.un,.un,.un,.un,.un,.un];unfold Ca;refine cO (iP (d:=bU []) (ρ':=[.d (bU R),.d (.int m),.d (bU []),.un,.un,.un,.un,.un]) (by rfl) (λP hP=>⟨by decide,hP⟩) ?_);dsimp only;refine cO (B.C.own_by (xs:=[]) (ρ':=[.d (bU R),.d (.int m),.d (bU []),.ow [],.un,.un,.un,.un]) (by rfl) (λP hP=>⟨by decide,hP⟩) ?_);dsimp only;refine cO (iP (d:=bU R) (ρ':=[.d (bU R),.d (.int m),.d (bU []),.ow [],.d (bU R),.un,.un,.un]) (by rfl) (λP hP=>?_) ?_)
 .unfold bU
  walk_at "st";exact hP
 dsimp only;refine cO ?_;simp only[bB,bD];walk_at "st";refine⟨by omega,by omega,?_⟩;refine Zk (λp ρ=>∃s5 s6 s7,ρ=[.d (bU R),.d (.int m),.d (bU (cL R p).ld),.ow ((cL R p).pl.map λ(k:Nat)=>D.int (k:Int)),.d (bU (cL R p).rs),s5,s6,s7]) m ?_ ?_ _ ⟨_,_,_,rfl⟩
 rotate_left
 .rintro _ ⟨s5,s6,s7,rfl⟩
  dsimp only;refine B.C.pub_by (ρ':=[.d (bU R),.d (.int m),.d (bU (cL R m).ld),.d (Fm (cL R m).pl),.d (bU (cL R m).rs),s5,s6,s7]) rfl ?_;walk_at "st";exact⟨by decide,q⟩
 rintro p hp _ ⟨s5,s6,s7,rfl⟩ nx hnx;obtain⟨ln,lp⟩:=hln p hp;have rl:=hrl p hp;have hst:=hst p hp;rw[show cL R (p+1)=qb p (cL R p) from rfl] at hnx;generalize cL R p=x at ln lp rl hst hnx;show aG _ _ _ _ [.d (bU R),.d (.int m),.d (bU x.ld),.ow (x.pl.map λ(k:Nat)=>D.int (k:Int)),.d (bU x.rs),.d (.int p),s6,s7];refine cO (iP (d:=qd (dA x.rs p)) (ρ':=[.d (bU R),.d (.int m),.d (bU x.ld),.ow (x.pl.map λ(k:Nat)=>D.int (k:Int)),.d (bU x.rs),.d (.int p),.d (qd (dA x.rs p)),s7]) (by rfl) (λP hP=>?_) ?_)
 .simp only[wF,aC,aA,wN,eK,fk]
  exact K2 (by omega) (λr hr=>by rw[rl r hr];omega) hP
 dsimp only;unfold qb at hnx;cases e:dA x.rs p with
 |none=>
  rw[e] at hnx;refine gi (b:=false) (λP hP=>?_) (λe=>nomatch e) λ_=>hnx _ ⟨_,_,_,rfl⟩;walk_at "st";exact⟨rfl,hP⟩
 |some a=>
  rw[e] at hnx;dsimp only at hnx;obtain⟨a1,a2⟩:=oV e;obtain⟨⟨B1,b1,la⟩,⟨B2,b2,ld2,hl2⟩,B3,b3,rs3,hl3⟩:=hst a e;refine gi (b:=true) (λP hP=>?_) (λ_=>?_) λe=>nomatch e
  .walk_at "st"
   exact⟨rfl,hP⟩
  have hpa:p<(x.rs.getD a []).length:=by rw[rl _ (gP a1)];omega
  refine cO (iP (d:=aE (iO x.rs a p)) (ρ':=[.d (bU R),.d (.int m),.d (bU x.ld),.ow (x.pl.map λ(k:Nat)=>D.int (k:Int)),.d (bU x.rs),.d (.int p),.d (.int a),.d (aE (iO x.rs a p))]) (by rfl) (λP hP=>?_) ?_)
  .show wF _ _ No [.d (bU R),.d (.int m),.d (bU x.ld),.ow (x.pl.map λ(k:Nat)=>D.int (k:Int)),.d (.lst (x.rs.map aE)),.d (.int p),.d (.int a),s7] P
   simp only[wF,aC,aA,wN,w2,eK,fk];refine⟨_,Fv a1,_,Fv a1,_,Le hpa,?_⟩;exact Fo (b:=B1) b1 (by rw[rl _ (gP a1)];omega) la (la _ (Lg hpa)) a2 hP
  dsimp only;generalize iO x.rs a p=lead at hl2 hl3 hnx;refine cO (iP (d:=bU (bE x.ld lead p++[lead])) (ρ':=[.d (bU R),.d (.int m),.d (bU (bE x.ld lead p++[lead])),.ow (x.pl.map λ(k:Nat)=>D.int (k:Int)),.d (bU x.rs),.d (.int p),.d (.int a),.d (aE lead)]) (by rfl) (λP hP=>?_) ?_)
  .simp only[wF,aC,aA,wN,w2,wL,bN,eK,fk]
   refine Fs (b:=B2) (w:=w) b2 w1 (by omega) (by omega) ld2 hl2 ⟨hU (by simp),?_⟩;unfold bU at hP ⊢;rw[m9] at hP;exact⟨hU (by unfold bE;simp;omega),hP⟩
  dsimp only;have hcut:∀(b1:Nat),(x.rs.take a++x.rs.drop (a+1)).length<=1000:=λ_=>by rw[dX,gS,jv];omega
  refine cO (iP (d:=bU (bE (x.rs.take a++x.rs.drop (a+1)) lead p)) (ρ':=[.d (bU R),.d (.int m),.d (bU (bE x.ld lead p++[lead])),.ow (x.pl.map λ(k:Nat)=>D.int (k:Int)),.d (bU (bE (x.rs.take a++x.rs.drop (a+1)) lead p)),.d (.int p),.d (.int a),.d (aE lead)]) (by rfl) (λP hP=>?_) ?_)
  .show wF _ _ No [.d (bU R),.d (.int m),.d (bU (bE x.ld lead p++[lead])),.ow (x.pl.map λ(k:Nat)=>D.int (k:Int)),.d (.lst (x.rs.map aE)),.d (.int p),.d (.int a),.d (aE lead)] P
   walk_at "st";rw[oj (b:=a) rfl,show((a:Int)+1)=((a+1:Nat):Int) by omega,yy (by rw[bC];omega),<-kK,<-tF];refine⟨hU (by simp;omega),?_⟩;rw[<-m9];exact Fs (b:=B3) (w:=w) b3 w1 (hcut 0) (by omega) rs3 hl3 hP
  dsimp only;refine sR (d:=.int p) rfl (de (show _<2000 by rw[bC];omega) (by decide)) rfl (B.nm_at rfl) (hnx _ ⟨.d (.int p),.d (.int a),.d (aE lead),?_⟩);rw[m9];rfl
theorem Li(h:IsSl s n):∀r∈kF s n,Lf 6 n r:=λr hr=>by
 unfold kF at hr;obtain⟨t,ht,rfl⟩:=YbQ.mp hr;obtain⟨h1,h2⟩:=lj h t ht;have:=Lf.int (b:=6) (c:=t) (by decide) λx hx=>by have:=h2 x hx;show _<64;omega
 rw[h1] at this;exact this
theorem Fw:(kF s n).length=n:=by unfold kF;rw[bC,jD]
def eA(place:Nat):List (List Rat)->List Nat->List Rat->List Rat
 |l::L,a::pl,row=>eA place L pl (row.set a (0-l.getD place 0))
 |_,_,row=>row
section
namespace Dt
abbrev R:=Nat->Int
def m2(a b:R)(p q:Nat):Int:=a p*b q-a q*b p
def m3(a b c:R)(p q r:Nat):Int:=c r*m2 a b p q-c q*m2 a b p r+c p*m2 a b q r
def m4(a b c d:R)(p q r s:Nat):Int:=d s*m3 a b c p q r-d r*m3 a b c p q s+d q*m3 a b c p r s-d p*m3 a b c q r s
def m5(a b c d e:R)(p q r s t:Nat):Int:=e t*m4 a b c d p q r s-e s*m4 a b c d p q r t+e r*m4 a b c d p q s t-e q*m4 a b c d p r s t+e p*m4 a b c d q r s t
section
variable(a b c d e:R)(p q r s t j:Nat)
theorem s0:m2 a b p j*1=b j*a p-b p*a j:=by unfold m2;grind
theorem s1:m3 a b c p q j*a p=m2 a c p j*m2 a b p q-m2 a c p q*m2 a b p j:=by unfold m3 m2;grind
theorem s2:m4 a b c d p q r j*m2 a b p q=m3 a b d p q j*m3 a b c p q r-m3 a b d p q r*m3 a b c p q j:=by unfold m4 m3 m2;grind
theorem pl:m3 a b c p q r*m3 a b c p s j=m3 a b c p q s*m3 a b c p r j-m3 a b c p q j*m3 a b c p r s:=by unfold m3 m2;grind
theorem Cc:m3 a b c p q r*m3 a b c q s j=m3 a b c p q s*m3 a b c q r j-m3 a b c p q j*m3 a b c q r s:=by unfold m3 m2;grind
theorem Lj:m3 a b c p q r*m3 a b c r s j=m3 a b c p r s*m3 a b c q r j-m3 a b c p r j*m3 a b c q r s:=by unfold m3 m2;grind
theorem s3:m5 a b c d e p q r s j*m3 a b c p q r=m4 a b c e p q r j*m4 a b c d p q r s-m4 a b c e p q r s*m4 a b c d p q r j:=by
 have h1:=pl a b c p q r s j;have h2:=Cc a b c p q r s j;have h3:=Lj a b c p q r s j;unfold m5 m4;generalize m3 a b c p q r=x1 at *;generalize m3 a b c p q s=x2 at *;generalize m3 a b c p q j=x3 at *;generalize m3 a b c p r s=x4 at *;generalize m3 a b c p r j=x5 at *;generalize m3 a b c p s j=x6 at *;generalize m3 a b c q r s=x7 at *;generalize m3 a b c q r j=x8 at *;generalize m3 a b c q s j=x9 at *;generalize m3 a b c r s j=y1 at *;generalize d p=d1;generalize d q=d2;generalize d r=d3;generalize d s=d4;generalize d j=d5;generalize e p=e1;generalize e q=e2;generalize e r=e3;generalize e s=e4;generalize e j=e5;grind
theorem j0:m3 a b c p q r=a p*m2 b c q r-a q*m2 b c p r+a r*m2 b c p q:=by unfold m3 m2;grind
theorem j3:m3 a b c p q r=b q*m2 a c p r-b p*m2 a c q r-b r*m2 a c p q:=by unfold m3 m2;grind
theorem hV:m4 a b c d p q r s=a p*m3 b c d q r s-a q*m3 b c d p r s+a r*m3 b c d p q s-a s*m3 b c d p q r:=by
 unfold m4;rw[j0 a b c,j0 a b c,j0 a b c,j0 a b c];unfold m3;grind
theorem jr:m4 a b c d p q r s=b q*m3 a c d p r s-b p*m3 a c d q r s-b r*m3 a c d p q s+b s*m3 a c d p q r:=by
 unfold m4;rw[j3 a b c,j3 a b c,j3 a b c,j3 a b c];unfold m3;grind
theorem ls:m4 a b c d p q r s=c p*m3 a b d q r s-c q*m3 a b d p r s+c r*m3 a b d p q s-c s*m3 a b d p q r:=by
 unfold m4 m3;grind
theorem j4:m5 a b c d e p q r s t=a p*m4 b c d e q r s t-a q*m4 b c d e p r s t+a r*m4 b c d e p q s t-a s*m4 b c d e p q r t+a t*m4 b c d e p q r s:=by
 unfold m5;rw[hV a b c d,hV a b c d,hV a b c d,hV a b c d,hV a b c d];unfold m4;grind
theorem sS:m5 a b c d e p q r s t=b q*m4 a c d e p r s t-b p*m4 a c d e q r s t-b r*m4 a c d e p q s t+b s*m4 a c d e p q r t-b t*m4 a c d e p q r s:=by
 unfold m5;rw[jr a b c d,jr a b c d,jr a b c d,jr a b c d,jr a b c d];unfold m4;grind
theorem Cd:m5 a b c d e p q r s t=c p*m4 a b d e q r s t-c q*m4 a b d e p r s t+c r*m4 a b d e p q s t-c s*m4 a b d e p q r t+c t*m4 a b d e p q r s:=by
 unfold m5;rw[ls a b c d,ls a b c d,ls a b c d,ls a b c d,ls a b c d];unfold m4;grind
theorem Ce:m5 a b c d e p q r s t=d q*m4 a b c e p r s t-d p*m4 a b c e q r s t-d r*m4 a b c e p q s t+d s*m4 a b c e p q r t-d t*m4 a b c e p q r s:=by
 unfold m5 m4;grind
theorem vM:m2 b a p q = - m2 a b p q:=by unfold m2;grind
theorem Fx:m3 b a c p q r = - m3 a b c p q r:=by unfold m3;simp only[vM a b];grind
theorem yR:m3 a c b p q r = - m3 a b c p q r:=by rw[j0,j0 a b c];simp only[vM b c];grind
theorem vN:m3 c b a p q r = - m3 a b c p q r:=by rw[j3 c b a,j3 a b c];simp only[vM a c];grind
theorem Fy:m4 b a c d p q r s = - m4 a b c d p q r s:=by unfold m4;simp only[Fx a b];grind
theorem Fz:m4 a c b d p q r s = - m4 a b c d p q r s:=by unfold m4;simp only[yR a b];grind
theorem FA:m4 c b a d p q r s = - m4 a b c d p q r s:=by unfold m4;simp only[vN a b];grind
theorem yS:m4 a b d c p q r s = - m4 a b c d p q r s:=by rw[hV,hV a b c d];simp only[yR b c];grind
theorem yT:m4 a d c b p q r s = - m4 a b c d p q r s:=by rw[hV,hV a b c d];simp only[vN b c];grind
theorem vO:m4 d b c a p q r s = - m4 a b c d p q r s:=by rw[jr d b c a,jr a b c d];simp only[vN a c];grind
theorem vP:m5 b a c d e p q r s t = - m5 a b c d e p q r s t:=by unfold m5;simp only[Fy a b c d];grind
theorem vQ:m5 a c b d e p q r s t = - m5 a b c d e p q r s t:=by unfold m5;simp only[Fz a b c d];grind
theorem vR:m5 c b a d e p q r s t = - m5 a b c d e p q r s t:=by unfold m5;simp only[FA a b c d];grind
theorem vS:m5 a b d c e p q r s t = - m5 a b c d e p q r s t:=by unfold m5;simp only[yS a b c d];grind
theorem vT:m5 a d c b e p q r s t = - m5 a b c d e p q r s t:=by unfold m5;simp only[yT a b c d];grind
theorem vU:m5 d b c a e p q r s t = - m5 a b c d e p q r s t:=by unfold m5;simp only[vO a b c d];grind
theorem FC:m5 a b c e d p q r s t = - m5 a b c d e p q r s t:=by rw[j4,j4 a b c d e];simp only[yS b c d e];grind
theorem FD:m5 a b e d c p q r s t = - m5 a b c d e p q r s t:=by rw[j4,j4 a b c d e];simp only[yT b c d e];grind
theorem FE:m5 a e c d b p q r s t = - m5 a b c d e p q r s t:=by rw[j4,j4 a b c d e];simp only[vO b c d e];grind
theorem FF:m5 e b c d a p q r s t = - m5 a b c d e p q r s t:=by rw[sS e b c d a,sS a b c d e];simp only[vO a c d e];grind
end
def M(A:Nat->R):Nat->Nat->R
 |0,i,j=>A i j
 |1,i,j=>m2 (A 0) (A i) 0 j
 |2,i,j=>m3 (A 0) (A 1) (A i) 0 1 j
 |3,i,j=>m4 (A 0) (A 1) (A 2) (A i) 0 1 2 j
 |4,i,j=>m5 (A 0) (A 1) (A 2) (A 3) (A i) 0 1 2 3 j
 |_,_,_=>0
def dt(A:Nat->R):Nat->Int
 |0=>1
 |k+1=>M A k k k
theorem Lk(A:Nat->R)(hk:k<4)(i j:Nat):M A (k+1) i j*dt A k=M A k i j*M A k k k-M A k i k*M A k k j:=by
 match k,hk with
 |0,_=>exact s0 _ _ _ _
 |1,_=>exact s1 _ _ _ _ _ _
 |2,_=>exact s2 _ _ _ _ _ _ _ _
 |3,_=>exact s3 _ _ _ _ _ _ _ _ _ _
theorem FG{A B:Nat->R}(h:∀l,l<k->A l=B l)(hi:A i=B i):M A k i j=M B k i j:=by
 match k with
 |0=>show A i j=B i j;rw[hi]
 |1=>show m2 _ _ _ _=m2 _ _ _ _;rw[hi,h 0 (by omega)]
 |2=>show m3 _ _ _ _ _ _=m3 _ _ _ _ _ _;rw[hi,h 0 (by omega),h 1 (by omega)]
 |3=>show m4 _ _ _ _ _ _ _ _=m4 _ _ _ _ _ _ _ _;rw[hi,h 0 (by omega),h 1 (by omega),h 2 (by omega)]
 |4=>show m5 _ _ _ _ _ _ _ _ _ _=m5 _ _ _ _ _ _ _ _ _ _;rw[hi,h 0 (by omega),h 1 (by omega),h 2 (by omega),h 3 (by omega)]
 |_+5=>rfl
def sw(A:Nat->R)(x y:Nat):Nat->R:=λi=>if i=x then A y else if i=y then A x else A i
theorem Cf(A:Nat->R){x y:Nat}(hn:n<=5)(hxy:x<y)(hy:y<n):dt (sw A x y) n = - dt A n:=by
 match n,hn,y,hy,x,hxy with
 |1,_,0,_,x,h=>exact Nq h (Nat.not_lt_zero x)
 |2,_,1,_,0,_=>exact vM _ _ _ _
 |3,_,1,_,0,_=>exact Fx _ _ _ _ _ _
 |3,_,2,_,0,_=>exact vN _ _ _ _ _ _
 |3,_,2,_,1,_=>exact yR _ _ _ _ _ _
 |4,_,1,_,0,_=>exact Fy _ _ _ _ _ _ _ _
 |4,_,2,_,0,_=>exact FA _ _ _ _ _ _ _ _
 |4,_,2,_,1,_=>exact Fz _ _ _ _ _ _ _ _
 |4,_,3,_,0,_=>exact vO _ _ _ _ _ _ _ _
 |4,_,3,_,1,_=>exact yT _ _ _ _ _ _ _ _
 |4,_,3,_,2,_=>exact yS _ _ _ _ _ _ _ _
 |5,_,1,_,0,_=>exact vP _ _ _ _ _ _ _ _ _ _
 |5,_,2,_,0,_=>exact vR _ _ _ _ _ _ _ _ _ _
 |5,_,2,_,1,_=>exact vQ _ _ _ _ _ _ _ _ _ _
 |5,_,3,_,0,_=>exact vU _ _ _ _ _ _ _ _ _ _
 |5,_,3,_,1,_=>exact vT _ _ _ _ _ _ _ _ _ _
 |5,_,3,_,2,_=>exact vS _ _ _ _ _ _ _ _ _ _
 |5,_,4,_,0,_=>exact FF _ _ _ _ _ _ _ _ _ _
 |5,_,4,_,1,_=>exact FE _ _ _ _ _ _ _ _ _ _
 |5,_,4,_,2,_=>exact FD _ _ _ _ _ _ _ _ _ _
 |5,_,4,_,3,_=>exact FC _ _ _ _ _ _ _ _ _ _
end Dt
end
section
namespace Dt
def sumI(f:Nat->Int):Nat->Int
 |0=>0
 |n+1=>sumI f n+f n
theorem yU{f g:Nat->Int}:∀{n:Nat},(∀i,i<n->f i=g i)->sumI f n=sumI g n
 |0,_=>rfl
 |n+1,h=>by rw[sumI,sumI,yU (λi hi=>h i (by omega)),h n (by omega)]
theorem yV{f:Nat->Int}:∀{n:Nat},(∀i,i<n->f i=0)->sumI f n=0
 |0,_=>rfl
 |n+1,h=>by rw[sumI,yV (λi hi=>h i (by omega)),h n (by omega)];rfl
theorem FH(f g:Nat->Int):∀n:Nat,sumI (λi=>f i+g i) n=sumI f n+sumI g n
 |0=>rfl
 |n+1=>by rw[sumI,sumI,sumI,FH f g n];omega
theorem Cg(f:Nat->Int)(c:Int):∀n:Nat,sumI (λi=>c*f i) n=c*sumI f n
 |0=>by simp[sumI]
 |n+1=>by rw[sumI,sumI,Cg f c n,Int.mul_add]
theorem FI(f:Nat->Nat->Int)(m:Nat):∀n:Nat,sumI (λi=>sumI (λj=>f i j) m) n=sumI (λj=>sumI (λi=>f i j) n) m
 |0=>by rw[sumI];exact(yV λ_ _=>rfl).symm
 |n+1=>by
  rw[sumI,FI f m n,<-FH];rfl
theorem FJ{f:Nat->Int}{k:Nat}:∀{n:Nat},k<n->(∀i,i<n->i≠k->f i=0)->sumI f n=f k
 |0,h,_=>by omega
 |n+1,h,h0=>by
  rw[sumI]
  by_cases e:k=n
  .subst e
   rw[yV (λi hi=>h0 i (by omega) (by omega)),Int.zero_add]
  .rw[FJ (k:=k) (by omega) (λi hi hk=>h0 i (by omega) hk),h0 n (by omega) (NB e),Int.add_zero]
def sk(k i:Nat):Nat:=if i<k then i else i+1
def cut(A:Nat->R)(k j:Nat):Nat->R:=λi l=>A (sk k i) (sk j l)
def sg(n:Nat):Int:=if n%2=0 then 1 else -1
def kG(A:Nat->R)(n k j:Nat):Int:=sg (k+j)*dt (cut A k j) (n-1)
def rep(A:Nat->R)(k:Nat)(x:R):Nat->R:=λi=>if i=k then x else A i
def dc(A:Nat->R)(c:Nat->Nat):Nat->Int
 |0=>1
 |1=>A 0 (c 0)
 |2=>m2 (A 0) (A 1) (c 0) (c 1)
 |3=>m3 (A 0) (A 1) (A 2) (c 0) (c 1) (c 2)
 |4=>m4 (A 0) (A 1) (A 2) (A 3) (c 0) (c 1) (c 2) (c 3)
 |5=>m5 (A 0) (A 1) (A 2) (A 3) (A 4) (c 0) (c 1) (c 2) (c 3) (c 4)
 |_=>0
section
variable(a b c d e:R)(p q r s t j:Nat)
theorem Ch:m2 a b p q=a p*b q-b p*a q:=by unfold m2;grind
theorem Ci:m2 a b p q = - (a q*b p)+b q*a p:=by unfold m2;grind
theorem ou:m3 a b c p q r=a p*m2 b c q r-b p*m2 a c q r+c p*m2 a b q r:=by unfold m3 m2;grind
theorem oy:m3 a b c p q r = - (a q*m2 b c p r)+b q*m2 a c p r-c q*m2 a b p r:=by unfold m3 m2;grind
theorem oA:m3 a b c p q r=a r*m2 b c p q-b r*m2 a c p q+c r*m2 a b p q:=by unfold m3 m2;grind
theorem lu:m4 a b c d p q r s=a p*m3 b c d q r s-b p*m3 a c d q r s+c p*m3 a b d q r s-d p*m3 a b c q r s:=by unfold m4;rw[ou a b c p r s,ou a b c p q s,ou a b c p q r];unfold m3;grind
theorem lv:m4 a b c d p q r s = - (a q*m3 b c d p r s)+b q*m3 a c d p r s-c q*m3 a b d p r s+d q*m3 a b c p r s:=by unfold m4;rw[ou a b c q r s,oy a b c p q s,oy a b c p q r];unfold m3;grind
theorem lw:m4 a b c d p q r s=a r*m3 b c d p q s-b r*m3 a c d p q s+c r*m3 a b d p q s-d r*m3 a b c p q s:=by unfold m4;rw[oy a b c q r s,oy a b c p r s,oA a b c p q r];unfold m3;grind
theorem ly:m4 a b c d p q r s = - (a s*m3 b c d p q r)+b s*m3 a c d p q r-c s*m3 a b d p q r+d s*m3 a b c p q r:=by unfold m4;rw[oA a b c q r s,oA a b c p r s,oA a b c p q s];unfold m3;grind
theorem Cj:m5 a b c d e p q r s t=a p*m4 b c d e q r s t-b p*m4 a c d e q r s t+c p*m4 a b d e q r s t-d p*m4 a b c e q r s t+e p*m4 a b c d q r s t:=by unfold m5;rw[lu a b c d p r s t,lu a b c d p q s t,lu a b c d p q r t,lu a b c d p q r s];unfold m4;grind
theorem Ck:m5 a b c d e p q r s t = - (a q*m4 b c d e p r s t)+b q*m4 a c d e p r s t-c q*m4 a b d e p r s t+d q*m4 a b c e p r s t-e q*m4 a b c d p r s t:=by unfold m5;rw[lu a b c d q r s t,lv a b c d p q s t,lv a b c d p q r t,lv a b c d p q r s];unfold m4;grind
theorem Cm:m5 a b c d e p q r s t=a r*m4 b c d e p q s t-b r*m4 a c d e p q s t+c r*m4 a b d e p q s t-d r*m4 a b c e p q s t+e r*m4 a b c d p q s t:=by unfold m5;rw[lv a b c d q r s t,lv a b c d p r s t,lw a b c d p q r t,lw a b c d p q r s];unfold m4;grind
theorem Cn:m5 a b c d e p q r s t = - (a s*m4 b c d e p q r t)+b s*m4 a c d e p q r t-c s*m4 a b d e p q r t+d s*m4 a b c e p q r t-e s*m4 a b c d p q r t:=by unfold m5;rw[lw a b c d q r s t,lw a b c d p r s t,lw a b c d p q s t,ly a b c d p q r s];unfold m4;grind
theorem Co:m5 a b c d e p q r s t=a t*m4 b c d e p q r s-b t*m4 a c d e p q r s+c t*m4 a b d e p q r s-d t*m4 a b c e p q r s+e t*m4 a b c d p q r s:=by unfold m5;rw[ly a b c d q r s t,ly a b c d p r s t,ly a b c d p q s t,ly a b c d p q r t];unfold m4;grind
theorem FK:m2 a b p p=0:=by unfold m2;grind
theorem vV:m3 a b c p p r=0:=by unfold m3 m2;grind
theorem vW:m3 a b c p q p=0:=by unfold m3 m2;grind
theorem vX:m3 a b c p q q=0:=by unfold m3 m2;grind
theorem vY:m4 a b c d p p r s=0:=by unfold m4;simp only[vV];unfold m3 m2;grind
theorem vZ:m4 a b c d p q p s=0:=by unfold m4;simp only[vV,vW];unfold m3 m2;grind
theorem v3:m4 a b c d p q r p=0:=by unfold m4;simp only[vW];unfold m3 m2;grind
theorem v4:m4 a b c d p q q s=0:=by unfold m4;simp only[vV,vX];unfold m3 m2;grind
theorem v6:m4 a b c d p q r q=0:=by unfold m4;simp only[vW,vX];unfold m3 m2;grind
theorem v7:m4 a b c d p q r r=0:=by unfold m4;simp only[vX];unfold m3 m2;grind
theorem FL:m5 a b c d e p p r s t=0:=by unfold m5;simp only[vY];unfold m4 m3 m2;grind
theorem FM:m5 a b c d e p q p s t=0:=by unfold m5;simp only[vY,vZ];unfold m4 m3 m2;grind
theorem FN:m5 a b c d e p q r p t=0:=by unfold m5;simp only[vZ,v3];unfold m4 m3 m2;grind
theorem FO:m5 a b c d e p q r s p=0:=by unfold m5;simp only[v3];unfold m4 m3 m2;grind
theorem FP:m5 a b c d e p q q s t=0:=by unfold m5;simp only[vY,v4];unfold m4 m3 m2;grind
theorem FQ:m5 a b c d e p q r q t=0:=by unfold m5;simp only[vZ,v4,v6];unfold m4 m3 m2;grind
theorem FR:m5 a b c d e p q r s q=0:=by unfold m5;simp only[v3,v6];unfold m4 m3 m2;grind
theorem FS:m5 a b c d e p q r r t=0:=by unfold m5;simp only[v4,v7];unfold m4 m3 m2;grind
theorem FT:m5 a b c d e p q r s r=0:=by unfold m5;simp only[v6,v7];unfold m4 m3 m2;grind
theorem FU:m5 a b c d e p q r s s=0:=by unfold m5;simp only[v7];unfold m4 m3 m2;grind
end
theorem v8(A:Nat->R)(x:R)(hn:n<=5)(hk:k<n):sumI (λj=>x j*kG A n k j) n=dt (rep A k x) n:=by
 match n,hn,k,hk with
 |1,_,0,_=>show 0+x 0*(1*1)=x 0;grind
 |2,_,0,_=>show 0+x 0*(1*(A 1) 1)+x 1*(-1*(A 1) 0)=m2 x (A 1) 0 1;unfold m2;grind
 |2,_,1,_=>show 0+x 0*(-1*(A 0) 1)+x 1*(1*(A 0) 0)=m2 (A 0) x 0 1;unfold m2;grind
 |3,_,0,_=>show 0+x 0*(1*m2 (A 1) (A 2) 1 2)+x 1*(-1*m2 (A 1) (A 2) 0 2)+x 2*(1*m2 (A 1) (A 2) 0 1)=m3 x (A 1) (A 2) 0 1 2;rw[j0];grind
 |3,_,1,_=>show 0+x 0*(-1*m2 (A 0) (A 2) 1 2)+x 1*(1*m2 (A 0) (A 2) 0 2)+x 2*(-1*m2 (A 0) (A 2) 0 1)=m3 (A 0) x (A 2) 0 1 2;rw[j3];grind
 |3,_,2,_=>show 0+x 0*(1*m2 (A 0) (A 1) 1 2)+x 1*(-1*m2 (A 0) (A 1) 0 2)+x 2*(1*m2 (A 0) (A 1) 0 1)=m3 (A 0) (A 1) x 0 1 2;unfold m3;grind
 |4,_,0,_=>show 0+x 0*(1*m3 (A 1) (A 2) (A 3) 1 2 3)+x 1*(-1*m3 (A 1) (A 2) (A 3) 0 2 3)+x 2*(1*m3 (A 1) (A 2) (A 3) 0 1 3)+x 3*(-1*m3 (A 1) (A 2) (A 3) 0 1 2)=m4 x (A 1) (A 2) (A 3) 0 1 2 3;rw[hV];grind
 |4,_,1,_=>show 0+x 0*(-1*m3 (A 0) (A 2) (A 3) 1 2 3)+x 1*(1*m3 (A 0) (A 2) (A 3) 0 2 3)+x 2*(-1*m3 (A 0) (A 2) (A 3) 0 1 3)+x 3*(1*m3 (A 0) (A 2) (A 3) 0 1 2)=m4 (A 0) x (A 2) (A 3) 0 1 2 3;rw[jr];grind
 |4,_,2,_=>show 0+x 0*(1*m3 (A 0) (A 1) (A 3) 1 2 3)+x 1*(-1*m3 (A 0) (A 1) (A 3) 0 2 3)+x 2*(1*m3 (A 0) (A 1) (A 3) 0 1 3)+x 3*(-1*m3 (A 0) (A 1) (A 3) 0 1 2)=m4 (A 0) (A 1) x (A 3) 0 1 2 3;rw[ls];grind
 |4,_,3,_=>show 0+x 0*(-1*m3 (A 0) (A 1) (A 2) 1 2 3)+x 1*(1*m3 (A 0) (A 1) (A 2) 0 2 3)+x 2*(-1*m3 (A 0) (A 1) (A 2) 0 1 3)+x 3*(1*m3 (A 0) (A 1) (A 2) 0 1 2)=m4 (A 0) (A 1) (A 2) x 0 1 2 3;unfold m4;grind
 |5,_,0,_=>show 0+x 0*(1*m4 (A 1) (A 2) (A 3) (A 4) 1 2 3 4)+x 1*(-1*m4 (A 1) (A 2) (A 3) (A 4) 0 2 3 4)+x 2*(1*m4 (A 1) (A 2) (A 3) (A 4) 0 1 3 4)+x 3*(-1*m4 (A 1) (A 2) (A 3) (A 4) 0 1 2 4)+x 4*(1*m4 (A 1) (A 2) (A 3) (A 4) 0 1 2 3)=m5 x (A 1) (A 2) (A 3) (A 4) 0 1 2 3 4;rw[j4];grind
 |5,_,1,_=>show 0+x 0*(-1*m4 (A 0) (A 2) (A 3) (A 4) 1 2 3 4)+x 1*(1*m4 (A 0) (A 2) (A 3) (A 4) 0 2 3 4)+x 2*(-1*m4 (A 0) (A 2) (A 3) (A 4) 0 1 3 4)+x 3*(1*m4 (A 0) (A 2) (A 3) (A 4) 0 1 2 4)+x 4*(-1*m4 (A 0) (A 2) (A 3) (A 4) 0 1 2 3)=m5 (A 0) x (A 2) (A 3) (A 4) 0 1 2 3 4;rw[sS];grind
 |5,_,2,_=>show 0+x 0*(1*m4 (A 0) (A 1) (A 3) (A 4) 1 2 3 4)+x 1*(-1*m4 (A 0) (A 1) (A 3) (A 4) 0 2 3 4)+x 2*(1*m4 (A 0) (A 1) (A 3) (A 4) 0 1 3 4)+x 3*(-1*m4 (A 0) (A 1) (A 3) (A 4) 0 1 2 4)+x 4*(1*m4 (A 0) (A 1) (A 3) (A 4) 0 1 2 3)=m5 (A 0) (A 1) x (A 3) (A 4) 0 1 2 3 4;rw[Cd];grind
 |5,_,3,_=>show 0+x 0*(-1*m4 (A 0) (A 1) (A 2) (A 4) 1 2 3 4)+x 1*(1*m4 (A 0) (A 1) (A 2) (A 4) 0 2 3 4)+x 2*(-1*m4 (A 0) (A 1) (A 2) (A 4) 0 1 3 4)+x 3*(1*m4 (A 0) (A 1) (A 2) (A 4) 0 1 2 4)+x 4*(-1*m4 (A 0) (A 1) (A 2) (A 4) 0 1 2 3)=m5 (A 0) (A 1) (A 2) x (A 4) 0 1 2 3 4;rw[Ce];grind
 |5,_,4,_=>show 0+x 0*(1*m4 (A 0) (A 1) (A 2) (A 3) 1 2 3 4)+x 1*(-1*m4 (A 0) (A 1) (A 2) (A 3) 0 2 3 4)+x 2*(1*m4 (A 0) (A 1) (A 2) (A 3) 0 1 3 4)+x 3*(-1*m4 (A 0) (A 1) (A 2) (A 3) 0 1 2 4)+x 4*(1*m4 (A 0) (A 1) (A 2) (A 3) 0 1 2 3)=m5 (A 0) (A 1) (A 2) (A 3) x 0 1 2 3 4;unfold m5;grind
theorem v9(A:Nat->R)(i:Nat)(hn:n<=5)(hj:j<n):sumI (λk=>A k i*kG A n k j) n=dc A (λl=>if l=j then i else l) n:=by
 match n,hn,j,hj with
 |1,_,0,_=>show 0+A 0 i*(1*1)=(A 0) i;grind
 |2,_,0,_=>show 0+A 0 i*(1*(A 1) 1)+A 1 i*(-1*(A 0) 1)=m2 (A 0) (A 1) i 1;rw[Ch (A 0) (A 1)];grind
 |2,_,1,_=>show 0+A 0 i*(-1*(A 1) 0)+A 1 i*(1*(A 0) 0)=m2 (A 0) (A 1) 0 i;rw[Ci (A 0) (A 1)];grind
 |3,_,0,_=>show 0+A 0 i*(1*m2 (A 1) (A 2) 1 2)+A 1 i*(-1*m2 (A 0) (A 2) 1 2)+A 2 i*(1*m2 (A 0) (A 1) 1 2)=m3 (A 0) (A 1) (A 2) i 1 2;rw[ou (A 0) (A 1) (A 2)];grind
 |3,_,1,_=>show 0+A 0 i*(-1*m2 (A 1) (A 2) 0 2)+A 1 i*(1*m2 (A 0) (A 2) 0 2)+A 2 i*(-1*m2 (A 0) (A 1) 0 2)=m3 (A 0) (A 1) (A 2) 0 i 2;rw[oy (A 0) (A 1) (A 2)];grind
 |3,_,2,_=>show 0+A 0 i*(1*m2 (A 1) (A 2) 0 1)+A 1 i*(-1*m2 (A 0) (A 2) 0 1)+A 2 i*(1*m2 (A 0) (A 1) 0 1)=m3 (A 0) (A 1) (A 2) 0 1 i;rw[oA (A 0) (A 1) (A 2)];grind
 |4,_,0,_=>show 0+A 0 i*(1*m3 (A 1) (A 2) (A 3) 1 2 3)+A 1 i*(-1*m3 (A 0) (A 2) (A 3) 1 2 3)+A 2 i*(1*m3 (A 0) (A 1) (A 3) 1 2 3)+A 3 i*(-1*m3 (A 0) (A 1) (A 2) 1 2 3)=m4 (A 0) (A 1) (A 2) (A 3) i 1 2 3;rw[lu (A 0) (A 1) (A 2) (A 3)];grind
 |4,_,1,_=>show 0+A 0 i*(-1*m3 (A 1) (A 2) (A 3) 0 2 3)+A 1 i*(1*m3 (A 0) (A 2) (A 3) 0 2 3)+A 2 i*(-1*m3 (A 0) (A 1) (A 3) 0 2 3)+A 3 i*(1*m3 (A 0) (A 1) (A 2) 0 2 3)=m4 (A 0) (A 1) (A 2) (A 3) 0 i 2 3;rw[lv (A 0) (A 1) (A 2) (A 3)];grind
 |4,_,2,_=>show 0+A 0 i*(1*m3 (A 1) (A 2) (A 3) 0 1 3)+A 1 i*(-1*m3 (A 0) (A 2) (A 3) 0 1 3)+A 2 i*(1*m3 (A 0) (A 1) (A 3) 0 1 3)+A 3 i*(-1*m3 (A 0) (A 1) (A 2) 0 1 3)=m4 (A 0) (A 1) (A 2) (A 3) 0 1 i 3;rw[lw (A 0) (A 1) (A 2) (A 3)];grind
 |4,_,3,_=>show 0+A 0 i*(-1*m3 (A 1) (A 2) (A 3) 0 1 2)+A 1 i*(1*m3 (A 0) (A 2) (A 3) 0 1 2)+A 2 i*(-1*m3 (A 0) (A 1) (A 3) 0 1 2)+A 3 i*(1*m3 (A 0) (A 1) (A 2) 0 1 2)=m4 (A 0) (A 1) (A 2) (A 3) 0 1 2 i;rw[ly (A 0) (A 1) (A 2) (A 3)];grind
 |5,_,0,_=>show 0+A 0 i*(1*m4 (A 1) (A 2) (A 3) (A 4) 1 2 3 4)+A 1 i*(-1*m4 (A 0) (A 2) (A 3) (A 4) 1 2 3 4)+A 2 i*(1*m4 (A 0) (A 1) (A 3) (A 4) 1 2 3 4)+A 3 i*(-1*m4 (A 0) (A 1) (A 2) (A 4) 1 2 3 4)+A 4 i*(1*m4 (A 0) (A 1) (A 2) (A 3) 1 2 3 4)=m5 (A 0) (A 1) (A 2) (A 3) (A 4) i 1 2 3 4;rw[Cj (A 0) (A 1) (A 2) (A 3) (A 4)];grind
 |5,_,1,_=>show 0+A 0 i*(-1*m4 (A 1) (A 2) (A 3) (A 4) 0 2 3 4)+A 1 i*(1*m4 (A 0) (A 2) (A 3) (A 4) 0 2 3 4)+A 2 i*(-1*m4 (A 0) (A 1) (A 3) (A 4) 0 2 3 4)+A 3 i*(1*m4 (A 0) (A 1) (A 2) (A 4) 0 2 3 4)+A 4 i*(-1*m4 (A 0) (A 1) (A 2) (A 3) 0 2 3 4)=m5 (A 0) (A 1) (A 2) (A 3) (A 4) 0 i 2 3 4;rw[Ck (A 0) (A 1) (A 2) (A 3) (A 4)];grind
 |5,_,2,_=>show 0+A 0 i*(1*m4 (A 1) (A 2) (A 3) (A 4) 0 1 3 4)+A 1 i*(-1*m4 (A 0) (A 2) (A 3) (A 4) 0 1 3 4)+A 2 i*(1*m4 (A 0) (A 1) (A 3) (A 4) 0 1 3 4)+A 3 i*(-1*m4 (A 0) (A 1) (A 2) (A 4) 0 1 3 4)+A 4 i*(1*m4 (A 0) (A 1) (A 2) (A 3) 0 1 3 4)=m5 (A 0) (A 1) (A 2) (A 3) (A 4) 0 1 i 3 4;rw[Cm (A 0) (A 1) (A 2) (A 3) (A 4)];grind
 |5,_,3,_=>show 0+A 0 i*(-1*m4 (A 1) (A 2) (A 3) (A 4) 0 1 2 4)+A 1 i*(1*m4 (A 0) (A 2) (A 3) (A 4) 0 1 2 4)+A 2 i*(-1*m4 (A 0) (A 1) (A 3) (A 4) 0 1 2 4)+A 3 i*(1*m4 (A 0) (A 1) (A 2) (A 4) 0 1 2 4)+A 4 i*(-1*m4 (A 0) (A 1) (A 2) (A 3) 0 1 2 4)=m5 (A 0) (A 1) (A 2) (A 3) (A 4) 0 1 2 i 4;rw[Cn (A 0) (A 1) (A 2) (A 3) (A 4)];grind
 |5,_,4,_=>show 0+A 0 i*(1*m4 (A 1) (A 2) (A 3) (A 4) 0 1 2 3)+A 1 i*(-1*m4 (A 0) (A 2) (A 3) (A 4) 0 1 2 3)+A 2 i*(1*m4 (A 0) (A 1) (A 3) (A 4) 0 1 2 3)+A 3 i*(-1*m4 (A 0) (A 1) (A 2) (A 4) 0 1 2 3)+A 4 i*(1*m4 (A 0) (A 1) (A 2) (A 3) 0 1 2 3)=m5 (A 0) (A 1) (A 2) (A 3) (A 4) 0 1 2 3 i;rw[Co (A 0) (A 1) (A 2) (A 3) (A 4)];grind
theorem Cp(A:Nat->R)(hn:n<=5)(hi:i<n)(hj:j<n)(ne:i≠j):dc A (λl=>if l=j then i else l) n=0:=by
 match n,hn,i,hi,j,hj,ne with
 |1,_,0,_,0,_,ne=>exact Nq rfl ne
 |2,_,0,_,0,_,ne=>exact Nq rfl ne
 |2,_,0,_,1,_,_=>show m2 (A 0) (A 1) 0 0=0;exact FK _ _ _
 |2,_,1,_,0,_,_=>show m2 (A 0) (A 1) 1 1=0;exact FK _ _ _
 |2,_,1,_,1,_,ne=>exact Nq rfl ne
 |3,_,0,_,0,_,ne=>exact Nq rfl ne
 |3,_,0,_,1,_,_=>show m3 (A 0) (A 1) (A 2) 0 0 2=0;exact vV _ _ _ _ _
 |3,_,0,_,2,_,_=>show m3 (A 0) (A 1) (A 2) 0 1 0=0;exact vW _ _ _ _ _
 |3,_,1,_,0,_,_=>show m3 (A 0) (A 1) (A 2) 1 1 2=0;exact vV _ _ _ _ _
 |3,_,1,_,1,_,ne=>exact Nq rfl ne
 |3,_,1,_,2,_,_=>show m3 (A 0) (A 1) (A 2) 0 1 1=0;exact vX _ _ _ _ _
 |3,_,2,_,0,_,_=>show m3 (A 0) (A 1) (A 2) 2 1 2=0;exact vW _ _ _ _ _
 |3,_,2,_,1,_,_=>show m3 (A 0) (A 1) (A 2) 0 2 2=0;exact vX _ _ _ _ _
 |3,_,2,_,2,_,ne=>exact Nq rfl ne
 |4,_,0,_,0,_,ne=>exact Nq rfl ne
 |4,_,0,_,1,_,_=>show m4 (A 0) (A 1) (A 2) (A 3) 0 0 2 3=0;exact vY _ _ _ _ _ _ _
 |4,_,0,_,2,_,_=>show m4 (A 0) (A 1) (A 2) (A 3) 0 1 0 3=0;exact vZ _ _ _ _ _ _ _
 |4,_,0,_,3,_,_=>show m4 (A 0) (A 1) (A 2) (A 3) 0 1 2 0=0;exact v3 _ _ _ _ _ _ _
 |4,_,1,_,0,_,_=>show m4 (A 0) (A 1) (A 2) (A 3) 1 1 2 3=0;exact vY _ _ _ _ _ _ _
 |4,_,1,_,1,_,ne=>exact Nq rfl ne
 |4,_,1,_,2,_,_=>show m4 (A 0) (A 1) (A 2) (A 3) 0 1 1 3=0;exact v4 _ _ _ _ _ _ _
 |4,_,1,_,3,_,_=>show m4 (A 0) (A 1) (A 2) (A 3) 0 1 2 1=0;exact v6 _ _ _ _ _ _ _
 |4,_,2,_,0,_,_=>show m4 (A 0) (A 1) (A 2) (A 3) 2 1 2 3=0;exact vZ _ _ _ _ _ _ _
 |4,_,2,_,1,_,_=>show m4 (A 0) (A 1) (A 2) (A 3) 0 2 2 3=0;exact v4 _ _ _ _ _ _ _
 |4,_,2,_,2,_,ne=>exact Nq rfl ne
 |4,_,2,_,3,_,_=>show m4 (A 0) (A 1) (A 2) (A 3) 0 1 2 2=0;exact v7 _ _ _ _ _ _ _
 |4,_,3,_,0,_,_=>show m4 (A 0) (A 1) (A 2) (A 3) 3 1 2 3=0;exact v3 _ _ _ _ _ _ _
 |4,_,3,_,1,_,_=>show m4 (A 0) (A 1) (A 2) (A 3) 0 3 2 3=0;exact v6 _ _ _ _ _ _ _
 |4,_,3,_,2,_,_=>show m4 (A 0) (A 1) (A 2) (A 3) 0 1 3 3=0;exact v7 _ _ _ _ _ _ _
 |4,_,3,_,3,_,ne=>exact Nq rfl ne
 |5,_,0,_,0,_,ne=>exact Nq rfl ne
 |5,_,0,_,1,_,_=>show m5 (A 0) (A 1) (A 2) (A 3) (A 4) 0 0 2 3 4=0;exact FL _ _ _ _ _ _ _ _ _
 |5,_,0,_,2,_,_=>show m5 (A 0) (A 1) (A 2) (A 3) (A 4) 0 1 0 3 4=0;exact FM _ _ _ _ _ _ _ _ _
 |5,_,0,_,3,_,_=>show m5 (A 0) (A 1) (A 2) (A 3) (A 4) 0 1 2 0 4=0;exact FN _ _ _ _ _ _ _ _ _
 |5,_,0,_,4,_,_=>show m5 (A 0) (A 1) (A 2) (A 3) (A 4) 0 1 2 3 0=0;exact FO _ _ _ _ _ _ _ _ _
 |5,_,1,_,0,_,_=>show m5 (A 0) (A 1) (A 2) (A 3) (A 4) 1 1 2 3 4=0;exact FL _ _ _ _ _ _ _ _ _
 |5,_,1,_,1,_,ne=>exact Nq rfl ne
 |5,_,1,_,2,_,_=>show m5 (A 0) (A 1) (A 2) (A 3) (A 4) 0 1 1 3 4=0;exact FP _ _ _ _ _ _ _ _ _
 |5,_,1,_,3,_,_=>show m5 (A 0) (A 1) (A 2) (A 3) (A 4) 0 1 2 1 4=0;exact FQ _ _ _ _ _ _ _ _ _
 |5,_,1,_,4,_,_=>show m5 (A 0) (A 1) (A 2) (A 3) (A 4) 0 1 2 3 1=0;exact FR _ _ _ _ _ _ _ _ _
 |5,_,2,_,0,_,_=>show m5 (A 0) (A 1) (A 2) (A 3) (A 4) 2 1 2 3 4=0;exact FM _ _ _ _ _ _ _ _ _
 |5,_,2,_,1,_,_=>show m5 (A 0) (A 1) (A 2) (A 3) (A 4) 0 2 2 3 4=0;exact FP _ _ _ _ _ _ _ _ _
 |5,_,2,_,2,_,ne=>exact Nq rfl ne
 |5,_,2,_,3,_,_=>show m5 (A 0) (A 1) (A 2) (A 3) (A 4) 0 1 2 2 4=0;exact FS _ _ _ _ _ _ _ _ _
 |5,_,2,_,4,_,_=>show m5 (A 0) (A 1) (A 2) (A 3) (A 4) 0 1 2 3 2=0;exact FT _ _ _ _ _ _ _ _ _
 |5,_,3,_,0,_,_=>show m5 (A 0) (A 1) (A 2) (A 3) (A 4) 3 1 2 3 4=0;exact FN _ _ _ _ _ _ _ _ _
 |5,_,3,_,1,_,_=>show m5 (A 0) (A 1) (A 2) (A 3) (A 4) 0 3 2 3 4=0;exact FQ _ _ _ _ _ _ _ _ _
 |5,_,3,_,2,_,_=>show m5 (A 0) (A 1) (A 2) (A 3) (A 4) 0 1 3 3 4=0;exact FS _ _ _ _ _ _ _ _ _
 |5,_,3,_,3,_,ne=>exact Nq rfl ne
 |5,_,3,_,4,_,_=>show m5 (A 0) (A 1) (A 2) (A 3) (A 4) 0 1 2 3 3=0;exact FU _ _ _ _ _ _ _ _ _
 |5,_,4,_,0,_,_=>show m5 (A 0) (A 1) (A 2) (A 3) (A 4) 4 1 2 3 4=0;exact FO _ _ _ _ _ _ _ _ _
 |5,_,4,_,1,_,_=>show m5 (A 0) (A 1) (A 2) (A 3) (A 4) 0 4 2 3 4=0;exact FR _ _ _ _ _ _ _ _ _
 |5,_,4,_,2,_,_=>show m5 (A 0) (A 1) (A 2) (A 3) (A 4) 0 1 4 3 4=0;exact FT _ _ _ _ _ _ _ _ _
 |5,_,4,_,3,_,_=>show m5 (A 0) (A 1) (A 2) (A 3) (A 4) 0 1 2 4 4=0;exact FU _ _ _ _ _ _ _ _ _
 |5,_,4,_,4,_,ne=>exact Nq rfl ne
theorem Ll(A:Nat->R)(k:Nat):rep A k (A k)=A:=by
 funext i;unfold rep;split
 .rename_i h;rw[h]
 .rfl
theorem wd(A:Nat->R)(hn:n<=5)(hi:i<n)(hk:k<n)(ne:i≠k):dt (rep A k (A i)) n=0:=by
 have e:∀x y,(x=i/\y=k)\/(x=k/\y=i)->sw (rep A k (A i)) x y=rep A k (A i):=λx y h=>by
  funext l;unfold sw rep;rcases h with⟨rfl,rfl⟩|⟨rfl,rfl⟩
  .by_cases h1:l=x
   .subst h1;simp[ne]
   .by_cases h2:l=y
    .subst h2;simp[h1,ne]
    .simp[h1,h2]
  .by_cases h1:l=x
   .subst h1;simp[ne]
   .by_cases h2:l=y
    .subst h2;simp[h1]
    .simp[h1,h2]
 rcases Nat.lt_or_gt_of_ne ne with h|h
 .have:=Cf (rep A k (A i)) hn h hk
  rw[e _ _ (.inl ⟨rfl,rfl⟩)] at this;omega
 .have:=Cf (rep A k (A i)) hn h hi
  rw[e _ _ (.inr ⟨rfl,rfl⟩)] at this;omega
theorem wg(A:Nat->R)(hn:n<=5):dc A (λl=>l) n=dt A n:=by
 match n,hn with
 |0,_=>rfl
 |1,_=>rfl
 |2,_=>rfl
 |3,_=>rfl
 |4,_=>rfl
 |5,_=>rfl
theorem Lm(A:Nat->R)(hn:n<=5)(hi:i<n)(hk:k<n):sumI (λj=>A i j*kG A n k j) n=if i=k then dt A n else 0:=by
 rw[v8 A (A i) hn hk];split
 .rename_i h;rw[h,Ll]
 .rename_i h;exact wd A hn hi hk h
theorem yW(A:Nat->R)(hn:n<=5)(hi:i<n)(hj:j<n):sumI (λk=>A k i*kG A n k j) n=if i=j then dt A n else 0:=by
 rw[v9 A i hn hj];split
 .rename_i h
  subst h;rw[show(λl=>if l=i then i else l)=(λl=>l) from by funext l;split<;>omega];exact wg A hn
 .rename_i h;exact Cp A hn hi hj h
theorem Ln(A:Nat->R)(hn:n<=5){w:Nat->Int}(h:∀i,i<n->sumI (λj=>A i j*w j) n=0)(hj:j<n):dt A n*w j=0:=by
 have e:sumI (λk=>kG A n k j*sumI (λl=>A k l*w l) n) n=dt A n*w j:=by
  rw[yU (g:=λk=>sumI (λl=>kG A n k j*(A k l*w l)) n) (λk _=>(Cg _ _ n).symm),FI];rw [yU (g:=λl=>w l*sumI (λk=>A k l*kG A n k j) n) (λl _=>by
   rw[<-Cg];exact yU λk _=>by rw[o9 (w l),<-Int.mul_assoc,o9 (kG A n k j)])]
  rw[FJ (k:=j) hj (λi hi ne=>by rw[yW A hn hi hj,if_neg ne,xp]),yW A hn hj hj,if_pos rfl,o9]
 rw[<-e];exact yV λk hk=>by rw[h k hk,xp]
end Dt
end
namespace Dt
open B.C
def tA(t:List (List Int)):Nat->R:=λi j=>ga (gr t i) j
theorem wj(P:Nat->R)(ha:a<=4)(hk:k<a)(j:Nat):M P a k j=0:=by
 match a,ha,k,hk with
 |1,_,0,_=>have:=vM (P 0) (P 0) 0 j;show m2 _ _ _ _=0;omega
 |2,_,0,_=>have:=vN (P 0) (P 1) (P 0) 0 1 j;show m3 _ _ _ _ _ _=0;omega
 |2,_,1,_=>have:=yR (P 0) (P 1) (P 1) 0 1 j;show m3 _ _ _ _ _ _=0;omega
 |3,_,0,_=>have:=vO (P 0) (P 1) (P 2) (P 0) 0 1 2 j;show m4 _ _ _ _ _ _ _ _=0;omega
 |3,_,1,_=>have:=yT (P 0) (P 1) (P 2) (P 1) 0 1 2 j;show m4 _ _ _ _ _ _ _ _=0;omega
 |3,_,2,_=>have:=yS (P 0) (P 1) (P 2) (P 2) 0 1 2 j;show m4 _ _ _ _ _ _ _ _=0;omega
 |4,_,0,_=>have:=FF (P 0) (P 1) (P 2) (P 3) (P 0) 0 1 2 3 j;show m5 _ _ _ _ _ _ _ _ _ _=0;omega
 |4,_,1,_=>have:=FE (P 0) (P 1) (P 2) (P 3) (P 1) 0 1 2 3 j;show m5 _ _ _ _ _ _ _ _ _ _=0;omega
 |4,_,2,_=>have:=FD (P 0) (P 1) (P 2) (P 3) (P 2) 0 1 2 3 j;show m5 _ _ _ _ _ _ _ _ _ _=0;omega
 |4,_,3,_=>have:=FC (P 0) (P 1) (P 2) (P 3) (P 3) 0 1 2 3 j;show m5 _ _ _ _ _ _ _ _ _ _=0;omega
def nv(P:Nat->R)(a:Nat):Nat->Int:=λj=>match a,j with
 |0,0=>1
 |1,0=>- P 0 1
 |1,1=>P 0 0
 |2,0=>m2 (P 0) (P 1) 1 2
 |2,1=>- m2 (P 0) (P 1) 0 2
 |2,2=>m2 (P 0) (P 1) 0 1
 |3,0=>- m3 (P 0) (P 1) (P 2) 1 2 3
 |3,1=>m3 (P 0) (P 1) (P 2) 0 2 3
 |3,2=>- m3 (P 0) (P 1) (P 2) 0 1 3
 |3,3=>m3 (P 0) (P 1) (P 2) 0 1 2
 |4,0=>m4 (P 0) (P 1) (P 2) (P 3) 1 2 3 4
 |4,1=>- m4 (P 0) (P 1) (P 2) (P 3) 0 2 3 4
 |4,2=>m4 (P 0) (P 1) (P 2) (P 3) 0 1 3 4
 |4,3=>- m4 (P 0) (P 1) (P 2) (P 3) 0 1 2 4
 |4,4=>m4 (P 0) (P 1) (P 2) (P 3) 0 1 2 3
 |_,_=>0
theorem Lo(P:Nat->R)(ha:a<=4)(h:a<j):nv P a j=0:=by
 match a,ha,j,h with
 |0,_,_+1,_=>rfl
 |1,_,_+2,_=>rfl
 |2,_,_+3,_=>rfl
 |3,_,_+4,_=>rfl
 |4,_,_+5,_=>rfl
theorem wk(P:Nat->R)(ha:a<=4):nv P a a=dt P a:=by
 match a,ha with
 |0,_=>rfl
 |1,_=>rfl
 |2,_=>rfl
 |3,_=>rfl
 |4,_=>rfl
theorem FV{f:Nat->Int}{m:Nat}:∀{n:Nat},m<=n->(∀j,m<=j->f j=0)->sumI f n=sumI f m
 |0,h,_=>by rw[Ybs.mp h]
 |n+1,h,h0=>by
  by_cases e:m=n+1
  .rw[e]
  .rw[sumI,h0 n (by omega),Int.add_zero]
   exact FV (by omega) h0
theorem Lp(P:Nat->R)(ha:a<=4)(hn:a<n):sumI (λj=>P k j*nv P a j) n=M P a k a:=by
 rw[FV (m:=a+1) (by omega) (λj hj=>by rw[Lo P ha (by omega),xp])]
 match a,ha with
 |0,_=>show 0+P k 0*1=P k 0;omega
 |1,_=>show 0+P k 0*(- P 0 1)+P k 1*P 0 0=m2 (P 0) (P k) 0 1;unfold m2;grind
 |2,_=>show 0+P k 0*m2 (P 0) (P 1) 1 2+P k 1*(- m2 (P 0) (P 1) 0 2)+P k 2*m2 (P 0) (P 1) 0 1=m3 (P 0) (P 1) (P k) 0 1 2;unfold m3;grind
 |3,_=>show 0+P k 0*(- m3 (P 0) (P 1) (P 2) 1 2 3)+P k 1*m3 (P 0) (P 1) (P 2) 0 2 3+P k 2*(- m3 (P 0) (P 1) (P 2) 0 1 3)+P k 3*m3 (P 0) (P 1) (P 2) 0 1 2=m4 (P 0) (P 1) (P 2) (P k) 0 1 2 3;unfold m4;grind
 |4,_=>show 0+P k 0*m4 (P 0) (P 1) (P 2) (P 3) 1 2 3 4+P k 1*(- m4 (P 0) (P 1) (P 2) (P 3) 0 2 3 4)+P k 2*m4 (P 0) (P 1) (P 2) (P 3) 0 1 3 4+P k 3*(- m4 (P 0) (P 1) (P 2) (P 3) 0 1 2 4)+P k 4*m4 (P 0) (P 1) (P 2) (P 3) 0 1 2 3=m5 (P 0) (P 1) (P 2) (P 3) (P k) 0 1 2 3 4;unfold m5;grind
structure Br(A:Nat->R)(n a:Nat)(x:St3)(P:Nat->R):Prop where
 sm:∃b,Sm b n x.t
 l0:x.l≠0
 sgn:dt A n=x.s*dt P n
 last:x.l=dt P a
 ent:∀i,a<=i->i<n->∀j,j<n->ga (gr x.t i) j=M P a i j
 row:∀i,i<n->∃i',i'<n/\A i=P i'
theorem Lq{A B:Nat->R}(h:∀l,l<k->A l=B l):dt A k=dt B k:=by
 cases k with
 |zero=>rfl
 |succ k=>exact FG (λl hl=>h l (by omega)) (h k (by omega))
theorem Lr{row here:List Int}{l:Int}(hj:j<row.length):ga (gG row here a l) j=(ga row j*ga here a-ga row a*ga here j).fdiv l:=by
 show(gG row here a l).getD j 0=_;unfold gG;rw[aY,cK,jG hj];rfl
theorem Br.step{A:Nat->R}{x y:St3}{P:Nat->R}(h:Br A n a x P)(hn:n<=5)(ha:a<n)(e:f9 a x=some y):∃P',Br A n (a+1) y P':=by
 obtain⟨b,sm⟩:=h.sm;have xl:=sm.len;unfold f9 at e;split at e
 .cases e
 rename_i g gs eg;cases e;obtain⟨g1,g2,g3⟩:=BD sm (g:=g) (by rw[eg];simp);have w:=BB sm ha g2;have wl:=w.len;have swr:∀k,k<n->gr (c8 x.t a g) k=if k=g then gr x.t a else if k=a then gr x.t g else gr x.t k:=λk hk=>by
  unfold c8;rw[yL (by rw[d8];omega),yL (by omega)]
 refine⟨sw P a g,⟨_,yM (k:=(c8 x.t a g).length) w ha h.l0⟩,?_,?_,?_,λi hi hin j hj=>?_,λi hi=>?_⟩
 .show ga (gr (bQ (c8 x.t a g) a (c8 x.t a g).length x.l) a) a≠0
  rw[tZ (by omega),if_neg (by omega),BC sm ha g2];exact g3
 .show dt A n=x.s*(1-2*(if g=a then 0 else 1))*dt (sw P a g) n
  rw[h.sgn]
  by_cases e:g=a
  .subst e
   rw[if_pos rfl,show sw P g g=P from by funext i;unfold sw;split<;>simp_all];grind
  .rw[if_neg e,Cf P hn (by omega:a<g) g2]
   grind
 .show ga (gr (bQ (c8 x.t a g) a (c8 x.t a g).length x.l) a) a=M (sw P a g) a a a
  rw[tZ (by omega),if_neg (by omega),BC sm ha g2,h.ent g g1 g2 a ha];have:M (sw P a g) a a a=M (λl=>if l=g then sw P a g a else sw P a g l) a g a:=by
   have h1:∀(B:Nat->R) (k:Nat),M B k k k=M (λl=>if l=g then B k else B l) k g k->True:=λ_ _ _=>trivial
   match a,ha,g1 with
   |0,_,_=>simp[M]
   |1,_,_=>simp only[M];rw[if_neg (by omega)];simp
   |2,_,_=>simp only[M];rw[if_neg (by omega),if_neg (by omega)];simp
   |3,_,_=>simp only[M];rw[if_neg (by omega),if_neg (by omega),if_neg (by omega)];simp
   |4,_,_=>simp only[M];rw[if_neg (by omega),if_neg (by omega),if_neg (by omega),if_neg (by omega)];simp
   |_+5,h,_=>omega
  rw[this];refine FG (λl hl=>?_) ?_
  .show P l=if l=g then _ else sw P a g l
   unfold sw;rw[if_neg (by omega),if_neg (by omega),if_neg (by omega)]
  .show P g=if g=g then sw P a g a else _
   unfold sw;rw[if_pos rfl,if_pos rfl]
 .have hai:a<i:=by omega
  have hA:∀k,a<=k->k<n->∀j,j<n->ga (gr (c8 x.t a g) k) j=M (sw P a g) a k j:=λk hk hkn j hj=>by
   have low:∀l,l<a->P l=sw P a g l:=λl hl=>by unfold sw;rw[if_neg (by omega),if_neg (by omega)]
   have mv:∀k',a<=k'->k'<n->P k'=sw P a g k->M P a k' j=M (sw P a g) a k j:=λk' h1 h2 h3=>by
    have hh:∀(B C:Nat->R) (i i':Nat),(∀l,l<a->B l=C l)->B i=C i'->M B a i j=M C a i' j:=λB C i i' q1 q2=>by
     match a,q1 with
     |0,_=>show B i j=C i' j;rw[q2]
     |1,q1=>simp only[M];rw[q2,q1 0 (by omega)]
     |2,q1=>simp only[M];rw[q2,q1 0 (by omega),q1 1 (by omega)]
     |3,q1=>simp only[M];rw[q2,q1 0 (by omega),q1 1 (by omega),q1 2 (by omega)]
     |4,q1=>simp only[M];rw[q2,q1 0 (by omega),q1 1 (by omega),q1 2 (by omega),q1 3 (by omega)]
     |_+5,_=>simp only[M]
    exact hh _ _ _ _ low h3
   rw[swr k hkn]
   by_cases e1:k=g
   .subst e1
    rw[if_pos rfl,h.ent a (cB _) ha j hj];refine mv a (cB _) ha ?_;unfold sw
    by_cases e2:k=a
    .subst e2;rw[if_pos rfl]
    .rw[if_neg e2,if_pos rfl]
   .rw[if_neg e1]
    by_cases e2:k=a
    .subst e2
     rw[if_pos rfl,h.ent g g1 g2 j hj];refine mv g g1 g2 ?_;unfold sw;rw[if_pos rfl]
    .rw[if_neg e2,h.ent k hk hkn j hj]
     refine mv k hk hkn ?_;unfold sw;rw[if_neg e2,if_neg e1]
  show ga (gr (bQ (c8 x.t a g) a (c8 x.t a g).length x.l) i) j=M (sw P a g) (a+1) i j;rw[tZ (by omega),if_pos ⟨hai,by omega⟩,Lr (by rw[(w.gr hin).2.1];exact hj),hA i (by omega) hin j hj,hA a (cB _) ha a ha,hA i (by omega) hin a ha,hA a (cB _) ha j hj,<-Lk (sw P a g) (k:=a) (by omega) i j];have el:dt (sw P a g) a=x.l:=by
   rw[h.last];exact Lq λl hl=>by unfold sw;rw[if_neg (by omega),if_neg (by omega)]
  rw[el];exact Int.mul_fdiv_cancel _ h.l0
 .obtain⟨i',h1,h2⟩:=h.row i hi
  by_cases e1:i'=a
  .subst e1
   refine⟨g,g2,?_⟩;rw[h2];unfold sw
   by_cases e2:g=i'
   .subst e2;rw[if_pos rfl]
   .rw[if_neg e2,if_pos rfl]
  .by_cases e2:i'=g
   .subst e2
    refine⟨a,ha,?_⟩;rw[h2];unfold sw;rw[if_pos rfl]
   .refine⟨i',h1,?_⟩
    rw[h2];unfold sw;rw[if_neg e1,if_neg e2]
theorem Br.run{b n:Nat}{t:List (List Int)}(h:Sm b n t)(hn:n<=5):∀{a:Nat},a<=n->∀{x:St3},cY t a=some x->∃P,Br (tA t) n a x P
 |0,_,x,e=>by
  cases e;exact⟨tA t,⟨b,h⟩,show(1:Int)≠0 by decide,by show _=1*_;rw[tD],rfl,λi _ _ j _=>rfl,λi hi=>⟨i,hi,rfl⟩⟩
 |a+1,ha,x,e=>by
  rw[cY] at e;cases e1:cY t a with
  |none=>rw[e1] at e;cases e
  |some y=>
   rw[e1] at e;obtain⟨P,hP⟩:=Br.run h hn (by omega) e1;exact hP.step hn (by omega) e
theorem FW{t:List (List Int)}:∀{n:Nat},cY t n=none->∃a x,a<n/\cY t a=some x/\gH x.t a=[]
 |0,e=>by cases e
 |n+1,e=>by
  rw[cY] at e;cases e1:cY t n with
  |none=>
   obtain⟨a,x,h1,h2,h3⟩:=FW e1;exact⟨a,x,by omega,h2,h3⟩
  |some x=>
   rw[e1] at e;refine⟨n,x,by omega,e1,?_⟩;have e:f9 n x=none:=e;unfold f9 at e;split at e
   .assumption
   .cases e
theorem Ls(h:Sm b n t)(hn:n<=5):(fH t=dt (tA t) n/\fH t≠0/\∃x,cY t n=some x)\/(fH t=0/\∃w:Nat->Int,(∃a,a<n/\w a≠0)/\∀i,i<n->sumI (λj=>tA t i j*w j) n=0):=by
 unfold fH;rw[h.len];cases e:cY t n with
 |some x=>
  obtain⟨P,hP⟩:=Br.run h hn (cB _) e;refine .inl ⟨?_,?_,x,rfl⟩
  .show x.s*x.l=_
   rw[hP.last,hP.sgn]
  .show x.s*x.l≠0
   refine jI ?_ hP.l0;have:∀{a:Nat} {x:St3},cY t a=some x->x.s≠0:=λ{a}=>by
    induction a with
    |zero=>intro x e;cases e;exact show(1:Int)≠0 by decide
    |succ a ih=>
     intro x e;rw[cY] at e;cases e1:cY t a with
     |none=>rw[e1] at e;cases e
     |some y=>
      rw[e1] at e;have e:f9 a y=some x:=e;unfold f9 at e;split at e
      .cases e
      .cases e
       exact jI (ih e1) (by split<;>decide)
   exact this e
 |none=>
  obtain⟨a,x,ha,ea,eg⟩:=FW e;obtain⟨P,hP⟩:=Br.run h hn (ge ha) ea;obtain⟨b',sm⟩:=hP.sm;have xl:=sm.len;have z:∀k,k<n->M P a k a=0:=λk hk=>by
   by_cases hka:k<a
   .exact wj P (by omega) hka a
   .rw[<-hP.ent k (by omega) hk a ha]
    refine Classical.byContradiction λc=>?_;have:k∈gH x.t a:=by
     unfold gH;refine Yag.mpr ⟨YbQ.mpr ⟨k-a,Yah.mpr (by omega),by omega⟩,by simpa using c⟩
    rw[eg] at this;cases this
  refine .inr ⟨rfl,nv P a,⟨a,ha,?_⟩,λi hi=>?_⟩
  .rw[wk P (by omega),<-hP.last]
   exact hP.l0
  .obtain⟨i',h1,h2⟩:=hP.row i hi
   rw[h2,Lp P (by omega) ha];exact z i' h1
theorem num_dt(h:Sm b n t)(hn:n<=5):fH t=dt (tA t) n:=by
 rcases Ls h hn with⟨e,_⟩|⟨e,w,⟨a,ha,wa⟩,hw⟩
 .exact e
 .rw[e]
  rcases Int.mul_eq_zero.mp (Ln (tA t) hn hw ha) with z|z
  .exact z.symm
  .exact Nq z wa
end Dt
def FnAt(K:Nn)(mg:Str->Option Value)(x:Str)(st:Stmt):Prop:=∃f fd,Fun K x x st f fd/\mg x=some (.ref f)/\iH K x=some f
def CC(K:Nn)(mg:Str->Option Value)(x:Str):Prop:=∃a,mg x=some (.ref a)/\iH K x=some a
def CI(mg:Str->Option Value)(x:Str)(i:Int):Prop:=∃t,mg x=some (.int i t)
def CT(K:Nn)(mg:Str->Option Value)(x:Str)(ds:List D):Prop:=∃a vs,mg x=some (.ref a)/\KT K a vs/\∀W,Reps K W vs ds
section
theorem FnAt.cc(F:FnAt K mg x st):CC K mg x:=let⟨f,_,_,m,q⟩:=F;⟨f,m,q⟩
theorem mkF(X:K.In h)(G:h.Ns mainGlobals mg){oc:Value}{kV doc pm cdv ct:Value}(a:PySem.W.nsIn K mainGlobals x=some (some (.ref f)))(l:K.lookup f=some ⟨oc,od,.func (PySem.W.fnOf x x (cT st) (bH st) (aJ st) .none kV doc pm an cdv ct),osl⟩)
  (c:PySem.W.codeIn K cdv x=true) (k:PySem.W.keepIn K (.ref f)=true):FnAt K mg x st:=⟨f,_,rX l c k,PySem.W.mg_of X G a,sE a⟩
theorem mkC(X:K.In h)(G:h.Ns mainGlobals mg)(a:PySem.W.nsIn K mainGlobals x=some (some (.ref f))):CC K mg x:=⟨f,PySem.W.mg_of X G a,sE a⟩
theorem mkI(X:K.In h)(G:h.Ns mainGlobals mg){i:Int}{t:Tok}(a:PySem.W.nsIn K mainGlobals x=some (some (.int i t))):CI mg x i:=⟨t,PySem.W.mg_of X G a⟩
theorem mkT(X:K.In h)(G:h.Ns mainGlobals mg){d:Option Addr}{sl:Array (Option Value)}{i j:Int}{t u:Tok}(a:PySem.W.nsIn K mainGlobals x=some (some (.ref f)))(l:K.lookup f=some ⟨.type "tuple",d,.seq #[.int i t,.int j u] n,sl⟩):CT K mg x [.int i,.int j]:=
 ⟨f,[.int i,.int j],PySem.W.mg_of X G a,⟨_,_,_,l,rfl,rfl,(by show 2<=sizeLine;decide),.cons ⟨_,rfl⟩ (.cons ⟨_,rfl⟩ .nil)⟩,λ_=>.cons (.int _) (.cons (.int _) .nil)⟩
theorem mkX(X:K.In h)(G:h.Ns mainGlobals mg)(a:PySem.W.nsIn K mainGlobals x=some (some (.ref f)))(e:PySem.W.excIn K f [.type "ValueError",.type "Exception",.type "BaseException",.type "object"] "ValueError.__new__" = true):XC K mg x:=
 ⟨f,_,_,_,sE a,PySem.W.mg_of X G a,e,PySem.F.excBase_ValueError⟩
theorem mkH(X:K.In h)(G:h.Ns mainGlobals mg){L:List Str}(a:PySem.W.nsIn K mainGlobals x=some (some (.ref f)))(e:PySem.W.excIn K f [.type "ValueError",.type "Exception",.type "BaseException",.type "object"] "ValueError.__new__" = true)
  (m:∀n∈L,∃D,PySem.W.nsIn K mainGlobals (nX n)=some (some (.ref D))/\PySem.W.mroIn K D (.ref f)=some true):XT K mg x L:=
 ⟨f,_,_,PySem.W.mg_of X G a,e,by decide +kernel,λn hn D hD=>by
  obtain⟨D',e1,e2⟩:=m n hn;rw[sE e1] at hD;cases hD;exact e2⟩
end
section
variable{w:World}{N:List Str}{z:WS}
universe u
theorem FX{α:Sort u}{F G:List Value->α}(h:∀a,F [a]=G [a]):∀us:List Value,us.length=1->F us=G us
 |[_],_=>h _
theorem FY{α:Sort u}{F G:List Value->α}(h:∀a b,F [a,b]=G [a,b]):∀us:List Value,us.length=2->F us=G us
 |[_,_],_=>h _ _
theorem FZ{α:Sort u}{F G:List Value->α}(h:∀a b c,F [a,b,c]=G [a,b,c]):∀us:List Value,us.length=3->F us=G us
 |[_,_,_],_=>h _ _ _
theorem F0{α:Sort u}{F G:List Value->α}(h:∀a b c d,F [a,b,c,d]=G [a,b,c,d]):∀us:List Value,us.length=4->F us=G us
 |[_,_,_,_],_=>h _ _ _ _
theorem cH(rd:Rd S z N)(h:FnAt K mg x st)
  (hbody:∀ {f:Addr} {cdv:Value} {A:Around} {outer:List Env} {s:Shared} {H:Hp} {E:XK} (sc:N.Nodup),Room k (A.deeper (envOfC x (aJ st) s.heap.objs.size f cdv))->
   cQ (eQ P w) (dP (eQ P w) P w K mg base N x (aJ st) f cdv A outer s H E) E->k9 (dP (eQ P w) P w K mg base N x (aJ st) f cdv A outer s H E) E->
   je (dP (eQ P w) P w K mg base N x (aJ st) f cdv A outer s H E) E (bH st) z)
  (sc:cS N ps (aJ st):=by exact⟨rfl,rfl,rfl,by decide +kernel,rfl,by decide +kernel,by decide +kernel⟩)
  (len:∀ds E Q,S ds E Q->ds.length=ps.length:=by first|exact fnS.len λ_=>rfl|exact xS.len λ_=>rfl|exact rlS.len λ_=>rfl)
  (hb:∀ (kV doc pm:Value) (an:Option Addr) (cdv ct:Value) (us:List Value),us.length=ps.length->bindArgs (PySem.W.fnOf x x (cT st) (bH st) (aJ st) .none kV doc pm an cdv ct) ⟨us,[]⟩=pure (ps.zip us):=by
   intro _ _ _ _ _ _;(first|refine FX ?_|refine FY ?_|refine FZ ?_|refine F0 ?_);intros;rfl)
  (mono:nZ S:=by first|exact fnS.mono|exact rlS.mono|exact xS.mono):Fp P w K mg base (k+1) x ps S:=by
 obtain⟨f,fd,F,m,q⟩:=h;exact Fp.of (vc (z:=z) F sc len (λcdv A outer s H E hr hx hw=>hbody sc.nd hr hx hw) rd) mono m F.kp (F.binds hb)
theorem wm(h:FnAt K mg x st)
  (hbody:∀ (sc:N.Nodup) (f:Addr) (cdv:Value) (A:Around) (outer:List Env) (s:Shared) (H:Hp),RoomU k (A.deeper (envOfC x (aJ st) s.heap.objs.size f cdv))->
   je (rZ P w K mg base N x (aJ st) f cdv A outer s H) E0 (bH st) z)
  (rd:∀ds E Q,S ds E Q->z No { nx:=λ_=>Q .non,rt:=Q } (ef N ds))
  (sc:cS N ps (aJ st):=by exact⟨rfl,rfl,rfl,by decide +kernel,rfl,by decide +kernel,by decide +kernel⟩)
  (len:∀ds E Q,S ds E Q->ds.length=ps.length:=by first|exact fnS.len λ_=>rfl|exact xS.len λ_=>rfl|exact rlS.len λ_=>rfl)
  (hb:∀ (kV doc pm:Value) (an:Option Addr) (cdv ct:Value) (us:List Value),us.length=ps.length->bindArgs (PySem.W.fnOf x x (cT st) (bH st) (aJ st) .none kV doc pm an cdv ct) ⟨us,[]⟩=pure (ps.zip us):=by
   intro _ _ _ _ _ _;(first|refine FX ?_|refine FY ?_|refine FZ ?_|refine F0 ?_);intros;rfl)
  (mono:nZ S:=by first|exact fnS.mono|exact rlS.mono|exact xS.mono):yt P w K mg base (k+1) x ps S:=by
 obtain⟨f,fd,F,m,q⟩:=h;exact⟨⟨f,fd,Bb (z:=z) F sc len (λcdv A outer s H hr=>hbody sc.nd f cdv A outer s H hr) rd,m,F.kp,F.binds hb⟩,mono⟩
theorem Lu{l:PySem.W.OpenLaw}(h:FnAt K mg x st)(hfa:mg x=some (.ref fa))
  (hbody:∀ (base:Heap) (sc:N.Nodup) (f:Addr) (cdv:Value) (A:Around) (outer:List Env) (s:Shared) (H:Hp) (E:XK),Room k (A.deeper (envOfC x (aJ st) s.heap.objs.size f cdv))->
   cQ (eQ l.prog w) (dP (eQ l.prog w) l.prog w K mg base N x (aJ st) f cdv A outer s H E) E->k9 (dP (eQ l.prog w) l.prog w K mg base N x (aJ st) f cdv A outer s H E) E->
   je (dP (eQ l.prog w) l.prog w K mg base N x (aJ st) f cdv A outer s H E) E (bH st) z)
  (rd:Rd S z N)
  (sc:cS N ["_law_script"] (aJ st):=by exact⟨rfl,rfl,rfl,by decide +kernel,rfl,by decide +kernel,by decide +kernel⟩)
  (len:∀ds E Q,S ds E Q->ds.length=1:=by exact fnS.len (ps:=["_law_script"]) λ_=>rfl)
  (hb:∀(kV doc pm:Value) (an:Option Addr) (cdv ct:Value) (s:Shared) (v:Value),BindsTo s (PySem.W.fnOf x x (cT st) (bH st) (aJ st) .none kV doc pm an cdv ct) ⟨[v],[]⟩ [("_law_script",v)]:=by exact λ_ _ _ _ _ _ _ _=>.of_eq rfl) :
  ∃fd:FuncData,(∀(s:Shared) (v:Value),BindsTo s fd ⟨[v],[]⟩ [("_law_script",v)])/\∀base:Heap,K.In base->base.Ns mainGlobals mg->FnOk l.prog w K mg base (eQ l.prog w) (k+1) fa fd ["_law_script"] (fV K S):=by
 obtain⟨f,fd,F,m,q⟩:=h;rw[m] at hfa;cases hfa;refine⟨fd,?_,λbase _ _=>vc (z:=z) F sc len (λcdv A outer s H E hr hx hw=>hbody base sc.nd _ cdv A outer s H E hr hx hw) rd⟩;obtain⟨_,_,_,_,_,_,_,_,_,rfl,_⟩:=F.ex;exact hb _ _ _ _ _ _
end
section
variable{pos:Pos}{l:List (Str×bF)}
theorem oB(h:CC X.K X.mg x)(hg:Gl X x:=by rfl)(hd:(x==("__debug__" : Str))=false:=by decide):PX X EX (.Name x pos) (wC (.cls x)):=let⟨_,m,q⟩:=h;Js m q hg hd
theorem yX{i:Int}(h:CI X.mg x i)(hg:Gl X x:=by rfl)(hd:(x==("__debug__" : Str))=false:=by decide):PX X EX (.Name x pos) (wC (.int i)):=let⟨_,m⟩:=h;IY m hg hd
theorem qe(h:CT X.K X.mg x ds)(hg:Gl X x:=by rfl)(hd:(x==("__debug__" : Str))=false:=by decide):PX X EX (.Name x pos) (wC (.tup ds)):=let⟨_,_,m,k,r⟩:=h;IZ m k r hg hd
theorem F1(h:FnAt X.K X.mg x st)(G:Fp X.prog X.w X.K X.mg X.base k x ps S)(t:∀y∈l,sP X j y)(hk:k<=j:=by decide):∀y∈(x,S)::l,sP X j y:=let⟨_,_,_,m,q⟩:=h;KO ⟨_,_,_,m,q,hk,G⟩ t
end
section
variable{n m:Str}{D C:Addr}{M:List Str}
theorem exD(a:PySem.W.nsIn K mainGlobals n=some (some (.ref D)))(b:PySem.W.mroIn K D (.ref f)=some true):∃D,PySem.W.nsIn K mainGlobals n=some (some (.ref D))/\PySem.W.mroIn K D (.ref f)=some true:=⟨D,a,b⟩
theorem exX(a:PySem.W.nsIn K mainGlobals n=some (some (.ref D)))(c:gZ K D)(k:PySem.W.kitOne K (.ref D) (.type "ValueError")=some true)(h:∀m∈M,∃C,iH K m=some C/\PySem.W.kitOne K (.ref D) (.ref C)=some (n==m)) :
  ∃D,iH K n=some D/\gZ K D/\PySem.W.kitOne K (.ref D) (.type "ValueError")=some true/\∀m∈M,∃C,iH K m=some C/\PySem.W.kitOne K (.ref D) (.ref C)=some (n==m):=⟨D,sE a,c,k,h⟩
theorem exC(a:PySem.W.nsIn K mainGlobals m=some (some (.ref C)))(b:PySem.W.kitOne K (.ref D) (.ref C)=some (n==m)):∃C,iH K m=some C/\PySem.W.kitOne K (.ref D) (.ref C)=some (n==m):=⟨C,sE a,b⟩
end
section
variable{pos:Pos}
end
theorem Ext.none{W W':Wd}{H H':Hp}{a:Addr}(x:Ext W H W' H')(h:H' a=none):H a=none:=by
 cases e:H a with
 |none=>rfl
 |some o=>
  by_cases p:W.Pn a
  .obtain⟨po,_⟩:=x.ok.p a (x.p a p)
   unfold Zoh at po;rw[h] at po;simp at po
  .rw[x.h a o e p] at h
   cases h
abbrev F2:=List D->(Ex->Prop)->(List D->Prop)->Prop
abbrev Lv:=(Ex->Prop)->(List D->Prop)->cP->Prop
section
variable{pos:Pos}{rest:List Stmt}
end
section
variable{pos:Pos}{t:WA}{S:F2}
end
section
variable{w:World}{N:List Str}{S:F2}{z:Lv}
end
section
variable{pos:Pos}
end
section
variable{pos:Pos}{t:WA}
end
section
variable{pos:Pos}
def Cq(i:Nat)(t:WA):WS:=λE N ρ=>match ρ[i]? with
 |some (.ow xs)=>t E ρ λys=>xs.length+ys.length<=aM/\N.nx (ρ.set i (.ow (xs++ys)))
 |_=>False
end
section
variable{a b:Expr}{rest:List Expr}{pos:Pos}
end
section
variable{pos:Pos}
end
section
variable{pos:Pos}{a b:Expr}
def Lw(wt:WT)(wa wb:WA):WA:=λE ρ Q=>wt E ρ λk=>if k=true then wa E ρ Q else wb E ρ Q
end
namespace B.C.Q0
abbrev Pr:=Rat×List Rat
def iQ(p:Pr):D:=.tup [aR p.1,aE p.2]
def dN(ps:List Pr):D:=.lst (ps.map iQ)
structure Pq(b n:Nat)(p:Pr):Prop where
 l:p.2.length=n
 w:Sz b p.1
 r:∀y∈p.2,Sz b y
def cZ(n:Int):D->Bool
 |.tup [w,r]=>cN w&&(!decide (sC w=0))&&fZ n r
 |_=>false
def F3(n:Int):D->Bool
 |.lst xs=>decide (xs.length<=10)&&xs.all (cZ n)
 |_=>false
def Cr:D->Pr
 |.tup [w,r]=>(sC w,rQ r)
 |_=>(0,[])
def sqs:D->List Pr
 |.lst xs=>xs.map Cr
 |_=>[]
def gs:List Pr->Nat->Nat->Rat
 |[],_,_=>0
 |p::ps,i,j=>p.1*(p.2.getD i 0*p.2.getD j 0)+gs ps i j
def tT(s:List Int)(n i j:Nat):Int:=ga (gr (tbl s n) i) j
def oX(s:List Int)(n:Nat)(ps:List Pr):Prop:=∀i,i<n->∀j,j<n->gs ps i j=(tT s n i j:Rat)
instance(s:List Int)(n:Nat)(ps:List Pr):Decidable (oX s n ps):=by unfold oX;infer_instance
def t8(s:List Int)(n:Nat)(x:D):Bool:=F3 n x&&decide (oX s n (sqs x))
def Ct(s:List Int)(n:Nat)(x:D):Except Str D:=if s.reverse=s then .ok (.bl (t8 s n x)) else .error "NotEven"
def fJ(R:List (List Rat)):List Pr->List (List Rat)
 |[]=>R
 |p::ps=>fJ (List.zipWith (λrow share=>aV row (p.1*share) p.2) R p.2) ps
def jt(t:List (List Int))(k:Nat):List (List Int):=(t.take k).map (·.take k)
def Stg(s:List Int)(n m:Nat):Prop:=∀k,k<m->fH (jt (tbl s n) (k+1))≠0
def Th(d:D):Prop:=fx d [21,3,7,7,7]=true\/fx d [1,21,3,7,7]=true
def Zd:bF:=fnS (λx:D×Int=>[x.1,.int x.2]) (λx=>kd x.1=true) λx=>.bl (cZ x.2 x.1)
def sT(b k:Nat):Prop:=7+(3*b+1)*k+3*b<8990
def qf(b:Nat)(x:D):Prop:=∀xs,x=.lst xs->xs.length<=10->sT b xs.length
def yY:bF:=fnS (λx:(Nat×SL)×List Pr=>[aO x.1.2.1,dN x.2]) (λx=>IsSl x.1.2.1 x.1.2.2/\sT x.1.1 x.2.length/\∀p∈x.2,Pq x.1.1 x.1.2.2 p) λx=>.lst ((fJ ((tbl x.1.2.1 x.1.2.2).map cX) x.2).map aE)
def Cu:bF:=xS (λx:(Nat×SL)×D=>[aO x.1.2.1,x.2]) (λx=>IsSl x.1.2.1 x.1.2.2/\kd x.2=true/\eu x.1.1 x.2=true/\qf x.1.1 x.2) λx=>Ct x.1.2.1 x.1.2.2 x.2
def yZ:bF:=rlS (λ_:Unit=>[.pen]) (λ_=>True) λ_ d=>∃s n,IsSl s n/\s.reverse=s/\d=aO s
def y4:bF:=fnS (λx:(Nat×SL)×D=>[bO x.1.2.1 x.1.2.2,x.2]) (λx=>IsSl x.1.2.1 x.1.2.2/\x.1.2.1.reverse=x.1.2.1/\kd x.2=true/\eu x.1.1 x.2=true/\qf x.1.1 x.2) λx=>.bl (t8 x.1.2.1 x.1.2.2 x.2)
section
variable{E:Ex->Prop}{x:D}{c:Nat}{i:Int}{t:List Rat}{ps:List Pr}
theorem Lx(h:kd x=true)(q:Q (.bl (cZ i x))):Zd [x,.int i] E Q:=⟨(x,i),rfl,h,q⟩
theorem Ly(h:IsSl s n)(h1:sT b ps.length)(h2:∀p∈ps,Pq b n p)(q:Q (.lst ((fJ ((tbl s n).map cX) ps).map aE))):yY [aO s,dN ps] E Q:=⟨((b,s,n),ps),rfl,⟨h,h1,h2⟩,q⟩
theorem Lz(q:∀s n,IsSl s n->s.reverse=s->Q (aO s)):yZ [.pen] E Q:=⟨(),rfl,trivial,λd ⟨s,n,h,h1,e⟩=>by rw[e];exact q s n h h1⟩
theorem LA(h:IsSl s n)(h0:s.reverse=s)(h1:kd x=true)(h2:eu b x=true)(h3:qf b x)(q:Q (.bl (t8 s n x))):y4 [bO s n,x] E Q:=⟨((b,s,n),x),rfl,⟨h,h0,h1,h2,h3⟩,q⟩
end
abbrev Zgq:List Str:=["thing", "many"]
def F5:WS:=(aG (cE (dC (aW (wT (wB gIs (aC (wN 0) (aC (wC (.ty "tuple")) aA))))) (wT (w2 (gEq true) (wB bL (aC (wN 0) aA)) (wC (D.int (2)))))) (aK (wC (D.bl false))) cF) (aK (fo (wF tP (aC (w2 gIx (wN 0) (wC (D.int (0)))) aA)) (fo (w2 (gEq true) (w2 gIx (wN 0) (wC (D.int (0)))) (wC (D.tup [(D.int (0)),(D.int (1))]))) (wF tQ (aC (w2 gIx (wN 0) (wC (D.int (1)))) (aC (wN 1) aA)))))))
abbrev Zkf:List Str:=["slants", "squares", "rows", "weight", "square"]
def F6:WS:=(aG (aQ 2 (wF tS (aC (wN 0) aA))) (bM 2 (aG (bB (bD (iS (wN 1)) (dF 2 (cI (gN 3) (cI (gN 4) dE))) (bM 2 (bX 2 (aLC (iZ (aC (wN 2) (aC (wN 4) aA))) 2 [3,4] (dF 2 (cI (gN 0) (cI (gN 1) dE))) cV (wF oW (aC (wN 0) (aC (wF qJ (aC (wN 2) (aC (wN 1) aA))) (aC (wN 3) aA))))))))) (bM 2 (aK (wN 2))))))
abbrev Ze7:List Str:=["slants", "thing", "size"]
def F7:WS:=(aG (gO (wF sM (aC (wN 0) aA))) (aG (aQ 2 (wF oh (aC (wN 0) aA))) (aG (cE (dC (aW (wT (wB gIs (aC (wN 1) (aC (wC (.ty "list")) aA))))) (wT (w2 jo (wB bL (aC (wN 1) aA)) (wC (.int (10)))))) (aK (wC (D.bl false))) cF) (aG (cE (aW (wT (wB iK (aC (wL (aLC (iS (wN 1)) 1 [2] (gN 0) cV (wF Zd (aC (wN 0) (aC (wN 1) aA))))) aA)))) (aK (wC (D.bl false))) cF) (aK (w2 (gEq false) (wF yY (aC (wN 0) (aC (wN 1) aA))) (w2 gMul (wL (bN (aC (w2 Zdk (aX (aC (wC (D.tup [(D.int (0)),(D.int (1))])) aA)) (wN 2)) aA))) (wN 2))))))))
abbrev Ze8:List Str:=["_law_pen", "_law_found", "_law_size"]
def F8:WS:=(aG (aQ 1 (wF vF (aC (wN 0) aA))) (aG (aQ 2 (w2 gD (w2 gAdd (wB bL (aC (wN 1) aA)) (wC (D.int (1)))) (wC (D.int (2))))) (aG (cE (wT (w2 (gEq false) (wF ol (aC (wN 0) (aC (wC (D.int (4))) aA))) (wC (D.int (0))))) (aQ 1 (w2 gAdd (cD (wN 1) eG (dU (w2 jm (wN 2) (wC (D.int (1)))))) (aX (aC (wC (D.int (50))) aA)))) cF) (aK (w2 gAdd (cD (wN 1) eG (dU (wN 2))) (w1 gRev (cD (wN 1) eG (dU (w2 jm (wN 2) (wC (D.int (1))))))))))))
abbrev Zdf:List Str:=["_law_table", "_law_thing", "_law_one", "_law_i", "_law_j", "_law_parts"]
def F9:WS:=(aG (cE (dC (aW (wT (wB gIs (aC (wN 1) (aC (wC (.ty "list")) aA))))) (wT (w2 jo (wB bL (aC (wN 1) aA)) (wC (D.int (10)))))) (aK (wC (D.bl false))) cF) (aG (bB (bD (iS (wN 1)) (gN 2) (aG (cE (dC (aW (wT (wB gIs (aC (wN 2) (aC (wC (.ty "tuple")) aA))))) (dC (wT (w2 (gEq true) (wB bL (aC (wN 2) aA)) (wC (D.int (2))))) (dC (aW (wT (wF tY (aC (w2 gIx (wN 2) (wC (D.int (0)))) aA)))) (wT (w2 (gEq false) (w2 gIx (wN 2) (wC (D.int (0)))) (aX (aC (wC (D.int (0))) (aC (wC (D.int (1))) aA)))))))) (aK (wC (D.bl false))) cF) (cE (aW (wT (wF vE (aC (w2 gIx (wN 2) (wC (D.int (1)))) (aC (wB bL (aC (wN 0) aA)) aA))))) (aK (wC (D.bl false))) cF)))) (bM 5 (aG (bB (bD (fO (aC (wB bL (aC (wN 0) aA)) aA)) (gN 3) (bM 5 (bB (bD (fO (aC (w2 gAdd (wN 3) (wC (D.int (1)))) aA)) (gN 4) (aG (bX 5 (aLC (iS (wN 1)) 2 [3,4] (dF 2 (cI (gN 0) (cI (gN 1) dE))) cV (wF sL (aC (wL (bN (aC (w2 gIx (wN 1) (wN 2)) aA))) (aC (wL (bN (aC (w2 gIx (wN 1) (wN 3)) aA))) aA))))) (bM 5 (cE (wT (w2 (gEq true) (wF sL (aC (wL (aLC (iS (wN 1)) 2 [] (dF 2 (cI (gN 0) (cI (gN 1) dE))) cV (wN 0))) (aC (wN 5) aA))) (aX (aC (w2 gIx (w2 gIx (wN 0) (wN 3)) (wN 4)) (aC (wC (D.int (1))) aA))))) (aK (wC (D.bl false))) cF)))))))) (aK (wC (D.bl true)))))))
theorem Ga(q:Rat):fE (aR q) (.tup [.int 0,.int 1])=decide (q=0):=by
 rw[<-yK,vI]
theorem LB:Rd Zd F5 Zgq:=by
 rintro _ E Q ⟨⟨x,n⟩,rfl,hk,q⟩;dsimp only at hk q;unfold F5;walk_at "nx";refine li hk (by decide) λt ht=>?_;cases x<;>cases ht<;>try exact q
 rename_i xs;obtain⟨hl,hx⟩:=oN hk;walk_at "st";simp only[show fX "tuple" "tuple" = true from rfl,eT,dO,if_false]
 match xs,hl,hx,q with
 |[],_,_,q=>walk_at "st";exact q
 |[a],_,_,q=>walk_at "st";exact q
 |a::b::c::r,_,_,q=>
  walk_at "st";rw[if_pos (by simp;omega)];exact q
 |[a,b],_,hx,q=>
  walk_at "st";rw[if_neg (by simp)];refine⟨_,rfl,Ji (hx a (by simp)) ?_⟩;cases ha:cN a with
  |false=>walk_at "st";rw[cZ,ha] at q;simpa using q
  |true=>
   obtain⟨p,rfl⟩:=yp ha;rw[cZ,ha,qM] at q;walk_at "st";refine⟨_,rfl,jq (qI _ _) (by decide) ?_⟩;rw[if_pos rfl,Ga];cases hp:decide (p=0) with
   |true=>rw[hp] at q;walk_at "st";simpa using q
   |false=>
    rw[hp] at q;walk_at "st";refine⟨_,rfl,DO (hx b (by simp)) ?_⟩;simpa using q
theorem Gb{m:Nat}:∀(ps:List Pr) (R:List (List Rat)),R.length=m->(∀r∈R,r.length=m)->(∀p∈ps,p.2.length=m)->(fJ R ps).length=m/\∀r∈fJ R ps,r.length=m
 |[],R,h1,h2,_=>⟨h1,h2⟩
 |p::ps,R,h1,h2,h3=>by
  rw[fJ];have hp:=h3 p (by simp);refine Gb ps _ (by rw[iV,h1,hp,tH]) (λr hr=>?_) λq hq=>h3 q (by simp[hq]);obtain⟨k,hk,rfl⟩:=Ybu.mp hr;rw[oH,aV,iV,hp,h2 _ (gU _),tH]
def en(R:List (List Rat))(i j:Nat):Rat:=(R.getD i []).getD j 0
theorem Cv{m:Nat}:∀(ps:List Pr) (R:List (List Rat)) (i j:Nat),i<m->j<m->R.length=m->(∀r∈R,r.length=m)->(∀p∈ps,p.2.length=m)->en (fJ R ps) i j=en R i j-gs ps i j
 |[],R,i,j,_,_,_,_,_=>by rw[fJ,gs];grind
 |p::ps,R,i,j,hi,hj,h1,h2,h3=>by
  have hp:=h3 p (by simp);have hr:(R.getD i []).length=m:=by
   rw[aY,bW (by omega)];exact h2 _ (gU _)
  rw[fJ,gs,Cv ps _ i j hi hj (by rw[iV,h1,hp,tH]) (λr hr=>?_) λq hq=>h3 q (by simp[hq])]
  .have e:en (List.zipWith (λrow share=>aV row (p.1*share) p.2) R p.2) i j=en R i j-p.1*p.2.getD i 0*p.2.getD j 0:=by
    unfold en;simp only[aY];rw[bW (l:=List.zipWith _ R p.2) (i:=i) (by rw[iV];omega),oH,bW (l:=R) (by omega),bW (l:=p.2) (i:=i) (by omega)];rw[aY,bW (by omega)] at hr;simp only[nb] at hr ⊢;unfold aV;rw[bW (l:=List.zipWith _ _ p.2) (by rw[iV];omega),oH,bW (l:=R[i]) (by omega),bW (l:=p.2) (by omega)];rfl
   rw[e];grind
  .obtain⟨k,hk,rfl⟩:=Ybu.mp hr
   rw[oH,aV,iV,hp,h2 _ (gU _),tH]
theorem Gc{α β:Type}{g1:α->D}{g2:β->D}{f:α->β->D}{we:WE}{tail:cP}{Q:List D->Prop}:∀(A:List α) (C:List β),(∀x∈A,∀y∈C,∀Q:D->Prop,Q (f x y)->we No (.d (g1 x)::.d (g2 y)::tail) Q)->∀(sv sv':SV) (acc:List D),acc.length+A.length<=aM->Q (acc++List.zipWith f A C)->lcW (dF 2 (cI (gN 0) (cI (gN 1) dE))) cV we (cW (A.map g1) (C.map g2)) (sv::sv'::tail) acc Q
 |[],C,_,sv,sv',acc,_,hq=>by
  have e:cW (([]:List α).map g1) (C.map g2)=[]:=by simp[cW]
  rw[e,lcW];simpa using hq
 |x::A,[],_,sv,sv',acc,_,hq=>by
  have e:cW ((x::A).map g1) (([]:List β).map g2)=[]:=by simp[cW]
  rw[e,lcW];simpa using hq
 |x::A,y::C,h,sv,sv',acc,hl,hq=>by
  have e:cW ((x::A).map g1) ((y::C).map g2)=.tup [g1 x,g2 y]::cW (A.map g1) (C.map g2):=by simp[cW]
  rw[e,lcW];refine⟨rfl,?_⟩;show we No (SV.d (g1 x)::SV.d (g2 y)::tail) _;rw[dS] at hl;refine h x (by simp) y (by simp) _ ⟨by omega,Gc A C (λa ha c hc=>h a (by simp[ha]) c (by simp[hc])) _ _ _ (by simp;omega) ?_⟩;rw[mZ];simpa using hq
def LI(b:Nat)(s:List Int)(n:Nat)(al:List Pr)(T:List (List Rat))(ds:List D)(ρ:cP):Prop:=∃(ps:List Pr) (R:List (List Rat)) (k:Nat) (s2 s3 s4:SV),ds=ps.map iQ/\(∀p∈ps,Pq b n p)/\sT b (k+ps.length)/\fJ R ps=T/\R.length=n/\(∀r∈R,r.length=n/\∀y∈r,Sz (7+(3*b+1)*k) y)/\(s2=.d (.lst (R.map aE))\/s2=.ow (R.map aE))/\ρ=[.d (aO s),.d (dN al),s2,s3,s4]
theorem LC:Rd yY F6 Zkf:=by
 rintro _ E Q ⟨⟨⟨b,s,n⟩,ps⟩,rfl,⟨h,hl,hp⟩,q⟩;dsimp only at h hl hp q;have h5:=h.n5;unfold F6;refine cO (set_by (ρ':=[.d (aO s),.d (dN ps),.d (.lst (((tbl s n).map cX).map aE)),.un,.un]) rfl (λP hP=>?_) ?_)
 .show wF tS (aC (wN 0) aA) E [.d (aO s),.d (dN ps),.un,.un,.un] P
  simp only[wF,aC,aA,wN,eK];refine DW h ?_;rw[List.map_map] at hP;exact hP
 dsimp only;show aG _ _ E _ (pub 2 _);rw[show pub 2 [.d (aO s),.d (dN ps),.d (.lst (((tbl s n).map cX).map aE)),.un,.un]=[.d (aO s),.d (dN ps),.d (.lst (((tbl s n).map cX).map aE)),.un,.un] from rfl];refine cO ?_;show bD _ _ _ _ _ _;refine for_seq (xs:=ps.map iQ) (nm_at rfl) ?_;refine sG (LI b s n ps (fJ ((tbl s n).map cX) ps)) ?_ ?_ _ _ ⟨ps,(tbl s n).map cX,0,_,.un,.un,rfl,hp,by rw[Nat.zero_add];exact hl,rfl,by simp[jD],λr hr=>?_,.inl rfl,rfl⟩
 .rintro d ds _ ⟨ps',R,k,s2,s3,s4,e,hpp,hk,hT,hRl,hR,hs2,rfl⟩ nx hnx
  cases ps' with
  |nil=>cases e
  |cons p ps'=>
   rw[cR] at e;injection e with e1 e2
   subst e1 e2;have hp0:=hpp p (by simp);rw[dS] at hk;have hk':7+(3*b+1)*(k+(ps'.length+1))+3*b<8990:=hk;rw[Nat.mul_add,Nat.mul_succ] at hk';have key:bX 2 (aLC (iZ (aC (wN 2) (aC (wN 4) aA))) 2 [3,4] (dF 2 (cI (gN 0) (cI (gN 1) dE))) cV (wF oW (aC (wN 0) (aC (wF qJ (aC (wN 2) (aC (wN 1) aA))) (aC (wN 3) aA))))) (λ_=>False) { nx:=nx,rt:=Q,bk:=bM 2 (aK (wN 2)) E { nx:=λ_=>Q .non,rt:=Q },ct:=nx } [.d (aO s),.d (dN ps),.d (.lst (R.map aE)),.d (aR p.1),.d (aE p.2)]:=by
    refine own_by (xs:=List.zipWith (λrow share=>aE (aV row (p.1*share) p.2)) R p.2) rfl (λP hP=>?_) (hnx _ ⟨ps',List.zipWith (λrow share=>aV row (p.1*share) p.2) R p.2,k+1,_,_,_,rfl,λq hq=>hpp q (by simp[hq]),by rw[show k+1+ps'.length=k+(ps'.length+1) by omega];exact hk,hT,by rw[iV,hRl,hp0.l,tH],λr hr=>?_,.inr (by rw[ul]),rfl⟩)
    .unfold aE
     walk_at "st";show lcW _ _ _ (cW (R.map λr=>D.tup (r.map aR)) (p.2.map aR)) _ _ _;refine Gc (g1:=λr=>D.tup (r.map aR)) (g2:=aR) (f:=λrow share=>aE (aV row (p.1*share) p.2)) R p.2 (λr hr y hy Q hq=>?_) .un .un [] (by simp[aM];omega) (by simpa using hP);walk_at "st";refine DQ (B2.of hp0.w (hp0.r y hy) (by omega)) (Fq (a:=7+(3*b+1)*k) (b:=b+b) (c:=b) (by omega) (by rw[(hR r hr).1];omega) (hR r hr).2 (hp0.w.mul (hp0.r y hy)) hp0.r hq)
    .obtain⟨j,hj,rfl⟩:=Ybu.mp hr
     rw[oH];rw[iV] at hj;have hrj:=hR _ (gU (show j<R.length by omega));refine⟨by rw[aV,iV,hp0.l,hrj.1,tH],λy hy=>?_⟩;unfold aV at hy;obtain⟨m,hm,rfl⟩:=Ybu.mp hy;rw[iV] at hm;rw[oH];exact((hrj.2 _ (gU _)).sub ((hp0.w.mul (hp0.r _ (gU _))).mul (hp0.r _ (gU _)))).mono (by rw[Nat.mul_succ];omega)
   rcases hs2 with rfl|rfl
   .refine⟨rfl,?_⟩
    exact key
   .refine⟨rfl,?_⟩
    exact key
 .rintro _ ⟨ps',R,k,s2,s3,s4,e,hpp,hk,hT,hRl,hR,hs2,rfl⟩
  cases ps' with
  |cons p ps'=>cases e
  |nil=>
   rw[fJ] at hT;rw[<-hT] at q;rcases hs2 with rfl|rfl
   .exact q
   .exact q
 .obtain⟨r,hr',rfl⟩:=YbQ.mp hr
  refine⟨by unfold cX;rw[bC];exact(lj h r hr').1,λy hy=>?_⟩;obtain⟨i,hi,rfl⟩:=YbQ.mp hy;have:=(lj h r hr').2 i hi;rw[Nat.mul_zero,Nat.add_zero];exact Sz.int i (by decide) (by show i.natAbs<128;omega)
theorem Zq{x:D}(h:cZ n x=true):∃p:Pr,x=iQ p/\p.2.length=n/\p.1≠0:=by
 unfold cZ at h;split at h
 .rename_i w r
  rw[c6,c6] at h;obtain⟨p,rfl⟩:=yp h.1.1;obtain⟨t,rfl,ht⟩:=yq h.2;exact⟨(p,t),rfl,by exact_mod_cast ht,by simpa[qM] using h.1.2⟩
 .cases h
theorem Zp(p:Pr):Cr (iQ p)=p:=by
 show(sC (aR p.1),rQ (aE p.2))=p;rw[qM,p6]
theorem Cw{n:Nat}:∀{xs:List D},xs.all (cZ n)=true->∃ps:List Pr,xs=ps.map iQ/\∀p∈ps,p.2.length=n/\p.1≠0
 |[],_=>⟨[],rfl,λ_ h=>nomatch h⟩
 |x::r,h=>by
  rw[qT,c6] at h;obtain⟨p,rfl,hp⟩:=Zq h.1;obtain⟨ps,rfl,hps⟩:=Cw h.2;exact⟨p::ps,rfl,λq hq=>by rcases Yan.mp hq with rfl|hq;exact hp;exact hps q hq⟩
theorem Cy(ps:List Pr):sqs (dN ps)=ps:=by
 show(ps.map iQ).map Cr=ps;rw[List.map_map];exact(h9 λp _=>Zp p).trans (xq _)
theorem Gd{ps:List Pr}(h:eu b (dN ps)=true)(hn:∀p∈ps,p.2.length=n):∀p∈ps,Pq b n p:=λp hp=>by
 unfold dN at h;rw[eu,vA] at h;have:=h _ (m8 hp);unfold iQ at this;rw[eu,dR,dR,dR,c6,c6,ZiN,Zc3] at this;exact⟨hn p hp,this.1,this.2.1⟩
theorem LD{ps:List Pr}(h:IsSl s n)(hp:∀p∈ps,p.2.length=n):(fJ ((tbl s n).map cX) ps=List.replicate n (List.replicate n (0:Rat)))↔oX s n ps:=by
 have hR:((tbl s n).map cX).length=n:=by simp[jD]
 have hr:∀r∈(tbl s n).map cX,r.length=n:=λr hr=>by
  obtain⟨r,hr',rfl⟩:=YbQ.mp hr;unfold cX;rw[bC];exact(lj h r hr').1
 have L:=Gb ps _ hR hr hp;have en0:∀i j,i<n->j<n->en ((tbl s n).map cX) i j=(tT s n i j:Rat):=λi j hi hj=>by
  unfold en tT ga gr;have hl:=jD s n;have hi':i<(tbl s n).length:=by omega
  have hj':=(lj h _ (gU hi')).1;simp only[aY];rw[bW (l:=tbl s n) hi',bW (l:=(tbl s n).map cX) (by omega),xr];simp only[nb];unfold cX;rw[cK,bW (by omega)];rfl
 constructor
 .intro e i hi j hj
  have:=Cv ps _ i j hi hj hR hr hp;rw[e,en0 i j hi hj] at this;have z:en (List.replicate n (List.replicate n (0:Rat))) i j=0:=by
   unfold en;simp[aY,lE,hi,hj]
  rw[z] at this;grind
 .intro e
  refine Ac (by rw[L.1,o5]) λi h1 h2=>?_;rw[List.getElem_replicate];have hl:=L.2 _ (gU h1);refine Ac (by rw[hl,o5]) λj h3 h4=>?_;rw[List.getElem_replicate];have:=Cv ps _ i j (by omega) (by omega) hR hr hp;rw[en0 i j (by omega) (by omega),e i (by omega) j (by omega)] at this;unfold en at this;simp only[aY] at this;rw[bW h1] at this;simp only[nb] at this;rw[bW h3] at this;simp only[nb] at this;rw[this];grind
theorem LE:Rd Cu F7 Ze7:=by
 rintro _ E Q ⟨⟨⟨b,s,n⟩,x⟩,rfl,⟨h,hk,hz,hf⟩,q⟩;dsimp only at h hk hz hf q;have h5:=h.n5;have hsl:=h.len;unfold Ct at q;unfold F7;walk_at "nx";refine⟨aO s,rfl,DN (by omega),?_⟩;dsimp only;unfold hJ;rw[if_pos (DT h)];unfold gI;rw[gF]
 by_cases he:s.reverse=s
 .rw[if_pos (by simpa using he)]
  rw[if_pos he] at q;replace q:Q (.bl (t8 s n x)):=q;dsimp only[exQ];unfold aO;walk_at "nx";refine A9 (by simpa using(by omega:s.length<=5000)) ?_;rw[bC,show((s.length:Int)+1)/2=n by omega];walk_at "nx";refine li hk (by decide) λt ht=>?_;cases x<;>cases ht<;>try exact q
  rename_i xs;obtain⟨hl,hx⟩:=DL hk;walk_at "st";simp only[show fX "list" "list" = true from rfl,eT,dO,if_false];walk_at "st"
  by_cases h10:xs.length<=10
  .rw[if_neg (by simp;omega)]
   show aG _ _ _ _ _;walk_at "nx";refine sj (f:=λd=>.bl (cZ n d)) (λd hd Q hq=>?_) .un [] (by simp[aM];omega) ?_
   .walk_at "st"
    exact Lx (hx d hd) hq
   refine⟨xs.map (cZ n),by simp,?_⟩;rw[ug,show(id∘cZ (n:Int))=cZ (n:Int) from rfl];replace q:Q (.bl ((decide (xs.length<=10)&&xs.all (cZ n))&&decide (oX s n (sqs (.lst xs))))):=q;cases ha:xs.all (cZ n) with
   |false=>rw[ha] at q;simpa using q
   |true=>
    obtain⟨ps,rfl,hps⟩:=Cw ha;rw[ha,Nr h10,show sqs (.lst (ps.map iQ))=ps from Cy ps] at q;have hf:=hf _ rfl h10;rw[bC] at h10 hf;rw[if_neg (by simp)];refine Ly h hf (Gd hz λp hp=>(hps p hp).1) ⟨by decide,by omega,by omega,by simp[aM];omega,by decide,by omega,by omega,by simp[aM];omega,?_⟩;have e1:(List.replicate n [D.tup [D.int 0,D.int 1]]).flatten=(List.replicate n (0:Rat)).map aR:=by
     rw[uj,show aR 0=D.tup [D.int 0,D.int 1] from yK,Ad]
    have e2:(List.replicate n [D.tup (List.replicate n [D.tup [D.int 0,D.int 1]]).flatten]).flatten=(List.replicate n (List.replicate n (0:Rat))).map aE:=by
     rw[e1,uj (f:=aE),Ad];rfl
    rw[e2];refine jq (yc λx hx=>?_) (yc λx hx=>?_) ?_
    .obtain⟨r,_,rfl⟩:=YbQ.mp hx
     exact ye r _
    .obtain⟨r,_,rfl⟩:=YbQ.mp hx
     exact ye r _
    rw[if_neg (by simp),KW Fh,decide_eq_decide.mpr (LD h λp hp=>(hps p hp).1)];simpa using q
  .rw[if_pos (by simp;omega)]
   replace q:Q (.bl ((decide (xs.length<=10)&&xs.all (cZ n))&&decide (oX s n (sqs (.lst xs))))):=q;rw[Nw h10] at q;exact q
 .rw[if_neg (by simpa using he)]
  rw[if_neg he] at q;exact q
theorem LF:Rd yZ F8 Ze8:=by
 rintro _ E Q ⟨_,rfl,_,q⟩;have fin:∀ (s:List Int) (n:Nat),s.length=n->1<=n->n<=5->(∀ x∈s,-50<=x/\x<=50)->Q (D.tup ((s.map D.int)++((s.take (n - 1)).map D.int).reverse)):=λs n h1 h2 h3 h4=>q _ ⟨s++(s.take (n - 1)).reverse,n,⟨by simp;omega,h2,h3,λx hx=>by
  rcases Yao.mp hx with hx|hx
  .exact h4 x hx
  .exact h4 x (m7 (Yco.mp hx))⟩,by
   rw[List.reverse_append,List.reverse_reverse];have:s=s.take (n-1)++s.drop (n-1):=(List.take_append_drop _ _).symm;have hd:∃a,s.drop (n-1)=[a]:=List.length_eq_one_iff.mp (by rw[jv];omega);obtain⟨a,ha⟩:=hd;rw[ha] at this;have t:s.take (n-1)=(s.take (n-1)++[a]).take (n-1):=by rw[<-this]
   generalize s.take (n-1)=u at *;subst this;simp,by unfold aO;rw[m9,qj]⟩
 unfold F8;walk_at "nx";refine EU λs n h=>?_;have h1:=h.n1;have h5:=h.n5;have hsl:=h.len;have hb:=h.b;unfold aO;walk_at "nx";refine⟨⟨by decide,jY (n:=2) (by decide) (by omega)⟩,?_⟩;rw[bC,xu _ (by decide),show((s.length:Int)+1)/2=n by omega];have c1:∀{l:List Int},bZ (l.map D.int) none (some (n:Int))=(l.take n).map D.int:=λ{l}=>by rw[oj rfl,kK]
 have c2:∀{l:List Int},bZ (l.map D.int) none (some ((n:Int)-1))=(l.take (n-1)).map D.int:=λ{l}=>by rw[oj (b:=n-1) (by omega),kK]
 refine sF (λρ=>∃l:List Int,ρ=[.d .pen,.d (.tup (l.map .int)),.d (.int n)]/\n<=l.length/\l.length<=10/\∀x∈l,-50<=x/\x<=50) (λnx hnx=>?_) ?_
 .walk_at "st"
  refine qN (n:=4) (by decide) (by decide) λk hk=>?_;walk_at "st";split
  .rw[c2]
   refine⟨by decide,hU (by simp;omega),?_⟩;exact hnx _ ⟨s.take (n - 1)++[50],by simp,by simp;omega,by simp;omega,λx hx=>by
    rcases Yao.mp hx with hx|hx
    .exact hb x (m7 hx)
    .rw[YcJ.mp hx];decide⟩
  .exact hnx _ ⟨s,rfl,by omega,by omega,hb⟩
 rintro _ ⟨l,rfl,hl1,hl2,hlb⟩;walk_at "st";rw[c1,c2];refine J4 (hU (by simp;omega)) ?_;have:=fin (l.take n) n (by simp;omega) h1 h5 λx hx=>hlb x (m7 hx);rw[List.take_take,ui (by omega)] at this;exact this
end B.C.Q0
local macro_rules | `(tactic| walk_at "w1")=>`(tactic| simp only [aK,cE,aQ,cF,gO,bM,bX,bD,jC,dL,dQ,dj,il,d6,kC,bB,iN,eO,wM,Zdk,fo,e8,jf,e7,dC,aW,wT,kx,w1,w2,wB,wF,wL,aX,cD,Zb,aB,bN,aC,aA,aLC,ZbQ,cV,iS,iE,iL,iT,fO,i5,iZ,eG,dU,wN,wC,gN,dF,cI,dE,dG,kz,et,dM,fg,Cq,Lw,dm,c7,ei,fh,aCut,ef,pub,cR,gL,dS,i7,ia,dI,List.replicate,eK,fk,List.set_cons_zero,List.set_cons_succ,Nat.reduceSub,Nat.reduceAdd,gT,j8,true_and,dO,if_true,if_false,ite_true,ite_false,iU,eT,lH,
 lK,lL,lM,lN,lO,lP,lQ,lR,lS,Ze,lT,lU,lV,lW,lX,lY,lZ,l3,l4,l6,l7,l8,md,me,mf,mh,mi,mj,ml,mn,mo,mq,ms,mx,my,mz,mB,mC,mD,mE,mF,mG,mH,mI,mJ,mK,mL,mM,mO,fG,mP,mQ,mR,mS,mT,f6,f7])
local macro_rules | `(tactic| walk_at "w1")=>`(tactic| simp only [aK,cE,aQ,cF,gO,bM,bX,bD,jC,dL,dQ,dj,il,d6,kC,bB,iN,eO,wM,Zdk,fo,e8,jf,e7,dC,aW,wT,kx,w1,w2,wB,wF,wL,aX,cD,Zb,aB,bN,aC,aA,aLC,ZbQ,cV,iS,iE,iL,iT,fO,i5,iZ,eG,dU,wN,wC,gN,dF,cI,dE,dG,kz,et,dM,fg,dm,c7,ei,fh,aCut,ef,pub,cR,gL,dS,i7,ia,dI,List.replicate,eK,fk,List.set_cons_zero,List.set_cons_succ,Nat.reduceSub,Nat.reduceAdd,gT,j8,true_and,dO,if_true,if_false,ite_true,ite_false,iU,eT,lH,
 lK,lL,lM,lN,lO,lP,lQ,lR,lS,Ze,lT,lU,lV,lW,lX,lY,lZ,l3,l4,l6,l7,l8,md,me,mf,mh,mi,mj,ml,mn,mo,mq,ms,mx,my,mz,mB,mC,mD,mE,mF,mG,mH,mI,mJ,mK,mL,mM,mO,fG,mP,mQ,mR,mS,mT,f6,f7])
namespace B.C.Q0
theorem Cz{g:G2}{E:Ex->Prop}{x:D}{b:Bool}(ha:∀P:D->Prop,P x->wa E ρ P)(hb:∀P:D->Prop,P y->wb E ρ P)(hg:∀P:D->Prop,P (.bl b)->g x y P):∀P:Bool->Prop,P b->wT (w2 g wa wb) E ρ P:=λP h=>ha _ (hb _ (hg _ h))
theorem LG{E:Ex->Prop}(R:D->Prop)(hw:∀P:D->Prop,(∀d,R d->P d)->w E ρ P)(h:∀d,R d->N.nx (ρ.set i (.d d))):aQ i w E N ρ:=hw _ h
theorem Th.kd{x:D}(h:Th x):kd x=true/\eu 115 x=true:=by
 rcases h with h|h
 .exact BT x _ (by decide) h
 .exact BT x _ (by decide) h
theorem Pq.up{c:Nat}{p:Pr}(h:Pq b n p)(l:b<=c):Pq c n p:=⟨h.l,h.w.mono l,λy hy=>(h.r y hy).mono l⟩
theorem Ge(k:Nat):db (.tup [.str "even"]) (k+1)=true:=yb λx hx=>by rw[YcJ.mp hx,db];decide +kernel
end B.C.Q0
def aF(f:Nat->Rat):Nat->Rat
 |0=>0
 |n+1=>aF f n+f n
theorem cM{f g:Nat->Rat}:∀{n:Nat},(∀i,i<n->f i=g i)->aF f n=aF g n
 |0,_=>rfl
 |n+1,h=>by rw[aF,aF,cM (λi hi=>h i (by omega)),h n (by omega)]
theorem j5{f:Nat->Rat}:∀{n:Nat},(∀i,i<n->f i=0)->aF f n=0
 |0,_=>rfl
 |n+1,h=>by rw[aF,j5 (λi hi=>h i (by omega)),h n (by omega),j9]
theorem jE{f:Nat->Rat}{k:Nat}:∀{n:Nat},k<n->(∀i,i<n->i≠k->f i=0)->aF f n=f k
 |0,h,_=>by omega
 |n+1,h,h0=>by
  rw[aF]
  by_cases e:k=n
  .subst e
   rw[j5 (λi hi=>h0 i (by omega) (by omega)),Rat.zero_add]
  .rw[jE (k:=k) (by omega) (λi hi hk=>h0 i (by omega) hk),h0 n (by omega) (NB e),j9]
theorem sU(f g:Nat->Rat):∀n:Nat,aF (λi=>f i-g i) n=aF f n-aF g n
 |0=>by simp only[aF];grind
 |n+1=>by rw[aF,aF,aF,sU f g n];grind
theorem Gf(f:Nat->Rat):∀n:Nat,aF f (n+1)=f 0+aF (λi=>f (i+1)) n
 |0=>by simp only[aF];grind
 |n+1=>by rw[aF,Gf f n,aF];grind
theorem lA:∀(r x:List Rat) (n:Nat),r.length=n->x.length=n->bV r x=aF (λj=>r.getD j 0*x.getD j 0) n
 |[],[],_,h,_=>by subst h;rfl
 |[],_::_,n,h,h'=>by simp at h h';omega
 |_::_,[],n,h,h'=>by simp at h h';omega
 |a::r,y::x,n,h,h'=>by
  subst h;rw[bV,lA r x r.length rfl (by simpa using h'),dS,Gf];rfl
theorem LH{x:List Rat}(hr:r.length=n)(hx:x.length=n):bV (ez r q) x=bV r x/q:=by
 clear hr hx;unfold ez
 induction r generalizing x with
 |nil=>show(0:Rat)=0/q;rw[eJ,fS]
 |cons a r ih=>
  cases x with
  |nil=>show(0:Rat)=0/q;rw[eJ,fS]
  |cons y x=>
   rw[cR,bV,bV,ih,eJ,eJ,eJ];grind
theorem t9{c x:List Rat}(h:r.length=c.length):bV (aV r q c) x=bV r x-q*bV c x:=by
 unfold aV
 induction r generalizing c x with
 |nil=>
  cases c with
  |nil=>show(0:Rat)=0-q*0;grind
  |cons _ _=>simp at h
 |cons a r ih=>
  cases c with
  |nil=>simp at h
  |cons b c=>
   cases x with
   |nil=>show(0:Rat)=0-q*0;grind
   |cons y x=>
    rw[z8,bV,bV,bV,ih (by simpa using h)];grind
theorem LJ(hr:r.length=n)(hk:k<n):bV r (bP n k)=r.getD k 0:=by
 rw[lA r (bP n k) n hr (kE n k),jE hk]
 .rw[unit_at' hk,if_pos rfl,qW]
 .intro i hi e
  rw[unit_at' hi,if_neg e,fL]
where
 unit_at' {n k i:Nat} (hi:i<n):(bP n k).getD i 0=if i=k then 1 else 0:=by
  unfold bP;rw[aY,cK,jG hi];rfl
theorem oC(hi:i<n):(bP n k).getD i 0=if i=k then 1 else 0:=by
 unfold bP;rw[aY,cK,jG hi];rfl
theorem y6{x:List Rat}{v:Rat}(ha:a<x.length):(x.set a v).getD i 0=if i=a then v else x.getD i 0:=by
 rw[aY,Ab,aY]
 by_cases e:a=i
 .subst e;rw[if_pos rfl,if_pos rfl,if_pos ha];rfl
 .rw[if_neg e,if_neg (NB e)]
theorem LK{x:List Rat}{v:Rat}(hr:r.length=n)(hx:x.length=n)(ha:a<n)(h0:x.getD a 0=0):bV r (x.set a v)=bV r x+r.getD a 0*v:=by
 rw[lA r _ n hr (by rw[d8];exact hx),lA r x n hr hx];have:aF (λj=>r.getD j 0*(x.set a v).getD j 0-r.getD j 0*x.getD j 0) n=r.getD a 0*v:=by
  rw[jE ha]
  .rw[y6 (by omega),if_pos rfl,h0,fL];grind
  .intro i hi e
   rw[y6 (by omega),if_neg e];grind
 rw[sU] at this;grind
structure Ec(n:Nat)(R:List (List Rat))(p:Nat)(ld:List (List Rat))(pl:List Nat)(rs:List (List Rat)):Prop where
 wl:∀r∈ld,r.length=n
 ws:∀r∈rs,r.length=n
 ll:ld.length=pl.length
 nul:∀x:List Rat,x.length=n->((∀r∈R,bV r x=0)↔(∀r∈ld,bV r x=0)/\∀r∈rs,bV r x=0)
 lt:∀a∈pl,a<p
 asc:pl.Pairwise (· < ·)
 one:∀i j,i<ld.length->j<pl.length->(ld.getD i []).getD (pl.getD j 0) 0=if i=j then 1 else 0
 low:∀i,i<ld.length->∀q,q<pl.getD i 0->(ld.getD i []).getD q 0=0
 zer:∀r∈rs,∀q,q<p->r.getD q 0=0
theorem Ec.start{R:List (List Rat)}(h:∀r∈R,r.length=n):Ec n R 0 [] [] R:=⟨by simp,h,rfl,λx _=>by simp,by simp,.nil,λi j hi=>by simp at hi,λi hi=>by simp at hi,λr _ q hq=>by omega⟩
theorem Ec.skip{p:Nat}{R ld:List (List Rat)}{pl:List Nat}(h:Ec n R p ld pl rs)(h0:∀r∈rs,r.getD p 0=0):Ec n R (p+1) ld pl rs:=
 ⟨h.wl,h.ws,h.ll,h.nul,λa ha=>xz (h.lt a ha),h.asc,h.one,h.low,λr hr q hq=>by
  by_cases e:q=p
  .rw[e];exact h0 r hr
  .exact h.zer r hr q (by omega)⟩
theorem Ec.pivot{p:Nat}{R ld rs1 rs2:List (List Rat)}{pl:List Nat}{lead:List Rat}(h:Ec n R p ld pl rs)(hp:p<n)(hr0:r.getD p 0≠0)(hrs:∀t,t∈rs↔t=r\/t∈rs1)(hld:lead=ez r (r.getD p 0))(h2:∀t,t∈rs2↔∃u∈rs1,t=aV u (u.getD p 0) lead):Ec n R (p+1) (bE ld lead p++[lead]) (pl++[p]) rs2:=by
 have rr:r∈rs:=(hrs r).mpr (.inl rfl);have rl:=h.ws r rr;have ll:lead.length=n:=by rw[hld];unfold ez;rw[bC];exact rl
 have lat:∀j,lead.getD j 0=r.getD j 0/r.getD p 0:=λj=>by
  rw[hld];unfold ez;rw[aY,cK,aY (i:=j)];cases r[j]? with
  |none=>show(0:Rat)=0/_;rw[eJ,fS]
  |some x=>rfl
 have lp:lead.getD p 0=1:=by rw[lat,eJ,jw _ hr0]
 have lz:∀q,q<p->lead.getD q 0=0:=λq hq=>by rw[lat,h.zer r rr q hq,eJ,fS]
 have lesL:∀(u:List Rat) (z:Rat),u.length=n->(aV u z lead).length=n:=λu z hu=>by unfold aV;rw[iV];omega
 have lesA:∀(u:List Rat) (z:Rat) (j:Nat),u.length=n->(aV u z lead).getD j 0=u.getD j 0-z*lead.getD j 0:=λu z j hu=>by
  unfold aV;simp only[aY]
  by_cases hj:j<n
  .rw[bW (by rw[iV];omega),bW (by omega),bW (by omega),oH]
   rfl
  .rw[eP (by rw[iV];omega),eP (by omega),eP (by omega)]
   show(0:Rat)=0-z*0;grind
 have wlen:(bE ld lead p).length=ld.length:=by unfold bE;rw[bC]
 have wat:∀i,i<ld.length->(bE ld lead p++[lead]).getD i []=aV (ld.getD i []) ((ld.getD i []).getD p 0) lead:=λi hi=>by
  rw[aY,lF (by omega)];unfold bE;rw[cK,aY,bW hi];rfl
 have wlast:(bE ld lead p++[lead]).getD ld.length []=lead:=by
  rw[aY,kJ (by omega),wlen,Nat.sub_self];rfl
 have plat:∀i,i<pl.length->(pl++[p]).getD i 0=pl.getD i 0:=λi hi=>by
  rw[aY,lF hi,aY]
 have plast:(pl++[p]).getD pl.length 0=p:=by
  rw[aY,kJ (cB _),Nat.sub_self];rfl
 have plt:∀i,i<pl.length->pl.getD i 0<p:=λi hi=>by
  rw[aY,bW hi];exact h.lt _ (gU _)
 have ldm:∀i,i<ld.length->ld.getD i []∈ld:=λi hi=>gP hi;have hll:=h.ll;refine⟨λt ht=>?_,λt ht=>?_,?_,λx hx=>?_,λa ha=>?_,?_,λi j hi hj=>?_,λi hi q hq=>?_,λt ht q hq=>?_⟩
 .rcases Yao.mp ht with ht|ht
  .unfold bE at ht
   obtain⟨u,hu,rfl⟩:=YbQ.mp ht;exact lesL u _ (h.wl u hu)
  .rw[YcJ.mp ht];exact ll
 .obtain⟨u,hu,rfl⟩:=(h2 t).mp ht
  exact lesL u _ (h.ws u ((hrs u).mpr (.inr hu)))
 .rw[dX,dX,wlen,hll];rfl
 .rw[h.nul x hx]
  have dl:bV lead x=bV r x/r.getD p 0:=by rw[hld];exact LH rl hx
  constructor
  .rintro⟨g1,g2⟩
   have z:bV lead x=0:=by rw[dl,g2 r rr,eJ,fS]
   refine⟨λt ht=>?_,λt ht=>?_⟩
   .rcases Yao.mp ht with ht|ht
    .unfold bE at ht
     obtain⟨u,hu,rfl⟩:=YbQ.mp ht;rw[t9 (by rw[h.wl u hu,ll]),g1 u hu,z];grind
    .rw[YcJ.mp ht];exact z
   .obtain⟨u,hu,rfl⟩:=(h2 t).mp ht
    have hu':=(hrs u).mpr (.inr hu);rw[t9 (by rw[h.ws u hu',ll]),g2 u hu',z];grind
  .rintro⟨g1,g2⟩
   have z:bV lead x=0:=g1 lead (by simp);have zr:bV r x=0:=by
    rw[dl,eJ] at z;have:bV r x*(r.getD p 0)⁻¹*r.getD p 0=0:=by rw[z,fS]
    rw[Rat.mul_assoc,Rat.inv_mul_cancel _ hr0,qW] at this;exact this
   refine⟨λt ht=>?_,λt ht=>?_⟩
   .have:=g1 (aV t (t.getD p 0) lead) (Yao.mpr (.inl (by unfold bE;exact m8 (f:=λr=>aV r (r.getD p 0) lead) ht)))
    rw[t9 (by rw[h.wl t ht,ll]),z] at this;grind
   .rcases(hrs t).mp ht with rfl|hu
    .exact zr
    .have:=g2 (aV t (t.getD p 0) lead) ((h2 _).mpr ⟨t,hu,rfl⟩)
     rw[t9 (by rw[h.ws t ht,ll]),z] at this;grind
 .rcases Yao.mp ha with ha|ha
  .exact xz (h.lt a ha)
  .rw[YcJ.mp ha];exact zR p
 .refine YcQ.mpr ⟨h.asc,by simp,λa ha b hb=>?_⟩
  rw[YcJ.mp hb];exact h.lt a ha
 .rw[dX,wlen,j6] at hi
  rw[dX,j6] at hj
  by_cases hi':i<ld.length
  .have hw:=h.wl _ (ldm i hi')
   rw[wat i hi',lesA _ _ _ hw]
   by_cases hj':j<pl.length
   .rw[plat j hj',h.one i j hi' hj',lz _ (plt j hj')];grind
   .obtain rfl:j=pl.length:=by omega
    rw[plast,lp,if_neg (by omega)];grind
  .obtain rfl:i=ld.length:=by omega
   rw[wlast]
   by_cases hj':j<pl.length
   .rw[plat j hj',lz _ (plt j hj'),if_neg (by omega)]
   .obtain rfl:j=pl.length:=by omega
    rw[plast,lp,if_pos hll]
 .rw[dX,wlen,j6] at hi
  by_cases hi':i<ld.length
  .have hw:=h.wl _ (ldm i hi')
   rw[plat i (by omega)] at hq;rw[wat i hi',lesA _ _ _ hw,h.low i hi' q hq,lz q (by have:=plt i (by omega);omega)];grind
  .obtain rfl:i=ld.length:=by omega
   rw[hll,plast] at hq;rw[wlast];exact lz q hq
 .obtain⟨u,hu,rfl⟩:=(h2 t).mp ht
  have hu':=(hrs u).mpr (.inr hu);rw[lesA _ _ _ (h.ws u hu')]
  by_cases e:q=p
  .rw[e,lp];grind
  .rw[h.zer u hu' q (by omega),lz q (by omega)];grind
def gb(r:List Rat)(q:Nat):List (List Rat)->List Nat->Rat
 |l::L,a::P=>r.getD a 0*l.getD q 0+gb r q L P
 |_,_=>0
theorem Gg(q:Nat):∀(L:List (List Rat)) (P:List Nat) (row:List Rat),(eA q L P row).length=row.length
 |[],_,_=>by simp[eA]
 |_::_,[],_=>by simp[eA]
 |l::L,a::P,row=>by rw[eA,Gg q L P,d8]
theorem y8{q t:Nat}:∀(L:List (List Rat)) (P:List Nat) (row:List Rat),(∀a∈P,a<row.length)->t∉P->(eA q L P row).getD t 0=row.getD t 0
 |[],_,_,_,_=>by simp[eA]
 |_::_,[],_,_,_=>by simp[eA]
 |l::L,a::P,row,h,ht=>by
  rw[eA,y8 L P _ (λb hb=>by rw[d8];exact h b (by simp[hb])) (λhb=>ht (by simp[hb])),y6 (h a (by simp)),if_neg (λe=>ht (by simp[e]))]
theorem Gh{r:List Rat}{q n:Nat}(hr:r.length=n):∀(L:List (List Rat)) (P:List Nat) (row:List Rat),row.length=n->(∀a∈P,a<n)->P.Pairwise (· < ·)->(∀a∈P,row.getD a 0=0)->bV r (eA q L P row)=bV r row-gb r q L P
 |[],_,row,_,_,_,_=>by simp only[eA,gb];grind
 |_::_,[],row,_,_,_,_=>by simp only[eA,gb];grind
 |l::L,a::P,row,hw,hn,ha,h0=>by
  obtain⟨h1,h2⟩:=YcR.mp ha;rw [eA,Gh hr L P _ (by rw [d8];exact hw) (λb hb=>hn b (by simp [hb])) h2 (λb hb=>by
   rw[y6 (by rw[hw];exact hn a (by simp)),if_neg (by have:=h1 b hb;omega)];exact h0 b (by simp[hb])),LK hr hw (hn a (by simp)) (h0 a (by simp)),gb]
  grind
theorem Gi{r:List Rat}{q:Nat}:∀(L:List (List Rat)) (P:List Nat),(∀j,j<P.length->j<L.length->r.getD (P.getD j 0) 0*(L.getD j []).getD q 0=0)->gb r q L P=0
 |[],_,_=>by simp[gb]
 |_::_,[],_=>by simp[gb]
 |l::L,a::P,h=>by
  rw[gb,Gi L P (λj h1 h2=>by simpa using h (j+1) (by simpa using h1) (by simpa using h2))];have:=h 0 (by simp) (by simp);rw[um,um] at this;rw[this,j9]
theorem Gj{r:List Rat}{q:Nat}:∀(L:List (List Rat)) (P:List Nat) (i:Nat),i<L.length->L.length=P.length->(∀j,j<P.length->r.getD (P.getD j 0) 0=if i=j then 1 else 0)->gb r q L P=(L.getD i []).getD q 0
 |[],_,i,hi,_,_=>by simp at hi
 |_::_,[],i,_,hl,_=>by simp at hl
 |l::L,a::P,0,hi,hl,h=>by
  have h0:=h 0 (by simp);rw[um,if_pos rfl] at h0;rw [gb,h0,Gi L P (λj h1 h2=>by
   have:=h (j+1) (by simpa using h1);rw[Ae,if_neg (by omega)] at this;rw[this,fS]),um]
  grind
 |l::L,a::P,i+1,hi,hl,h=>by
  have h0:=h 0 (by simp);rw[um,if_neg (by omega)] at h0;rw [gb,h0,Gj L P i (by simpa using hi) (by simpa using hl) (λj hj=>by
   have:=h (j+1) (by simpa using hj);rw[Ae] at this;rw[this]
   by_cases e:i=j
   .rw[if_pos e,if_pos (by omega)]
   .rw[if_neg e,if_neg (by omega)]),Ae]
  grind
theorem Ec.free{q:Nat}{R ld:List (List Rat)}{pl:List Nat}(h:Ec n R n ld pl rs)(hq:q<n)(hn:q∉pl):(eA q ld pl (bP n q)).length=n/\∀r∈R,bV r (eA q ld pl (bP n q))=0:=by
 have l:(eA q ld pl (bP n q)).length=n:=by rw[Gg,kE]
 have z0:∀a∈pl,(bP n q).getD a 0=0:=λa ha=>by
  rw[oC (h.lt a ha),if_neg (show¬a=q from λe=>hn (by rw[<-e];exact ha))]
 refine⟨l,(h.nul _ l).mpr ⟨λr hr=>?_,λr hr=>?_⟩⟩
 .obtain⟨i,hi,e⟩:=Ybu.mp hr
  have e':ld.getD i []=r:=by rw[aY,bW hi];exact e
  rw[Gh (h.wl r hr) ld pl _ (kE n q) h.lt h.asc z0,LJ (h.wl r hr) hq,Gj ld pl i hi h.ll (λj hj=>by rw[<-e'];exact h.one i j hi hj),e'];grind
 .rw[lA r _ n (h.ws r hr) l]
  exact j5 λj hj=>by rw[h.zer r hr j hj,fS]
theorem y9:∀{a b:List Nat},a.Pairwise (· < ·)->b.Pairwise (· < ·)->(∀x,x∈a↔x∈b)->a=b
 |[],[],_,_,_=>rfl
 |[],y::b,_,_,h=>by have:=(h y).mpr (by simp);simp at this
 |x::a,[],_,_,h=>by have:=(h x).mp (by simp);simp at this
 |x::a,y::b,ha,hb,h=>by
  obtain⟨a1,a2⟩:=YcR.mp ha;obtain⟨b1,b2⟩:=YcR.mp hb;have hx:=(h x).mp (by simp);have hy:=(h y).mpr (by simp);have e:x=y:=by
   rcases Yan.mp hx with e|hx
   .exact e
   .rcases Yan.mp hy with e|hy
    .exact e.symm
    .have:=a1 y hy;have:=b1 x hx;omega
  subst e;rw[y9 a2 b2 λz=>?_];constructor
  .intro hz
   rcases Yan.mp ((h z).mp (by simp[hz])) with e|e
   .have:=a1 z hz;omega
   .exact e
  .intro hz
   rcases Yan.mp ((h z).mpr (by simp[hz])) with e|e
   .have:=b1 z hz;omega
   .exact e
theorem Gk:∀{R:List (List Rat)} {p:Nat},dA R p=none->∀r∈R,r.getD p 0=0
 |[],_,_,r,hr=>by cases hr
 |t::R,p,h,r,hr=>by
  rw[dA] at h
  by_cases e:t.getD p 0=0
  .rw[if_pos e] at h
   rcases Yan.mp hr with rfl|hr
   .exact e
   .exact Gk (by cases e2:dA R p with
     |none=>rfl
     |some a=>rw[e2] at h;cases h) r hr
  .rw[if_neg e] at h;cases h
theorem Gm{R:List (List Rat)}(h:a<R.length)(t:List Rat):t∈R↔t=R.getD a []\/t∈R.take a++R.drop (a+1):=by
 have e:R=R.take a++R.getD a []::R.drop (a+1):=by
  conv=>lhs;rw[<-List.take_append_drop a R]
  rw[tB h,aY,bW h];rfl
 conv=>lhs;rw[e]
 simp only[Yao,Yan];constructor
 .rintro(h|h|h)
  .exact .inr (.inl h)
  .exact .inl h
  .exact .inr (.inr h)
 .rintro(h|h|h)
  .exact .inr (.inl h)
  .exact .inl h
  .exact .inr (.inr h)
theorem za{n:Nat}{R:List (List Rat)}(hR:∀r∈R,r.length=n):∀p,p<=n->Ec n R p (cL R p).ld (cL R p).pl (cL R p).rs
 |0,_=>Ec.start hR
 |p+1,hp=>by
  have ih:=za hR p (by omega);rw[cL];generalize cL R p=x at ih;unfold qb;cases e:dA x.rs p with
  |none=>exact ih.skip (Gk e)
  |some a=>
   obtain⟨a1,a2⟩:=oV e;exact ih.pivot (r:=x.rs.getD a []) (rs1:=x.rs.take a++x.rs.drop (a+1)) (by omega) a2 (Gm a1) rfl λt=>by
    unfold bE;rw[YbQ];constructor
    .rintro⟨u,hu,rfl⟩;exact⟨u,hu,rfl⟩
    .rintro⟨u,hu,rfl⟩;exact⟨u,hu,rfl⟩
namespace Dt
open B.C
theorem zd(f g:Nat->Rat):∀n:Nat,aF (λi=>f i+g i) n=aF f n+aF g n
 |0=>by simp only[aF];grind
 |n+1=>by rw[aF,aF,aF,zd f g n];grind
theorem sumN_mul(f:Nat->Rat)(c:Rat):∀n:Nat,aF (λi=>c*f i) n=c*aF f n
 |0=>by simp only[aF];grind
 |n+1=>by rw[aF,aF,sumN_mul f c n];grind
theorem ua(f:Nat->Nat->Rat)(m:Nat):∀n:Nat,aF (λi=>aF (λj=>f i j) m) n=aF (λj=>aF (λi=>f i j) n) m
 |0=>by rw[aF];exact(j5 λ_ _=>rfl).symm
 |n+1=>by
  rw[aF,ua f m n,<-zd];rfl
theorem wn(f:Nat->Int):∀n:Nat,aF (λi=>((f i:Int):Rat)) n=((sumI f n:Int):Rat)
 |0=>rfl
 |n+1=>by rw[aF,sumI,wn f n,tI]
theorem null_q(A:Nat->R)(hn:n<=5){w:Nat->Rat}(h:∀i,i<n->aF (λj=>(A i j:Rat)*w j) n=0)(hj:j<n):(dt A n:Rat)*w j=0:=by
 have e:aF (λk=>(kG A n k j:Rat)*aF (λl=>(A k l:Rat)*w l) n) n=(dt A n:Rat)*w j:=by
  rw[cM (g:=λk=>aF (λl=>(kG A n k j:Rat)*((A k l:Rat)*w l)) n) (λk _=>(sumN_mul _ _ n).symm),ua];rw [cM (g:=λl=>w l*((sumI (λk=>A k l*kG A n k j) n:Int):Rat)) (λl _=>by
   rw[<-wn,<-sumN_mul];exact cM λk _=>by rw[ft];grind)]
  rw[jE (k:=j) hj (λi hi ne=>by rw[yW A hn hi hj,if_neg ne];exact fL _),yW A hn hj hj,if_pos rfl,qX]
 rw[<-e];exact j5 λk hk=>by rw[h k hk,fL]
theorem wq{A B:Nat->R}(h:∀l,l<k->∀c,c<k\/c=j->A l c=B l c)(hi:∀c,c<k\/c=j->A i c=B i c):M A k i j=M B k i j:=by
 match k with
 |0=>exact hi j (.inr rfl)
 |1=>
  simp only[M,m2];rw[h 0 (by omega) 0 (by omega),h 0 (by omega) j (by omega),hi 0 (by omega),hi j (by omega)]
 |2=>
  simp only[M,m3,m2];rw[h 0 (by omega) 0 (by omega),h 0 (by omega) 1 (by omega),h 0 (by omega) j (by omega),h 1 (by omega) 0 (by omega),h 1 (by omega) 1 (by omega),h 1 (by omega) j (by omega),hi 0 (by omega),hi 1 (by omega),hi j (by omega)]
 |3=>
  simp only[M,m4,m3,m2];rw[h 0 (by omega) 0 (by omega),h 0 (by omega) 1 (by omega),h 0 (by omega) 2 (by omega),h 0 (by omega) j (by omega),h 1 (by omega) 0 (by omega),h 1 (by omega) 1 (by omega),h 1 (by omega) 2 (by omega),h 1 (by omega) j (by omega),h 2 (by omega) 0 (by omega),h 2 (by omega) 1 (by omega),h 2 (by omega) 2 (by omega),h 2 (by omega) j (by omega),hi 0 (by omega),hi 1 (by omega),hi 2 (by omega),hi j (by omega)]
 |4=>
  simp only[M,m5,m4,m3,m2];rw[h 0 (by omega) 0 (by omega),h 0 (by omega) 1 (by omega),h 0 (by omega) 2 (by omega),h 0 (by omega) 3 (by omega),h 0 (by omega) j (by omega),h 1 (by omega) 0 (by omega),h 1 (by omega) 1 (by omega),h 1 (by omega) 2 (by omega),h 1 (by omega) 3 (by omega),h 1 (by omega) j (by omega),h 2 (by omega) 0 (by omega),h 2 (by omega) 1 (by omega),h 2 (by omega) 2 (by omega),h 2 (by omega) 3 (by omega),h 2 (by omega) j (by omega),h 3 (by omega) 0 (by omega),h 3 (by omega) 1 (by omega),h 3 (by omega) 2 (by omega),h 3 (by omega) 3 (by omega),h 3 (by omega) j (by omega),hi 0 (by omega),hi 1 (by omega),hi 2 (by omega),hi 3 (by omega),hi j (by omega)]
 |_+5=>rfl
theorem Gn{A B:Nat->R}(h:∀i,i<n->∀j,j<n->A i j=B i j):dt A n=dt B n:=by
 cases n with
 |zero=>rfl
 |succ k=>exact wq (λl hl c hc=>h l (by omega) c (by omega)) λc hc=>h k (by omega) c (by omega)
theorem LL(h:IsSl s n)(hi:i<n):((kF s n).getD i []).getD j 0=(tA (tbl s n) i j:Rat):=by
 have l:=jD s n;unfold kF tA gr ga;have e:(tbl s n)[i]? = some ((tbl s n).getD i []):=by rw[aY,bW (by omega)];rfl
 rw[aY (l:=List.map cX (tbl s n)),cK,e];show(cX ((tbl s n).getD i [])).getD j 0=_;unfold cX;rw[aY,cK,aY (l:=(tbl s n).getD i [])];cases((tbl s n).getD i [])[j]? with
 |none=>rfl
 |some v=>rfl
theorem LM{x:List Rat}(h:IsSl s n)(hi:i<n)(hx:x.length=n):bV ((kF s n).getD i []) x=aF (λj=>(tA (tbl s n) i j:Rat)*x.getD j 0) n:=by
 have hm:(kF s n).getD i []∈kF s n:=gP (by rw[Fw];exact hi);rw[lA _ x n (Li h _ hm).len hx];exact cM λj _=>by rw[LL h hi]
theorem CA(n:Nat):(List.range n).Pairwise (· < ·):=List.pairwise_lt_range
theorem sumN_split(f:Nat->Rat)(n:Nat):∀m:Nat,aF f (n+m)=aF f n+aF (λj=>f (n+j)) m
 |0=>by rw[aF,Nat.add_zero,j9]
 |m+1=>by rw[<-Nat.add_assoc,aF,sumN_split f n m,aF];grind
end Dt
namespace B.C.Q0
theorem Go(h:IsSl s n)(hi:i<n)(hj:j<n):tT s n i j=s.getD (n-1-i+j) 0:=by
 unfold tT ga gr;have hl:=h.len;simp only[aY];rw[JL hi];simp only[nb];rw[uo,if_pos hj,List.getElem?_drop]
theorem LN(h:IsSl s n)(he:s.reverse=s)(hi:i<n)(hj:j<n):tT s n i j=tT s n j i:=by
 have hl:=h.len;rw[Go h hi hj,Go h hj hi];simp only[aY]
 conv=>lhs;rw[<-he]
 rw[zX (by omega)];rw[show s.length-1-(n-1-i+j)=n-1-j+i by omega]
structure Nl(s:List Int)(n a:Nat)(L:Nat->Nat->Rat):Prop where
 sym:∀i j,i<n->j<n->L i j=L j i
 zero:∀i j,i<n->j<n->i<a->L i j=0
 vec:∀c,a<=c->c<n->∃x:Nat->Rat,x c=1/\(∀j,a<=j->j≠c->x j=0)/\∀i,i<n->aF (λj=>(tT s n i j:Rat)*x j) n=L i c
theorem CB(hs:IsSl s n)(ha:a<n):Sm 10 (a+1) (jt (tbl s n) (a+1)):=by
 have hl:=jD s n;exact ⟨by unfold jt;simp [hl];omega,λr hr=>by
  unfold jt at hr;obtain⟨r0,hr0,rfl⟩:=YbQ.mp hr;have:=(lj hs r0 (m7 hr0)).1;rw[gS];omega,λr hr x hx=>by
  unfold jt at hr;obtain⟨r0,hr0,rfl⟩:=YbQ.mp hr;have:=(lj hs r0 (m7 hr0)).2 x (m7 hx);show x.natAbs<1024;omega⟩
theorem Nl.piv(h:Nl s n a L)(hs:IsSl s n)(hm:m<=n)(ha:a<m)(hst:Stg s n m):L a a≠0:=by
 intro z;have h5:=hs.n5;have hl:=jD s n;obtain⟨y,y1,y2,y3⟩:=h.vec a (cB a) (by omega);have sm:=CB (a:=a) hs (by omega);have nd:=Dt.num_dt sm (by omega);have ext:∀i,i<a+1->∀j,j<a+1->Dt.tA (jt (tbl s n) (a+1)) i j=tT s n i j:=λi hi j hj=>by
  unfold Dt.tA jt tT ga gr;simp only[aY];rw[cK,uo,if_pos hi,bW (l:=tbl s n) (by omega)];simp only[o6,nb];rw[uo,if_pos hj]
 have nq:=Dt.null_q (Dt.tA (jt (tbl s n) (a+1))) (n:=a+1) (by omega) (w:=y) (λi hi=>?_) (j:=a) (by omega)
 .rw[y1,qW] at nq
  refine hst a ha ?_;rw[nd]
  exact_mod_cast nq
 .have e1:aF (λj=>(Dt.tA (jt (tbl s n) (a+1)) i j:Rat)*y j) (a+1)=aF (λj=>(tT s n i j:Rat)*y j) (a+1):=cM λj hj=>by rw[ext i hi j hj]
  have e2:aF (λj=>(tT s n i j:Rat)*y j) n=aF (λj=>(tT s n i j:Rat)*y j) (a+1):=by
   obtain⟨d,rfl⟩:∃d,n=a+1+d:=⟨n-(a+1),by omega⟩
   rw[Dt.sumN_split,j5 (n:=d) (λj _=>by rw[y2 (a+1+j) (by omega) (by omega),fL]),j9]
  rw[e1,<-e2,y3 i (by omega)];rcases gp i a with hia|hia
  .exact h.zero i a (by omega) (by omega) hia
  .have:i=a:=by omega
   subst this;exact z
theorem ub{we:WE}{tail:cP}{Q:List D->Prop}{f:Pr->D}:∀(L:List Pr),(∀p∈L,∀Q:D->Prop,Q (f p)->we No (.d (aR p.1)::.d (aE p.2)::tail) Q)->∀(sv sv':SV) (acc:List D),acc.length+L.length<=aM->Q (acc++L.map f)->lcW (dF 2 (cI (gN 0) (cI (gN 1) dE))) cV we (L.map iQ) (sv::sv'::tail) acc Q
 |[],_,sv,sv',acc,_,hq=>by rw[gL,lcW];simpa using hq
 |p::L,h,sv,sv',acc,hl,hq=>by
  rw[cR,lcW];refine⟨rfl,?_⟩;show we No (SV.d (aR p.1)::SV.d (aE p.2)::tail) _;rw[dS] at hl;refine h p (by simp) _ ⟨by omega,ub L (λa ha=>h a (by simp[ha])) _ _ _ (by simp;omega) ?_⟩;rw[mZ];simpa using hq
theorem Gp{b n i j:Nat}:∀{ps:List Pr} {N:Nat},(∀p∈ps,Pq b n p)->i<n->j<n->ps.length*(3*b+1)<=N->Dz N (ps.map (·.1)) (ps.map λp=>p.2.getD i 0*p.2.getD j 0)
 |[],_,_,_,_,_=>trivial
 |p::ps,N,h,hi,hj,hl=>by
  have hp:=h p (by simp);rw[dS,m6] at hl;have g:∀k,k<n->Sz b (p.2.getD k 0):=λk hk=>by
   rw[aY,bW (by rw[hp.l];exact hk)];exact hp.r _ (gU _)
  exact⟨b,b+b,hp.w,(g i hi).mul (g j hj),by omega,Gp (λq hq=>h q (by simp[hq])) hi hj (by omega)⟩
theorem CD(i j:Nat):∀ps:List Pr,bV (ps.map (·.1)) (ps.map λp=>p.2.getD i 0*p.2.getD j 0)=gs ps i j
 |[]=>rfl
 |p::ps=>by rw[cR,cR,bV,gs,CD i j ps]
theorem LO{E:Ex->Prop}{x y:Rat}(h1:Sz n x)(h2:Sz m y)(hb:n+m+1<=8989)(q:Q (aR (x*y))):sL [.lst [aR x],.lst [aR y]] E Q:=by
 refine⟨((false,false),[x],[y]),rfl,⟨n,m,h1,h2,hb,trivial⟩,?_⟩;show Q (aR (x*y+0));rw[j9];exact q
theorem CF(a b c d e f:SV):∃g,pub 5 [a,b,c,d,e,f]=[a,b,c,d,e,g]:=by
 cases f<;>exact⟨_,rfl⟩
theorem LQ{ps:List Pr}(h:IsSl s n)(he:s.reverse=s)(hl:∀i,i<n->∀j,j<i+1->gs ps i j=(tT s n i j:Rat)):oX s n ps:=λi hi j hj=>by
 have gsym:∀(ps:List Pr) (i j:Nat),gs ps i j=gs ps j i:=λps i j=>by
  induction ps with
  |nil=>rfl
  |cons p ps ih=>rw[gs,gs,ih];grind
 rcases gp j (i+1) with h1|h1
 .exact hl i hi j h1
 .rw[gsym,hl j hj i (by omega),LN h he hj hi]
theorem LR:Rd y4 F9 Zdf:=by
 rintro _ E Q ⟨⟨⟨b,s,n⟩,x⟩,rfl,⟨h,he,hk,hz,hf⟩,q⟩;dsimp only at h he hk hz hf q;have h5:=h.n5;unfold F9;walk_at "nx";refine li hk (by decide) λt ht=>?_;cases x<;>cases ht<;>try exact q
 rename_i xs;obtain⟨hl,hx⟩:=DL hk;walk_at "st";simp only[show fX "list" "list" = true from rfl,eT,dO,if_false];replace q:Q (.bl ((decide (xs.length<=10)&&xs.all (cZ n))&&decide (oX s n (sqs (.lst xs))))):=q;walk_at "st"
 by_cases h10:xs.length<=10
 .rw[if_neg (by simp;omega)]
  refine sF (λρ=>xs.all (cZ n)=true/\∃s2,ρ=[.d (bO s n),.d (.lst xs),s2,.un,.un,.un]) (λnx hnx=>?_) ?_
  .show bD _ _ _ _ _ _
   refine for_seq (xs:=xs) (nm_at rfl) ?_;refine sG (λds ρ=>∃a s2,xs=a++ds/\a.all (cZ n)=true/\ρ=[.d (bO s n),.d (.lst xs),s2,.un,.un,.un]) ?_ ?_ _ _ ⟨[],_,rfl,rfl,rfl⟩
   .rintro d ds _ ⟨a,s2,hxs,ha,rfl⟩ nx2 hnx2
    show aG _ _ _ _ [.d (bO s n),.d (.lst xs),.d d,.un,.un,.un];have hd:kd d=true:=hx d (by rw[hxs];simp);have bad:cZ n d=false->Q (.bl false):=λz=>by
     have:xs.all (cZ n)=false:=by rw[hxs,List.all_append,qT,z];simp
     rw[this] at q;simpa using q
    have good:cZ n d=true->nx2 [.d (bO s n),.d (.lst xs),.d d,.un,.un,.un]:=λz=>hnx2 _ ⟨a++[d],_,by rw[hxs];simp,by rw[List.all_append,ha,qT,z];rfl,rfl⟩;clear hnx2 hnx q ha hxs;walk_at "nx";refine li hd (by decide) λt ht=>?_;cases d<;>cases ht<;>try exact bad rfl
    rename_i ys;obtain⟨hyl,hy⟩:=oN hd;simp only[show fX "tuple" "tuple" = true from rfl,eT,dO,if_false];walk_at "st"
    match ys,hyl,hy,bad,good with
    |[],_,_,bad,_=>walk_at "st";exact bad rfl
    |[u],_,_,bad,_=>walk_at "st";exact bad rfl
    |u::v::w::r,_,_,bad,_=>
     walk_at "st";rw[if_pos (by simp;omega)];exact bad rfl
    |[u,v],_,hy,bad,good=>
     walk_at "st";rw[if_neg (by simp)];refine⟨_,rfl,ES (hy u (by simp)) ?_⟩;cases hu:cN u with
     |false=>walk_at "st";exact bad (by rw[cZ,hu];rfl)
     |true=>
      obtain⟨p,rfl⟩:=yp hu;walk_at "st";refine⟨_,rfl,by decide,jq (qI _ _) (by decide) ?_⟩;rw[if_neg (by simp),Ga];cases hp:decide (p=0) with
      |true=>walk_at "st";exact bad (by rw[cZ,hu,qM,hp];rfl)
      |false=>
       walk_at "st";refine⟨_,rfl,ET (hy v (by simp)) ?_⟩;cases hv:fZ n v with
       |false=>walk_at "st";exact bad (by rw[cZ,hu,qM,hp,hv];rfl)
       |true=>walk_at "st";exact good (by rw[cZ,hu,qM,hp,hv];rfl)
   .rintro _ ⟨a,s2,hxs,ha,rfl⟩
    rw[qh] at hxs;subst hxs;exact hnx _ ⟨ha,_,rfl⟩
  rintro _ ⟨ha,s2,rfl⟩;obtain⟨ps,rfl,hps⟩:=Cw ha;rw[ha,Nr h10,show sqs (.lst (ps.map iQ))=ps from Cy ps] at q;have hpq:=Gd hz λp hp=>(hps p hp).1;have hf:sT b ps.length:=by have:=hf _ rfl h10;rwa [bC] at this
  unfold sT at hf;rw[bC] at h10;clear hps hx hl hk hz ha;show aG _ _ _ _ [.d (bO s n),.d (dN ps),s2,.un,.un,.un];refine sF (λρ=>(∀i,i<n->∀j,j<i+1->gs ps i j=(tT s n i j:Rat))/\∃s2 s3 s4 s5,ρ=[.d (bO s n),.d (dN ps),s2,s3,s4,s5]) (λnx hnx=>?_) ?_
  .show bD _ _ _ _ _ _
   walk_at "st";refine⟨by omega,by omega,?_⟩;refine Zk (λk ρ=>(∀i,i<k->∀j,j<i+1->gs ps i j=(tT s n i j:Rat))/\∃s2 s3 s4 s5,ρ=[.d (bO s n),.d (dN ps),s2,s3,s4,s5]) n ?_ (λρ hρ=>hnx ρ hρ) _ ⟨λi hi=>Nq hi (by omega),_,_,_,_,rfl⟩;rintro k hkn _ ⟨hk,s2,s3,s4,s5,rfl⟩ nx2 hnx2;obtain⟨s5',e5⟩:=CF (.d (bO s n)) (.d (dN ps)) s2 (.d (.int k)) s4 s5;show bD _ _ _ _ _ (pub 5 [.d (bO s n),.d (dN ps),s2,.d (.int k),s4,s5]);rw[e5];clear e5;walk_at "st";refine⟨by omega,by omega,?_⟩;rw[show((k:Int)+1)=((k+1:Nat):Int) by omega];refine Zk (λl ρ=>(∀j,j<l->gs ps k j=(tT s n k j:Rat))/\∃s2 s4 s5,ρ=[.d (bO s n),.d (dN ps),s2,.d (.int k),s4,s5]) (k+1) ?_ ?_ _ ⟨λj hj=>Nq hj (by omega),_,_,_,rfl⟩
   .rintro l hlk _ ⟨hl,s2,s4,s5,rfl⟩ nx3 hnx3
    have hln:l<n:=by omega
    have gk:∀p∈ps,∀k,k<n->(p.2.map aR)[k]? = some (aR (p.2.getD k 0))/\Sz b (p.2.getD k 0):=λp hp k hk=>by
     have:=hpq p hp;rw[aY,cK,bW (by rw[this.l];exact hk)];exact⟨rfl,this.r _ (gU _)⟩
    show aG _ _ _ _ [.d (bO s n),.d (dN ps),s2,.d (.int k),.d (.int l),s5];refine cO (own_by (xs:=ps.map λp=>aR (p.2.getD k 0*p.2.getD l 0)) (ρ':=[.d (bO s n),.d (dN ps),s2,.d (.int k),.d (.int l),.ow (ps.map λp=>aR (p.2.getD k 0*p.2.getD l 0))]) rfl (λP hP=>?_) ?_)
    .unfold dN
     walk_at "st";refine ub (f:=λp=>aR (p.2.getD k 0*p.2.getD l 0)) ps (λp hp Q hq=>?_) .un .un [] (by simp[aM];omega) (by simpa using hP);unfold aE;walk_at "st";refine⟨_,bY (gk p hp k hkn).1,by decide,_,bY (gk p hp l hln).1,by decide,LO (gk p hp k hkn).2 (gk p hp l hln).2 (by have:1<=ps.length:=Af hp;have:=xv (3*b+1) this;omega) hq⟩
    dsimp only;unfold bM;rw[show pub 5 [.d (bO s n),.d (dN ps),s2,.d (.int k),.d (.int l),.ow (ps.map λp=>aR (p.2.getD k 0*p.2.getD l 0))]=[.d (bO s n),.d (dN ps),s2,.d (.int k),.d (.int l),.d (.lst (ps.map λp=>aR (p.2.getD k 0*p.2.getD l 0)))] from rfl];refine gi (b:=!decide (gs ps k l=(tT s n k l:Rat))) (Cz (x:=aR (gs ps k l)) (y:=aR (tT s n k l:Rat)) (λP hP=>?_) (λP hP=>?_) (λP hP=>jq (qI _ _) (qI _ _) ?_)) (λe=>?_) λe=>?_
    .unfold dN
     walk_at "st";refine ub (f:=λp=>aR p.1) ps (λp hp Q hq=>?_) .un .un [] (by simp[aM];omega) ?_
     .walk_at "st"
      exact hq
     .refine⟨((false,false),ps.map (·.1),ps.map λp=>p.2.getD k 0*p.2.getD l 0),by simp[gE],Gp hpq hkn hln (by rw[xa];omega),?_⟩
      dsimp only;rw[CD];exact hP
    .rw[yx] at hP
     walk_at "st";have ht:=jD s n;have hr:=(lj h _ (gU (show k<(tbl s n).length by omega))).1;refine⟨bT (gr (tbl s n) k),bY (by unfold gr;rw[aY,cK,bW (by omega)];rfl),?_⟩;walk_at "st";refine⟨.int (tT s n k l),bY ?_,by decide,hP⟩;unfold tT ga gr;simp only[aY];rw[cK,bW (l:=tbl s n) (by omega)];simp only[nb];rw[bW (by omega)];rfl
    .rw[if_pos rfl,vI]
     exact hP
    .have e:¬gs ps k l=(tT s n k l:Rat):=by simpa using e
     rw[Nw (λz:oX s n ps=>e (z k hkn l hln))] at q;exact q
    .have e:gs ps k l=(tT s n k l:Rat):=by simpa using e
     refine hnx3 _ ⟨λj hj=>?_,_,_,_,rfl⟩;rcases gp j l with h1|h1
     .exact hl j h1
     .rw[show j=l by omega];exact e
   .rintro _ ⟨hl,s2,s4,s5,rfl⟩
    refine hnx2 _ ⟨λi hi j hj=>?_,_,_,_,_,rfl⟩;rcases gp i k with h1|h1
    .exact hk i h1 j hj
    .have:i=k:=by omega
     subst this;exact hl j hj
  .rintro _ ⟨hlow,s2,s3,s4,s5,rfl⟩
   rw[Nr (LQ h he hlow)] at q;exact q
 .rw[if_pos (by simp;omega)]
  rw[Nw h10] at q;exact q
def BI(s:List Int)(n c b:Nat)(ρ:cP):Prop:=∃(acc:List Pr) (u:List Int) (s4 s5 s6:SV),acc.length<=c/\(∀p∈acc,Pq 112 n p)/\u.length=n/\(∀x∈u,-(b:Int)<=x/\x<=b)/\ρ=[.d (bO s n),.d (.int n),.ow (acc.map iQ),.ow (u.map .int),s4,s5,s6]
theorem BI.up{c c':Nat}(h:BI s n c b ρ)(h1:c<=c')(h2:b<=b'):BI s n c' b' ρ:=by
 obtain⟨acc,u,s4,s5,s6,a1,a2,a3,a4,e⟩:=h;exact⟨acc,u,s4,s5,s6,by omega,a2,a3,λx hx=>by have:=a4 x hx;omega,e⟩
end B.C.Q0
local macro_rules | `(tactic| walk_at "w1")=>`(tactic| simp only [aK,cE,aQ,cF,gO,bM,bX,bD,jC,dL,dQ,dj,il,d6,kC,bB,iN,eO,wM,Zdk,fo,e8,jf,e7,dC,aW,wT,kx,w1,w2,wB,wF,wL,aX,cD,Zb,aB,bN,aC,aA,aLC,ZbQ,cV,iS,iL,iT,fO,i5,iZ,eG,dU,wN,wC,gN,dF,cI,dE,dG,kz,et,dM,fg,dm,c7,ei,fh,aCut,ef,pub,cR,gL,dS,i7,ia,dI,List.replicate,eK,fk,List.set_cons_zero,List.set_cons_succ,Nat.reduceSub,Nat.reduceAdd,gT,j8,true_and,dO,if_true,if_false,ite_true,ite_false,iU,eT,lH,
 lK,lL,lM,lN,lO,lP,lQ,lR,lS,Ze,lT,lU,lV,lW,lX,lY,lZ,l3,l4,l6,l7,l8,md,me,mf,mh,mi,mj,ml,mn,mo,mq,ms,mx,my,mz,mB,mC,mD,mE,mF,mG,mH,mI,mJ,mK,mL,mM,mO,fG,mP,mQ,mR,mS,mT,f6,f7])
namespace B.C.E
theorem sel_at{a b:Str×bF}{wi:WE}{t:WA}{E:Ex->Prop}(hk:k<2)(hi:∀P:D->Prop,P (.int k)->wi E ρ P)(h0:k=0->t E ρ λds=>a.2 ds E Q)(h1:k=1->t E ρ λds=>b.2 ds E Q) :
  sO [a,b] (w2 gIx (wL (bN (aC (wC (.cls a.1)) (aC (wC (.cls b.1)) aA)))) wi) t E ρ Q:=by
 show 2<=aM/\wi E ρ _;refine⟨by decide,hi _ ?_⟩;rcases(show k=0\/k=1 by omega) with rfl|rfl
 .exact⟨_,rfl,a,by simp,rfl,h0 rfl⟩
 .exact⟨_,rfl,b,by simp,rfl,h1 rfl⟩
def cl(n:Nat)(d:D):Prop:=bx 7 d n=true/\lm d=true/\mU d=true
theorem cl.up(l:n<=m)(h:cl n d):cl m d:=⟨BV _ l h.1,h.2⟩
theorem cl.tup{n:Nat}{xs:List D}(hl:xs.length<=7)(h:∀x∈xs,cl n x):cl (n+1) (.tup xs):=⟨BX hl λx hx=>(h x hx).1,by rw[lm,yF];exact λx hx=>(h x hx).2.1,by rw[mU,yG];exact λx hx=>(h x hx).2.2⟩
theorem cl.row(hl:r.length<=7)(h:∀x∈r,Sz 223 x):cl 2 (aE r):=⟨Fe (by decide) hl h,By r,EQ r⟩
theorem cl.two{a b:D}(h1:cl n a)(h2:cl n b):cl (n+1) (.tup [a,b]):=.tup (by simp) λx hx=>by
 simp only[Yan,gu,or_false] at hx;rcases hx with rfl|rfl<;>assumption
theorem cl.non{n:Nat}:cl n .non:=⟨by rw[bx],rfl,rfl⟩
def bo(d:D):Bool:=match d with
 |.tup xs=>((xs.length:Int)%2==0)
 |_=>true
end B.C.E
namespace B.C.K5
section
variable{E:Ex->Prop}{x:D}
end
end B.C.K5
local macro_rules | `(tactic| walk_at "w1")=>`(tactic| simp only [aK,cE,aQ,cF,gO,bM,bX,bD,jC,dL,dQ,dj,il,d6,kC,bB,iN,eO,wM,Zdk,fo,e8,jf,e7,dC,aW,wT,kx,w1,w2,wB,wF,wL,aX,cD,Zb,aB,bN,aC,aA,aLC,ZbQ,cV,iS,iE,iL,iT,fO,i5,iZ,eG,dU,wN,wC,gN,dF,cI,dE,dG,kz,et,dM,fg,dm,c7,ei,fh,aCut,ef,pub,cR,gL,dS,i7,ia,dI,List.replicate,eK,fk,List.set_cons_zero,List.set_cons_succ,Nat.reduceSub,Nat.reduceAdd,gT,j8,true_and,dO,if_true,if_false,ite_true,ite_false,iU,eT,lH,
 lK,lL,lM,lN,lO,lP,lQ,lR,lS,Ze,lT,lU,lV,lW,lX,lY,lZ,l3,l4,l6,l7,l8,md,me,mf,mh,mi,mj,ml,mn,mo,mq,ms,mx,my,mz,mB,mC,mD,mE,mF,mG,mH,mI,mJ,mK,mL,mM,mO,fG,mP,mQ,mR,mS,mT,f6,f7])
namespace Gs
open Dt
def dl(i j:Nat):Rat:=if i=j then 1 else 0
theorem LT(i:Nat):dl i i=1:=if_pos rfl
theorem wu(h:i≠j):dl i j=0:=if_neg h
theorem Gq(f:Nat->Rat)(hk:k<n):aF (λi=>dl k i*f i) n=f k:=by
 rw[jE hk (λi _ ne=>by rw[wu (NB ne),fS]),LT,qY]
structure Bk(n:Nat)(T B:Nat->Nat->Rat):Prop where
 tb:∀i j,i<n->j<n->aF (λk=>T i k*B k j) n=dl i j
 bt:∀i j,i<n->j<n->aF (λk=>B i k*T k j) n=dl i j
theorem tA_ent(h:IsSl s n)(hi:i<n)(hj:j<n):tA (tbl s n) i j=ent s n i j:=by
 unfold tA B.C.gr B.C.ga;rw[Bt h,aY (l:=List.map _ _),cK,jG hi];show((List.range n).map λj=>ent s n i j).getD j 0=_;rw[aY,cK,jG hj];rfl
end Gs
section
variable{E:Ex->Prop}{x:D}
end
local macro_rules | `(tactic| walk_at "w1")=>`(tactic| simp only [aK,cE,aQ,cF,gO,bM,bX,bD,jC,dL,dQ,dj,il,d6,kC,bB,iN,wM,Zdk,fo,e8,jf,e7,dC,aW,wT,kx,w1,w2,wB,wF,wL,aX,cD,Zb,aB,bN,aC,aA,aLC,ZbQ,cV,iS,iL,iT,fO,i5,iZ,eG,dU,wN,wC,gN,dF,cI,dE,dG,kz,et,dM,fg,dm,c7,ei,fh,aCut,ef,pub,cR,gL,dS,i7,ia,dI,List.replicate,eK,fk,List.set_cons_zero,List.set_cons_succ,Nat.reduceSub,Nat.reduceAdd,gT,j8,true_and,dO,if_true,if_false,ite_true,ite_false,iU,eT,lH,
 lK,lL,lM,lN,lO,lP,lQ,lR,lS,Ze,lT,lU,lV,lW,lX,lY,lZ,l3,l4,l6,l7,l8,md,me,mf,mh,mi,mj,ml,mn,mo,mq,ms,mx,my,mz,mB,mC,mD,mE,mF,mG,mH,mI,mJ,mK,mL,mM,mO,fG,mP,mQ,mR,mS,mT,f6,f7])
namespace G
structure Pk(y:D):Prop where
 kd:kd y=true
 sz:eu 300 y=true
 hd:∀a r,y=.tup (a::r)->r≠[]->db a 60=true
inductive Pp (n:Nat):D->Prop
 |one (w:Str) (r:List Rat):w = "full" \/w = "none" ->r.length=n->(∀x∈r,Sz 223 x)->Pp n (.tup [.str w,aE r])
 |two (w:Str) (r p:List Rat):w = "full" \/w = "none" ->r.length=n->p.length=n->(∀x∈r,Sz 223 x)->(∀x∈p,Sz 223 x)->Pp n (.tup [.str w,aE r,aE p])
 |all (w:Str) (R:List (List Rat)):w = "full" \/w = "none" ->R.length=n->(∀r∈R,r.length=n)->SzT 223 R->Pp n (.tup [.str w,.lst (R.map aE)])
section
variable{E:Ex->Prop}{x:D}{u:List Int}
end
end G
local macro_rules | `(tactic| walk_at "w1")=>`(tactic| simp only [aK,cE,aQ,cF,gO,bM,bX,bD,jC,dL,dQ,dj,il,d6,kC,bB,iN,eO,wM,Zdk,fo,e8,jf,e7,dC,aW,wT,kx,w1,w2,wB,wF,wL,aX,cD,Zb,aB,bN,aC,aA,aLC,ZbQ,cV,iS,iE,iL,iT,fO,i5,iZ,eG,dU,wN,wC,gN,dF,cI,dE,dG,kz,et,dM,fg,dm,c7,ei,fh,aCut,ef,pub,cR,gL,dS,i7,ia,dI,List.replicate,eK,fk,List.set_cons_zero,List.set_cons_succ,Nat.reduceSub,Nat.reduceAdd,gT,j8,true_and,dO,if_true,if_false,ite_true,ite_false,iU,eT,lH,
 lK,lL,lM,lN,lO,lP,lQ,lR,lS,Ze,lT,lU,lV,lW,lX,lY,lZ,l3,l4,l6,l7,l8,md,me,mf,mh,mi,mj,ml,mn,mo,mq,ms,mx,my,mz,mB,mC,mD,mE,mF,mG,mH,mI,mJ,mK,mL,mM,mO,fG,mP,mQ,mR,mS,mT,f6,f7])
namespace G
theorem Pk.at{a b:D}{r:List D}(h:Pk (.tup (a::b::r))):db a 60=true/\LP.kd b=true/\eu 300 b=true/\LP.kd a=true:=by
 have hz:=h.sz;rw[eu,vA] at hz;exact⟨h.hd a (b::r) rfl (by simp),(oN h.kd).2 b (by simp),hz b (by simp),(oN h.kd).2 a (by simp)⟩
theorem Pk.non:Pk .non:=⟨by rw[LP.kd],by simp[eu],λ_ _ e=>nomatch e⟩
end G
structure IsRg(r:List Int)(n:Nat):Prop where
 len:r.length=n
 n1:1<=n
 n5:n<=5
 b:∀x∈r,-50<=x/\x<=50
def CG(r:List Int):List Int:=r.drop 1++r
section
variable{E:Ex->Prop}{x:D}{r t:List Int}
theorem IsRg.sl(h:IsRg r n):IsSl (CG r) n:=by
 have h1:=h.n1;have hl:=h.len;refine⟨by unfold CG;rw[dX,jv];omega,h1,h.n5,λx hx=>?_⟩;unfold CG at hx;rcases Yao.mp hx with hx|hx
 .exact h.b x (qV hx)
 .exact h.b x hx
end
local macro_rules | `(tactic| walk_at "w1")=>`(tactic| simp only [aK,cE,aQ,cF,gO,bM,bX,bD,jC,dL,dQ,dj,il,d6,kC,bB,iN,eO,wM,Zdk,fo,e8,jf,e7,dC,aW,wT,kx,w1,w2,wB,wF,wL,aX,cD,Zb,aB,bN,aC,aA,aLC,ZbQ,cV,iS,iL,iT,fO,i5,iZ,eG,dU,wN,wC,gN,dF,cI,dE,dG,kz,et,dM,fg,dm,c7,ei,fh,aCut,ef,pub,cR,gL,dS,i7,ia,dI,List.replicate,eK,fk,List.set_cons_zero,List.set_cons_succ,Nat.reduceSub,Nat.reduceAdd,gT,j8,true_and,dO,if_true,if_false,ite_true,ite_false,iU,eT,lH,
 lK,lL,lM,lN,lO,lP,lQ,lR,lS,Ze,lT,lU,lV,lW,lX,lY,lZ,l3,l4,l6,l7,l8,md,me,mf,mh,mi,mj,ml,mn,mo,mq,ms,mx,my,mz,mB,mC,mD,mE,mF,mG,mH,mI,mJ,mK,mL,mM,mO,fG,mP,mQ,mR,mS,mT,f6,f7])
theorem set_by{E:Ex->Prop}(e:ρ.set i (.d d)=ρ')(hw:∀P:D->Prop,P d->w E ρ P)(h:N.nx ρ'):aQ i w E N ρ:=hw _ (by rw[e];exact h)
theorem par_by{t:WA}{E:Ex->Prop}{x:D}(e:(ρ.set i (.d x)).set j (.d y)=ρ')(ht:∀P:List D->Prop,P [x,y]->t E ρ P)(h:N.nx ρ'):dL i j t E N ρ:=ht _ (by rw[<-e] at h;exact h)
theorem nm_at{E:Ex->Prop}(h:ρ[i]? = some (.d d)):∀P:D->Prop,P d->wN i E ρ P:=λP q=>by unfold wN;rw[h];exact q
section
variable{E:Ex->Prop}
end
namespace B.C.E.K8
section
variable{E:Ex->Prop}{c:Str}
end
end B.C.E.K8
def Zn6(Q:Str->Prop):D->Prop
 |.str x=>Q x
 |_=>False
theorem Zn{Q:Str->Prop}(h:Zn6 Q d):∃b,d=.str b/\Q b:=by
 cases d with
 |str b=>exact⟨b,rfl,h⟩
 |_=>exact h.elim
theorem Zn6.mono{Q Q':Str->Prop}(h:∀b,Q b->Q' b)(d:D)(z:Zn6 Q d):Zn6 Q' d:=by
 obtain⟨b,rfl,q⟩:=Zn z;exact h b q
section
variable{o a b:Expr}{t:WA}{pos:Pos}{id:String}{g:Str->List D->(D->Prop)->Prop}
def CS(mg:Str->Option Value)(x y:Str):Prop:=∃t,mg x=some (.str y t)
theorem Nj{y:Str}(X:K.In h)(G:h.Ns mainGlobals mg){t:Tok}(a:PySem.W.nsIn K mainGlobals x=some (some (.str y t))):CS mg x y:=⟨t,PySem.W.mg_of X G a⟩
end
section
variable{pos ps kp cp:Pos}{a:Expr}
end
open Dt
section
variable{E:Ex->Prop}{x:D}
end
local macro_rules | `(tactic| walk_at "w1")=>`(tactic| simp only [aK,cE,aQ,cF,gO,bM,bX,bD,jC,dL,dQ,dj,il,d6,kC,bB,iN,eO,wM,Zdk,fo,e8,jf,e7,dC,aW,wT,kx,w1,w2,wB,wF,wL,aX,cD,Zb,aB,bN,aC,aA,aLC,ZbQ,cV,iS,iE,iL,iT,fO,i5,iZ,eG,dU,wN,wC,gN,dF,cI,dE,dG,kz,et,dM,fg,dm,c7,ei,fh,aCut,ef,pub,cR,gL,dS,i7,ia,dI,List.replicate,eK,fk,List.set_cons_zero,List.set_cons_succ,Nat.reduceSub,Nat.reduceAdd,gT,j8,true_and,dO,if_true,if_false,ite_true,ite_false,iU,eT,lH,
 lK,lL,lM,lN,lO,lP,lQ,lR,lS,Ze,lT,lU,lV,lW,lX,lY,lZ,l3,l4,l6,l7,l8,md,me,mf,mh,mi,mj,ml,mn,mo,mq,ms,mx,my,mz,mB,mC,mD,mE,mF,mG,mH,mI,mJ,mK,mL,mM,mO,fG,mP,mQ,mR,mS,mT,f6,f7])
namespace Gs
section
variable{T B:Nat->Nat->Rat}
theorem Bk.solve(h:Bk n T B){X y:Nat->Rat}(e:∀i,i<n->aF (λk=>T i k*X k) n=y i)(hk:k<n):X k=aF (λm=>B k m*y m) n:=by
 rw[<-Gq X hk];rw [cM (g:=λi=>aF (λm=>B k m*(T m i*X i)) n) (λi hi=>by
  rw[<-h.bt k i hk hi,qX,<-sumN_mul];exact cM λm _=>by grind),ua]
 exact cM λm hm=>by rw[sumN_mul,e m hm]
theorem Bk.made(h:Bk n T B){y:Nat->Rat}(hi:i<n):aF (λk=>T i k*aF (λm=>B k m*y m) n) n=y i:=by
 rw[cM (g:=λk=>aF (λm=>y m*(T i k*B k m)) n) (λk _=>by rw[<-sumN_mul];exact cM λm _=>by grind),ua];rw[cM (g:=λm=>dl i m*y m) (λm hm=>by rw[sumN_mul,h.tb i m hi hm,qX])];exact Gq y hi
end
section
def Stg(s:List Int)(n:Nat):Prop:=∀k,1<=k->k<=n->Fn (cor s n k) k=[]
theorem LU(h:IsSl s n):LP.cor s n n=s:=by
 have:=h.len;unfold LP.cor;rw[Nat.sub_self,tz,List.take_of_length_le (by omega)]
theorem Stg.full(h:IsSl s n)(g:Stg s n):Fn s n=[]:=by
 have:=g n h.n1 (cB _);rw[LU h] at this;exact this
def tq(s:List Int)(n i j:Nat):Rat:=(tA (tbl s n) i j:Rat)
theorem tims_len(r:List Rat):(bK s n r).length=n:=by unfold bK;rw[bC,jD]
theorem tims_at(h:IsSl s n)(hr:r.length=n)(hi:i<n):(bK s n r).getD i 0=aF (λj=>tq s n i j*r.getD j 0) n:=by
 have e1:bK s n r=(kF s n).map λl=>bV l r:=by unfold bK kF;rw[List.map_map];rfl
 rw[e1,aY,cK];have:(kF s n)[i]? = some ((kF s n).getD i []):=by rw[aY,bW (by rw[Fw];exact hi)];rfl
 rw[this];exact LM h hi hr
end
end Gs
open Gs
theorem Gr(R:List (List Rat)):∀p:Nat,(cL R p).ld.length+(cL R p).rs.length=R.length
 |0=>by simp[cL]
 |p+1=>by
  have ih:=Gr R p;rw[cL];generalize cL R p=x at ih;unfold qb;split
  .exact ih
  .rename_i a e
   obtain⟨h1,_⟩:=oV e;show(bE _ _ _++[_]).length+(bE _ _ _).length=_;unfold bE;simp only[dX,bC,j6,gS,jv];omega
theorem Ec.zero{R ld:List (List Rat)}{pl:List Nat}(h:Ec n R n ld pl rs){x:List Rat}(lx:x.length=n)(x0:∀r∈R,bV r x=0)(xf:∀t,t<n->t∉pl->x.getD t 0=0):∀t,t<n->x.getD t 0=0:=λt ht=>by
 by_cases hm:t∈pl
 .obtain⟨i,hi,e⟩:=Ybu.mp hm
  have e':pl.getD i 0=t:=by rw[aY,bW hi];exact e
  have hi':i<ld.length:=by rw[h.ll];exact hi
  have wl:=h.wl _ (gP hi');have d1:=((h.nul _ lx).mp x0).1 _ (gP hi');rw[lA _ x n wl lx,jE (k:=t) ht] at d1
  .have o:=h.one i i hi' hi
   rw[e',if_pos rfl] at o;rw[o,qY] at d1;exact d1
  .intro j hj ne
   by_cases hm2:j∈pl
   .obtain⟨k,hk,ek⟩:=Ybu.mp hm2
    have ek':pl.getD k 0=j:=by rw[aY,bW hk];exact ek
    have oz:=h.one i k hi' hk;rw[ek',if_neg (λz=>ne (by rw[<-ek',<-z,e']))] at oz;rw[oz,fS]
   .rw[xf j hj hm2,fL]
 .exact xf t ht hm
theorem LV{R:List (List Rat)}(hR:∀r∈R,r.length=m)(hl:R.length<m):∃c:List Rat,c.length=m/\(∃k,k<m/\c.getD k 0≠0)/\∀r∈R,bV r c=0:=by
 have ec:=za hR m (cB _);have cn:=Gr R m;have:∃k,k<m/\k∉(cL R m).pl:=by
  refine Classical.byContradiction λhc=>?_;have all:∀k,k<m->k∈(cL R m).pl:=λk hk=>Classical.byContradiction λz=>hc ⟨k,hk,z⟩;have e:(cL R m).pl=List.range m:=y9 ec.asc (CA m) λx=>⟨λhx=>Yah.mpr (ec.lt x hx),λhx=>all x (Yah.mp hx)⟩;have l:=ec.ll;rw[e,iX] at l;omega
 obtain⟨k,hk,hn⟩:=this;obtain⟨l,f0⟩:=ec.free hk hn;refine⟨_,l,⟨k,hk,?_⟩,f0⟩;rw[y8 _ _ _ (by rw[kE];exact ec.lt) hn,oC hk,if_pos rfl];decide +kernel
section
def HB(k:Nat)(e:Int)(x:Rat):Prop:=∃a:Int,a.natAbs<=k*2^228/\x=Rat.divInt a (6*e)
theorem HB.zero{e:Int}:HB 0 e 0:=⟨0,by simp,by rw[uk]⟩
theorem HB.add{e t d c:Int}{x:Rat}(e0:e≠0)(h:HB k e x)(ht:t.natAbs<=4)(hd:d=1\/d=2\/d=3)(hc:c.natAbs<2^223):HB (k+1) e (x+Rat.divInt t d*Rat.divInt c e):=by
 obtain⟨a,ab,rfl⟩:=h;obtain⟨g,hg,gd⟩:∃g:Int,g*d=6/\g.natAbs<=6:=by
  rcases hd with rfl|rfl|rfl
  .exact⟨6,rfl,by decide⟩
  .exact⟨3,rfl,by decide⟩
  .exact⟨2,rfl,by decide⟩
 have d0:d≠0:=by rcases hd with rfl|rfl|rfl<;>decide
 have g0:g≠0:=by rintro rfl;simp at hg
 refine⟨a+t*g*c,?_,?_⟩
 .refine fQ (qi _ _) ?_
  rw[m6];refine Nat.add_le_add ab ?_;rw[d9,d9];refine fQ (i8 (i8 ht gd) (ge hc)) (by decide)
 .rw[o8]
  have:Rat.divInt (t*c) (d*e)=Rat.divInt (t*g*c) (6*e):=by
   rw[show t*g*c=g*(t*c) by grind,show 6*e=g*(d*e) by rw[<-hg];grind];exact(Rat.divInt_mul_left g0).symm
  rw[this,nc,nc,nc,eJ,eJ,eJ,tI];grind
theorem HB.sz{e:Int}{x:Rat}(hk:k<=5)(e0:e≠0)(eb:e.natAbs<2^223)(h:HB k e x):Sz 240 x:=by
 obtain⟨a,ab,rfl⟩:=h;refine tW (jI (by decide) e0) (oF ab (oF (i8 hk (cB _)) (by decide))) ?_;rw[d9];exact oF (i8 (cB _) (ge eb)) (by decide)
end
structure IsR(r:List Int)(n:Nat):Prop where
 len:r.length=n
 b:∀x∈r,-1000<=x/\x<=1000
section
variable{E:Ex->Prop}{x:D}{r:List Int}
theorem IsR.at(h:IsR r n)(k:Nat):(r.getD k 0).natAbs<=2^10:=by
 rw[aY];cases e:r[k]? with
 |none=>exact i6 _
 |some v=>
  have:=h.b v (h8 e);show v.natAbs<=1024;omega
end
section
theorem Gu{b:Nat}:∀{a c:List Rat},(∀x∈a,Sz 7 x)->(∀x∈c,Sz b x)->Sz (a.length*(b+8)+1) (bV a c)
 |[],c,_,_=>by unfold bV;exact Sz.zero (by omega)
 |_::_,[],_,_=>by unfold bV;exact Sz.zero (by omega)
 |x::a,y::c,ha,hc=>by
  rw[bV];have ih:=Gu (a:=a) (c:=c) (b:=b) (λz hz=>ha z (by simp[hz])) λz hz=>hc z (by simp[hz]);exact(((ha x (by simp)).mul (hc y (by simp))).add ih).mono (by rw[dS,m6];omega)
theorem Gv(h:IsSl s n)(hr:∀x∈r,Sz b x):∀x∈bK s n r,Sz (5*(b+8)+1) x:=λx hx=>by
 unfold bK at hx;obtain⟨l,hl,rfl⟩:=YbQ.mp hx;obtain⟨h1,h2⟩:=lj h l hl;have:=Gu (a:=cX l) (c:=r) (b:=b) (λz hz=>by
  obtain⟨i,hi,rfl⟩:=YbQ.mp hz;exact(yz (h2 i hi)).mono (by decide)) hr
 have e:(cX l).length=n:=by unfold cX;rw[bC];exact h1
 rw[e] at this;exact this.mono (by have:=i8 h.n5 (cB (b+8));omega)
end
namespace G
structure Lf(b m:Nat)(row:List Rat):Prop where
 ex:∃(c:List Int) (e:Int),c.length=m/\e≠0/\e.natAbs<2^b/\(∀x∈c,x.natAbs<2^b)/\row=c.map λx=>Rat.divInt x e
theorem Lf.len{row:List Rat}(h:Lf b m row):row.length=m:=by
 obtain⟨c,e,h1,_,_,_,rfl⟩:=h.ex;rw[bC];exact h1
theorem Lf.mono{row:List Rat}(l:b<=b')(h:Lf b m row):Lf b' m row:=by
 obtain⟨c,e,h1,h2,h3,h4,h5⟩:=h.ex;have p:2^b<=2^b':=j7 (by decide) l;exact⟨c,e,h1,h2,de h3 p,λx hx=>de (h4 x hx) p,h5⟩
theorem Lf.sz{row:List Rat}(h:Lf b m row):∀x∈row,Sz b x:=by
 obtain⟨c,e,h1,h2,h3,h4,rfl⟩:=h.ex;intro x hx;obtain⟨y,hy,rfl⟩:=YbQ.mp hx;exact tW h2 (h4 y hy) h3
theorem Lf.int{c:List Int}(hb:0<b)(h:∀x∈c,x.natAbs<2^b):Lf b c.length (cX c):=by
 refine⟨c,1,rfl,by decide,?_,h,?_⟩
 .show 1<2^b
  exact uf (by omega)
 .unfold cX
  exact h9 λx _=>by have:=tE (x:Rat);rw[xh,xj] at this;exact this.symm
theorem BZ{c e:Int}(he:e≠0):Rat.divInt c e≠0↔c≠0:=by
 constructor
 .rintro h rfl
  exact h (uk e)
 .intro h z
  have e1:Rat.divInt c e*Rat.divInt e c=1:=by
   rw[o8,o9 e c];have:=tG (n:=1) (d:=1) (jI h he);rw[tD] at this;rw[this];rfl
  rw[z,fS] at e1;exact Nq e1 (by decide)
theorem Lf.norm{p:Nat}{row:List Rat}(h:Lf b m row)(hp:p<m)(h0:row.getD p 0≠0):Lf b m (row.map λx=>x*(row.getD p 0)⁻¹):=by
 obtain⟨c,e,h1,h2,h3,h4,rfl⟩:=h.ex;have hc:c[p]? = some (c.getD p 0):=by rw[aY,bW (by omega)];rfl
 have eg:(c.map λx=>Rat.divInt x e).getD p 0=Rat.divInt (c.getD p 0) e:=by
  rw[aY,cK,hc];rfl
 rw[eg] at h0 ⊢;have hc0:c.getD p 0≠0:=(BZ h2).mp h0;refine⟨c,c.getD p 0,h1,hc0,h4 _ (h8 hc),h4,?_⟩;rw[List.map_map];refine h9 λx _=>?_;show Rat.divInt x e*(Rat.divInt (c.getD p 0) e)⁻¹=Rat.divInt x (c.getD p 0);rw[Rat.inv_divInt,o8 _ _ ,o9 e];exact tG h2
theorem Lf.less{p:Nat}{row piv:List Rat}(h:Lf b m row)(hq:Lf b m piv)(hp:p<m):Lf (2*b+1) m (List.zipWith (λx y=>x+row.getD p 0*(-1)*y) row piv):=by
 obtain⟨c,e,h1,h2,h3,h4,rfl⟩:=h.ex;obtain⟨d,f,g1,g2,g3,g4,rfl⟩:=hq.ex;have hc:c[p]? = some (c.getD p 0):=by rw[aY,bW (by omega)];rfl
 have eg:(c.map λx=>Rat.divInt x e).getD p 0=Rat.divInt (c.getD p 0) e:=by
  rw[aY,cK,hc];rfl
 rw[eg];have bc:(c.getD p 0).natAbs<2^b:=h4 _ (h8 hc);refine⟨List.zipWith (λx y=>x*f-c.getD p 0*y) c d,e*f,by rw[iV];omega,jI h2 g2,?_,λz hz=>?_,?_⟩
 .rw[d9,qU,show 2*b=b+b by omega,jH]
  have:=oG h3 g3;omega
 .obtain⟨i,hi,e1⟩:=Ybu.mp hz
  rw[oH] at e1;rw[<-e1];exact B.C.tak_num (h4 _ (gU _)) g3 bc (g4 _ (gU _))
 .rw[List.zipWith_map,ul]
  refine congrArg (λg=>List.zipWith g c d) ?_;funext x y;have e1:Rat.divInt (c.getD p 0) e*(-1)=Rat.divInt (-c.getD p 0) e:=by rw[Rat.mul_neg,qW,Rat.neg_divInt]
  rw[e1,o8,Rat.divInt_add_divInt _ _ h2 (jI h2 g2)];rw[show x*(e*f) + -c.getD p 0*y*e=(x*f-c.getD p 0*y)*e by grind,o9 e (e*f)];exact(tG h2)
def rr(R:List (List Rat))(i:Nat):List Rat:=R.getD i []
end G
namespace Sv
abbrev rr:=G.rr
def Gw(n:Nat)(r:List Rat)(x:Nat->Rat)(c:Rat):Prop:=aF (λj=>r.getD j 0*x j) n=c*r.getD n 0
def Eqv(n:Nat)(A R:List (List Rat)):Prop:=∀x c,(∀i,i<n->Gw n (rr A i) x c)↔∀i,i<n->Gw n (rr R i) x c
theorem Eqv.trans{n:Nat}{A B C:List (List Rat)}(h:Eqv n A B)(h':Eqv n B C):Eqv n A C:=λx c=>(h x c).trans (h' x c)
section
variable{u:List Int}
end
end Sv
namespace G
def wl(k:Nat):Int:=[1,3,9,27,81].getD k 1
end G
section
variable{pos:Pos}{g:WG}
end
namespace G
theorem Pp.inv{x:D}(h:Pp n x):∃w ps,x=.tup (.str w::ps)/\(w = "full" \/w = "none")/\1<=ps.length/\ps.length<=2/\∀p∈ps,(∃r:List Rat,p=aE r/\r.length=n/\∀x∈r,Sz 223 x)\/∃R:List (List Rat),p=.lst (R.map aE)/\R.length=n/\∀r∈R,r.length=n/\∀x∈r,Sz 223 x:=by
 cases h with
 |one w r hw hr hs=>exact⟨w,[aE r],rfl,hw,by simp,by simp,λp hp=>.inl ⟨r,YcJ.mp hp,hr,hs⟩⟩
 |two w r p hw hr hp hrs hps=>
  refine⟨w,[aE r,aE p],rfl,hw,by simp,by simp,λx hx=>.inl ?_⟩;simp only[Yan,gu,or_false] at hx;rcases hx with rfl|rfl
  .exact⟨r,rfl,hr,hrs⟩
  .exact⟨p,rfl,hp,hps⟩
 |all w R hw hR hr hs=>exact⟨w,[.lst (R.map aE)],rfl,hw,by simp,by simp,λp hp=>.inr ⟨R,YcJ.mp hp,hR,λr h=>⟨hr r h,hs r h⟩⟩⟩
end G
namespace F4
section
variable{E:Ex->Prop}{x:D}
end
end F4
section
variable{E:Ex->Prop}{x:D}{r:List Int}
end
namespace G.V9
section
variable{E:Ex->Prop}{x:D}{u:List Int}
end
end G.V9
section
variable{f:Str}{a:Expr}{pos:Pos}
end
structure LW(K:Nn)(mg:Str->Option Value)(x qual f:Str)(st:Stmt):Prop where
 h:∃(C fI:Addr) (od:Option Addr) (osl:Array (Option Value)) (kV doc pm:Value) (an:Option Addr) (cdv ct:Value),iH K x=some C/\mg x=some (.ref C)/\Fl.clsF K C Fl.bmV "ValueError.__new__" f fI=true/\
  K.lookup fI=some ⟨.type "function",od,.func (PySem.W.fnOf "__init__" qual (cT st) (bH st) (aJ st) .none kV doc pm an cdv ct),osl⟩/\PySem.W.codeIn K cdv qual=true/\PySem.W.keepIn K (.ref fI)=true
section
variable{w:World}{f:Str}
theorem LY{hp:Heap}(X:K.In hp)(G:hp.Ns mainGlobals mg){C fI:Addr}{kV doc pm cdv ct:Value}{dd:Option Addr}{cd:ClassData}{sl:Array (Option Value)}(a:PySem.W.nsIn K mainGlobals x=some (some (.ref C)))(lc:K.lookup C=some ⟨.type "type",dd,.cls cd,sl⟩)(ni:PySem.W.nsIn K cd.ns "__init__" = some (some (.ref fI)))(q:Fl.clsF K C Fl.bmV "ValueError.__new__" f fI=true)
  (l:K.lookup fI=some ⟨.type "function",od,.func (PySem.W.fnOf "__init__" qual (cT st) (bH st) (aJ st) .none kV doc pm an cdv ct),osl⟩) (c:PySem.W.codeIn K cdv qual=true) (kp:PySem.W.keepIn K (.ref fI)=true):LW K mg x qual f st:=
 ⟨C,fI,od,osl,kV,doc,pm,an,cdv,ct,sE a,PySem.W.mg_of X G a,q,l,c,kp⟩
section
variable{a:Expr}{pos:Pos}
end
end
namespace G.V9.W
section
variable{E:Ex->Prop}{x:D}{r:List Int}
end
end G.V9.W
local macro_rules | `(tactic| walk_at "w1")=>`(tactic| simp only [aK,cE,aQ,cF,gO,bM,bX,bD,jC,dL,dQ,dj,il,d6,kC,bB,iN,eO,wM,Zdk,fo,e8,jf,e7,dC,aW,wT,kx,w1,w2,wB,wF,wL,aX,cD,Zb,aB,bN,aC,aA,aLC,ZbQ,cV,iS,iL,iT,fO,i5,iZ,eG,dU,wN,wC,gN,dF,cI,dE,dG,kz,et,dM,fg,dm,c7,ei,fh,aCut,ef,pub,cR,gL,dS,i7,ia,dI,List.replicate,eK,fk,List.set_cons_zero,List.set_cons_succ,Nat.reduceSub,Nat.reduceAdd,gT,j8,true_and,dO,if_true,if_false,ite_true,ite_false,iU,eT,lH,
 lK,lL,lM,lN,lO,lP,lQ,lR,lS,Ze,lT,lU,lV,lW,lX,lY,lZ,l3,l4,l6,l7,l8,md,me,mf,mh,mi,mj,ml,mn,mo,mq,ms,mx,my,mz,mB,mC,mD,mE,mF,mG,mH,mI,mJ,mK,mL,mM,mO,fG,mP,mQ,mR,mS,mT,f6,f7])
abbrev Nk:List Str:=["NoSlants", "NoRow", "NoNumber", "NoLine", "NotEven", "NotFull", "NotStrong1", "NotStrong2", "NotStrong3", "NotStrong4", "NotStrong5"]
section
variable{pos:Pos}
end
local macro_rules | `(tactic| walk_at "w1")=>`(tactic| simp only [aK,cE,aQ,cF,gO,bM,bX,bD,jC,dL,dQ,dj,il,d6,kC,bB,iN,eO,wM,Zdk,fo,e8,jf,e7,dC,aW,wT,kx,w1,w2,wB,wF,wL,aX,cD,Zb,aB,bN,aC,aA,aLC,ZbQ,cV,iS,iE,iL,iT,fO,i5,iZ,eG,dU,wN,wC,gN,dF,cI,dE,dG,kz,et,dM,fg,dm,c7,ei,fh,aCut,ef,pub,cR,gL,dS,i7,ia,dI,List.replicate,eK,fk,List.set_cons_zero,List.set_cons_succ,Nat.reduceSub,Nat.reduceAdd,gT,j8,true_and,dO,if_true,if_false,ite_true,ite_false,iU,eT,lH,
 lK,lL,lM,lN,lO,lP,lQ,lR,lS,Ze,lT,lU,lV,lW,lX,lY,lZ,l3,l4,l6,l7,l8,md,me,mf,mh,mi,mj,ml,mn,mo,mq,ms,mx,my,mz,mB,mC,mD,mE,mF,mG,mH,mI,mJ,mK,mL,mM,mO,fG,mP,mQ,mR,mS,mT,f6,f7])
namespace G.V9.W
namespace E8
section
variable{E:Ex->Prop}{x t:D}{r:List Int}{w:Nat}
end
end E8
end G.V9.W
section
namespace Lb
def pl:List Int->Int
 |[]=>1
 |x::xs=>x*pl xs
end Lb
end
namespace G.V9.W
namespace E1
section
variable{E:Ex->Prop}{x:D}
end
end E1
end G.V9.W
open Lb
def bf(T:Nat->Nat->Rat)(n:Nat)(u v:Nat->Rat):Rat:=aF (λi=>u i*aF (λj=>T i j*v j) n) n
def dW(c:Nat->Rat)(U:Nat->Nat->Rat)(m:Nat):Nat->Rat:=λk=>aF (λa=>c a*U a k) m
theorem sumN_split(f:Nat->Rat)(n:Nat):∀m:Nat,aF f (n+m)=aF f n+aF (λj=>f (n+j)) m
 |0=>by simp only[aF,Nat.add_zero];grind
 |m+1=>by rw[Nat.add_succ,aF,sumN_split f n m,aF];grind
theorem ze{f:Nat->Rat}:∀{n:Nat},(∀i,i<n->0<=f i)->0<=aF f n
 |0,_=>by simp only[aF];grind
 |n+1,h=>by
  have h1:=ze (f:=f) (n:=n) λi hi=>h i (by omega);have h2:=h n (by omega);rw[aF];grind
theorem CH{f:Nat->Rat}:∀{n:Nat},(∀i,i<n->0<=f i)->aF f n<=0->∀i,i<n->f i=0
 |0,_,_,i,hi=>by omega
 |n+1,h,h0,i,hi=>by
  have h1:=ze (f:=f) (n:=n) λi hi=>h i (by omega);have h2:=h n (by omega);rw[aF] at h0
  by_cases e:i=n
  .subst e;grind
  .exact CH (n:=n) (λi hi=>h i (by omega)) (by grind) i (by omega)
section
variable{T:Nat->Nat->Rat}
theorem oY{u v u' v':Nat->Rat}(hu:∀i,i<n->u i=u' i)(hv:∀i,i<n->v i=v' i):bf T n u v=bf T n u' v':=
 cM λi hi=>by rw[hu i hi,cM (g:=λj=>T i j*v' j) λj hj=>by rw[hv j hj]]
theorem oZ(hT:∀i j,i<n->j<n->T i j=T j i)(u v:Nat->Rat):bf T n u v=bf T n v u:=by
 unfold bf;rw[cM (g:=λi=>aF (λj=>u i*(T i j*v j)) n) λi _=>by rw[sumN_mul],ua];refine cM λj hj=>?_;rw[<-sumN_mul];exact cM λi hi=>by rw[hT i j hi hj];grind
theorem o1(u:Nat->Rat)(c:Nat->Rat)(U:Nat->Nat->Rat):∀m:Nat,bf T n u (dW c U m)=aF (λa=>c a*bf T n u (U a)) m
 |0=>by
  rw[aF];refine j5 λi _=>?_;rw[j5 λj _=>by show T i j*0=0;rw[fL],fL]
 |m+1=>by
  rw[aF,<-o1 u c U m];unfold bf;rw[<-sumN_mul,<-zd];refine cM λi _=>?_;rw[cM (g:=λj=>T i j*dW c U m j+c m*(T i j*U m j)) λj _=>by show T i j*(dW c U m j+c m*U m j)=_;grind,zd,sumN_mul];grind
theorem uc(u v w:Nat->Rat)(q:Rat):bf T n u (λk=>v k-q*w k)=bf T n u v-q*bf T n u w:=by
 unfold bf;rw[<-sumN_mul,<-sU];refine cM λi _=>?_;rw[cM (g:=λj=>T i j*v j-q*(T i j*w j)) λj _=>by grind,sU,sumN_mul];grind
structure Ap(T:Nat->Nat->Rat)(n:Nat)(U:Nat->Nat->Rat):Prop where
 ap:∀a b,a<n->b<n->a≠b->bf T n (U a) (U b)=0
 fu:∀x:Nat->Rat,(∀a,a<n->aF (λk=>U a k*x k) n=0)->∀k,k<n->x k=0
def bQ(m:Nat)(f:Nat->Rat):List Rat:=(List.range m).map f
theorem zf(m:Nat)(f:Nat->Rat):(bQ m f).length=m:=by unfold bQ;rw[bC,iX]
theorem CJ(f:Nat->Rat)(hk:k<m):(bQ m f).getD k 0=f k:=by
 unfold bQ;rw[aY,cK,jG hk];rfl
theorem LZ(f:Nat->Rat){c:List Rat}(hc:c.length=m):bV (bQ m f) c=aF (λj=>f j*c.getD j 0) m:=by
 rw[lA _ c m (zf m f) hc];exact cM λj hj=>by rw[CJ f hj]
theorem wish(m:Nat)(L:List (Nat->Rat))(hl:L.length<m):∃x:Nat->Rat,(∃k,k<m/\x k≠0)/\∀f∈L,aF (λj=>f j*x j) m=0:=by
 obtain⟨c,h1,h2,h3⟩:=LV (m:=m) (R:=L.map (bQ m)) (λr hr=>by obtain⟨f,_,rfl⟩:=YbQ.mp hr;exact zf m f) (by rw[bC];exact hl);exact⟨λk=>c.getD k 0,h2,λf hf=>by have:=h3 _ (m8 hf);rwa [LZ f h1] at this⟩
def jF(a:Nat):Nat->Rat:=λj=>if j=a then 1 else 0
theorem ww(x:Nat->Rat)(ha:a<m):aF (λj=>jF a j*x j) m=x a:=by
 rw[jE ha λi _ ne=>by unfold jF;rw[if_neg ne,fS]];unfold jF;rw[if_pos rfl,qY]
theorem Ap.ind(h:Ap T n U){c:Nat->Rat}(h0:∀k,k<n->dW c U n k=0):∀a,a<n->c a=0:=λt ht=>by
 refine Classical.byContradiction λhc=>?_;obtain ⟨x,⟨k,hk,hx⟩,hz⟩:=wish n (((List.range n).filter λa=>decide (a≠t)).map U) (by
  rw[bC];have:=List.length_filter_lt_length_iff_exists (p:=λa=>decide (a≠t)) (l:=List.range n);rw[iX] at this;exact this.mpr ⟨t,Yah.mpr ht,by simp⟩)
 have oth:∀a,a<n->a≠t->aF (λk=>U a k*x k) n=0:=λa ha ne=>hz _ (m8 (Yag.mpr ⟨Yah.mpr ha,by simpa using ne⟩));have s:aF (λa=>c a*aF (λk=>U a k*x k) n) n=0:=by
  rw[cM (g:=λa=>aF (λk=>c a*(U a k*x k)) n) λa _=>by rw[sumN_mul],ua];refine j5 λk hk=>?_;rw[cM (g:=λa=>x k*(c a*U a k)) λa _=>by grind,sumN_mul];have:=h0 k hk;unfold dW at this;rw[this,fL]
 rw[jE ht λa ha ne=>by rw[oth a ha ne,fL]] at s;have z:aF (λk=>U t k*x k) n=0:=by
  rcases Yc1.mp s with e|e
  .exact Nq e hc
  .exact e
 have al:∀a,a<n->aF (λk=>U a k*x k) n=0:=λa ha=>by
  by_cases e:a=t
  .rw[e];exact z
  .exact oth a ha e
 exact hx (h.fu x al k hk)
theorem Ap.diag(h:Ap T n U)(hT:∀i j,i<n->j<n->T i j=T j i)(c:Nat->Rat):bf T n (dW c U n) (dW c U n)=aF (λa=>c a*(c a*bf T n (U a) (U a))) n:=by
 rw[o1];refine cM λa ha=>?_;rw[oZ hT,o1,jE ha λb hb ne=>by rw[h.ap a b ha hb (NB ne),fL]]
def o4(n:Nat)(p:Nat->Bool):Nat:=((List.range n).filter p).length
theorem Gx{α:Type}(p:α->Bool):∀l:List α,(l.filter λa=>!p a).length+(l.filter p).length=l.length
 |[]=>rfl
 |a::l=>by
  have:=Gx p l;cases e:p a<;>simp[List.filter_cons,e]<;>omega
theorem L4(n:Nat)(p:Nat->Bool):o4 n (λa=>!p a)+o4 n p=n:=by
 have:=Gx p (List.range n);rw[iX] at this;exact this
def iR(T:Nat->Nat->Rat)(n:Nat)(σ:Rat)(U:Nat->Nat->Rat)(a:Nat):Bool:=decide (0<σ*bf T n (U a) (U a))
theorem Ap.le{V:Nat->Nat->Rat}(hT:∀i j,i<n->j<n->T i j=T j i)(h:Ap T n U)(h':Ap T n V)(σ:Rat):o4 n (iR T n σ U)<=o4 n (iR T n σ V):=by
 refine Classical.byContradiction λhlt=>?_;have c1:=L4 n (iR T n σ U);obtain ⟨x,⟨k0,hk0,hx0⟩,hz⟩:=wish (n+n) ((List.range n).map (λk j=>if j < n then U j k else V (j - n) k)++(((List.range n).filter λa=>!iR T n σ U a).map jF++((List.range n).filter (iR T n σ V)).map λb=>jF (n+b))) (by
  rw[dX,dX,bC,bC,bC,iX];unfold o4 at *;omega)
 have z1:∀k,k<n->dW x U n k+dW (λb=>x (n+b)) V n k=0:=λk hk=>by
  have:=hz (λj=>if j<n then U j k else V (j-n) k) (Yao.mpr (.inl (YbQ.mpr ⟨k,Yah.mpr hk,rfl⟩)));rw[sumN_split] at this;unfold dW;rw[<-this];congr 1
  .exact cM λj hj=>by rw[if_pos hj];grind
  .exact cM λj hj=>by rw[if_neg (by omega),Nat.add_sub_cancel_left];grind
 have zU:∀a,a<n->iR T n σ U a=false->x a=0:=λa ha hp=>by
  have:=hz (jF a) (Yao.mpr (.inr (Yao.mpr (.inl (m8 (Yag.mpr ⟨Yah.mpr ha,by rw[hp];rfl⟩))))))
  rwa [ww x (by omega)] at this
 have zV:∀b,b<n->iR T n σ V b=true->x (n+b)=0:=λb hb hp=>by
  have:=hz (jF (n+b)) (Yao.mpr (.inr (Yao.mpr (.inr (YbQ.mpr ⟨b,Yag.mpr ⟨Yah.mpr hb,hp⟩,rfl⟩)))))
  rwa [ww x (by omega)] at this
 have d1:=h.diag hT x;have d2:=h'.diag hT λb=>x (n+b);have e12:bf T n (dW x U n) (dW x U n)=bf T n (dW (λb=>x (n+b)) V n) (dW (λb=>x (n+b)) V n):=by
  have neg:∀k,k<n->dW x U n k = -dW (λb=>x (n+b)) V n k:=λk hk=>by have:=z1 k hk;grind
  unfold bf;refine cM λi hi=>?_;rw[neg i hi,cM (g:=λj=>-1*(T i j*dW (λb=>x (n+b)) V n j)) (λj hj=>by rw[neg j hj];grind),sumN_mul];grind
 have p1:∀a,a<n->0<=x a*(x a*(σ*bf T n (U a) (U a))):=λa ha=>by
  cases hp:iR T n σ U a with
  |false=>rw[zU a ha hp,fS];grind
  |true=>
   have:0<σ*bf T n (U a) (U a):=by unfold iR at hp;simpa using hp
   have sq:0<=x a*x a:=by
    rcases Rat.le_total (a:=0) (b:=x a) with q|q
    .exact pj q q
    .have:=pj (show(0:Rat)<=-x a by grind) (show(0:Rat)<=-x a by grind);grind
   have:=pj sq (Rat.le_of_lt this);grind
 have p2:aF (λb=>x (n+b)*(x (n+b)*(σ*bf T n (V b) (V b)))) n<=0:=by
  have:0<=aF (λb=>-(x (n+b)*(x (n+b)*(σ*bf T n (V b) (V b))))) n:=ze λb hb=>by
   cases hp:iR T n σ V b with
   |true=>rw[zV b hb hp,fS];grind
   |false=>
    have:σ*bf T n (V b) (V b)<=0:=by unfold iR at hp;have:=of_decide_eq_false hp;grind
    have sq:0<=x (n+b)*x (n+b):=by
     rcases Rat.le_total (a:=0) (b:=x (n+b)) with q|q
     .exact pj q q
     .have:=pj (show(0:Rat)<=-x (n+b) by grind) (show(0:Rat)<=-x (n+b) by grind);grind
    have:=pj sq (show(0:Rat)<=-(σ*bf T n (V b) (V b)) by grind);grind
  have e:aF (λb=>-(x (n+b)*(x (n+b)*(σ*bf T n (V b) (V b))))) n = -1*aF (λb=>x (n+b)*(x (n+b)*(σ*bf T n (V b) (V b)))) n:=by
   rw[<-sumN_mul];exact cM λb _=>by grind
  grind
 have q1:aF (λa=>x a*(x a*(σ*bf T n (U a) (U a)))) n=σ*bf T n (dW x U n) (dW x U n):=by
  rw[d1,<-sumN_mul];exact cM λa _=>by grind
 have q2:aF (λb=>x (n+b)*(x (n+b)*(σ*bf T n (V b) (V b)))) n=σ*bf T n (dW (λb=>x (n+b)) V n) (dW (λb=>x (n+b)) V n):=by
  rw[d2,<-sumN_mul];exact cM λa _=>by grind
 have a0:=CH p1 (by rw[q1,e12,<-q2];exact p2);have xU:∀a,a<n->x a=0:=λa ha=>by
  cases hp:iR T n σ U a with
  |false=>exact zU a ha hp
  |true=>
   have hpos:0<σ*bf T n (U a) (U a):=by unfold iR at hp;simpa using hp
   rcases Yc1.mp (a0 a ha) with e|e
   .exact e
   .rcases Yc1.mp e with e|e
    .exact e
    .rw[e] at hpos;exact Nq hpos (by decide)
 have xV:=h'.ind (c:=λb=>x (n+b)) λk hk=>by
  have:=z1 k hk;rw[show dW x U n k=0 from j5 λa ha=>by rw[xU a ha,fS]] at this;grind
 refine hx0 ?_
 by_cases hkn:k0<n
 .exact xU k0 hkn
 .have:=xV (k0-n) (by omega)
  rwa [show n+(k0-n)=k0 by omega] at this
theorem Ap.eq{V:Nat->Nat->Rat}(hT:∀i j,i<n->j<n->T i j=T j i)(h:Ap T n U)(h':Ap T n V)(σ:Rat):o4 n (iR T n σ U)=o4 n (iR T n σ V):=Nat.le_antisymm (h.le hT h' σ) (h'.le hT h σ)
end
section
variable{R ld:List (List Rat)}{pl:List Nat}
end
section
def kH(A:Nat->Nat->Int)(i k:Nat):Rat:=if k<=i then((kG A (i+1) i k:Int):Rat) else 0
theorem zg{f:Nat->Rat}{m:Nat}:∀{n:Nat},m<=n->(∀i,m<=i->i<n->f i=0)->aF f n=aF f m
 |0,h,_=>by rw[Ybs.mp h]
 |n+1,h,h0=>by
  by_cases e:m=n+1
  .rw[e]
  .rw[aF,zg (by omega) (λi h1 h2=>h0 i h1 (by omega)),h0 n (by omega) (by omega),j9]
theorem wx(hn:n<=5)(hi:i<n)(hk:k<=i):aF (λl=>((A k l:Int):Rat)*kH A i l) n=if k=i then((dt A (i+1):Int):Rat) else 0:=by
 rw[zg (m:=i+1) (by omega) λl h1 h2=>by unfold kH;rw[if_neg (by omega),fL],cM (g:=λl=>((A k l*kG A (i+1) i l:Int):Rat)) (λl hl=>by unfold kH;rw[if_pos (by omega),ft]),wn,Lm A (by omega) (by omega) (by omega)];split<;>rfl
theorem CK(hn:n<=5)(hi:i<n):kH A i i=((dt A i:Int):Rat):=by
 unfold kH kG;rw[if_pos (cB i)];have h1:sg (i+i)=1:=by unfold sg;rw[if_pos (by omega)]
 have h2:dt (cut A i i) (i+1-1)=dt A i:=by
  have:∀a b,a<i->b<i->cut A i i a b=A a b:=λa b ha hb=>by unfold cut sk;rw[if_pos ha,if_pos hb]
  rw[Nat.add_sub_cancel];exact Gn λa ha b hb=>this a b ha hb
 rw[h1,h2,tD]
theorem zj(hn:n<=5)(hi:i<n)(hj:j<=i):bf (λa b=>((A a b:Int):Rat)) n (kH A j) (kH A i)=if j=i then((dt A i*dt A (i+1):Int):Rat) else 0:=by
 unfold bf;rw[zg (m:=j+1) (by omega) λk h1 h2=>by unfold kH;rw[if_neg (by omega),fS],cM (g:=λk=>kH A j k*(if k=i then((dt A (i+1):Int):Rat) else 0)) λk hk=>by rw[wx hn hi (by omega)]]
 by_cases e:j=i
 .subst e
  rw[if_pos rfl,jE (k:=j) (by omega) λk hk ne=>by rw[if_neg ne,fL],if_pos rfl,CK hn hi,ft]
 .rw[if_neg e]
  exact j5 λk hk=>by rw[if_neg (by omega),fL]
theorem L5(hn:n<=5)(hs:∀a b,a<n->b<n->A a b=A b a)(h0:∀i,i<n->dt A i≠0):Ap (λa b=>((A a b:Int):Rat)) n (kH A):=by
 refine⟨λa b ha hb ne=>?_,λx hx=>?_⟩
 .rcases gp a b with l|l
  .rw[zj hn hb (by omega),if_neg ne]
  .rw[oZ (λi j hi hj=>by rw[hs i j hi hj]),zj hn ha l,if_neg (NB ne)]
 .intro k
  induction k using Nat.strongRecOn with
  |ind k ih=>
   intro hk;have:=hx k hk;rw[zg (m:=k+1) (by omega) λl h1 h2=>by unfold kH;rw[if_neg (by omega),fS],jE (k:=k) (by omega) λl hl ne=>by rw[ih l (by omega) (by omega),fL],CK hn hk] at this;rcases Yc1.mp this with e|e
   .exact Nq (by exact_mod_cast e) (h0 k hk)
   .exact e
end
namespace Pj
def tb:Nat->Nat->Nat
 |_,0=>0
 |b,1=>b
 |b,2=>2*b+1
 |b,r+3=>b+tb (2*b+1) (r+2)+4
theorem Gy{a:Nat->Int}{x:Nat->Rat}{b t:Nat}:∀{r:Nat},(∀k,k<r->(a k).natAbs<2^b)->(∀k,k<r->∃z:Int,z.natAbs<=2^t/\x k=z)->∃z:Int,z.natAbs<=r*2^(b+t)/\aF (λk=>(a k:Rat)*x k) r=z
 |0,_,_=>⟨0,by simp,rfl⟩
 |r+1,ha,h=>by
  obtain⟨z,z1,hz⟩:=Gy (a:=a) (r:=r) (λk hk=>ha k (by omega)) λk hk=>h k (by omega);obtain⟨y,y1,hy⟩:=h r (by omega);refine⟨z+a r*y,?_,?_⟩
  .have h1:(a r*y).natAbs<=2^(b+t):=by
    rw[d9,jH];exact i8 (ge (ha r (by omega))) y1
   have:=qi z (a r*y);rw[m6];omega
  .rw[aF,hz,hy,tI,ft]
theorem zk{r:Nat}{a:Nat->Nat->Int}(hu:∀y:Nat->Rat,(∀i,i<m->aF (λk=>(a i k:Rat)*y k) (r+1)=0)->∀k,k<r+1->y k=0):∃i,i<m/\a i r≠0:=by
 apply Classical.byContradiction;intro hn;have:=hu (λk=>if k=r then 1 else 0) (λi hi=>by
  rw[jE (k:=r) (by omega) λj hj hjr=>by rw[if_neg hjr,fL]];have:a i r=0:=Classical.byContradiction λz=>hn ⟨i,hi,z⟩;rw[this,if_pos rfl];rw[qW];rfl) r (by omega)
 rw[if_pos rfl] at this;exact Nq this (by decide)
theorem Gz{r i0:Nat}{a:Nat->Nat->Int}{c:Nat->Int}{x:Nat->Rat}(hi0:i0<m)(hh:a i0 r≠0)(hx:∀i,i<m->aF (λk=>(a i k:Rat)*x k) (r+1)=(c i:Rat))(hu:∀y:Nat->Rat,(∀i,i<m->aF (λk=>(a i k:Rat)*y k) (r+1)=0)->∀k,k<r+1->y k=0) :
  (∀i,i<m->aF (λk=>((a i k*a i0 r-a i r*a i0 k:Int):Rat)*x k) r=((c i*a i0 r-a i r*c i0:Int):Rat))/\∀y:Nat->Rat,(∀i,i<m->aF (λk=>((a i k*a i0 r-a i r*a i0 k:Int):Rat)*y k) r=0)->∀k,k<r->y k=0:=by
 have hq:((a i0 r:Int):Rat)≠0:=λz=>hh (by exact_mod_cast z);have split:∀(y:Nat->Rat) (i:Nat),aF (λk=>((a i k*a i0 r-a i r*a i0 k:Int):Rat)*y k) r=(a i0 r:Rat)*aF (λk=>(a i k:Rat)*y k) r-(a i r:Rat)*aF (λk=>(a i0 k:Rat)*y k) r:=λy i=>by
  rw[<-sumN_mul,<-sumN_mul,<-sU];refine cM λk hk=>?_;rw[qk,ft,ft];grind
 refine⟨λi hi=>?_,λy hy k hk=>?_⟩
 .rw[split]
  have e1:=hx i hi;have e2:=hx i0 hi0;rw[aF] at e1 e2;rw[qk,ft,ft,<-e1,<-e2];grind
 .have:=hu (λk=>if k=r then -(aF (λk=>(a i0 k:Rat)*y k) r) / (a i0 r:Rat) else y k) (λi hi=>by
   rw[aF,if_pos rfl,cM (g:=λk=>(a i k:Rat)*y k) λk hk=>by rw[if_neg (by omega)]];have:=hy i hi;rw[split] at this;grind) k (by omega)
  rw[if_neg (by omega)] at this;exact this
theorem wy{x y z w:Int}(h1:x.natAbs<2^b)(h2:y.natAbs<2^b)(h3:z.natAbs<2^b)(h4:w.natAbs<2^b):(x*y-z*w).natAbs<2^(2*b+1):=by
 have p1:(x*y).natAbs<2^(2*b):=by
  rw[d9,show 2*b=b+b by omega,jH];exact oG h1 h2
 have p2:(z*w).natAbs<2^(2*b):=by
  rw[d9,show 2*b=b+b by omega,jH];exact oG h3 h4
 rw[qU];omega
theorem wz:∀(r b m:Nat) (a:Nat->Nat->Int) (c:Nat->Int) (x:Nat->Rat),r<=8->(∀i,i<m->∀k,k<r->(a i k).natAbs<2^b)->(∀i,i<m->(c i).natAbs<2^b)->(∀i,i<m->aF (λk=>(a i k:Rat)*x k) r=(c i:Rat))->(∀y:Nat->Rat,(∀i,i<m->aF (λk=>(a i k:Rat)*y k) r=0)->∀k,k<r->y k=0)->∃D:Int,D≠0/\D.natAbs<=2^tb b r/\∀k,k<r->∃z:Int,z.natAbs<=2^tb b r/\(D:Rat)*x k=(z:Rat)
 |0,b,m,a,c,x,_,_,_,_,_=>⟨1,by decide,by simp[tb],λk hk=>by omega⟩
 |1,b,m,a,c,x,_,hb,hc,hx,hu=>by
  obtain⟨i0,hi0,hh⟩:=zk hu;refine⟨a i0 0,hh,ge (hb i0 hi0 0 (by omega)),λk hk=>⟨c i0,ge (hc i0 hi0),?_⟩⟩;have:=hx i0 hi0;rw[show k=0 by omega];simp only[aF] at this;grind
 |2,b,m,a,c,x,_,hb,hc,hx,hu=>by
  obtain⟨i0,hi0,hh⟩:=zk hu;obtain⟨h1,h2⟩:=Gz hi0 hh hx hu;obtain⟨i1,hi1,hh1⟩:=zk (a:=λi k=>a i k*a i0 1-a i 1*a i0 k) h2;have e0:=hx i0 hi0;have e1:=hx i1 hi1;simp only[aF] at e0 e1;refine⟨a i1 0*a i0 1-a i1 1*a i0 0,hh1,ge (wy (hb _ hi1 _ (by omega)) (hb _ hi0 _ (by omega)) (hb _ hi1 _ (by omega)) (hb _ hi0 _ (by omega))),λk hk=>?_⟩
  by_cases hk0:k=0
  .refine⟨c i1*a i0 1-a i1 1*c i0,ge (wy (hc _ hi1) (hb _ hi0 _ (by omega)) (hb _ hi1 _ (by omega)) (hc _ hi0)),?_⟩
   rw[hk0,qk,ft,ft,qk,ft,ft,<-e0,<-e1];grind
  .refine⟨a i1 0*c i0-a i0 0*c i1,ge (wy (hb _ hi1 _ (by omega)) (hc _ hi0) (hb _ hi0 _ (by omega)) (hc _ hi1)),?_⟩
   rw[show k=1 by omega,qk,ft,ft,qk,ft,ft,<-e0,<-e1];grind
 |r+3,b,m,a,c,x,hr,hb,hc,hx,hu=>by
  obtain⟨i0,hi0,hh⟩:=zk hu;obtain⟨h1,h2⟩:=Gz hi0 hh hx hu;obtain⟨D,d0,dl,dx⟩:=wz (r+2) (2*b+1) m (λi k=>a i k*a i0 (r+2)-a i (r+2)*a i0 k) (λi=>c i*a i0 (r+2)-a i (r+2)*c i0) x (by omega) (λi hi k hk=>wy (hb _ hi _ (by omega)) (hb _ hi0 _ (by omega)) (hb _ hi _ (by omega)) (hb _ hi0 _ (by omega))) (λi hi=>wy (hc _ hi) (hb _ hi0 _ (by omega)) (hb _ hi _ (by omega)) (hc _ hi0)) h1 h2;have hmul:∀y z:Int,y.natAbs<=2^tb (2*b+1) (r+2)->z.natAbs<2^b->(y*z).natAbs<=2^(b+tb (2*b+1) (r+2)):=λy z hy hz=>by
   rw[d9,Nat.add_comm,jH];exact i8 hy (ge hz)
  have h16:2^(b+tb (2*b+1) (r+2)+4)=2^(b+tb (2*b+1) (r+2))*16:=by rw[jH]
  refine⟨D*a i0 (r+2),jI d0 hh,?_,λk hk=>?_⟩
  .have:=hmul D _ dl (hb i0 hi0 (r+2) (by omega))
   rw[tb,h16];omega
  .by_cases e:k=r+2
   .subst e
    obtain⟨z,z1,hz⟩:=Gy (a:=a i0) (x:=λk=>(D:Rat)*x k) (r:=r+2) (λk hk=>hb i0 hi0 k (by omega)) dx;refine⟨D*c i0-z,?_,?_⟩
    .have h3:=hmul D _ dl (hc i0 hi0)
     have h4:=xy (D*c i0) z;have h5:(r+2)*2^(b+tb (2*b+1) (r+2))<=8*2^(b+tb (2*b+1) (r+2)):=lG _ (by omega);rw[tb,h16];omega
    .have e2:=hx i0 hi0
     rw[aF] at e2;have:aF (λj=>(a i0 j:Rat)*((D:Rat)*x j)) (r+2)=(D:Rat)*aF (λj=>(a i0 j:Rat)*x j) (r+2):=by
      rw[<-sumN_mul];exact cM λj _=>by grind
     rw[this] at hz;rw[qk,ft,ft,<-hz,<-e2];grind
   .obtain⟨z,z1,hz⟩:=dx k (by omega)
    refine⟨z*a i0 (r+2),?_,?_⟩
    .have:=hmul z _ z1 (hb i0 hi0 (r+2) (by omega))
     rw[tb,h16];omega
    .rw[ft,ft,<-hz]
     grind
def bI(A:Nat->Nat->Int)(n:Nat)(u v:Nat->Int):Int:=sumI (λi=>u i*sumI (λj=>A i j*v j) n) n
theorem bI_cast(A:Nat->Nat->Int)(n:Nat)(u v:Nat->Int):bf (λa b=>((A a b:Int):Rat)) n (λi=>(u i:Rat)) (λi=>(v i:Rat))=((bI A n u v:Int):Rat):=by
 unfold bf bI;rw[<-wn];refine cM λi _=>?_;rw[ft,<-wn];congr 1;exact cM λj _=>by rw[ft]
theorem sumI_bd{f:Nat->Int}{c:Nat}:∀{n:Nat},(∀i,i<n->(f i).natAbs<=c)->(sumI f n).natAbs<=n*c
 |0,_=>by simp[sumI]
 |n+1,h=>by
  have h1:=sumI_bd (f:=f) (n:=n) λi hi=>h i (by omega);have h2:=h n (by omega);have h3:=qi (sumI f n) (f n);rw[sumI,m6];omega
theorem GA{u v:Nat->Int}(hn:n<=5)(hA:∀i j,i<n->j<n->(A i j).natAbs<=50)(hu:∀i,i<n->(u i).natAbs<=2)(hv:∀i,i<n->(v i).natAbs<=2):(bI A n u v).natAbs<2^13:=by
 have h1:∀i,i<n->(sumI (λj=>A i j*v j) n).natAbs<=500:=λi hi=>by
  have:=sumI_bd (f:=λj=>A i j*v j) (c:=100) (n:=n) λj hj=>by
   rw[d9];exact i8 (hA i j hi hj) (hv j hj)
  have:n*100<=5*100:=lG _ hn;omega
 have:=sumI_bd (f:=λi=>u i*sumI (λj=>A i j*v j) n) (c:=1000) (n:=n) λi hi=>by
  rw[d9];exact i8 (hu i hi) (h1 i hi)
 have:n*1000<=5*1000:=lG _ hn;unfold bI;omega
theorem CL:∀{k:Nat},k<=4->tb 13 k<=159
 |0,_=>by decide
 |1,_=>by decide
 |2,_=>by decide
 |3,_=>by decide
 |4,_=>by decide
 |k+5,h=>by omega
structure Mt(A:Nat->Nat->Int)(n k:Nat)(M:Nat->Nat->Int):Prop where
 sz:∀i,i<k->∀j,j<n->(M i j).natAbs<=2
 one:∀y:Nat->Rat,(∀i,i<k->aF (λj=>((bI A n (M i) (M j):Int):Rat)*y j) k=0)->∀j,j<k->y j=0
def Lt(A:Nat->Nat->Int)(n k:Nat)(M:Nat->Nat->Int)(v:Nat->Int)(r:Nat->Rat):Prop:=
 (∃x:Nat->Rat,∀j,j<n->r j=(v j:Rat)-aF (λi=>x i*(M i j:Rat)) k)/\∀i,i<k->bf (λa b=>((A a b:Int):Rat)) n (λj=>(M i j:Rat)) r=0
section
variable{M:Nat->Nat->Int}
theorem Lt.lf(hn:n<=5)(hA:∀i j,i<n->j<n->(A i j).natAbs<=50)(mt:Mt A n k M)(hk:k<=4){v:Nat->Int}(hv:∀j,j<n->(v j).natAbs<=2){r:Nat->Rat}(h:Lt A n k M v r):Lf 163 n (bQ n r):=by
 obtain⟨⟨x,hx⟩,h0⟩:=h;have sys:∀i,i<k->aF (λj=>((bI A n (M i) (M j):Int):Rat)*x j) k=((bI A n (M i) v:Int):Rat):=λi hi=>by
  have e:=h0 i hi;rw[oY (u':=λj=>(M i j:Rat)) (v':=λj=>(v j:Rat)-1*dW x (λi j=>(M i j:Rat)) k j) (λ_ _=>rfl) (λj hj=>by rw[hx j hj];unfold dW;grind),uc,o1,bI_cast] at e;have e2:aF (λj=>((bI A n (M i) (M j):Int):Rat)*x j) k=aF (λa=>x a*bf (λa b=>((A a b:Int):Rat)) n (λj=>(M i j:Rat)) λj=>(M a j:Rat)) k:=cM λa _=>by rw[bI_cast];grind
  rw[e2];grind
 obtain⟨D,d0,dl,dx⟩:=wz k 13 k (λi j=>bI A n (M i) (M j)) (λi=>bI A n (M i) v) x (by omega) (λi hi j hj=>GA hn hA (mt.sz i hi) (mt.sz j hj)) (λi hi=>GA hn hA (mt.sz i hi) hv) sys mt.one;have tb4:=CL hk;have p2:2^tb 13 k<=2^159:=j7 (by decide) tb4;have e163:2^163=2^159*16:=by decide
 have hz:∀j,j<n->∃z:Int,z.natAbs<2^163/\r j=Rat.divInt z D:=λj hj=>by
  have hD:((D:Int):Rat)≠0:=λz=>d0 (by exact_mod_cast z);obtain⟨z,z1,z2⟩:∃z:Int,z.natAbs<=k*(2^159*2)/\(D:Rat)*aF (λi=>x i*(M i j:Rat)) k=(z:Rat):=by
   have:∀m,m<=k->∃z:Int,z.natAbs<=m*(2^159*2)/\(D:Rat)*aF (λi=>x i*(M i j:Rat)) m=(z:Rat):=λm=>by
    induction m with
    |zero=>exact λ_=>⟨0,by simp,by simp[aF]⟩
    |succ m ih=>
     intro hm;obtain⟨z,z1,z2⟩:=ih (by omega);obtain⟨w,w1,w2⟩:=dx m (by omega);refine⟨z+w*M m j,?_,?_⟩
     .have:=qi z (w*M m j)
      have h2:(w*M m j).natAbs<=2^159*2:=by
       rw[d9];exact i8 (fQ w1 p2) (mt.sz m (by omega) j hj)
      rw[m6];omega
     .rw[aF,tI,ft,<-z2,<-w2]
      grind
   exact this k (cB _)
  refine⟨D*v j-z,?_,?_⟩
  .have h1:=xy (D*v j) z
   have h2:(D*v j).natAbs<=2^159*2:=by
    rw[d9];exact i8 (fQ dl p2) (hv j hj)
   have h3:k*(2^159*2)<=4*(2^159*2):=lG _ hk;omega
  .rw[hx j hj,nc,qk,ft,<-z2,eJ]
   have:=jw _ hD;grind
 obtain⟨c,hc⟩:∃c:Nat->Int,∀j,j<n->(c j).natAbs<2^163/\r j=Rat.divInt (c j) D:=⟨λj=>if h:j<n then Classical.choose (hz j h) else 0,λj hj=>by dsimp only;rw[dif_pos hj];exact Classical.choose_spec (hz j hj)⟩
 refine⟨(List.range n).map c,D,by simp,d0,oF (fQ dl p2) (by omega),λy hy=>?_,?_⟩
 .obtain⟨j,hj,rfl⟩:=YbQ.mp hy
  exact(hc j (Yah.mp hj)).1
 .unfold bQ
  rw[List.map_map];exact h9 λj hj=>(hc j (Yah.mp hj)).2
end
section
variable{M:Nat->Nat->Int}
abbrev cA(A:Nat->Nat->Int):Nat->Nat->Rat:=λa b=>((A a b:Int):Rat)
def nxt(M:Nat->Nat->Int)(k:Nat)(v:Nat->Int):Nat->Nat->Int:=λi=>if i<k then M i else v
theorem Lt.v{v:Nat->Int}{l:Nat->Rat}(h:Lt A n k M v l)(hs:∀i j,i<n->j<n->A i j=A j i){w:Nat->Rat}(hw:∀i,i<k->bf (cA A) n (λj=>(M i j:Rat)) w=0):bf (cA A) n (λj=>(v j:Rat)) w=bf (cA A) n l w:=by
 obtain⟨⟨x,hx⟩,_⟩:=h;have sy:∀i j,i<n->j<n->cA A i j=cA A j i:=λi j hi hj=>by show((A i j:Int):Rat)=_;rw[hs i j hi hj]
 rw[oZ sy l w,oY (u:=w) (u':=w) (v:=l) (v':=λj=>(v j:Rat)-1*dW x (λi j=>(M i j:Rat)) k j) (λ_ _=>rfl) (λj hj=>by rw[hx j hj];unfold dW;grind),uc,o1,j5 λa ha=>by rw[oZ sy,hw a ha,fL],oZ sy];grind
theorem Mt.next(m:Mt A n k M)(hs:∀i j,i<n->j<n->A i j=A j i){v:Nat->Int}(hv:∀j,j<n->(v j).natAbs<=2){l:Nat->Rat}(h:Lt A n k M v l)(h0:bf (cA A) n l l≠0):Mt A n (k+1) (nxt M k v):=by
 have sy:∀i j,i<n->j<n->cA A i j=cA A j i:=λi j hi hj=>by show((A i j:Int):Rat)=_;rw[hs i j hi hj]
 refine⟨λi hi j hj=>?_,λy hy=>?_⟩
 .unfold nxt
  split
  .exact m.sz i ‹_› j hj
  .exact hv j hj
 have hw:∀i,i<k+1->bf (cA A) n (λj=>(nxt M k v i j:Rat)) (dW y (λi j=>(nxt M k v i j:Rat)) (k+1))=0:=λi hi=>by
  rw[o1,<-hy i hi];exact cM λj _=>by rw[bI_cast];grind
 have old:∀i,i<k->nxt M k v i=M i:=λi hi=>by unfold nxt;rw[if_pos hi]
 have new:nxt M k v k=v:=by unfold nxt;rw[if_neg (gQ k)]
 have e1:=h.v hs (w:=dW y (λi j=>(nxt M k v i j:Rat)) (k+1)) λi hi=>by have:=hw i (by omega);rwa [old i hi] at this
 have e2:=hw k (by omega);rw[new,e1,o1,aF,j5 λa ha=>by rw[old a ha,oZ sy,h.2 a ha,fL],new,oZ sy l,h.v hs h.2] at e2;have yk:y k=0:=by
  rcases Yc1.mp (show y k*bf (cA A) n l l=0 by grind) with e|e
  .exact e
  .exact Nq e h0
 have rest:=m.one y λi hi=>by
  have:=hy i (by omega);rw[aF,yk,fL,j9] at this;rw[<-this];exact cM λj hj=>by rw[old i hi,old j hj]
 intro j hj
 by_cases e:j=k
 .rw[e];exact yk
 .exact rest j (by omega)
theorem Lt.next{v:Nat->Int}{l r:Nat->Rat}(h:Lt A n k M v l)(h':Lt A n k M v' r)(hs:∀i j,i<n->j<n->A i j=A j i)(h0:bf (cA A) n l l≠0):Lt A n (k+1) (nxt M k v) v' (λj=>r j-bf (cA A) n r l/bf (cA A) n l l*l j):=by
 have sy:∀i j,i<n->j<n->cA A i j=cA A j i:=λi j hi hj=>by show((A i j:Int):Rat)=_;rw[hs i j hi hj]
 have old:∀i,i<k->nxt M k v i=M i:=λi hi=>by unfold nxt;rw[if_pos hi]
 have new:nxt M k v k=v:=by unfold nxt;rw[if_neg (gQ k)]
 have z:∀i,i<k->bf (cA A) n (λj=>(M i j:Rat)) (λj=>r j-bf (cA A) n r l/bf (cA A) n l l*l j)=0:=λi hi=>by rw[uc,h.2 i hi,h'.2 i hi];grind
 refine⟨?_,λi hi=>?_⟩
 .obtain⟨x,hx⟩:=h.1
  obtain⟨x',hx'⟩:=h'.1;refine⟨λi=>if i<k then x' i-bf (cA A) n r l/bf (cA A) n l l*x i else bf (cA A) n r l/bf (cA A) n l l,λj hj=>?_⟩;rw[aF];dsimp only;generalize bf (cA A) n r l/bf (cA A) n l l=q;rw[if_neg (gQ k),new,cM (g:=λi=>x' i*(M i j:Rat)-q*(x i*(M i j:Rat))) (λi hi=>by rw[if_pos hi,old i hi];grind),sU,sumN_mul,hx j hj,hx' j hj];grind
 .by_cases e:i=k
  .subst e
   rw[new];refine(h.v hs z).trans ?_;rw[uc,oZ sy l r];have:=jw _ h0;rw[eJ];grind
  .rw[old i (by omega)]
   exact z i (by omega)
theorem Lt.add{v:Nat->Int}{l r:Nat->Rat}(h:Lt A n k M v l)(h':Lt A n k M v' r):Lt A n k M (λj=>v j+v' j) (λj=>l j - -1*r j):=by
 refine⟨?_,λi hi=>by rw[uc,h.2 i hi,h'.2 i hi];grind⟩;obtain⟨x,hx⟩:=h.1;obtain⟨x',hx'⟩:=h'.1;refine⟨λi=>x i - -1*x' i,λj hj=>?_⟩;dsimp only;rw[cM (g:=λi=>x i*(M i j:Rat) - -1*(x' i*(M i j:Rat))) (λi hi=>by grind),sU,sumN_mul,hx j hj,hx' j hj,tI];grind
end
end Pj
def bS(s:List Int)(n:Nat)(u v:List Rat):Rat:=bV u (bK s n v)
def lB(s:List Int)(n:Nat):List (List Rat)->Option (List Rat)
 |[]=>none
 |l::L=>if bS s n l l=0 then lB s n L else some l
def gJ(s:List Int)(n:Nat):Nat->List (List Rat)->Option (Nat×List Rat)
 |_,[]=>none
 |k,r::R=>match lB s n (r::R.map λo=>aV r (-1) o) with
  |some l=>some (k,l)
  |none=>gJ s n (k+1) R
def hW(s:List Int)(n:Nat)(l r:List Rat):List Rat:=aV r (bS s n r l/bS s n l l) l
def sV(s:List Int)(n:Nat):Nat->List (List Rat)->List (List Rat)->List (List Rat)
 |0,f,R=>f++R
 |k+1,f,R=>match gJ s n 0 R with
  |none=>f++R
  |some (a,l)=>sV s n k (f++[l]) ((R.take a++R.drop (a+1)).map (hW s n l))
def cJ(s:List Int)(n:Nat):List (List Rat):=sV s n n [] ((List.range n).map (bP n))
theorem GB{s:List Int}{n:Nat}:∀{L:List (List Rat)},lB s n L=none->∀l∈L,bS s n l l=0
 |[],_,l,hl=>by cases hl
 |x::L,h,l,hl=>by
  rw[lB] at h;split at h
  .rcases Yan.mp hl with rfl|hl
   .assumption
   .exact GB h l hl
  .cases h
theorem GC{s:List Int}{n:Nat}{l:List Rat}:∀{L:List (List Rat)},lB s n L=some l->l∈L/\bS s n l l≠0
 |[],h=>by cases h
 |x::L,h=>by
  rw[lB] at h;split at h
  .obtain⟨h1,h2⟩:=GC h
   exact⟨gR _ h1,h2⟩
  .rename_i hx
   cases h;exact⟨ju ..,hx⟩
theorem GD{s:List Int}{n:Nat}:∀{k:Nat} {R:List (List Rat)},gJ s n k R=none->(∀r∈R,bS s n r r=0)/\R.Pairwise λr o=>bS s n (aV r (-1) o) (aV r (-1) o)=0
 |_,[],_=>⟨by simp,.nil⟩
 |k,r::R,h=>by
  rw[gJ] at h;cases e:lB s n (r::R.map λo=>aV r (-1) o) with
  |some l=>rw[e] at h;cases h
  |none=>
   rw[e] at h;obtain⟨h1,h2⟩:=GD (k:=k+1) (R:=R) h;have z:=GB e;refine⟨λx hx=>?_,YcR.mpr ⟨λo ho=>z _ (gR _ (m8 ho)),h2⟩⟩;rcases Yan.mp hx with rfl|hx
   .exact z _ (ju ..)
   .exact h1 x hx
theorem GE{s:List Int}{n:Nat}{a:Nat}{l:List Rat}:∀{k:Nat} {R:List (List Rat)},gJ s n k R=some (a,l)->∃i,a=k+i/\i<R.length/\(l=R.getD i []\/∃o∈R.drop (i+1),l=aV (R.getD i []) (-1) o)/\bS s n l l≠0
 |_,[],h=>by cases h
 |k,r::R,h=>by
  rw[gJ] at h;cases e:lB s n (r::R.map λo=>aV r (-1) o) with
  |some l'=>
   rw[e] at h;cases h;obtain⟨h1,h2⟩:=GC e;refine⟨0,rfl,by simp,?_,h2⟩;rcases Yan.mp h1 with e1|h1
   .exact .inl e1
   .obtain⟨o,ho,e1⟩:=YbQ.mp h1
    exact .inr ⟨o,ho,e1.symm⟩
  |none=>
   rw[e] at h;obtain⟨i,h1,h2,h3,h4⟩:=GE (k:=k+1) (R:=R) h;exact⟨i+1,by omega,by simpa using h2,by simpa using h3,h4⟩
def gq(r:List Rat):Nat->Rat:=λj=>r.getD j 0
abbrev sA(s:List Int)(n:Nat):Nat->Nat->Int:=tA (tbl s n)
section
theorem kI(h:IsSl s n){u v:List Rat}(hu:u.length=n)(hv:v.length=n):bS s n u v=bf (Pj.cA (sA s n)) n (gq u) (gq v):=by
 unfold bS;rw[lA u _ n hu (Gs.tims_len v)];exact cM λi hi=>by rw[Gs.tims_at h hv hi];rfl
theorem sW{o:List Rat}(hr:r.length=n)(ho:o.length=n):(aV r q o).length=n:=by unfold aV;rw[iV];omega
theorem zm{o:List Rat}(hr:r.length=n)(ho:o.length=n):∀j,j<n->gq (aV r q o) j=gq r j-q*gq o j:=λj hj=>by
 unfold gq aV;simp only[aY];rw[bW (by rw[iV];omega),bW (by omega),bW (by omega),oH];rfl
theorem CM(hr:r.length=n):bQ n (gq r)=r:=by
 refine tx λi=>?_;unfold bQ gq;rw[cK];rcases gp i n with hi|hi
 .rw[jG hi,bW (by omega)]
  show some (r.getD i 0)=_;rw[aY,bW (by omega)];rfl
 .rw[eP (by rw[iX];exact hi),eP (by omega)]
  rfl
theorem zn(h:IsSl s n)(ev:s.reverse=s):∀i j,i<n->j<n->sA s n i j=sA s n j i:=λi j hi hj=>by
 have e1:=kI h (kE n i) (kE n j);have e2:=kI h (kE n j) (kE n i);have e3:bS s n (bP n i) (bP n j)=bS s n (bP n j) (bP n i):=by
  unfold bS;rw[EL h (kE n j) (kE n i),ev]
 have key:∀a b,a<n->b<n->bf (Pj.cA (sA s n)) n (gq (bP n a)) (gq (bP n b))=((sA s n a b:Int):Rat):=λa b ha hb=>by
  unfold bf;rw[jE ha λi hi ne=>by show(bP n a).getD i 0*_=0;rw[oC hi,if_neg ne,fS],jE hb λj hj ne=>by show _*(bP n b).getD j 0=0;rw[oC hj,if_neg ne,fL]];show(bP n a).getD a 0*(_*(bP n b).getD b 0)=_;rw[oC ha,oC hb,if_pos rfl,if_pos rfl,qY,qW]
 rw[e1,e2,key i j hi hj,key j i hj hi] at e3
 exact_mod_cast e3
theorem wD(h:IsSl s n):∀i j,i<n->j<n->(sA s n i j).natAbs<=50:=λi j hi hj=>by
 show(tA (tbl s n) i j).natAbs<=50;rw[Gs.tA_ent h hi hj];have hl:=h.len;unfold ent;rw[aY,bW (by omega)];have:=h.b _ (gU (l:=s) (n:=n-1-i+j) (by omega));show(s[n-1-i+j]).natAbs<=50;omega
structure Sg(s:List Int)(n:Nat)(f R:List (List Rat)):Prop where
 len:f.length+R.length=n
 wf:∀r∈f,r.length=n
 wR:∀r∈R,r.length=n
 ex:∃M,Pj.Mt (sA s n) n f.length M/\∀r∈R,∃v:Nat->Int,(∀j,j<n->(v j).natAbs<=1)/\Pj.Lt (sA s n) n f.length M v (gq r)
 lf:∀r∈f,Lf 163 n r
 ff:f.Pairwise λu v=>bS s n u v=0
 fR:∀u∈f,∀r∈R,bS s n u r=0
 fu:∀x:List Rat,x.length=n->(∀r∈f++R,bV r x=0)->∀k,k<n->x.getD k 0=0
theorem Sg.rows(h:IsSl s n){f R:List (List Rat)}(g:Sg s n f R):∀r∈R,Lf 163 n r:=λr hr=>by
 obtain⟨M,m,hM⟩:=g.ex;obtain⟨v,hv,l⟩:=hM r hr;have hl:=g.len;have:0<R.length:=Af hr;have:=l.lf h.n5 (wD h) m (by have:=h.n5;omega) λj hj=>fQ (hv j hj) (by decide)
 rwa [CM (g.wR r hr)] at this
theorem Sg.start(h:IsSl s n):Sg s n [] ((List.range n).map (bP n)):=by
 refine⟨by simp,by simp,λr hr=>?_,⟨λ_ _=>0,⟨λi hi=>by simp at hi,λy _ j hj=>by simp at hj⟩,λr hr=>?_⟩,by simp,.nil,by simp,λx hx h0 k hk=>?_⟩
 .obtain⟨k,_,rfl⟩:=YbQ.mp hr;exact kE n k
 .obtain⟨k,hk,rfl⟩:=YbQ.mp hr
  refine⟨λj=>if j=k then 1 else 0,λj hj=>by dsimp only;split<;>decide,⟨λ_=>0,λj hj=>?_⟩,λi hi=>by simp at hi⟩;show(bP n k).getD j 0=_;rw[oC hj];simp only[i7,aF];split<;>grind
 .have:=h0 (bP n k) (by simp;exact⟨k,hk,rfl⟩)
  rw[lA _ x n (kE n k) hx,jE hk λi hi ne=>by rw[oC hi,if_neg ne,fS],oC hk,if_pos rfl,qY] at this;exact this
end
section
theorem zp(h:IsSl s n)(ev:s.reverse=s){u v:List Rat}(hu:u.length=n)(hv:v.length=n):bS s n u v=bS s n v u:=by
 unfold bS;rw[EL h hv hu,ev]
theorem ud(h:IsSl s n){u v w:List Rat}(hu:u.length=n)(hv:v.length=n)(hw:w.length=n):bS s n u (aV v q w)=bS s n u v-q*bS s n u w:=by
 rw[kI h hu (sW hv hw),kI h hu hv,kI h hu hw,oY (u':=gq u) (v':=λj=>gq v j-q*gq w j) (λ_ _=>rfl) (zm hv hw),uc]
structure Ld(s:List Int)(n:Nat)(f R:List (List Rat))(a:Nat)(l:List Rat):Prop where
 at_:a<R.length
 len:l.length=n
 le:l=R.getD a []\/∃o∈R.take a++R.drop (a+1),l=aV (R.getD a []) (-1) o
 nz:bS s n l l≠0
theorem Sg.ld{f R:List (List Rat)}(g:Sg s n f R)(e:gJ s n 0 R=some (a,l)):Ld s n f R a l:=by
 obtain⟨i,h1,h2,h3,h4⟩:=GE e;obtain rfl:a=i:=by omega
 have ha:=g.wR _ (gP h2);rcases h3 with rfl|⟨o,ho,rfl⟩
 .exact⟨h2,ha,.inl rfl,h4⟩
 .exact⟨h2,sW ha (g.wR _ (qV ho)),.inr ⟨o,lD _ ho,rfl⟩,h4⟩
theorem Ld.lt(h:IsSl s n){f R:List (List Rat)}(g:Sg s n f R)(d:Ld s n f R a l){M:Nat->Nat->Int}(hM:∀r∈R,∃v:Nat->Int,(∀j,j<n->(v j).natAbs<=1)/\Pj.Lt (sA s n) n f.length M v (gq r)):∃v:Nat->Int,(∀j,j<n->(v j).natAbs<=2)/\Pj.Lt (sA s n) n f.length M v (gq l):=by
 obtain⟨v,hv,hl⟩:=hM _ (gP d.at_);rcases d.le with e|⟨o,ho,e⟩
 .rw[e]
  exact⟨v,λj hj=>fQ (hv j hj) (by decide),hl⟩
 .obtain⟨v',hv',hl'⟩:=hM o (ip ho)
  refine⟨λj=>v j+v' j,λj hj=>?_,?_⟩
  .have:=qi (v j) (v' j)
   have:=hv j hj;have:=hv' j hj;dsimp only;omega
  .have:=hl.add hl'
   obtain⟨⟨x,hx⟩,h2⟩:=this;have eq:=zm (q:=-1) (g.wR _ (gP d.at_)) (g.wR _ (ip ho));rw[<-e] at eq;exact⟨⟨x,λj hj=>(eq j hj).trans (hx j hj)⟩,λi hi=>by rw[oY (λ_ _=>rfl) eq];exact h2 i hi⟩
theorem Ld.lf(h:IsSl s n){f R:List (List Rat)}(g:Sg s n f R){a:Nat}{l:List Rat}(d:Ld s n f R a l):Lf 163 n l:=by
 obtain⟨M,m,hM⟩:=g.ex;obtain⟨v,hv,hl⟩:=d.lt h g hM;have:=d.at_;have:=g.len;have:=hl.lf h.n5 (wD h) m (by have:=h.n5;omega) hv
 rwa [CM d.len] at this
theorem L6(hr:r.length=n)(hl:l.length=n):(hW s n l r).length=n:=sW hr hl
theorem Ld.out(h:IsSl s n)(ev:s.reverse=s){f R:List (List Rat)}(g:Sg s n f R)(d:Ld s n f R a l):∀u∈f,bS s n u l=0:=λu hu=>by
 have e1:=g.fR u hu _ (gP d.at_);rcases d.le with e|⟨o,ho,e⟩
 .rw[e];exact e1
 .rw[e,ud h (g.wf u hu) (g.wR _ (gP d.at_)) (g.wR _ (ip ho)),e1,g.fR u hu o (ip ho)]
  grind
theorem Sg.step(h:IsSl s n)(ev:s.reverse=s){f R:List (List Rat)}(g:Sg s n f R)(d:Ld s n f R a l):Sg s n (f++[l]) ((R.take a++R.drop (a+1)).map (hW s n l)):=by
 have hlen:=g.len;have ha:=d.at_;have ra:=g.wR _ (gP d.at_);have hl:=d.len;have sy:=zn h ev;have nz:bf (Pj.cA (sA s n)) n (gq l) (gq l)≠0:=by rw[<-kI h hl hl];exact d.nz
 have wa:∀r∈R,(hW s n l r).length=n:=λr hr=>L6 (g.wR r hr) hl;have own:∀r∈R,bS s n l (hW s n l r)=0:=λr hr=>by
  unfold hW;rw[ud h hl (g.wR r hr) hl,zp h ev hl (g.wR r hr),eJ];have:=jw _ d.nz;grind
 refine⟨by simp;omega,λr hr=>?_,λr hr=>?_,?_,λr hr=>?_,?_,λu hu r hr=>?_,λx hx h0=>?_⟩
 .rcases Yao.mp hr with hr|hr
  .exact g.wf r hr
  .rw[YcJ.mp hr];exact hl
 .obtain⟨r0,h0,rfl⟩:=YbQ.mp hr
  exact wa r0 (ip h0)
 .obtain⟨M,m,hM⟩:=g.ex
  obtain⟨v,hv,lt⟩:=d.lt h g hM;refine⟨Pj.nxt M f.length v,?_,λr hr=>?_⟩
  .rw[dX,j6]
   exact m.next sy hv lt nz
  .obtain⟨r0,h0,rfl⟩:=YbQ.mp hr
   obtain⟨v',hv',lt'⟩:=hM r0 (ip h0);rw[dX,j6];obtain⟨⟨x,hx⟩,h2⟩:=lt.next lt' sy nz;have eq:∀j,j<n->gq (hW s n l r0) j=gq r0 j-bf (Pj.cA (sA s n)) n (gq r0) (gq l)/bf (Pj.cA (sA s n)) n (gq l) (gq l)*gq l j:=λj hj=>by
    unfold hW;rw[zm (g.wR r0 (ip h0)) hl j hj,kI h (g.wR r0 (ip h0)) hl,kI h hl hl]
   exact⟨v',hv',⟨x,λj hj=>(eq j hj).trans (hx j hj)⟩,λi hi=>by rw[oY (λ_ _=>rfl) eq];exact h2 i hi⟩
 .rcases Yao.mp hr with hr|hr
  .exact g.lf r hr
  .rw[YcJ.mp hr];exact d.lf h g
 .exact YcQ.mpr ⟨g.ff,by simp,λu hu v hv=>by rw[YcJ.mp hv];exact d.out h ev g u hu⟩
 .obtain⟨r0,h0,rfl⟩:=YbQ.mp hr
  rcases Yao.mp hu with hu|hu
  .unfold hW
   rw[ud h (g.wf u hu) (g.wR r0 (ip h0)) hl,g.fR u hu r0 (ip h0),d.out h ev g u hu];grind
  .rw[YcJ.mp hu]
   exact own r0 (ip h0)
 .have zl:bV l x=0:=h0 l (by simp)
  have zc:∀r∈R.take a++R.drop (a+1),bV r x=0:=λr hr=>by
   have:=h0 (hW s n l r) (lD _ (m8 hr));unfold hW at this;rw[t9 (by rw[g.wR r (ip hr),hl]),zl] at this;grind
  refine g.fu x hx λr hr=>?_;rcases Yao.mp hr with hr|hr
  .exact h0 r (by simp[hr])
  .rcases(Gm ha r).mp hr with rfl|hr
   .rcases d.le with e|⟨o,ho,e⟩
    .rw[<-e];exact zl
    .rw[e,t9 (by rw[ra,g.wR o (ip ho)]),zc o ho] at zl
     grind
   .exact zc r hr
structure Pa(s:List Int)(n:Nat)(P:List (List Rat)):Prop where
 len:P.length=n
 lf:∀r∈P,Lf 163 n r
 ap:P.Pairwise λu v=>bS s n u v=0
 fu:∀x:List Rat,x.length=n->(∀r∈P,bV r x=0)->∀k,k<n->x.getD k 0=0
theorem Sg.fin(h:IsSl s n)(ev:s.reverse=s){f R:List (List Rat)}(g:Sg s n f R)(e:gJ s n 0 R=none):Pa s n (f++R):=by
 obtain⟨h1,h2⟩:=GD e;refine⟨by rw[dX];exact g.len,λr hr=>?_,YcQ.mpr ⟨g.ff,?_,g.fR⟩,g.fu⟩
 .rcases Yao.mp hr with hr|hr
  .exact g.lf r hr
  .exact g.rows h r hr
 .refine h2.imp_of_mem λ{r o} hr ho hz=>?_
  have wr:=g.wR r hr;have wo:=g.wR o ho;rw[ud h (sW wr wo) wr wo,zp h ev (sW wr wo) wr,zp h ev (sW wr wo) wo,ud h wr wr wo,ud h wo wr wo,h1 r hr,h1 o ho,zp h ev wo wr] at hz;grind
theorem GF(h:IsSl s n)(ev:s.reverse=s):∀(k:Nat) {f R:List (List Rat)},Sg s n f R->R.length<=k->Pa s n (sV s n k f R)
 |0,f,R,g,hk=>by
  have:R=[]:=List.length_eq_zero_iff.mp (by omega);subst this;exact g.fin h ev rfl
 |k+1,f,R,g,hk=>by
  rw[sV];cases e:gJ s n 0 R with
  |none=>exact g.fin h ev e
  |some al=>
   obtain⟨a,l⟩:=al;have d:=g.ld e;have ha:=d.at_;exact GF h ev k (g.step h ev d) (by rw[bC,dX,gS,jv];omega)
theorem qP(h:IsSl s n)(ev:s.reverse=s):Pa s n (cJ s n):=GF h ev n (Sg.start h) (by simp)
def pU(P:List (List Rat)):Nat->Nat->Rat:=λa=>gq (P.getD a [])
theorem Pa.ap'(h:IsSl s n)(ev:s.reverse=s){P:List (List Rat)}(p:Pa s n P):Ap (Pj.cA (sA s n)) n (pU P):=by
 have wl:∀a,a<n->(P.getD a []).length=n:=λa ha=>(p.lf _ (gP (by rw[p.len];exact ha))).len;refine⟨λa b ha hb ne=>?_,λx hx k hk=>?_⟩
 .have key:∀a b,a<b->b<n->bf (Pj.cA (sA s n)) n (pU P a) (pU P b)=0:=λa b hab hb=>by
   have hp:=List.pairwise_iff_getElem.mp p.ap a b (by rw[p.len];omega) (by rw[p.len];exact hb) hab;unfold pU;rw[<-kI h (wl a (by omega)) (wl b hb),aY,aY,bW (by rw[p.len];omega),bW (by rw[p.len];exact hb)];exact hp
  rcases gp a b with l|l
  .exact key a b l hb
  .rw[oZ λi j hi hj=>by show((sA s n i j:Int):Rat)=_;rw[zn h ev i j hi hj]]
   exact key b a (by omega) ha
 .have:=p.fu (bQ n x) (zf n x) (λr hr=>?_) k hk
  .rwa [CJ x hk] at this
  .obtain⟨a,ha,e⟩:=Ybu.mp hr
   have e':P.getD a []=r:=by rw[aY,bW ha];exact e
   rw[p.len] at ha;have:=hx a ha;refine Eq.trans ?_ this;rw[<-e',lA _ _ n (wl a ha) (zf n x)];exact cM λj hj=>by rw[CJ x hj];rfl
theorem Pa.ind(h:IsSl s n){P:List (List Rat)}(p:Pa s n P):(cL P n).ld.length=n:=by
 have hR:∀r∈P,r.length=n:=λr hr=>(p.lf r hr).len;have ec:=za hR n (cB _);have:∀q,q<n->q∈(cL P n).pl:=λq hq=>Classical.byContradiction λhn=>by
  obtain⟨l,f0⟩:=ec.free hq hn;have:=p.fu _ l f0 q hq;rw[y8 _ _ _ (by rw[kE];exact ec.lt) hn,oC hq,if_pos rfl] at this;exact Nq this (by decide)
 have e:(cL P n).pl=List.range n:=y9 ec.asc (CA n) λx=>⟨λhx=>Yah.mpr (ec.lt x hx),λhx=>this x (Yah.mp hx)⟩;rw[ec.ll,e,iX]
end
def lcV(g:WG)(wf:WT)(we:WE):List D->cP->List D->(cP->List D->Prop)->Prop
 |[],ρ,acc,Q=>Q ρ acc
 |d::ds,ρ,acc,Q=>g d ρ λρ2=>wf No ρ2 λb=>if b=true then we No ρ2 λy=>acc.length<aM/\lcV g wf we ds ρ2 (acc++[y]) Q else lcV g wf we ds ρ2 acc Q
def lcW2(g:WG)(wf:WT)(wi2:WA)(g2:WG)(wf2:WT)(we:WE):List D->cP->List D->(List D->Prop)->Prop
 |[],_,acc,Q=>Q acc
 |d::ds,ρ,acc,Q=>g d ρ λρ2=>wf No ρ2 λb=>if b=true then wi2 No ρ2 λds2=>lcV g2 wf2 we ds2 ρ2 acc λρ3 acc'=>lcW2 g wf wi2 g2 wf2 we ds ρ3 acc' Q else lcW2 g wf wi2 g2 wf2 we ds ρ2 acc Q
section
variable{pos:Pos}{t2 i2:Expr}{fz:List Expr}{g g2:WG}{wf2:WT}{wi2:WA}
theorem lcV.mono(hg:∀d ρ P P',(∀r,P r->P' r)->g d ρ P->g d ρ P')(hf:∀E ρ P P',(∀d,P d->P' d)->wf E ρ P->wf E ρ P')(he:∀E ρ P P',(∀d,P d->P' d)->we E ρ P->we E ρ P') :
  ∀ds ρ acc P P',(∀r xs,P r xs->P' r xs)->lcV g wf we ds ρ acc P->lcV g wf we ds ρ acc P'
 |[],_,acc,P,P',hp,h=>hp _ _ h
 | d::ds,ρ,acc,P,P',hp,h=>hg _ _ _ _ (λr hr=>hf _ _ _ _ (λb hb=>by
   cases b with
   |false=>rw[if_neg (by decide)] at hb ⊢;exact lcV.mono hg hf he ds r acc P P' hp hb
   |true=>rw[if_pos rfl] at hb ⊢;exact he _ _ _ _ (λy hy=>⟨hy.1,lcV.mono hg hf he ds r _ P P' hp hy.2⟩) hb) hr) h
theorem lcW2.mono(hg:∀d ρ P P',(∀r,P r->P' r)->g d ρ P->g d ρ P')(hf:∀E ρ P P',(∀d,P d->P' d)->wf E ρ P->wf E ρ P')(hi2:∀E ρ P P',(∀d,P d->P' d)->wi2 E ρ P->wi2 E ρ P')(hg2:∀d ρ P P',(∀r,P r->P' r)->g2 d ρ P->g2 d ρ P')(hf2:∀E ρ P P',(∀d,P d->P' d)->wf2 E ρ P->wf2 E ρ P')(he:∀E ρ P P',(∀d,P d->P' d)->we E ρ P->we E ρ P') :
  ∀ds ρ acc P P',(∀xs,P xs->P' xs)->lcW2 g wf wi2 g2 wf2 we ds ρ acc P->lcW2 g wf wi2 g2 wf2 we ds ρ acc P'
 |[],_,acc,P,P',hp,h=>hp _ h
 | d::ds,ρ,acc,P,P',hp,h=>hg _ _ _ _ (λr hr=>hf _ _ _ _ (λb hb=>by
   cases b with
   |false=>rw[if_neg (by decide)] at hb ⊢;exact lcW2.mono hg hf hi2 hg2 hf2 he ds r acc P P' hp hb
   |true=>rw[if_pos rfl] at hb ⊢;exact hi2 _ _ _ _ (λds2 h2=>lcV.mono hg2 hf2 he ds2 r acc _ _ (λr' xs hx=>lcW2.mono hg hf hi2 hg2 hf2 he ds r' xs P P' hp hx) h2) hb) hr) h
end
def hX:Option (Nat×List Rat)->D
 |none=>.non
 |some (a,l)=>.tup [.int (a:Int),aE l]
def wE(x:D):Except Str D:=hJ x (if gI x=true then .ok (bU (cJ (sI x) (sN x))) else .error "NotEven")
def CN:bF:=fnS (λx:(Nat×Nat)×List (List Rat)=>[bU x.2,.int x.1.2]) (λx=>yQ x.1.1 x.1.2 x.2) λx=>.bl (decide ((cL x.2 x.1.2).ld.length=x.2.length))
def Zc:bF:=fnS (λx:SL×List (List Rat)×List (List Rat)=>[aO x.1.1,bU x.2.2]) (λx=>IsSl x.1.1 x.1.2/\x.1.1.reverse=x.1.1/\Sg x.1.1 x.1.2 x.2.1 x.2.2) λx=>hX (gJ x.1.1 x.1.2 0 x.2.2)
def zq:bF:=fnS (λx:SL×List Rat×List Rat=>[aO x.1.1,aE x.2.1,aE x.2.2]) (λx=>IsSl x.1.1 x.1.2/\x.1.1.reverse=x.1.1/\Lf 163 x.1.2 x.2.1/\Lf 163 x.1.2 x.2.2/\bS x.1.1 x.1.2 x.2.2 x.2.2≠0) λx=>aE (hW x.1.1 x.1.2 x.2.2 x.2.1)
def wG:bF:=xS (λx:D=>[x]) (λx=>kd x=true) wE
section
variable{E:Ex->Prop}{x z:D}{w:Nat}{u v:List Rat}{R P f:List (List Rat)}
theorem GG(h:IsSl s n)(ev:s.reverse=s)(g:Sg s n f R)(q:Q (hX (gJ s n 0 R))):Zc [aO s,bU R] E Q:=⟨((s,n),f,R),rfl,⟨h,ev,g⟩,q⟩
theorem L7(h:IsSl s n)(ev:s.reverse=s)(h1:Lf 163 n r)(h2:Lf 163 n l)(h3:bS s n l l≠0)(q:Q (aE (hW s n l r))):zq [aO s,aE r,aE l] E Q:=⟨((s,n),r,l),rfl,⟨h,ev,h1,h2,h3⟩,q⟩
theorem GH(h:IsSl s n)(ev:s.reverse=s)(q:Q .non):sM [aO s] E Q:=xS.ok (aO s) rfl h.kd (by(try dsimp only);rw[im h];unfold gI;rw[gF,Nr ev];rfl) q
theorem GI(h:IsSl s n)(ev:s.reverse=s)(q:Q (bU (cJ s n))):wG [aO s] E Q:=xS.ok (aO s) rfl h.kd (by(try dsimp only);unfold wE;rw[im h];unfold gI;rw[gF,Nr ev,h.sN];rfl) q
theorem L8(h:IsSl s n)(ev:s.reverse=s)(hu:u.length=n)(hv:v.length=n):BN (aO s) (aE u) (aE v)=.ok (aR (bS s n u v)):=by
 unfold BN BM;rw[im h];unfold gI;have e1:fZ n (aE u)=true:=by have:=sD u;rwa [hu] at this
 have e2:fZ n (aE v)=true:=by have:=sD v;rwa [hv] at this
 rw[gF,Nr ev,h.sN,e1,e2,p6,p6];rfl
theorem zt(h:IsSl s n)(ev:s.reverse=s)(hu:u.length=n)(hv:v.length=n)(zu:∀x∈u,Sz 170 x)(zv:∀x∈v,Sz 170 x)(q:Q (aR (bS s n u v))):mW [aO s,aE u,aE v] E Q:=
 xS.ok (aO s,aE u,aE v) rfl ⟨h.kd,ss (by have:=h.n5;omega),ss (by have:=h.n5;omega),Zc3.mpr zu,Zc3.mpr zv⟩ (L8 h ev hu hv) q
end
theorem Zl(h:IsSl s n){u v:List Rat}(hu:Lf b n u)(hv:Lf b n v):Sz (2*b+11) (bS s n u v):=by
 rw[kI h hu.len hv.len];obtain⟨c,e,h1,h2,h3,h4,rfl⟩:=hu.ex;obtain⟨d,g,g1,g2,g3,g4,rfl⟩:=hv.ex;have gc:∀(c:List Int) (e:Int) j,gq (c.map λx=>Rat.divInt x e) j=Rat.divInt (c.getD j 0) e:=λc e j=>by
  unfold gq;rw[aY,cK,aY];cases c[j]? with
  |none=>show(0:Rat)=Rat.divInt 0 e;rw[uk]
  |some x=>rfl
 have key:bf (Pj.cA (sA s n)) n (gq (c.map λx=>Rat.divInt x e)) (gq (d.map λx=>Rat.divInt x g))=Rat.divInt (Pj.bI (sA s n) n (λj=>c.getD j 0) λj=>d.getD j 0) (e*g):=by
  have ie:((e*g:Int):Rat)⁻¹=((e:Int):Rat)⁻¹*((g:Int):Rat)⁻¹:=by
   have ne:((e:Int):Rat)≠0:=λz=>h2 (by exact_mod_cast z);have ng:((g:Int):Rat)≠0:=λz=>g2 (by exact_mod_cast z);have a1:=jw _ ne;have a2:=jw _ ng;have a3:=jw (((e:Int):Rat)*((g:Int):Rat)) (λz=>by rcases Yc1.mp z with z|z;exact ne z;exact ng z);rw[ft];generalize (((e:Int):Rat)*((g:Int):Rat))⁻¹=x at *;grind
  rw[nc,<-Pj.bI_cast,eJ,qX,ie];unfold bf;rw[<-Dt.sumN_mul];refine cM λi _=>?_;rw[gc,nc,cM (g:=λj=>((g:Int):Rat)⁻¹*((sA s n i j:Rat)*((d.getD j 0:Int):Rat))) (λj _=>by rw[gc,nc,eJ];grind),Dt.sumN_mul,eJ];grind
 rw[key];have m5:=h.n5;have cz:∀(c:List Int) (j:Nat),(∀x∈c,x.natAbs<2^b)->(c.getD j 0).natAbs<=2^b:=λc j hc=>by
  rw[aY];cases e:c[j]? with
  |none=>exact i6 _
  |some x=>exact ge (hc x (h8 e))
 refine tW (jI h2 g2) ?_ ?_
 .have h1:∀i,i<n->(Dt.sumI (λj=>sA s n i j*d.getD j 0) n).natAbs<=n*(50*2^b):=λi hi=>Pj.sumI_bd λj hj=>by
   rw[d9];exact i8 (wD h i j hi hj) (cz d j g4)
  have h2:=Pj.sumI_bd (f:=λi=>c.getD i 0*Dt.sumI (λj=>sA s n i j*d.getD j 0) n) (c:=2^b*(n*(50*2^b))) (n:=n) λi hi=>by
   rw[d9];exact i8 (cz c i h4) (h1 i hi)
  have h3:n*(2^b*(n*(50*2^b)))<=5*(2^b*(5*(50*2^b))):=i8 m5 (xv _ (lG _ m5));have e1:2^(2*b+11)=2^b*2^b*2048:=by rw[jH,show 2*b=b+b by omega,jH]
  have e2:5*(2^b*(5*(50*2^b)))=1250*(2^b*2^b):=by grind
  have e3:0<2^b*2^b:=Nat.mul_pos (xg (by decide)) (xg (by decide));unfold Pj.bI;dsimp only;omega
 .rw[d9,jH,show 2*b=b+b by omega,jH]
  have:=oG h3 g3;omega
abbrev ZdB:List Str:=["rows", "many"]
def GJ:WS:=(aK (w2 (gEq false) (wB bL (aC (w2 gIx (wF B0 (aC (wN 0) (aC (wN 1) aA))) (wC (D.int (0)))) aA)) (wB bL (aC (wN 0) aA))))
abbrev Zgp:List Str:=["slants", "rows", "at", "row", "sums", "lead"]
def CO:WS:=(bM 4 (aG (bB (bD (iE (aC (wN 1) aA)) (dF 2 (cI (gN 2) (cI (gN 3) dE))) (aG (bX 4 (aLC (iS (cD (wN 1) (dU (w2 gAdd (wN 2) (wC (D.int (1))))) eG)) 1 [3] (gN 0) cV (wF oW (aC (wN 1) (aC (wF tR (aC (wC (D.tup [(D.int (0)),(D.int (1))])) (aC (wC (D.tup [(D.int (1)),(D.int (1))])) aA))) (aC (wN 0) aA)))))) (bM 4 (bB (bD (iS (w2 gAdd (wL (bN (aC (wN 3) aA))) (wN 4))) (gN 5) (cE (wT (w2 (gEq true) (wF mW (aC (wN 0) (aC (wN 5) (aC (wN 5) aA)))) (wC (D.tup [(D.int (0)),(D.int (1))])))) (aK (aX (aC (wN 2) (aC (wN 5) aA)))) cF))))))) (aK (wC D.non))))
abbrev Zgu:List Str:=["slants", "row", "lead"]
def GK:WS:=(aK (wF oW (aC (wN 1) (aC (wF oa (aC (wF mW (aC (wN 0) (aC (wN 1) (aC (wN 2) aA)))) (aC (wF mW (aC (wN 0) (aC (wN 2) (aC (wN 2) aA)))) aA))) (aC (wN 2) aA)))))
abbrev Zgt:List Str:=["slants", "size", "found", "rest", "place_and_lead", "at", "lead"]
def CP:WS:=(aG (gO (wF sM (aC (wN 0) aA))) (aG (aQ 1 (wF oh (aC (wN 0) aA))) (aG (bX 2 (bN aA)) (aG (bX 3 (aLC (fO (aC (wN 1) aA)) 1 [1] (gN 0) cV (wF yO (aC (wN 0) (aC (wN 1) aA))))) (bM 3 (aG (aQ 4 (wF Zc (aC (wN 0) (aC (wN 3) aA)))) (bM 3 (aG (bB (vd (wT (w2 (gIsC true) (wN 4) (wC D.non))) (aG (dQ (wN 4) (dF 2 (cI (gN 5) (cI (gN 6) dE)))) (aG (dj 2 (wN 6)) (bM 3 (aG (bX 3 (aLC (iS (w2 gAdd (cD (wN 3) eG (dU (wN 5))) (cD (wN 3) (dU (w2 gAdd (wN 5) (wC (D.int (1))))) eG))) 1 [0,6] (gN 0) cV (wF zq (aC (wN 1) (aC (wN 0) (aC (wN 2) aA)))))) (bM 3 (aQ 4 (wF Zc (aC (wN 0) (aC (wN 3) aA))))))))))) (bM 2 (bM 3 (aK (w2 gAdd (wN 2) (wN 3)))))))))))))
theorem L9:Rd CN GJ ZdB:=by
 rintro _ E Q ⟨⟨⟨w,m⟩,R⟩,rfl,h,q⟩;dsimp only at h q;unfold GJ;walk_at "st";refine⟨((w,m),R),rfl,h,?_⟩;refine⟨_,rfl,?_⟩;unfold bU;walk_at "st";rw[bC,bC,show((((cL R m).ld.length:Nat):Int)==((R.length:Nat):Int))=decide ((cL R m).ld.length=R.length) by rw[o7];simp;exact Int.ofNat_inj];exact q
theorem Ma:Rd zq GK Zgu:=by
 rintro _ E Q ⟨⟨⟨s,n⟩,r,l⟩,rfl,⟨h,ev,hr,hl,h0⟩,q⟩;dsimp only at h ev hr hl h0 q;unfold GK;walk_at "st";have up:∀x:Rat,Sz 163 x->Sz 170 x:=λx hx=>hx.mono (by decide);have z1:=Zl h hr hl;have z2:=Zl h hl hl;refine zt h ev hr.len hl.len (λx hx=>up x (hr.sz x hx)) (λx hx=>up x (hl.sz x hx)) (zt h ev hl.len hl.len (λx hx=>up x (hl.sz x hx)) (λx hx=>up x (hl.sz x hx)) (vq (B2.of z1 z2 (by decide)) h0 ?_));exact B5 (b:=674) (by decide) (by rw[hr.len];have:=h.n5;omega) (λy hy=>(hr.sz y hy).mono (by decide)) ((z1.div z2).mono (by decide)) (λy hy=>(hl.sz y hy).mono (by decide)) q
theorem GL{neg:Bool}{P:D->Prop}(h:P (.bl (if neg then !decide (q=0) else decide (q=0)))):gEq neg (aR q) (.tup [.int 0,.int 1]) P:=by
 refine jq (qI _ 59) (by decide +kernel) ?_;have e:fE (aR q) (.tup [.int 0,.int 1])=decide (q=0):=by
  rw[<-yK,vI]
 rw[e];exact h
theorem GM{s:List Int}{n:Nat}{Q:D->Prop}{E:Ex->Prop}{N:Nds}{s1 s3 s4:SV}{k:Nat}(h:IsSl s n)(ev:s.reverse=s)(hN:N.rt=Q):∀(L:List (List Rat)) (s5:SV),(∀r∈L,Lf 163 n r)->(∀l,lB s n L=some l->Q (.tup [.int k,aE l]))->(lB s n L=none->∀s5,N.nx [.d (aO s),s1,.d (.int k),s3,s4,s5])->Zbm (gN 5) (cE (wT (w2 (gEq true) (wF mW (aC (wN 0) (aC (wN 5) (aC (wN 5) aA)))) (wC (D.tup [(D.int (0)),(D.int (1))])))) (aK (aX (aC (wN 2) (aC (wN 5) aA)))) cF) E N (L.map aE) [.d (aO s),s1,.d (.int k),s3,s4,s5]
 |[],s5,_,_,h2=>h2 rfl s5
 |r::L,s5,hl,h1,h2=>by
  rw[cR,Zbm];simp only[gN,List.set_cons_succ,List.set_cons_zero];have hr:=hl r (by simp);have up:∀x∈r,Sz 170 x:=λx hx=>(hr.sz x hx).mono (by decide);refine gi (b:=!decide (bS s n r r=0)) (λP hP=>?_) (λe=>?_) λe=>?_
  .walk_at "st"
   exact zt h ev hr.len hr.len up up (GL hP)
  .have e0:¬bS s n r r=0:=by simpa using e
   have:=h1 r (by rw[lB,if_neg e0]);rw[<-hN] at this;walk_at "st";exact⟨by decide,this⟩
  .have e0:bS s n r r=0:=by simpa using e
   exact GM h ev hN L _ (λx hx=>hl x (by simp[hx])) (λl hl'=>h1 l (by rw[lB,if_pos e0];exact hl')) λhn=>h2 (by rw[lB,if_pos e0];exact hn)
theorem Sg.sums(h:IsSl s n){f R:List (List Rat)}(g:Sg s n f R):∀r∈R,∀o∈R,Lf 163 n (aV r (-1) o):=λr hr o ho=>by
 obtain⟨M,m,hM⟩:=g.ex;obtain⟨v,hv,hl⟩:=hM r hr;obtain⟨v',hv',hl'⟩:=hM o ho;obtain⟨⟨x,hx⟩,h2⟩:=hl.add hl';have eq:=zm (q:=-1) (g.wR r hr) (g.wR o ho);have hlen:=g.len;have:0<R.length:=Af hr;have lt:Pj.Lt (sA s n) n f.length M (λj=>v j+v' j) (gq (aV r (-1) o)):=⟨⟨x,λj hj=>(eq j hj).trans (hx j hj)⟩,λi hi=>by rw[oY (λ_ _=>rfl) eq];exact h2 i hi⟩
 have:=lt.lf h.n5 (wD h) m (by have:=h.n5;omega) λj hj=>by
  have:=qi (v j) (v' j);have:=hv j hj;have:=hv' j hj;omega
 rwa [CM (sW (g.wR r hr) (g.wR o ho))] at this
theorem GN{s:List Int}{n:Nat}{Q:D->Prop}{E:Ex->Prop}{N:Nds}{f R:List (List Rat)}(h:IsSl s n)(ev:s.reverse=s)(g:Sg s n f R)(hN:N.rt=Q):∀(R':List (List Rat)) (k:Nat) (s2 s3 s4 s5:SV),R.drop k=R'->k+R'.length=R.length->(∀a l,gJ s n k R'=some (a,l)->Q (.tup [.int (a:Int),aE l]))->(gJ s n k R'=none->∀s2 s3 s4 s5,N.nx [.d (aO s),.d (bU R),s2,s3,s4,s5])->Zbm (dF 2 (cI (gN 2) (cI (gN 3) dE))) (aG (bX 4 (aLC (iS (cD (wN 1) (dU (w2 gAdd (wN 2) (wC (D.int (1))))) eG)) 1 [3] (gN 0) cV (wF oW (aC (wN 1) (aC (wF tR (aC (wC (D.tup [(D.int (0)),(D.int (1))])) (aC (wC (D.tup [(D.int (1)),(D.int (1))])) aA))) (aC (wN 0) aA)))))) (bM 4 (bB (bD (iS (w2 gAdd (wL (bN (aC (wN 3) aA))) (wN 4))) (gN 5) (cE (wT (w2 (gEq true) (wF mW (aC (wN 0) (aC (wN 5) (aC (wN 5) aA)))) (wC (D.tup [(D.int (0)),(D.int (1))])))) (aK (aX (aC (wN 2) (aC (wN 5) aA)))) cF))))) E N (f8 k (R'.map aE)) [.d (aO s),.d (bU R),s2,s3,s4,s5]
 |[],k,s2,s3,s4,s5,_,_,_,h2=>h2 rfl s2 s3 s4 s5
 |r::R',k,s2,s3,s4,s5,hd,hk,h1,h2=>by
  rw[cR,f8,Zbm];refine⟨rfl,?_⟩;simp only[cI,dE,gN,List.set_cons_succ,List.set_cons_zero];have n5:=h.n5;have gl:=g.len;have hr:r∈R:=qV (i:=k) (by rw[hd];simp);have hR':∀o∈R',o∈R:=λo ho=>qV (i:=k) (by rw[hd];simp[ho]);have tl:R.drop (k+1)=R':=by rw[<-List.drop_drop,hd];rfl
  simp only[dS] at hk;have lr:=g.rows h r hr;refine cO (B.C.own_by (xs:=(R'.map λo=>aV r (-1) o).map aE) (ρ':=[.d (aO s),.d (bU R),.d (.int k),.d (aE r),.ow ((R'.map λo=>aV r (-1) o).map aE),s5]) rfl (λP hP=>?_) ?_)
  .unfold bU
   walk_at "st";rw[show(k:Int)+1=((k+1:Nat):Int) by omega,yy (by rw[bC];omega),<-tF,tl];refine jX (g:=aE) (f:=λo=>aE (aV r (-1) o)) R' (λo ho P hP=>?_) .un [] (hU (by simp;omega)) ?_
   .walk_at "st"
    refine DP (p:=0) (q:=1) (B2.of (n:=1) (m:=1) (Sz.zero (by decide)) (Sz.int 1 (by decide) (by decide)) (by decide)) ?_;rw[show(0:Rat)-1 = -1 from by decide +kernel];have lo:=g.rows h o (hR' o ho);exact B5 (b:=163) (by decide) (by rw[lr.len];omega) lr.sz (Sz.mono (n:=2) (by decide) ⟨by decide,by decide⟩) lo.sz hP
   .rw[dI,List.map_map] at *
    exact hP
  dsimp only;refine B.C.pub_by (ρ':=[.d (aO s),.d (bU R),.d (.int k),.d (aE r),.d (.lst ((R'.map λo=>aV r (-1) o).map aE)),s5]) rfl ?_;simp only[bB];refine B.C.for_seq (xs:=(r::R'.map λo=>aV r (-1) o).map aE) (λP hP=>?_) ?_
  .walk_at "st"
   exact⟨by decide,hU (by simp;omega),hP⟩
  refine GM (Q:=Q) h ev (by exact hN) _ _ (λo ho=>?_) (λl hl=>h1 k l (by rw[gJ,hl])) λhn s5'=>?_
  .rcases Yan.mp ho with rfl|ho
   .exact lr
   .obtain⟨o',ho',rfl⟩:=YbQ.mp ho
    exact g.sums h r hr o' (hR' o' ho')
  .exact GN h ev g hN R' (k+1) _ _ _ _ tl (by omega) (λa l hl=>h1 a l (by rw[gJ,hn];exact hl)) λhn2=>h2 (by rw[gJ,hn];exact hn2)
theorem Mb:Rd Zc CO Zgp:=by
 rintro _ E Q ⟨⟨⟨s,n⟩,f,R⟩,rfl,⟨h,ev,g⟩,q⟩;dsimp only at h ev g q;show CO E _ [.d (aO s),.d (bU R),.un,.un,.un,.un];unfold CO;refine B.C.pub_by (ρ':=[.d (aO s),.d (bU R),.un,.un,.un,.un]) rfl ?_;refine cO ?_;simp only[bB,bD];show iE _ _ [.d (aO s),.d (.lst (R.map aE)),.un,.un,.un,.un] _;simp only[iE,aC,aA,wN,eK,fk];refine GN (Q:=Q) h ev g rfl R 0 .un .un .un .un (by simp) (by simp) (λa l e=>?_) λe s2 s3 s4 s5=>?_
 .rw[e] at q;exact q
 .rw[e] at q;exact q
theorem GO{E:Ex->Prop}{b:Bool}{P:Bool->Prop}(hw:∀P:D->Prop,P (.bl b)->w E ρ P)(h:P b):wT w E ρ P:=hw _ h
theorem Mc{E:Ex->Prop}{x:D}(hw:∀P:D->Prop,P (.tup [x,y])->w E ρ P)(e:(ρ.set i (.d x)).set j (.d y)=ρ')(h:N.nx ρ'):dQ w (dF 2 (cI (gN i) (cI (gN j) dE))) E N ρ:=hw _ ⟨rfl,by rw[<-e] at h;exact h⟩
theorem Md:Rd wG CP Zgt:=by
 rintro _ E Q ⟨x,rfl,hk,q⟩;show CP E _ [.d x,.un,.un,.un,.un,.un,.un];unfold CP;walk_at "nx";unfold wE at q;cases e:gh x with
 |false=>exact xS.err x rfl hk (pZ e) (oR e q)
 |true=>
 obtain⟨s,n,rfl,h⟩:=qL e;replace q:=oS h q;cases ev:gI (aO s) with
 |false=>
  rw[ev] at q;exact xS.err (aO s) rfl hk (by(try dsimp only);rw[im h,ev];rfl) q
 |true=>
 rw[ev,gF,h.sN] at q;simp only[if_true] at q;have ev':s.reverse=s:=by unfold gI at ev;rw[gF] at ev;simpa using ev
 have n5:=h.n5;refine GH h ev' ?_;walk_at "nx";refine vt h ?_;show aG _ _ _ _ [.d (aO s),.d (.int n),.un,.un,.un,.un,.un];refine cO (B.C.own_by (xs:=[]) (ρ':=[.d (aO s),.d (.int n),.ow [],.un,.un,.un,.un]) rfl (λP hP=>⟨by decide,hP⟩) ?_);dsimp only;refine cO (B.C.own_by (xs:=((List.range n).map (bP n)).map aE) (ρ':=[.d (aO s),.d (.int n),.ow [],.ow (((List.range n).map (bP n)).map aE),.un,.un,.un]) rfl (λP hP=>?_) ?_)
 .walk_at "st"
  refine⟨by omega,by omega,?_⟩;rw[p7];refine jX (g:=λk:Nat=>D.int (k:Int)) (f:=λk=>aE (bP n k)) (List.range n) (λk hk P hP=>?_) .un [] (hU (by simp;omega)) ?_
  .walk_at "st"
   exact KS n5 hP
  .rw[dI,List.map_map] at *
   exact hP
 dsimp only;refine B.C.pub_by (ρ':=[.d (aO s),.d (.int n),.ow [],.d (bU ((List.range n).map (bP n))),.un,.un,.un]) rfl ?_;have g0:=Sg.start h;refine cO (iP (d:=hX (gJ s n 0 ((List.range n).map (bP n)))) (ρ':=[.d (aO s),.d (.int n),.ow [],.d (bU ((List.range n).map (bP n))),.d (hX (gJ s n 0 ((List.range n).map (bP n)))),.un,.un]) rfl (λP hP=>?_) ?_)
 .walk_at "st"
  exact GG h ev' g0 hP
 dsimp only;refine B.C.pub_by (ρ':=[.d (aO s),.d (.int n),.ow [],.d (bU ((List.range n).map (bP n))),.d (hX (gJ s n 0 ((List.range n).map (bP n)))),.un,.un]) rfl ?_;refine cO ?_;simp only[bB];refine⟨λm ρ=>∃f R s5 s6 k,m=R.length/\Sg s n f R/\R.length<=k/\sV s n k f R=cJ s n/\ρ=[.d (aO s),.d (.int n),.ow (f.map aE),.d (bU R),.d (hX (gJ s n 0 R)),s5,s6],⟨_,[],_,.un,.un,n,rfl,g0,by simp,rfl,rfl⟩,?_⟩;rintro m _ ⟨f,R,s5,s6,k,rfl,g,hkR,hap,rfl⟩;have gl:=g.len;cases el:gJ s n 0 R with
 |none=>
  rw[show hX (none:Option (Nat×List Rat))=.non from rfl];refine GO (b:=false) (λP hP=>⟨rfl,hP⟩) ?_;rw[if_neg (by decide)];have efin:f++R=cJ s n:=by
   rw[<-hap];cases k with
   |zero=>rfl
   |succ k=>rw[sV,el]
  dsimp only;refine B.C.pub_by (ρ':=[.d (aO s),.d (.int n),.d (.lst (f.map aE)),.d (bU R),.d .non,s5,s6]) rfl ?_;refine B.C.pub_by (ρ':=[.d (aO s),.d (.int n),.d (.lst (f.map aE)),.d (.lst (R.map aE)),.d .non,s5,s6]) rfl ?_;walk_at "st";refine⟨hU (by simp;omega),?_⟩;rw[<-m9,efin];exact q
 |some al=>
  obtain⟨a,l⟩:=al;have d:=g.ld el;have ha:=d.at_;have hl:=d.lf h g;rw[show hX (some (a,l))=.tup [.int (a:Int),aE l] from rfl];refine GO (b:=true) (λP hP=>⟨rfl,hP⟩) ?_;rw[if_pos rfl];refine cO (Mc (x:=.int (a:Int)) (y:=aE l) (nm_at rfl) (ρ':=[.d (aO s),.d (.int n),.ow (f.map aE),.d (bU R),.d (.tup [.int (a:Int),aE l]),.d (.int (a:Int)),.d (aE l)]) rfl ?_);dsimp only;refine cO (sR (xs:=f.map aE) (d:=aE l) (ρ':=[.d (aO s),.d (.int n),.ow ((f++[l]).map aE),.d (bU R),.d (.tup [.int (a:Int),aE l]),.d (.int (a:Int)),.d (aE l)]) rfl (de (show _<2000 by rw[bC];omega) (by decide)) (by rw[m9];rfl) (nm_at rfl) ?_);dsimp only;refine B.C.pub_by (ρ':=[.d (aO s),.d (.int n),.ow ((f++[l]).map aE),.d (.lst (R.map aE)),.d (.tup [.int (a:Int),aE l]),.d (.int (a:Int)),.d (aE l)]) rfl ?_;refine cO (B.C.own_by (xs:=((R.take a++R.drop (a+1)).map (hW s n l)).map aE) (ρ':=[.d (aO s),.d (.int n),.ow ((f++[l]).map aE),.ow (((R.take a++R.drop (a+1)).map (hW s n l)).map aE),.d (.tup [.int (a:Int),aE l]),.d (.int (a:Int)),.d (aE l)]) rfl (λP hP=>?_) ?_)
  .walk_at "st"
   rw[oj (b:=a) rfl,show((a:Int)+1)=((a+1:Nat):Int) by omega,yy (by rw[bC];omega),<-kK,<-tF];refine⟨hU (by simp;omega),?_⟩;rw[<-m9];refine jX (g:=aE) (f:=λr=>aE (hW s n l r)) (R.take a++R.drop (a+1)) (λr hr P hP=>?_) .un [] (hU (by simp;omega)) ?_
   .walk_at "st"
    exact L7 h ev' (g.rows h r (ip hr)) hl d.nz hP
   .rw[dI,List.map_map] at *
    exact hP
  dsimp only;have g':=g.step h ev' d;refine B.C.pub_by (ρ':=[.d (aO s),.d (.int n),.ow ((f++[l]).map aE),.d (bU ((R.take a++R.drop (a+1)).map (hW s n l))),.d (.tup [.int (a:Int),aE l]),.d (.int (a:Int)),.d (aE l)]) rfl ?_;refine iP (d:=hX (gJ s n 0 ((R.take a++R.drop (a+1)).map (hW s n l)))) (ρ':=[.d (aO s),.d (.int n),.ow ((f++[l]).map aE),.d (bU ((R.take a++R.drop (a+1)).map (hW s n l))),.d (hX (gJ s n 0 ((R.take a++R.drop (a+1)).map (hW s n l)))),.d (.int (a:Int)),.d (aE l)]) rfl (λP hP=>?_) ?_
  .walk_at "st"
   exact GG h ev' g' hP
  have len':((R.take a++R.drop (a+1)).map (hW s n l)).length=R.length-1:=by rw[bC,dX,gS,jv];omega
  refine⟨_,?_,f++[l],_,_,_,k-1,rfl,g',by rw[len'];omega,?_,rfl⟩
  .rw[len'];omega
  .rw[<-hap]
   cases k with
   |zero=>omega
   |succ k=>rw[sV,el];rfl
theorem ZmX:(q.num>0↔0<q)/\(q.num<0↔q<0):=by
 have h1:=Rat.num_nonneg (q:=q);have h2:=Rat.num_eq_zero (q:=q);constructor
 .constructor
  .intro h
   have a:=h1.mp (by omega);have:q≠0:=λz=>by have:=h2.mpr z;omega
   grind
  .intro h
   have a:=h1.mpr (by grind);have:q.num≠0:=λz=>by have:=h2.mp z;grind
   omega
 .constructor
  .intro h
   have:¬0<=q:=λz=>by have:=h1.mpr z;omega
   grind
  .intro h
   have:¬0<=q.num:=λz=>by have:=h1.mp z;grind
   omega
section
theorem CQ{T:Nat->Nat->Rat}(h:∀i j,i<n->j<n->T i j=T' i j)(u v:Nat->Rat):bf T n u v=bf T' n u v:=
 cM λi hi=>by rw[cM (g:=λj=>T' i j*v j) λj hj=>by rw[h i j hi hj]]
theorem Ap.T{T:Nat->Nat->Rat}(a:Ap T n U)(h:∀i j,i<n->j<n->T i j=T' i j):Ap T' n U:=⟨λx y hx hy ne=>by rw[<-CQ h];exact a.ap x y hx hy ne,a.fu⟩
theorem Me{P:List (List Rat)}(hR:∀r∈P,r.length=n)(fu:∀x:List Rat,x.length=n->(∀r∈P,bV r x=0)->∀k,k<n->x.getD k 0=0):(cL P n).ld.length=n:=by
 have ec:=za hR n (cB _);have:∀q,q<n->q∈(cL P n).pl:=λq hq=>Classical.byContradiction λhn=>by
  obtain⟨l,f0⟩:=ec.free hq hn;have:=fu _ l f0 q hq;rw[y8 _ _ _ (by rw[kE];exact ec.lt) hn,oC hq,if_pos rfl] at this;exact Nq this (by decide)
 have e:(cL P n).pl=List.range n:=y9 ec.asc (CA n) λx=>⟨λhx=>Yah.mpr (ec.lt x hx),λhx=>this x (Yah.mp hx)⟩;rw[ec.ll,e,iX]
end
theorem wH(x:Rat):0<=x*x:=by
 rcases Rat.le_total (a:=0) (b:=x) with q|q
 .exact pj q q
 .have:=pj (show(0:Rat)<=-x by grind) (show(0:Rat)<=-x by grind);grind
section
variable{T:Nat->Nat->Rat}
theorem Ap.made(h:Ap T n U)(x:Nat->Rat):∃c:Nat->Rat,∀k,k<n->x k=dW c U n k:=by
 obtain⟨y,⟨k0,hk0,hy0⟩,hz⟩:=wish (n+1) ((List.range n).map λk j=>if j<n then U j k else x k) (by rw[bC,iX];omega);have eq:∀k,k<n->dW y U n k+y n*x k=0:=λk hk=>by
  have:=hz _ (m8 (f:=λk j=>if j<n then U j k else x k) (Yah.mpr hk));rw[aF,if_neg (gQ n),cM (g:=λa=>y a*U a k) λa ha=>by rw[if_pos ha];grind] at this;unfold dW;grind
 have yn:y n≠0:=λz=>by
  have:=h.ind (c:=y) λk hk=>by have:=eq k hk;rw[z] at this;grind
  by_cases e:k0=n
  .rw[e] at hy0;exact hy0 z
  .exact hy0 (this k0 (by omega))
 refine⟨λa=>-(y n)⁻¹*y a,λk hk=>?_⟩;have e2:dW (λa=>-(y n)⁻¹*y a) U n k = -(y n)⁻¹*dW y U n k:=by
  unfold dW;rw[<-sumN_mul];exact cM λa _=>by grind
 rw[e2];have:=eq k hk;have i:=jw _ yn;have e3:dW y U n k = -(y n*x k):=by grind
 rw[e3];grind
theorem Ap.pos(h:Ap T n U)(hT:∀i j,i<n->j<n->T i j=T j i)(hp:∀a,a<n->0<bf T n (U a) (U a)){x:Nat->Rat}(hk:k<n)(hx:x k≠0):0<bf T n x x:=by
 obtain⟨c,hc⟩:=h.made x;have e:bf T n x x=aF (λa=>c a*(c a*bf T n (U a) (U a))) n:=by rw[oY hc hc];exact h.diag hT c
 have nn:∀a,a<n->0<=c a*(c a*bf T n (U a) (U a)):=λa ha=>by
  have:=pj (wH (c a)) (Rat.le_of_lt (hp a ha));grind
 have g:=ze nn;refine Classical.byContradiction λhn=>?_;have z:=CH nn (by rw[e] at hn;grind);have c0:∀a,a<n->c a=0:=λa ha=>by
  rcases Yc1.mp (z a ha) with q|q
  .exact q
  .rcases Yc1.mp q with q|q
   .exact q
   .have:=hp a ha;rw[q] at this;exact Nq this (by decide)
 exact hx (by rw[hc k hk];exact j5 λa ha=>by rw[c0 a ha,fS])
end
theorem Mf(hn:n<=5)(hs:∀a b,a<n->b<n->A a b=A b a)(h:Ap (λa b=>((A a b:Int):Rat)) n U):(∀a,a<n->0<bf (λa b=>((A a b:Int):Rat)) n (U a) (U a))↔∀k,k<=n->0<dt A k:=by
 have hT:∀i j,i<n->j<n->(λa b=>((A a b:Int):Rat)) i j=(λa b=>((A a b:Int):Rat)) j i:=λi j hi hj=>by dsimp only;rw[hs i j hi hj]
 constructor
 .intro hp k
  induction k with
  |zero=>intro _;exact Int.one_pos
  |succ k ih=>
   intro hk;have ihk:=ih (by omega);have j1:=zj (A:=A) hn (show k<n by omega) (cB k);rw[if_pos rfl] at j1;have nz:kH A k k≠0:=by
    rw[CK hn (show k<n by omega)];intro z;have:dt A k=0:=by exact_mod_cast z
    omega
   have:=h.pos hT hp (x:=kH A k) (show k<n by omega) nz;rw[j1] at this;have t:0<dt A k*dt A (k+1):=by exact_mod_cast this
   refine Classical.byContradiction λhnn=>?_;have:=Int.mul_nonneg (xk ihk) (show(0:Int)<=-dt A (k+1) by omega);rw[Int.mul_neg] at this;omega
 .intro hp
  have ja:=L5 (A:=A) hn hs λi hi=>by have:=hp i (by omega);omega
  have all:o4 n (iR (λa b=>((A a b:Int):Rat)) n 1 (kH A))=n:=by
   unfold o4;rw[List.filter_eq_self.mpr,iX];intro a ha;have ha:=Yah.mp ha;have j1:=zj (A:=A) hn ha (cB a);rw[if_pos rfl] at j1;unfold iR;rw[j1,qY];have:0<dt A a*dt A (a+1):=Int.mul_pos (hp a (by omega)) (hp (a+1) (by omega));exact Nr (by exact_mod_cast this)
  have e:=h.eq hT ja 1;rw[all] at e;intro a ha;unfold o4 at e;have len:((List.range n).filter (iR (λa b=>((A a b:Int):Rat)) n 1 U)).length=(List.range n).length:=by rw[e,iX]
  have:=List.length_filter_eq_length_iff.mp len a (Yah.mpr ha);unfold iR at this;rw[qY] at this;exact NR this
structure Sk(b c w:Nat)(r:List Rat):Prop where
 ex:∃(q:Rat) (l:List Rat),Sz c q/\Lf b w l/\r=l.map λx=>q*x
section
variable{c w p:Nat}
theorem GP(l:List Rat)(q:Rat)(p:Nat):(l.map λx=>q*x).getD p 0=q*l.getD p 0:=by
 rw[aY,cK,aY];cases l[p]? with
 |none=>show(0:Rat)=q*0;rw[fL]
 |some x=>rfl
theorem Sk.len(h:Sk b c w r):r.length=w:=by obtain⟨q,l,_,hl,rfl⟩:=h.ex;rw[bC];exact hl.len
theorem Sk.sz(h:Sk b c w r):∀y∈r,Sz (c+b) y:=by
 obtain⟨q,l,hq,hl,rfl⟩:=h.ex;intro y hy;obtain⟨x,hx,rfl⟩:=YbQ.mp hy;exact hq.mul (hl.sz x hx)
theorem Sk.norm(h:Sk b c w r)(hp:p<w)(h0:r.getD p 0≠0):Lf b w (ez r (r.getD p 0)):=by
 obtain⟨q,l,hq,hl,rfl⟩:=h.ex;rw[GP] at h0 ⊢;have q0:q≠0:=λz=>h0 (by rw[z,fS]);have l0:l.getD p 0≠0:=λz=>h0 (by rw[z,fL]);have e:ez (l.map λx=>q*x) (q*l.getD p 0)=ez l (l.getD p 0):=by
  unfold ez;rw[List.map_map];refine h9 λx _=>?_;show q*x/(q*l.getD p 0)=x/l.getD p 0;rw[eJ,eJ];have i1:=jw _ q0;have i2:=jw _ l0;have i3:=jw (q*l.getD p 0) h0;generalize (q*l.getD p 0)⁻¹=z at *;generalize (l.getD p 0)⁻¹=u at *;have:z*q*l.getD p 0=1:=by grind
  have:z*q=u:=by
   have:z*q*(l.getD p 0*u)=u:=by grind
   rw[i2,qW] at this;exact this
  grind
 rw[e];exact hl.norm hp l0
theorem Sk.less(h:Sk b c w r)(hq:Lf b w l)(hp:p<w):Sk (2*b+1) c w (aV r (r.getD p 0) l):=by
 obtain⟨q,k,hq',hl,rfl⟩:=h.ex;refine⟨q,aV k (k.getD p 0) l,hq',hl.less hq hp,?_⟩;rw[GP];unfold aV;rw[ul,List.zipWith_map_left];congr 1;funext x y;grind
end
structure wI(b c w m:Nat)(x:Cl):Prop where
 ld:∀r∈x.ld,Lf (bq b x.ld.length) w r
 rs:∀r∈x.rs,Sk (bq b x.ld.length) c w r
 ln:x.ld.length+x.rs.length=m
 pl:x.pl.length=x.ld.length
section
variable{c w p:Nat}{x:Cl}{R:List (List Rat)}
theorem GQ(h:wI b c w m x)(hp:p<w)(e:dA x.rs p=some a):Lf (bq b x.ld.length) w (iO x.rs a p):=by
 obtain⟨h1,h2⟩:=oV e;exact(h.rs _ (gP h1)).norm hp h2
theorem Mg(h:wI b c w m x)(hp:p<w):wI b c w m (qb p x):=by
 unfold qb;split
 .exact h
 .rename_i a e
  have hl:=GQ h hp e;obtain⟨h1,h2⟩:=oV e;have ln:=h.ln;have nl:(bE x.ld (iO x.rs a p) p++[iO x.rs a p]).length=x.ld.length+1:=by unfold bE;simp
  refine⟨?_,?_,?_,?_⟩
  .show∀r∈bE x.ld (iO x.rs a p) p++[iO x.rs a p],Lf (bq b (bE x.ld (iO x.rs a p) p++[iO x.rs a p]).length) w r
   rw[nl];intro r hr;rcases Yao.mp hr with hr|hr
   .unfold bE at hr
    obtain⟨r0,hr0,rfl⟩:=YbQ.mp hr;exact(h.ld r0 hr0).less hl hp
   .rw[YcJ.mp hr];exact hl.mono (qc (by omega))
  .show∀r∈bE (x.rs.take a++x.rs.drop (a+1)) (iO x.rs a p) p,Sk (bq b (bE x.ld (iO x.rs a p) p++[iO x.rs a p]).length) c w r
   rw[nl];intro r hr;unfold bE at hr;obtain⟨r0,hr0,rfl⟩:=YbQ.mp hr;exact(h.rs r0 (ip hr0)).less hl hp
  .show(bE _ _ _++[_]).length+(bE _ _ _).length=m
   unfold bE;simp only[dX,bC,j6,gS,jv];omega
  .show(x.pl++[p]).length=(bE _ _ _++[_]).length
   unfold bE;rw[dX,dX,bC,h.pl];rfl
theorem GR(h:∀r∈R,Sk b c w r):∀{p:Nat},p<=w->wI b c w R.length (cL R p)
 |0,_=>⟨(λr hr=>by cases hr),h,(by simp[cL]),rfl⟩
 |p+1,hp=>Mg (GR h (by omega)) (by omega)
theorem wJ(h:∀r∈R,Sk b c w r)(mw:m<=w)(w1:w<=1000)(hl:R.length<=1000)(h1:2*(c+bq b (R.length-1))<8990)(h2:3*bq b (R.length-1)<8990)(h3:3*(c+bq b (R.length-2))<8990):yQ w m R:=by
 have ok:∀p,p<m->wI b c w R.length (cL R p):=λp hp=>GR h (by omega);refine⟨mw,w1,hl,λp hp=>⟨(ok p hp).ln,(ok p hp).pl⟩,λp hp r hr=>((ok p hp).rs r hr).len,λp hp a e=>?_⟩;have o:=ok p hp;obtain⟨a1,a2⟩:=oV e;have ln:=o.ln;have lead:=GQ o (show p<w by omega) e;have b1:=qc (b:=b) (show(cL R p).ld.length<=R.length-1 by omega);refine⟨⟨c+bq b (cL R p).ld.length,by omega,(o.rs _ (gP a1)).sz⟩,⟨bq b (cL R p).ld.length,by omega,λr hr=>⟨(o.ld r hr).len,(o.ld r hr).sz⟩,lead.sz⟩,?_⟩
 by_cases z:(cL R p).ld.length<=R.length-2
 .have b2:=qc (b:=b) z
  exact⟨c+bq b (cL R p).ld.length,by omega,λr hr=>⟨(o.rs r (ip hr)).len,(o.rs r (ip hr)).sz⟩,λy hy=>(lead.sz y hy).mono (by omega)⟩
 .refine⟨bq b (cL R p).ld.length,by omega,λr hr=>?_,lead.sz⟩
  have:((cL R p).rs.take a++(cL R p).rs.drop (a+1)).length=0:=by rw[dX,gS,jv];omega
  rw[List.length_eq_zero_iff.mp this] at hr;cases hr
end
section
def wK:List D->(D->Prop)->Prop:=λds Q=>match ds with
 |[.lst xs]=>∃ns:List Int,xs=its ns/\ns≠[]/\∀m∈ns,(∀x∈ns,m<=x)->Q (.int m)
 |_=>False
theorem GS(hc:X.calm=true):dZ X (.builtin "min") wK:=by
 refine⟨⟨_,II hc,λW H vs ds Q ok r hg=>?_⟩,λds P P' hp hg=>?_⟩
 .unfold wK at hg
  split at hg
  .obtain⟨ns,rfl,hne,q⟩:=hg
   obtain⟨v,rfl,rv⟩:=r.one;obtain⟨p,us,rfl,h1,rr⟩:=rv.sql ok;rw[yv rr] at h1;exact⟨p,ns,rfl,h1,hne,λm hm hl=>(q m hm hl).now ok (.int _)⟩
  .exact hg.elim
 .unfold wK at hg ⊢
  split at hg
  .obtain⟨bs,e,hne,q⟩:=hg;exact⟨bs,e,hne,λm hm hl=>hp _ (q m hm hl)⟩
  .exact hg.elim
end
namespace B.C.Q0.Q3
def qg(s:List Int)(n:Nat)(r:List Rat):Pr:=(bS s n r r,ez (bK s n r) (bS s n r r))
def gj(s:List Int)(n:Nat):List Pr:=((cJ s n).filter λr=>!decide (bS s n r r=0)).map (qg s n)
def c9(s:List Int)(n:Nat):Option (List Rat):=(cJ s n).find? λr=>decide (bS s n r r<=0)
def fK(s:List Int)(n:Nat):D:=match c9 s n with
 |some r=>.tup [.str "not",aE r]
 |none=>.tup [.str "above",dN (gj s n)]
section
theorem sX(hn:c9 s n=none):∀r∈cJ s n,0<bS s n r r:=λr hr=>by
 have:=List.find?_eq_none.mp hn r hr;have:¬bS s n r r<=0:=by simpa using this
 grind
theorem GT(hn:c9 s n=some r):r∈cJ s n/\bS s n r r<=0:=⟨List.mem_of_find?_eq_some hn,by simpa using List.find?_some hn⟩
theorem wO(hn:c9 s n=none):gj s n=(cJ s n).map (qg s n):=by
 unfold gj;rw[List.filter_eq_self.mpr];intro r hr;have:=sX hn r hr;have:bS s n r r≠0:=λz=>by rw[z] at this;exact Nq this (by decide)
 simpa using this
theorem sy(h:IsSl s n)(ev:s.reverse=s):∀i j,i<n->j<n->Pj.cA (sA s n) i j=Pj.cA (sA s n) j i:=λi j hi hj=>by show((sA s n i j:Int):Rat)=_;rw[zn h ev i j hi hj]
theorem CU(h:IsSl s n)(hr:r.length=n)(hi:i<n):(bK s n r).getD i 0=aF (λj=>Pj.cA (sA s n) i j*gq r j) n:=by rw[Gs.tims_at h hr hi];rfl
theorem GU(T:Nat->Nat->Rat)(u:Nat->Rat)(hj:j<n):bf T n u (jF j)=aF (λi=>u i*T i j) n:=by
 unfold bf;refine cM λi _=>?_;rw[cM (g:=λk=>jF j k*T i k) λk _=>qX _ _,ww _ hj]
theorem GV(h:IsSl s n)(ev:s.reverse=s)(hr:r.length=n)(hj:j<n):(bK s n r).getD j 0=bf (Pj.cA (sA s n)) n (gq r) (jF j):=by
 rw[CU h hr hj,GU _ _ hj];exact cM λi hi=>by rw[sy h ev j i hj hi];grind
theorem Mh(h:IsSl s n)(ev:s.reverse=s)(hn:c9 s n=none):oX s n (gj s n):=λi hi j hj=>by
 have pa:=qP h ev;have hw:∀r∈cJ s n,r.length=n:=λr hr=>(pa.lf r hr).len;have A:=pa.ap' h ev;obtain⟨c,hc⟩:=A.made (jF j);have ma:∀a,a<n->(cJ s n).getD a []∈cJ s n:=λa ha=>gP (by rw[pa.len];exact ha);have w:∀a,a<n->bf (Pj.cA (sA s n)) n (pU (cJ s n) a) (pU (cJ s n) a)=bS s n ((cJ s n).getD a []) ((cJ s n).getD a []):=λa ha=>(kI h (hw _ (ma a ha)) (hw _ (ma a ha))).symm;have cw:∀a,a<n->c a*bS s n ((cJ s n).getD a []) ((cJ s n).getD a [])=(bK s n ((cJ s n).getD a [])).getD j 0:=λa ha=>by
  rw[GV h ev (hw _ (ma a ha)) hj,<-w a ha,oY (λ_ _=>rfl) hc,o1];have z:∀b,b<n->b≠a->c b*bf (Pj.cA (sA s n)) n (gq ((cJ s n).getD a [])) (pU (cJ s n) b)=0:=λb hb ne=>by rw[show bf (Pj.cA (sA s n)) n (gq ((cJ s n).getD a [])) (pU (cJ s n) b)=0 from A.ap a b ha hb (NB ne),fL]
  rw[jE ha z];rfl
 rw[wO hn,<-CD,lA _ _ n (by simp[pa.len]) (by simp[pa.len])];have e:((tT s n i j:Int):Rat)=bf (Pj.cA (sA s n)) n (jF i) (jF j):=by
  rw[GU _ _ hj,ww _ hi];rfl
 rw[e,oY (λ_ _=>rfl) hc,o1];refine cM λa ha=>?_;have ga:(cJ s n)[a]? = some ((cJ s n).getD a []):=by rw[aY,bW (by rw[pa.len];exact ha)];rfl
 rw[aY,aY,cK,cK,cK,cK,ga];show bS s n _ _*((ez (bK s n _) _).getD i 0*(ez (bK s n _) _).getD j 0)=_;have bg:∀(l:List Rat) (q:Rat) (k:Nat),(ez l q).getD k 0=l.getD k 0*q⁻¹:=λl q k=>by
  unfold ez;rw[aY,cK,aY];cases l[k]? with
  |none=>show(0:Rat)=0*q⁻¹;rw[fS]
  |some x=>show x/q=x*q⁻¹;rw[eJ]
 rw[bg,bg,<-cw a ha,show bf (Pj.cA (sA s n)) n (jF i) (pU (cJ s n) a)=(bK s n ((cJ s n).getD a [])).getD i 0 by rw[GV h ev (hw _ (ma a ha)) hi,oZ (sy h ev)];rfl];have nz:bS s n ((cJ s n).getD a []) ((cJ s n).getD a [])≠0:=λz=>by have:=sX hn _ (ma a ha);rw[z] at this;exact Nq this (by decide)
 have inv:=jw _ nz;generalize bS s n ((cJ s n).getD a []) ((cJ s n).getD a [])=q at *;generalize q⁻¹=z at *;generalize (bK s n ((cJ s n).getD a [])).getD i 0=t;have:q*(t*z*(c a*q*z))=c a*t*(q*z)*(q*z):=by grind
 rw[this,inv];grind
theorem Mi(h:IsSl s n)(ev:s.reverse=s)(hn:c9 s n=none):(cL ((gj s n).map (·.2)) n).ld.length=n:=by
 have pa:=qP h ev;have hw:∀r∈cJ s n,r.length=n:=λr hr=>(pa.lf r hr).len;have A:=pa.ap' h ev;have hP:(gj s n).map (·.2)=(cJ s n).map λr=>ez (bK s n r) (bS s n r r):=by rw[wO hn,List.map_map];rfl
 have bl:∀r,(ez (bK s n r) (bS s n r r)).length=n:=λr=>by unfold ez;rw[bC];exact Gs.tims_len r
 rw[hP];refine Me (λr hr=>by obtain⟨u,_,rfl⟩:=YbQ.mp hr;exact bl u) λx hx h0 k hk=>Classical.byContradiction λhne=>?_;have z:∀a,a<n->bf (Pj.cA (sA s n)) n (gq x) (pU (cJ s n) a)=0:=λa ha=>by
  have ma:(cJ s n).getD a []∈cJ s n:=gP (by rw[pa.len];exact ha);have d:=h0 _ (m8 (f:=λr=>ez (bK s n r) (bS s n r r)) ma);have p0:=sX hn _ ma;generalize hr:(cJ s n).getD a []=r at *;rw[lA _ x n (bl r) hx] at d;show bf _ n (gq x) (gq ((cJ s n).getD a []))=0;rw[hr];unfold bf;have e:aF (λj=>(ez (bK s n r) (bS s n r r)).getD j 0*x.getD j 0) n=(bS s n r r)⁻¹*aF (λi=>gq x i*aF (λj=>Pj.cA (sA s n) i j*gq r j) n) n:=by
   rw[<-sumN_mul];refine cM λj hj=>?_;rw[<-CU h (hw r ma) hj];unfold ez;rw[aY,cK,aY (l:=bK s n r),bW (by rw[Gs.tims_len r];exact hj)];show _/_*_=_;rw[eJ];show _=_*(x.getD j 0*_);simp only[nb];grind
  rw[e] at d;rcases Yc1.mp d with q|q
  .have:bS s n r r≠0:=λz=>by rw[z] at p0;exact Nq p0 (by decide)
   have:=jw _ this;rw[q,fL] at this;exact Nq this (by decide)
  .exact q
 have pos:=A.pos (sy h ev) (λa ha=>by
  have ma:(cJ s n).getD a []∈cJ s n:=gP (by rw[pa.len];exact ha);have:=sX hn _ ma
  rwa [kI h (hw _ ma) (hw _ ma)] at this) (x:=gq x) hk hne
 obtain⟨c,hc⟩:=A.made (gq x);rw[oY (λ_ _=>rfl) hc,o1,j5 λa ha=>by rw[z a ha,fL]] at pos;exact Nq pos (by decide)
theorem CV(c:List Int)(e:Int)(j:Nat):gq (c.map λx=>Rat.divInt x e) j=((c.getD j 0:Int):Rat)*((e:Int):Rat)⁻¹:=by
 unfold gq;rw[aY,cK,aY];cases c[j]? with
 |none=>show(0:Rat)=((0:Int):Rat)*_;rw[Rat.intCast_zero,fS]
 |some x=>show Rat.divInt x e=_;rw[nc,eJ];rfl
theorem GW(f:Nat->Int):∀n:Nat,((sumI f n:Int):Rat)=aF (λj=>((f j:Int):Rat)) n
 |0=>rfl
 |n+1=>by rw[sumI,aF,tI,GW f n]
theorem wP(h:IsSl s n)(hr:Lf 163 n r)(h0:bS s n r r≠0):Sk 171 337 n (ez (bK s n r) (bS s n r r))/\Pq 337 n (qg s n r):=by
 have hz:Sz 337 (bS s n r r):=(Zl h hr hr).mono (by decide);have n5:=h.n5;obtain⟨c,e,h1,h2,h3,h4,rfl⟩:=hr.ex;have rl:(c.map λx=>Rat.divInt x e).length=n:=by rw[bC];exact h1
 have ne:((e:Int):Rat)≠0:=λz=>h2 (by exact_mod_cast z);have ie:=jw _ ne
 -- the table's row,whole
 have tj:∀j,j<n->(bK s n (c.map λx=>Rat.divInt x e)).getD j 0=((sumI (λk=>sA s n j k*c.getD k 0) n:Int):Rat)*((e:Int):Rat)⁻¹:=λj hj=>by
  rw[CU h rl hj,GW,qX,<-sumN_mul];refine cM λk _=>?_;rw[CV,ft];show((sA s n j k:Int):Rat)*_=_;grind
 have Cb:∀j,j<n->(sumI (λk=>sA s n j k*c.getD k 0) n).natAbs<2^171:=λj hj=>by
  have:=Pj.sumI_bd (f:=λk=>sA s n j k*c.getD k 0) (c:=50*2^163) (n:=n) λk hk=>by
   rw[d9];refine i8 (wD h j k hj hk) ?_;rw[aY];cases q:c[k]? with
   |none=>exact i6 _
   |some x=>exact ge (h4 x (h8 q))
  have h3:n*(50*2^163)<=5*(50*2^163):=lG _ n5;have:5*(50*2^163)<2^171:=by decide +kernel
  omega
 -- the weight
 have wt:bS s n (c.map λx=>Rat.divInt x e) (c.map λx=>Rat.divInt x e)=((Pj.bI (sA s n) n (λj=>c.getD j 0) λj=>c.getD j 0:Int):Rat)*(((e:Int):Rat)⁻¹*((e:Int):Rat)⁻¹):=by
  rw[kI h rl rl,<-Pj.bI_cast,qX];unfold bf;rw[<-sumN_mul];refine cM λi _=>?_;rw[CV,cM (g:=λj=>((e:Int):Rat)⁻¹*(Pj.cA (sA s n) i j*((c.getD j 0:Int):Rat))) (λj _=>by rw[CV];grind),sumN_mul];show _=_*(((c.getD i 0:Int):Rat)*aF (λj=>((sA s n i j:Int):Rat)*((c.getD j 0:Int):Rat)) n);show _*(_*aF (λj=>((sA s n i j:Int):Rat)*((c.getD j 0:Int):Rat)) n)=_;grind
 have Wb:(Pj.bI (sA s n) n (λj=>c.getD j 0) λj=>c.getD j 0).natAbs<2^337:=by
  have cz:∀j,(c.getD j 0).natAbs<=2^163:=λj=>by
   rw[aY];cases q:c[j]? with
   |none=>exact i6 _
   |some x=>exact ge (h4 x (h8 q))
  have h1:∀i,i<n->(sumI (λj=>sA s n i j*c.getD j 0) n).natAbs<=2^171:=λi hi=>ge (Cb i hi);have h2:=Pj.sumI_bd (f:=λi=>c.getD i 0*sumI (λj=>sA s n i j*c.getD j 0) n) (c:=2^163*2^171) (n:=n) λi hi=>by
   rw[d9];exact i8 (cz i) (h1 i hi)
  have h3:n*(2^163*2^171)<=5*(2^163*2^171):=lG _ n5;have:5*(2^163*2^171)<2^337:=by decide +kernel
  unfold Pj.bI;dsimp only;omega
 generalize Pj.bI (sA s n) n (λj=>c.getD j 0) (λj=>c.getD j 0)=W at wt Wb;have W0:W≠0:=λz=>h0 (by rw[wt,z,Rat.intCast_zero,fS]);have nW:((W:Int):Rat)≠0:=λz=>W0 (by exact_mod_cast z);have iW:=jw _ nW;have fin:ez (bK s n (c.map λx=>Rat.divInt x e)) (bS s n (c.map λx=>Rat.divInt x e) (c.map λx=>Rat.divInt x e))=(cX ((List.range n).map λj=>sumI (λk=>sA s n j k*c.getD k 0) n)).map λx=>Rat.divInt e W*x:=?_;refine⟨⟨Rat.divInt e W,_,tW W0 (de h3 (j7 (by decide) (by decide))) Wb,?_,fin⟩,by unfold qg ez;rw[bC];exact Gs.tims_len _,hz,λy hy=>?_⟩
 .have:=Lf.int (b:=171) (c:=(List.range n).map λj=>sumI (λk=>sA s n j k*c.getD k 0) n) (by decide) λx hx=>by
   obtain⟨j,hj,rfl⟩:=YbQ.mp hx;exact Cb j (Yah.mp hj)
  rwa [bC,iX] at this
 .have hy:y∈ez _ _:=hy
  rw[fin] at hy;obtain⟨x,hx,rfl⟩:=YbQ.mp hy;obtain⟨z,hz,rfl⟩:=YbQ.mp hx;obtain⟨j,hj,rfl⟩:=YbQ.mp hz;have cb:=Cb j (Yah.mp hj);generalize sumI (λk=>sA s n j k*c.getD k 0) n=C at cb;have:Rat.divInt e W*((C:Int):Rat)=Rat.divInt (e*C) W:=by rw[nc,nc,eJ,eJ,ft];grind
  rw[this];refine tW W0 ?_ Wb;rw[d9];have:=oG h3 cb;have:2^163*2^171<2^337:=by decide +kernel
  omega
 .refine Ac (by unfold ez cX;simp[Gs.tims_len]) λj j1 j2=>?_
  have hj:j<n:=by unfold ez at j1;rw[bC,Gs.tims_len] at j1;exact j1
  have tg:(bK s n (c.map λx=>Rat.divInt x e))[j]'(by rw[Gs.tims_len];exact hj)=(bK s n (c.map λx=>Rat.divInt x e)).getD j 0:=by
   rw[aY,bW (by rw[Gs.tims_len];exact hj)];rfl
  simp only[ez,cX,xr,List.getElem_range];rw[tg,tj j hj,wt,nc,eJ,eJ];have nd:((W:Int):Rat)*(((e:Int):Rat)⁻¹*((e:Int):Rat)⁻¹)≠0:=by rw[<-wt];exact h0
  have i3:=jw _ nd;generalize (((W:Int):Rat)*(((e:Int):Rat)⁻¹*((e:Int):Rat)⁻¹))⁻¹=y at *;generalize ((e:Int):Rat)⁻¹=z at *;generalize ((W:Int):Rat)⁻¹=u at *;generalize ((sumI (λk=>sA s n j k*c.getD k 0) n:Int):Rat)=q;generalize ((W:Int):Rat)=w at *;generalize ((e:Int):Rat)=x at *;have:y=x*x*u:=by
   have:y*(w*(z*z))*(x*x*u)=x*x*u:=by grind
   have e2:y*(w*(z*z))*(x*x*u)=y*((w*u)*((x*z)*(x*z))):=by grind
   rw[iW,ie] at e2;grind
  rw[this];have:q*z*(x*x*u)=q*(x*z)*x*u:=by grind
  rw[this,ie];grind
end
def mX(x:D):Except Str D:=hJ x (if gI x=true then .ok (.bl (c9 (sI x) (sN x)).isNone) else .error "NotEven")
def fj(x:D):Except Str D:=hJ x (if gI x=true then .ok (fK (sI x) (sN x)) else .error "NotEven")
def qQ(s:List Int)(n:Nat):Prop:=∀k,k<n->0<fH (jt (tbl s n) (k+1))
instance(s:List Int)(n:Nat):Decidable (qQ s n):=by unfold qQ;infer_instance
def zw:bF:=fnS (λx:SL=>[aO x.1]) (λx=>IsSl x.1 x.2/\x.1.reverse=x.1) λx=>dN (gj x.1 x.2)
def zx:bF:=xS (λx:D=>[x]) (λx=>kd x=true) fj
def CW:bF:=xS (λx:D=>[x]) (λx=>kd x=true) mX
def zy:bF:=fnS (λx:SL=>[aO x.1,dN (gj x.1 x.2)]) (λx=>IsSl x.1 x.2/\x.1.reverse=x.1/\c9 x.1 x.2=none) λ_=>.bl true
def zA:bF:=fnS (λx:SL×List Rat=>[aO x.1.1,aE x.2]) (λx=>IsSl x.1.1 x.1.2/\x.1.1.reverse=x.1.1/\x.2∈cJ x.1.1 x.1.2/\bS x.1.1 x.1.2 x.2 x.2<=0) λ_=>.bl true
def zB:bF:=fnS (λx:SL=>[aO x.1,fK x.1 x.2]) (λx=>IsSl x.1 x.2/\x.1.reverse=x.1) λ_=>.bl true
def zC:bF:=fnS (λx:SL×List Rat=>[bO x.1.1 x.1.2,aE x.2]) (λx=>IsSl x.1.1 x.1.2/\Lf 163 x.1.2 x.2) λx=>aE (bK x.1.1 x.1.2 x.2)
def zD:bF:=fnS (λx:SL×List Rat=>[bO x.1.1 x.1.2,aE x.2,aE x.2]) (λx=>IsSl x.1.1 x.1.2/\Lf 163 x.1.2 x.2) λx=>aR (bS x.1.1 x.1.2 x.2 x.2)
def zE:bF:=fnS (λx:SL=>[bO x.1 x.2]) (λx=>IsSl x.1 x.2) λx=>.bl (decide (qQ x.1 x.2))
def zF:bF:=fnS (λx:Nat×SL=>[.int x.1,aO x.2.1]) (λx=>x.1<2/\IsSl x.2.1 x.2.2) λx=>jZ (if x.1=0 then mX (aO x.2.1) else fj (aO x.2.1))
def sY:bF:=fnS (λx:SL=>[aO x.1]) (λx=>IsSl x.1 x.2) λ_=>.bl true
def wQ:bF:=fnS (λns:List Int=>[.scr (ns.map .int)]) (λns=>ns.length<=63) λ_=>.bl true
section
variable{E:Ex->Prop}
theorem Mj(h:IsSl s n)(ev:s.reverse=s)(q:Q (dN (gj s n))):zw [aO s] E Q:=⟨(s,n),rfl,⟨h,ev⟩,q⟩
theorem wS(h:IsSl s n)(ev:s.reverse=s):mX (aO s)=.ok (.bl (c9 s n).isNone):=by unfold mX;rw[im h];unfold gI;rw[gF,Nr ev,h.sN];rfl
theorem GX(h:IsSl s n)(ev:s.reverse=s):fj (aO s)=.ok (fK s n):=by unfold fj;rw[im h];unfold gI;rw[gF,Nr ev,h.sN];rfl
theorem Mk(h:IsSl s n)(ev:s.reverse=s)(hn:c9 s n=none)(q:Q (.bl true)):zy [aO s,dN (gj s n)] E Q:=⟨(s,n),rfl,⟨h,ev,hn⟩,q⟩
theorem Ml(h:IsSl s n)(ev:s.reverse=s)(hn:c9 s n=some r)(q:Q (.bl true)):zA [aO s,aE r] E Q:=⟨((s,n),r),rfl,⟨h,ev,GT hn⟩,q⟩
theorem Mm(h:IsSl s n)(ev:s.reverse=s)(q:Q (.bl true)):zB [aO s,fK s n] E Q:=⟨(s,n),rfl,⟨h,ev⟩,q⟩
theorem Mn(h:IsSl s n)(hr:Lf 163 n r)(q:Q (aE (bK s n r))):zC [bO s n,aE r] E Q:=⟨((s,n),r),rfl,⟨h,hr⟩,q⟩
theorem Mo(h:IsSl s n)(hr:Lf 163 n r)(q:Q (aR (bS s n r r))):zD [bO s n,aE r,aE r] E Q:=⟨((s,n),r),rfl,⟨h,hr⟩,q⟩
theorem Mp(h:IsSl s n)(q:Q (.bl (decide (qQ s n)))):zE [bO s n] E Q:=⟨(s,n),rfl,h,q⟩
theorem zG(h:IsSl s n)(q:Q (.bl true)):sY [aO s] E Q:=⟨(s,n),rfl,h,q⟩
theorem Mq(h:IsSl s n)(ev:s.reverse=s):qQ s n↔c9 s n=none:=by
 have pa:=qP h ev;have hw:∀r∈cJ s n,r.length=n:=λr hr=>(pa.lf r hr).len;have A:=pa.ap' h ev;have sy:=Mf (A:=sA s n) h.n5 (λa b ha hb=>zn h ev a b ha hb) A;have e1:(∀a,a<n->0<bf (Pj.cA (sA s n)) n (pU (cJ s n) a) (pU (cJ s n) a))↔c9 s n=none:=by
  have w:∀a,a<n->bf (Pj.cA (sA s n)) n (pU (cJ s n) a) (pU (cJ s n) a)=bS s n ((cJ s n).getD a []) ((cJ s n).getD a []):=λa ha=>by
   have ma:(cJ s n).getD a []∈cJ s n:=gP (by rw[pa.len];exact ha);exact(kI h (hw _ ma) (hw _ ma)).symm
  constructor
  .intro hp
   refine List.find?_eq_none.mpr λr hr=>?_;obtain⟨a,ha,e⟩:=Ybu.mp hr;have ha':a<n:=by rw[<-pa.len];exact ha
   have:=hp a ha';rw[w a ha',aY,bW ha,nb,e] at this;have:¬bS s n r r<=0:=by grind
   simpa using this
  .intro hn a ha
   rw[w a ha];exact sX hn _ (gP (by rw[pa.len];exact ha))
 have e2:(∀k,k<=n->0<dt (sA s n) k)↔qQ s n:=by
  have d:∀k,k<n->fH (jt (tbl s n) (k+1))=dt (sA s n) (k+1):=λk hk=>by
   have sm:=CB (a:=k) h hk;rw[num_dt sm (by have:=h.n5;omega)];refine Gn λi hi j hj=>?_;have hl:=jD s n;show tA _ i j=tT s n i j;unfold tA jt tT ga gr;simp only[aY];rw[cK,uo,if_pos hi,bW (l:=tbl s n) (by omega)];simp only[o6,nb];rw[uo,if_pos hj]
  constructor
  .intro hp k hk;rw[d k hk];exact hp _ (by omega)
  .intro hp k hk
   cases k with
   |zero=>exact Int.one_pos
   |succ k=>rw[<-d k (by omega)];exact hp k (by omega)
 rw[<-e2,<-e1];exact sy.symm
end
abbrev Zgn:List Str:=["slants", "squares", "row", "weight"]
def CY:WS:=(aG (bX 1 (bN aA)) (aG (bB (bD (iS (wF wG (aC (wN 0) aA))) (gN 2) (aG (aQ 3 (wF mW (aC (wN 0) (aC (wN 2) (aC (wN 2) aA))))) (cE (wT (w2 (gEq true) (wN 3) (wC (D.tup [(D.int (0)),(D.int (1))])))) (dj 1 (aX (aC (wN 3) (aC (wF vK (aC (wF vp (aC (wN 0) (aC (wN 2) aA))) (aC (wN 3) aA))) aA)))) cF)))) (bM 1 (aK (wN 1)))))
abbrev ZiD:List Str:=["slants"]
def GY:WS:=(aK (w2 (gEq false) (w2 gIx (wF zx (aC (wN 0) aA)) (wC (D.int (0)))) (wC (D.str (PySem.Str.ofString "above")))))
abbrev ZcJ:List Str:=["slants", "thing", "size", "weights_good"]
def GZ:WS:=(aG (aQ 2 (wF oh (aC (wN 0) aA))) (aG (cE (dC (aW (wT (wF Cu (aC (wN 0) (aC (wN 1) aA))))) (wT (w2 (gEq true) (wB bL (aC (wN 1) aA)) (wN 2)))) (aK (wC (D.bl false))) cF) (aG (aQ 3 (wB iK (aC (wL (aLC (iS (wN 1)) 2 [] (dF 2 (cI (gN 0) (cI (gN 1) dE))) cV (w2 jo (w2 gIx (wN 0) (wC (D.int (0)))) (wC (D.int (0)))))) aA))) (aK (fo (wN 3) (wF CN (aC (wL (aLC (iS (wN 1)) 2 [] (dF 2 (cI (gN 0) (cI (gN 1) dE))) cV (wN 1))) (aC (wN 2) aA))))))))
abbrev Zef:List Str:=["slants", "thing"]
def G0:WS:=(aG (cE (dC (aW (wT (wF sB (aC (wN 0) (aC (wN 1) aA))))) (wT (w2 (gEq false) (wN 1) (w2 Zdk (aX (aC (wC (D.tup [(D.int (0)),(D.int (1))])) aA)) (wF oh (aC (wN 0) aA)))))) (aK (wC (D.bl false))) cF) (aK (w2 jn (w2 gIx (wF mW (aC (wN 0) (aC (wN 1) (aC (wN 1) aA)))) (wC (D.int (0)))) (wC (D.int (0))))))
abbrev Zgv:List Str:=["slants", "thing"]
def G1:WS:=(aG (gO (wF sM (aC (wN 0) aA))) (aG (cE (dC (aW (wT (wB gIs (aC (wN 1) (aC (wC (.ty "tuple")) aA))))) (wT (w2 (gEq true) (wB bL (aC (wN 1) aA)) (wC (D.int (2)))))) (aK (wC (D.bl false))) cF) (aG (cE (wT (w2 (gEq false) (w2 gIx (wN 1) (wC (D.int (0)))) (wC (D.str (PySem.Str.ofString "above"))))) (aK (wF zy (aC (wN 0) (aC (w2 gIx (wN 1) (wC (D.int (1)))) aA)))) cF) (aK (fo (w2 (gEq false) (w2 gIx (wN 1) (wC (D.int (0)))) (wC (D.str (PySem.Str.ofString "not")))) (wF zA (aC (wN 0) (aC (w2 gIx (wN 1) (wC (D.int (1)))) aA))))))))
abbrev ZfP:List Str:=["slants", "row"]
def CZ:WS:=(aG (bD (iS (wF wG (aC (wN 0) aA))) (gN 1) (cE (wT (w2 jn (w2 gIx (wF mW (aC (wN 0) (aC (wN 1) (aC (wN 1) aA)))) (wC (D.int (0)))) (wC (D.int (0))))) (aK (aX (aC (wC (D.str (PySem.Str.ofString "not"))) (aC (wN 1) aA)))) cF)) (aK (aX (aC (wC (D.str (PySem.Str.ofString "above"))) (aC (wF zw (aC (wN 0) aA)) aA)))))
abbrev Zh1:List Str:=["_law_table", "_law_row"]
def G3:WS:=(aK (wB ky (aC (wL (aLC (iS (wN 0)) 1 [1] (gN 0) cV (wF sL (aC (wL (aLC (iS (wN 0)) 1 [] (gN 0) cV (aX (aC (wN 0) (aC (wC (D.int (1))) aA))))) (aC (wN 1) aA))))) aA)))
abbrev Zh2:List Str:=["_law_table", "_law_one", "_law_other"]
def G4:WS:=(aK (wF sL (aC (wN 1) (aC (wF zC (aC (wN 0) (aC (wN 2) aA))) aA))))
abbrev Zde:List Str:=["_law_table"]
def G5:WS:=(aK (w2 jo (wB wK (aC (wL (aLC (i5 (aC (wC (D.int (1))) (aC (w2 gAdd (wB bL (aC (wN 0) aA)) (wC (D.int (1)))) aA))) 1 [0] (gN 0) cV (wF BG (aC (wL (aLC (iS (cD (wN 1) eG (dU (wN 0)))) 1 [0] (gN 0) cV (cD (wN 0) eG (dU (wN 1))))) aA)))) aA)) (wC (D.int (0)))))
abbrev ZhZ:List Str:=["_law_way", "_law_slants", "_law_e"]
def G6:WS:=(eO LX 3 2 (aK (sO [((PySem.Str.ofString "is_above"),CW),((PySem.Str.ofString "above_paper"),zx)] (w2 gIx (wL (bN (aC (wC (.cls (PySem.Str.ofString "is_above"))) (aC (wC (.cls (PySem.Str.ofString "above_paper"))) aA)))) (wN 0)) (aC (wN 1) aA))) (aK (wF yH (aC (wN 2) aA))))
abbrev ZeT:List Str:=["_law_slants", "_law_found", "_law_paper", "_law_table", "_law_due"]
def C0:WS:=(aG (dL 1 2 (aC (wF zF (aC (wC (D.int (0))) (aC (wN 0) aA))) (aC (wF zF (aC (wC (D.int (1))) (aC (wN 0) aA))) aA))) (aG (cE (wT (w2 (gEq true) (wN 0) (w1 gRev (wN 0)))) (aK (Zb (gEq false) (gEq false) (wN 1) (wN 2) (aX (aC (wC (D.str (PySem.Str.ofString "even"))) aA)))) cF) (aG (aQ 3 (wF yI (aC (wN 0) aA))) (aG (aQ 4 (wF zE (aC (wN 3) aA))) (aG (cE (dC (aW (wT (wB gIs (aC (wN 1) (aC (wC (.ty "bool")) aA))))) (dC (wT (w2 (gEq true) (wN 1) (wN 4))) (dC (aW (wT (wB gIs (aC (wN 2) (aC (wC (.ty "tuple")) aA))))) (wT (w2 (gEq true) (wB bL (aC (wN 2) aA)) (wC (D.int (2)))))))) (aK (wC (D.bl false))) cF) (aG (cE (dC (wT (w2 (gEq true) (w2 gIx (wN 2) (wC (D.int (0)))) (w2 gIx (wL (bN (aC (wC (D.str (PySem.Str.ofString "not"))) (aC (wC (D.str (PySem.Str.ofString "above"))) aA)))) (wB fW (aC (wN 4) aA))))) (wT (w2 (gIsC true) (wF zB (aC (wN 0) (aC (wN 2) aA))) (wC (D.bl true))))) (aK (wC (D.bl false))) cF) (aG (cE (aW (wT (wN 4))) (aG (cE (dC (aW (wT (wF vE (aC (w2 gIx (wN 2) (wC (D.int (1)))) (aC (wB bL (aC (wN 3) aA)) aA))))) (wT (w2 (gEq false) (wL (aLC (iS (w2 gIx (wN 2) (wC (D.int (1))))) 1 [] (gN 0) (wT (w2 (gEq true) (w2 gIx (wN 0) (wC (D.int (0)))) (wC (D.int (0))))) (wN 0))) (wL (bN aA))))) (aK (wC (D.bl false))) cF) (aK (w2 jn (w2 gIx (wF zD (aC (wN 3) (aC (w2 gIx (wN 2) (wC (D.int (1)))) (aC (w2 gIx (wN 2) (wC (D.int (1)))) aA)))) (wC (D.int (0)))) (wC (D.int (0)))))) cF) (aG (cE (dC (aW (wT (wF y4 (aC (wN 3) (aC (w2 gIx (wN 2) (wC (D.int (1)))) aA))))) (wT (w2 (gEq true) (wB bL (aC (w2 gIx (wN 2) (wC (D.int (1)))) aA)) (wB bL (aC (wN 3) aA))))) (aK (wC (D.bl false))) cF) (aK (w2 jo (wB wK (aC (wL (aLC (iS (w2 gIx (wN 2) (wC (D.int (1))))) 2 [] (dF 2 (cI (gN 0) (cI (gN 1) dE))) cV (w2 gIx (wN 0) (wC (D.int (0)))))) aA)) (wC (D.int (0)))))))))))))
abbrev G7:List Str:=["_law_script", "_law_slants", "_law_cell", "_law_pen", "_law_size", "_law_great"]
def zH:WS:=(aG (bB (bD (iS (wL (bN (aC (aX (aC (wC (D.int (0))) aA)) (aC (aX (aC (wC (D.int (5))) aA)) (aC (aX (aC (w1 jp (wC (D.int (5)))) aA)) (aC (aX (aC (wC (D.int (1))) (aC (wC (D.int (1))) (aC (wC (D.int (1))) aA)))) (aC (aX (aC (wC (D.int (1))) (aC (wC (D.int (2))) (aC (wC (D.int (1))) aA)))) (aC (aX (aC (wC (D.int (2))) (aC (wC (D.int (1))) (aC (wC (D.int (2))) aA)))) (aC (aX (aC (wC (D.int (0))) (aC (wC (D.int (1))) (aC (wC (D.int (0))) aA)))) (aC (aX (aC (wC (D.int (1))) (aC (wC (D.int (0))) (aC (wC (D.int (2))) (aC (wC (D.int (0))) (aC (wC (D.int (1))) aA)))))) (aC (aX (aC (w1 jp (wC (D.int (1)))) (aC (w1 jp (wC (D.int (1)))) (aC (wC (D.int (3))) (aC (w1 jp (wC (D.int (1)))) (aC (w1 jp (wC (D.int (1)))) aA)))))) aA)))))))))))) (gN 1) (cE (aW (wT (wF sY (aC (wN 1) aA)))) (aK (wC (D.bl false))) cF))) (aG (bB (bD (iS (w2 gAdd (wL (bN (aC (wF yA (aC (wN 0) (aC (wC (D.int (0))) aA))) aA))) (cD (wN 0) (dU (wC (D.int (1)))) (dU (wC (D.int (8))))))) (gN 2) (aG (aQ 3 (wF yB (aC (wN 2) aA))) (aG (aQ 1 (wF yZ (aC (wN 3) aA))) (aG (aQ 4 (w2 gD (w2 gAdd (wB bL (aC (wN 1) aA)) (wC (D.int (1)))) (wC (D.int (2))))) (aG (aQ 5 (w2 gAdd (w2 gAdd (cD (wN 1) eG (dU (w2 jm (wN 4) (wC (D.int (1)))))) (aX (aC (wC (D.int (50))) aA))) (cD (wN 1) (dU (wN 4)) eG))) (cE (dC (aW (wT (wF sY (aC (wN 1) aA)))) (dC (aW (wT (wF sY (aC (wF vF (aC (wN 3) aA)) aA)))) (aW (wT (wF sY (aC (wN 5) aA)))))) (aK (wC (D.bl false))) cF))))))) (aK (wC (D.bl true)))))
section
theorem wU(h:IsSl s n)(ev:s.reverse=s)(hr:r∈cJ s n):Lf 163 n r:=(qP h ev).lf r hr
theorem Zr(h:IsSl s n)(ev:s.reverse=s)(hr:r∈cJ s n):∃y∈r,y≠0:=by
 refine Classical.byContradiction λhn=>?_;have pa:=qP h ev;obtain⟨a,ha,e⟩:=Ybu.mp hr;have ha':a<n:=by rw[<-pa.len];exact ha
 have z:=(pa.ap' h ev).ind (c:=jF a) (λk hk=>by
  unfold dW;rw[ww _ ha'];show((cJ s n).getD a []).getD k 0=0;rw[aY (l:=cJ s n),bW ha,nb,e,aY];cases q:r[k]? with
  |none=>rfl
  |some y=>exact Classical.byContradiction λhy=>hn ⟨y,h8 q,hy⟩) a ha'
 unfold jF at z;rw[if_pos rfl] at z;exact Nq z (by decide)
theorem C1(h:IsSl s n)(ev:s.reverse=s)(hr:Lf 163 n r){E:Ex->Prop}(q:Q (aR (bS s n r r))):mW [aO s,aE r,aE r] E Q:=
 zt h ev hr.len hr.len (λx hx=>(hr.sz x hx).mono (by decide)) (λx hx=>(hr.sz x hx).mono (by decide)) q
theorem zI(q:Rat):decide (q.num<=0)=decide (q<=0):=by
 have:=(ZmX (q:=q)).1;rw[decide_eq_decide];constructor<;>intro h<;>grind
end
theorem Mr:Rd zw CY Zgn:=by
 rintro _ E Q ⟨⟨s,n⟩,rfl,⟨h,ev⟩,q⟩;dsimp only at h ev q;have n5:=h.n5;show CY E _ [.d (aO s),.un,.un,.un];unfold CY;refine cO (B.C.own_by (xs:=[]) (ρ':=[.d (aO s),.ow [],.un,.un]) rfl (λP hP=>⟨by decide,hP⟩) ?_);dsimp only;refine cO ?_;simp only[bB];refine B.C.for_seq (xs:=(cJ s n).map aE) (λP hP=>?_) ?_
 .walk_at "st"
  exact GI h ev hP
 have pl:=(qP h ev).len;refine sG (λds ρ=>∃F L s2 s3,ds=List.map aE L/\F++L=cJ s n/\ρ=[.d (aO s),.ow (((F.filter λr=>!decide (bS s n r r=0)).map (qg s n)).map iQ),s2,s3]) ?_ ?_ _ _ ⟨[],cJ s n,.un,.un,rfl,rfl,rfl⟩
 .rintro d ds _ ⟨F,L,s2,s3,e,eF,rfl⟩ nx hnx
  cases L with
  |nil=>cases e
  |cons r L=>
  rw[cR] at e;injection e with e1 e2
  subst e1;have mr:r∈cJ s n:=by rw[<-eF];simp
  have hr:=wU h ev mr;have Fl:F.length<=5:=by have:=congrArg List.length eF;simp at this;omega
  show aG _ _ _ _ [.d (aO s),.ow _,.d (aE r),s3];refine cO (iP (d:=aR (bS s n r r)) (ρ':=[.d (aO s),.ow (((F.filter λr=>!decide (bS s n r r=0)).map (qg s n)).map iQ),.d (aE r),.d (aR (bS s n r r))]) rfl (λP hP=>?_) ?_)
  .walk_at "st"
   exact C1 h ev hr hP
  dsimp only;refine gi (b:=!decide (bS s n r r=0)) (λP hP=>?_) (λe=>?_) λe=>?_
  .walk_at "st"
   exact GL hP
  .have e0:bS s n r r≠0:=by simpa using e
   refine sR (xs:=((F.filter λr=>!decide (bS s n r r=0)).map (qg s n)).map iQ) (d:=iQ (qg s n r)) (ρ':=[.d (aO s),.ow ((((F++[r]).filter λr=>!decide (bS s n r r=0)).map (qg s n)).map iQ),.d (aE r),.d (aR (bS s n r r))]) rfl (oF (show _<=5 by rw[bC,bC];exact fQ (List.length_filter_le _ _) Fl) (by decide)) ?_ (λP hP=>?_) ?_
   .rw[List.filter_append,List.filter_cons_of_pos (by rw[e]),List.filter_nil,m9,m9]
    rfl
   .walk_at "st"
    exact DX h hr.len ⟨163,hr.sz,by decide⟩ (Fo (b:=5*(163+8)+1) (by decide) (by rw[Gs.tims_len];omega) (Gv h hr.sz) ((Zl h hr hr).mono (by decide)) e0 ⟨by decide,hP⟩)
   .exact hnx _ ⟨F++[r],L,_,_,e2,by rw[mZ];exact eF,rfl⟩
  .refine hnx _ ⟨F++[r],L,.d (aE r),.d (aR (bS s n r r)),e2,by rw[mZ];exact eF,?_⟩
   rw[List.filter_append,List.filter_cons_of_neg (by rw[e];decide),List.filter_nil,qh]
 .rintro _ ⟨F,L,s2,s3,e,eF,rfl⟩
  cases L with
  |cons r L=>cases e
  |nil=>
  rw[qh] at eF;rw[eF];dsimp only;refine B.C.pub_by (ρ':=[.d (aO s),.d (dN (gj s n)),s2,s3]) rfl ?_;walk_at "st";exact q
theorem Ms:Rd zx CZ ZfP:=by
 rintro _ E Q ⟨x,rfl,hk,q⟩;show CZ E _ [.d x,.un];unfold CZ;unfold fj at q;refine cO ?_;simp only[bD,iS,wF,aC,aA,wN,eK];cases e:gh x with
 |false=>exact xS.err x rfl hk (by unfold wE;exact pZ e) (oR e q)
 |true=>
 obtain⟨s,n,rfl,h⟩:=qL e;replace q:=oS h q;cases ev:gI (aO s) with
 |false=>
  rw[ev] at q;exact xS.err (aO s) rfl hk (by(try dsimp only);unfold wE;rw[im h,ev];rfl) q
 |true=>
 rw[ev,gF,h.sN] at q;simp only[if_true] at q;replace q:Q (fK s n):=q;have ev':s.reverse=s:=by unfold gI at ev;rw[gF] at ev;simpa using ev
 refine GI h ev' ?_;refine sG (λds ρ=>∃F L s1,ds=List.map aE L/\F++L=cJ s n/\c9 s n=L.find? (λr=>decide (bS s n r r<=0))/\ρ=[.d (aO s),s1]) ?_ ?_ _ _ ⟨[],cJ s n,.un,rfl,rfl,rfl,rfl⟩
 .rintro d ds _ ⟨F,L,s1,e,eF,eN,rfl⟩ nx hnx
  cases L with
  |nil=>cases e
  |cons r L=>
  rw[cR] at e;injection e with e1 e2
  subst e1;have mr:r∈cJ s n:=by rw[<-eF];simp
  have hr:=wU h ev' mr;show cE _ _ _ _ _ [.d (aO s),.d (aE r)];refine gi (b:=decide (bS s n r r<=0)) (λP hP=>?_) (λe=>?_) λe=>?_
  .walk_at "st"
   refine C1 h ev' hr ⟨_,rfl,?_⟩;rw[<-zI] at hP;exact⟨trivial,hP⟩
  .rw[List.find?_cons_of_pos (by exact e)] at eN
   unfold fK at q;rw[eN] at q;walk_at "st";exact⟨by decide,q⟩
  .rw[List.find?_cons_of_neg (by rw[e];decide)] at eN
   exact hnx _ ⟨F++[r],L,_,e2,by rw[mZ];exact eF,eN,rfl⟩
 .rintro _ ⟨F,L,s1,e,eF,eN,rfl⟩
  cases L with
  |cons r L=>cases e
  |nil=>
  rw[List.find?_nil] at eN;unfold fK at q;rw[eN] at q;walk_at "st";exact Mj h ev' ⟨by decide,q⟩
theorem Mu:Rd CW GY ZiD:=by
 rintro _ E Q ⟨x,rfl,hk,q⟩;unfold GY;walk_at "st";unfold mX at q;cases e:gh x with
 |false=>exact xS.err x rfl hk (by unfold fj;exact pZ e) (oR e q)
 |true=>
 obtain⟨s,n,rfl,h⟩:=qL e;replace q:=oS h q;cases ev:gI (aO s) with
 |false=>
  rw[ev] at q;exact xS.err (aO s) rfl hk (by(try dsimp only);unfold fj;rw[im h,ev];rfl) q
 |true=>
 rw[ev,gF,h.sN] at q;simp only[if_true] at q;have ev':s.reverse=s:=by unfold gI at ev;rw[gF] at ev;simpa using ev
 refine xS.ok (aO s) rfl hk (GX h ev') ?_;unfold fK;cases hn:c9 s n with
 |none=>
  rw[hn] at q;exact⟨_,rfl,jq (by decide +kernel) (by decide +kernel) (by rw[show fE (.str "above") (.str "above")=true from by decide +kernel];exact q)⟩
 |some r=>
  rw[hn] at q;exact⟨_,rfl,jq (by decide +kernel) (by decide +kernel) (by rw[show fE (.str "not") (.str "above")=false from by decide +kernel];exact q)⟩
section
theorem C2{a b:Nat}:∀{p q:List Rat} {N:Nat},(∀x∈p,Sz a x)->(∀y∈q,Sz b y)->p.length*(a+b+1)<=N->Dz N p q
 |[],_,_,_,_,_=>trivial
 |_::_,[],_,_,_,_=>trivial
 |x::p,y::q,N,h1,h2,hl=>by
  rw[dS,m6] at hl;exact⟨a,b,h1 x (by simp),h2 y (by simp),by omega,C2 (λz hz=>h1 z (by simp[hz])) (λz hz=>h2 z (by simp[hz])) (by omega)⟩
theorem G8(h:IsSl s n)(ev:s.reverse=s)(hn:c9 s n=none):(gj s n).length=n:=by rw[wO hn,bC,(qP h ev).len]
theorem zJ(h:IsSl s n)(ev:s.reverse=s){p:Pr}(hp:p∈gj s n):Sk 171 337 n p.2/\Pq 337 n p/\p.1≠0:=by
 obtain⟨r,hr,rfl⟩:=YbQ.mp hp;have hr:=Yag.mp hr;have h0:bS s n r r≠0:=by simpa using hr.2
 have:=wP h (wU h ev hr.1) h0;exact⟨this.1,this.2,h0⟩
theorem G9(h:IsSl s n)(ev:s.reverse=s):(gj s n).length<=5:=by
 unfold gj;rw[bC];have:=List.length_filter_le (λr=>!decide (bS s n r r=0)) (cJ s n);rw[(qP h ev).len] at this;have:=h.n5;omega
theorem Ha(h:IsSl s n)(ev:s.reverse=s):kd (dN (gj s n))=true/\eu 337 (dN (gj s n))=true/\qf 337 (dN (gj s n)):=by
 have l5:=G9 h ev;have n5:=h.n5;refine⟨Jg (by rw[bC];omega) λx hx=>?_,?_,λxs e _=>?_⟩
 .obtain⟨p,hp,rfl⟩:=YbQ.mp hx
  refine vg (by simp) λy hy=>?_;simp only[Yan,gu,or_false] at hy;rcases hy with rfl|rfl
  .exact DM _
  .exact ss (by rw[(zJ h ev hp).2.1.l];omega)
 .unfold dN
  rw[eu,vA];intro x hx;obtain⟨p,hp,rfl⟩:=YbQ.mp hx;have P:=(zJ h ev hp).2.1;unfold iQ;rw[eu,dR,dR,dR,c6,c6,ZiN,Zc3];exact⟨P.w,P.r,rfl⟩
 .injection e with e
  rw[<-e,bC];unfold sT;omega
theorem Hb(h:IsSl s n)(ev:s.reverse=s)(hn:c9 s n=none):t8 s n (dN (gj s n))=true:=by
 unfold t8;rw[Cy,Nr (Mh h ev hn),Bool.and_true];have l5:=G9 h ev;unfold F3 dN;rw[c6,Nt,bC,Ybf];refine⟨by omega,λx hx=>?_⟩;obtain⟨p,hp,rfl⟩:=YbQ.mp hx;obtain⟨_,P,p0⟩:=zJ h ev hp;have:=sD p.2;rw[P.l] at this;unfold cZ iQ;simp only[DU,qM,this];simpa using p0
end
theorem Mv:Rd zy GZ ZcJ:=by
 rintro _ E Q ⟨⟨s,n⟩,rfl,⟨h,ev,hn⟩,q⟩;dsimp only at h ev hn q;have n5:=h.n5;have sl:=G8 h ev hn;obtain⟨k1,k2,k3⟩:=Ha h ev;unfold GZ;walk_at "nx";refine vt h ?_;walk_at "nx";refine xS.ok ((337,s,n),dN (gj s n)) rfl ⟨h,k1,k2,k3⟩ (by unfold Ct;dsimp only;rw[if_pos ev,Hb h ev hn]) ?_;unfold dN;walk_at "st";rw[bC,sl];rw[NF,if_neg (by decide)];walk_at "nx";refine ub (f:=λp=>.bl (decide (p.1.num>0))) _ (λp hp P hP=>?_) .un .un [] (hU (by simp;omega)) ⟨(gj s n).map λp=>decide (p.1.num>0),by rw[dI,List.map_map];rfl,?_⟩
 .walk_at "st"
  exact⟨_,rfl,trivial,hP⟩
 rw[show((gj s n).map λp=>decide (p.1.num>0)).all id=true by
  rw[ug,Ybf];intro p hp;rw[wO hn] at hp;obtain⟨r,hr,rfl⟩:=YbQ.mp hp;exact Nr (ZmX.1.mpr (sX hn r hr))]
 walk_at "st";refine ub (f:=λp=>aE p.2) _ (λp hp P hP=>hP) .un .un [] (hU (by simp;omega)) ?_;rw[dI];refine⟨((n,n),(gj s n).map (·.2)),by dsimp only;unfold bU;rw[List.map_map];rfl,wJ (b:=171) (c:=337) (λr hr=>?_) (cB _) (show n<=1000 by omega) (by simp;omega) ?_ ?_ ?_,?_⟩
 .obtain⟨p,hp,rfl⟩:=YbQ.mp hr
  exact(zJ h ev hp).1
 .rw[bC,sl]
  have:=qc (b:=171) (show n-1<=4 by omega);have:bq 171 4=2751:=by decide
  omega
 .rw[bC,sl]
  have:=qc (b:=171) (show n-1<=4 by omega);have:bq 171 4=2751:=by decide
  omega
 .rw[bC,sl]
  have:=qc (b:=171) (show n-2<=3 by omega);have:bq 171 3=1375:=by decide
  omega
 .dsimp only
  rw[Mi h ev hn,bC,sl,Nr rfl];exact q
theorem Mw:Rd zA G0 Zef:=by
 rintro _ E Q ⟨⟨⟨s,n⟩,r⟩,rfl,⟨h,ev,hr,h0⟩,q⟩;dsimp only at h ev hr h0 q;have n5:=h.n5;have lf:=wU h ev hr;have ir:=sD r;rw[lf.len] at ir;unfold G0;walk_at "nx";refine Ba h (ss (by rw[lf.len];omega)) ?_;rw[ir];walk_at "st";refine⟨by decide,vt h ⟨by omega,by omega,hU (by simp;omega),?_⟩⟩;have e:D.tup ((List.replicate ((n:Int)).toNat [D.tup [.int 0,.int 1]]).flatten)=aE (List.replicate n 0):=by
  rw[iU,Ad];unfold aE;rw[uj];rfl
 rw[e];refine jq (ye _ _) (ye _ _) ?_;rw[Fh,Nw λz=>by
  obtain⟨y,hy,y0⟩:=Zr h ev hr;rw[z] at hy;exact y0 (List.eq_of_mem_replicate hy)]
 refine C1 h ev lf ⟨_,rfl,trivial,?_⟩;show Q (.bl (decide ((bS s n r r).num<=0)));rw[zI,Nr h0];exact q
theorem Mx:Rd zB G1 Zgv:=by
 rintro _ E Q ⟨⟨s,n⟩,rfl,⟨h,ev⟩,q⟩;dsimp only at h ev q;unfold G1;walk_at "nx";refine GH h ev ?_;unfold fK;cases hn:c9 s n with
 |none=>
  refine cO (gi (b:=false) (λP hP=>?_) (λe=>nomatch e) λ_=>?_)
  .walk_at "st"
   exact⟨"tuple",rfl,by decide,hP⟩
  dsimp only;refine cO (gi (b:=true) (λP hP=>?_) (λ_=>?_) λe=>nomatch e)
  .walk_at "st"
   exact⟨_,rfl,pX (by decide +kernel) hP⟩
  walk_at "st";exact⟨_,rfl,Mk h ev hn q⟩
 |some r=>
  refine cO (gi (b:=false) (λP hP=>?_) (λe=>nomatch e) λ_=>?_)
  .walk_at "st"
   exact⟨"tuple",rfl,by decide,hP⟩
  dsimp only;refine cO (gi (b:=false) (λP hP=>?_) (λe=>nomatch e) λ_=>?_)
  .walk_at "st"
   exact⟨_,rfl,jq (by decide +kernel) (by decide +kernel) (by rw[show fE (.str "not") (.str "above")=false from by decide +kernel];exact hP)⟩
  walk_at "st";exact⟨_,rfl,pX (by decide +kernel) ⟨_,rfl,Ml h ev hn q⟩⟩
theorem My:Rd zC G3 Zh1:=by
 rintro _ E Q ⟨⟨⟨s,n⟩,r⟩,rfl,⟨h,hr⟩,q⟩;dsimp only at h hr q;have h5:=h.n5;unfold G3 bO;walk_at "st";refine jX (g:=λline=>bT line) (f:=λline=>aR (bV (cX line) r)) (tbl s n) (λline hline Q hq=>?_) .un [] (by simp[jD,aM];omega) ?_
 .obtain⟨t1,t2⟩:=lj h line hline
  unfold bT;walk_at "st";refine jX (g:=λi:Int=>D.int i) (f:=λi:Int=>aR (i:Rat)) line (λi hi Q hq=>?_) .un [] (hU (by simp;omega)) ?_
  .walk_at "st"
   exact⟨by decide,hq⟩
  .rw[dI]
   refine⟨((false,true),cX line,r),?_,C2 (a:=6) (b:=163) (λx hx=>?_) hr.sz (by unfold cX;rw[bC];omega),hq⟩
   .show[D.lst _,aE r]=[D.lst _,aE r]
    unfold cX;rw[List.map_map];rfl
   .obtain⟨i,hi,rfl⟩:=YbQ.mp hx
    exact yz (t2 i hi)
 .have e:(tbl s n).map (λline=>aR (bV (cX line) r))=(bK s n r).map aR:=by
   unfold bK;rw[List.map_map];rfl
  rw[dI,e];walk_at "st";exact q
theorem Mz:Rd zD G4 Zh2:=by
 rintro _ E Q ⟨⟨⟨s,n⟩,r⟩,rfl,⟨h,hr⟩,q⟩;dsimp only at h hr q;have h5:=h.n5;have hl:=hr.len;unfold G4;walk_at "st";exact Mn h hr ⟨((true,true),r,bK s n r),rfl,C2 (a:=163) (b:=5*(163+8)+1) hr.sz (Gv h hr.sz) (by show r.length*_<=_;omega),q⟩
theorem Zf:Rd zE G5 Zde:=by
 rintro _ E Q ⟨⟨s,n⟩,rfl,h,q⟩;dsimp only at h q;have h5:=h.n5;have h1:=h.n1;have hl:=jD s n;unfold G5;walk_at "st";refine⟨by omega,?_⟩;rw[show rng 1 ((n:Int)+1-1).toNat=(List.range n).map λk:Nat=>D.int ((k:Int)+1) by
  rw[show((n:Int)+1-1).toNat=n by omega];unfold rng;refine h9 λk _=>?_;rw[Int.add_comm]]
 refine jX (g:=λk:Nat=>D.int ((k:Int)+1)) (f:=λk=>.int (fH (jt (tbl s n) (k+1)))) (List.range n) (λk hk Q hq=>?_) .un [] (hU (by simp;omega)) ⟨(List.range n).map λk=>fH (jt (tbl s n) (k+1)),by unfold its;rw[dI,List.map_map];rfl,by simp;omega,λm hm hle=>⟨trivial,?_⟩⟩
 .have hk:=Yah.mp hk
  have sm:=CB (a:=k) h hk;unfold bO;walk_at "st";rw[show(k:Int)+1=((k+1:Nat):Int) by omega,oj (b:=k+1) rfl,<-kK];refine jX (g:=bT) (f:=λr=>bT (r.take (k+1))) ((tbl s n).take (k+1)) (λr hr Q hq=>?_) .un [] (hU (by simp;omega)) ?_
  .unfold bT
   walk_at "st";rw[oj (b:=k+1) rfl,<-kK];exact hq
  refine⟨jt (tbl s n) (k+1),?_,⟨by rw[sm.len];exact sm,by rw[sm.len];omega⟩,hq⟩;unfold p9 jt;dsimp only;rw[List.map_map];rfl
 .have e:decide (m>0)=decide (qQ s n):=by
   rw[decide_eq_decide];constructor
   .intro hm0 k hk
    have:=hle _ (m8 (f:=λk=>fH (jt (tbl s n) (k+1))) (Yah.mpr hk));omega
   .intro hd
    obtain⟨k,hk,rfl⟩:=YbQ.mp hm;exact hd k (Yah.mp hk)
  show Q (.bl (decide (m>0)));rw[e];exact q
theorem MA{x:D}{e:Str}(h:mX x=.error e):e∈LX:=by
 unfold mX hJ at h;split at h
 .split at h
  .cases h
  .injection h with h;rw[<-h];simp
 .injection h with h;rw[<-h];simp
theorem MB{x:D}{e:Str}(h:fj x=.error e):e∈LX:=by
 unfold fj hJ at h;split at h
 .split at h
  .cases h
  .injection h with h;rw[<-h];simp
 .injection h with h;rw[<-h];simp
theorem MC:Rd zF G6 ZhZ:=by
 rintro _ E Q ⟨⟨k,s,n⟩,rfl,⟨hk,h⟩,q⟩;dsimp only at hk h q;unfold G6;simp only[eO];refine⟨λex=>ex∈LX/\Q (.tup [.str (om ex)]),λex ⟨he,hq⟩=>⟨he,?_⟩,?_⟩
 .unfold tU
  walk_at "st";exact Kg he hq
 .refine B.C.E.sel_at hk (nm_at rfl) (λe=>?_) λe=>?_
  .subst e
   walk_at "st";simp only[if_true] at q;refine⟨aO s,rfl,h.kd,?_⟩;cases er:mX (aO s) with
   |ok v=>rw[er] at q;exact q
   |error e=>rw[er] at q;exact⟨MA er,q⟩
  .subst e
   walk_at "st";rw[if_neg (by decide)] at q;refine⟨aO s,rfl,h.kd,?_⟩;cases er:fj (aO s) with
   |ok v=>rw[er] at q;exact q
   |error e=>rw[er] at q;exact⟨MB er,q⟩
section
theorem wV(h:IsSl s n)(ev:s.reverse=s):decide (qQ s n)=(c9 s n).isNone:=by
 have:=Mq h ev;cases e:c9 s n with
 |none=>rw[Nr (this.mpr e)];rfl
 |some r=>rw[Nw λz=>by have:=this.mp z;rw[e] at this;cases this];rfl
theorem MD(q:Rat):decide (q.num>0)=decide (0<q):=by
 have:=zI q
 by_cases h:q<=0
 .have h2:¬0<q:=by grind
  have h3:q.num<=0:=by rw[Nr h] at this;simpa using this
  rw[Nw h2,Nw (by omega)]
 .have h2:0<q:=by grind
  have h3:¬q.num<=0:=by rw[Nw h] at this;simpa using this
  rw[Nr h2,Nr (by omega)]
end
theorem ME:Rd sY C0 ZeT:=by
 rintro _ E Q ⟨⟨s,n⟩,rfl,h,q⟩;dsimp only at h q;have n5:=h.n5;have n1:=h.n1;have ht:=jD s n;show C0 E _ [.d (aO s),.un,.un,.un,.un];unfold C0;refine cO (LP.par_by (x:=jZ (mX (aO s))) (y:=jZ (fj (aO s))) (ρ':=[.d (aO s),.d (jZ (mX (aO s))),.d (jZ (fj (aO s))),.un,.un]) (by rfl) (λP hP=>?_) ?_)
 .walk_at "st"
  exact⟨(0,s,n),rfl,⟨(by decide:(0:Nat)<2),h⟩,⟨(1,s,n),rfl,⟨(by decide:(1:Nat)<2),h⟩,hP⟩⟩
 dsimp only
 by_cases ev:s.reverse=s
 rotate_left
 .have e1:mX (aO s)=.error "NotEven" :=by unfold mX;rw[im h];unfold gI;rw[gF,Nw ev];rfl
  have e2:fj (aO s)=.error "NotEven" :=by unfold fj;rw[im h];unfold gI;rw[gF,Nw ev];rfl
  rw[e1,e2];refine cO (gi (b:=true) (Cz (x:=aO s) (y:=aO s.reverse) (λP h=>h) (λP h=>?_) (λP h=>jq (tO _ _) (tO _ _) ?_)) (λ_=>?_) λe=>nomatch e)
  .unfold aO
   walk_at "st";rw[<-qj];exact h
  .rw[if_pos rfl,BP,Nw λz=>ev z.symm];exact h
  have ek:(jZ (.error "NotEven" : Except Str D))=.tup [.str "even"]:=by show D.tup [D.str (om "NotEven")]=_;rw[show om "NotEven" = "even" by decide +kernel]
  rw[ek];walk_at "st";refine pX (Ge _) ?_;walk_at "st";exact⟨by decide,pX (Ge _) q⟩
 rw[wS h ev,GX h ev];dsimp only[jZ];refine cO (gi (b:=false) (Cz (x:=aO s) (y:=aO s.reverse) (λP h=>h) (λP h=>?_) (λP h=>jq (tO _ _) (tO _ _) ?_)) (λe=>nomatch e) λ_=>?_)
 .unfold aO
  walk_at "st";rw[<-qj];exact h
 .rw[if_pos rfl,BP,Nr ev.symm];exact h
 dsimp only;refine cO (LP.set_by (d:=bO s n) (ρ':=[.d (aO s),.d (.bl (c9 s n).isNone),.d (fK s n),.d (bO s n),.un]) (by rfl) (λP hP=>?_) ?_)
 .walk_at "st"
  exact Kh h hP
 dsimp only;refine cO (LP.set_by (d:=.bl (c9 s n).isNone) (ρ':=[.d (aO s),.d (.bl (c9 s n).isNone),.d (fK s n),.d (bO s n),.d (.bl (c9 s n).isNone)]) (by rfl) (λP hP=>?_) ?_)
 .walk_at "st"
  exact Mp h (by rw[wV h ev];exact hP)
 dsimp only;have ag:=λ(E:Ex->Prop) (P:D->Prop) (hP:P (.bl true))=>Mm (E:=E) h ev hP;cases hn:c9 s n with
 |none=>
  have hG:=Hb h ev hn;obtain⟨hk,hz,hf⟩:=Ha h ev;have sl:=G8 h ev hn;unfold fK at ag ⊢;rw[hn] at ag ⊢;dsimp only[Option.isNone_none] at ag ⊢;refine cO (gi (b:=false) (λP hP=>?_) (λe=>nomatch e) λ_=>?_)
  .walk_at "st"
   refine li (by rw[kd]) (by decide) λt ht=>?_;cases ht;walk_at "st";rw[if_neg (by decide)];refine pX (by decide) ?_;walk_at "st";exact⟨"tuple",rfl,by decide,hP⟩
  dsimp only;refine cO (gi (b:=false) (λP hP=>?_) (λe=>nomatch e) λ_=>?_)
  .walk_at "st"
   refine⟨_,rfl,⟨by decide,⟨_,rfl,?_⟩⟩⟩;refine pX (by decide +kernel) ?_;walk_at "st";exact ag _ _ ⟨by decide,hP⟩
  dsimp only;refine cO (gi (b:=false) (λP hP=>?_) (λe=>nomatch e) λ_=>?_)
  .walk_at "st"
   exact hP
  dsimp only;refine cO (gi (b:=false) (λP hP=>?_) (λe=>nomatch e) λ_=>?_)
  .walk_at "st"
   refine⟨_,rfl,LA h ev hk hz hf ?_⟩;rw[hG];walk_at "st";refine⟨_,rfl,?_⟩;unfold dN;walk_at "st";rw[bC,sl];rw[show((n:Int)==(n:Int))=true by simp];exact hP
  walk_at "st";refine⟨_,rfl,?_⟩;unfold dN;walk_at "st";refine ub (f:=λp=>.int p.1.num) _ (λp hp P hP=>⟨_,rfl,hP⟩) .un .un [] (hU (by simp;omega)) ?_;refine⟨(gj s n).map λp=>p.1.num,by unfold its;rw[dI,List.map_map];rfl,λz=>?_,λm hm hle=>⟨trivial,?_⟩⟩
  .have:=congrArg List.length z
   simp[sl] at this;omega
  .obtain⟨p,hp,rfl⟩:=YbQ.mp hm
   show Q (.bl (decide (p.1.num>0)));have:0<p.1:=by
    rw[wO hn] at hp;obtain⟨r,hr,rfl⟩:=YbQ.mp hp;exact sX hn r hr
   rw[MD,Nr this];exact q
 |some r=>
  obtain⟨hr,h0⟩:=GT hn;have lf:=wU h ev hr;have ir:=sD r;rw[lf.len] at ir;unfold fK at ag ⊢;rw[hn] at ag ⊢;dsimp only[Option.isNone_some] at ag ⊢;refine cO (gi (b:=false) (λP hP=>?_) (λe=>nomatch e) λ_=>?_)
  .walk_at "st"
   refine li (by rw[kd]) (by decide) λt ht=>?_;cases ht;walk_at "st";rw[if_neg (by decide)];refine pX (by decide) ?_;walk_at "st";exact⟨"tuple",rfl,by decide,hP⟩
  dsimp only;refine cO (gi (b:=false) (λP hP=>?_) (λe=>nomatch e) λ_=>?_)
  .walk_at "st"
   refine⟨_,rfl,⟨by decide,⟨_,rfl,?_⟩⟩⟩;refine pX (by decide +kernel) ?_;walk_at "st";exact ag _ _ ⟨by decide,hP⟩
  dsimp only;walk_at "nx";refine cO (gi (b:=false) (λP hP=>?_) (λe=>nomatch e) λ_=>?_)
  .unfold bO
   walk_at "st";rw[bC,ht];refine⟨_,rfl,ET (ss (by rw[lf.len];omega)) ?_⟩;rw[ir];walk_at "st";refine⟨_,rfl,?_⟩;unfold aE;walk_at "st";refine yN (g:=aR) (p:=λy:Rat=>decide (y.num≠0)) r (λy hy P hP=>?_) .un [] (hU (by rw[lf.len];simp;omega)) ?_
   .walk_at "st"
    refine⟨_,rfl,?_⟩;walk_at "st";have e:(!y.num==0)=decide (y.num≠0):=by by_cases z:y.num=0<;>simp[z]
    rw[e];exact hP
   .refine⟨by decide,jq (yc λx hx=>?_) (by decide) ?_⟩
    .rw[dI] at hx
     obtain⟨y,_,rfl⟩:=YbQ.mp hx;exact qI _ _
    .obtain⟨y,hy,y0⟩:=Zr h ev hr
     cases hF:r.filter λy=>decide (y.num≠0) with
     |nil=>exact Nq (by simpa using List.filter_eq_nil_iff.mp hF y hy) y0
     |cons a l=>exact hP
  walk_at "st";refine⟨_,rfl,_,rfl,Mo h lf ⟨_,rfl,trivial,?_⟩⟩;show Q (.bl (decide ((bS s n r r).num<=0)));rw[zI,Nr h0];exact q
theorem MF(h:IsSl s n):IsSl (s.take (n-1)++[50]++s.drop n) n:=by
 have hl:=h.len;have n1:=h.n1;refine⟨?_,h.n1,h.n5,λx hx=>?_⟩
 .simp only[dX,gS,jv,dS,i7];omega
 .simp only[Yao,YcJ] at hx
  rcases hx with(hx|rfl)|hx
  .exact h.b x (m7 hx)
  .decide
  .exact h.b x (qV hx)
theorem MG:Rd wQ zH G7:=by
 rintro _ E Q ⟨xs,rfl,hx,q⟩;dsimp only at hx q;show zH E _ [.d (.scr (xs.map .int)),.un,.un,.un,.un,.un];generalize hS:D.scr (xs.map .int)=S;unfold zH;refine cO ?_;simp only[bB];refine for_seq (xs:=([[0],[5],[-5],[1,1,1],[1,2,1],[2,1,2],[0,1,0],[1,0,2,0,1],[-1,-1,3,-1,-1]]:List (List Int)).map aO) (λP h=>?_) ?_
 .walk_at "st"
  refine⟨by decide,by decide,by decide,by decide,by decide,by decide,by decide,by decide,by decide,by decide,h⟩
 refine Bu (λρ=>∃s1,ρ=[.d S,s1,.un,.un,.un,.un]) _ ?_ ?_ _ ⟨_,rfl⟩
 .rintro d hd _ ⟨s1,rfl⟩ nx hnx
  obtain⟨s,hs,rfl⟩:=YbQ.mp hd;have hs:∃n,IsSl s n:=by
   simp only[Yan,gu,or_false] at hs;rcases hs with rfl|rfl|rfl|rfl|rfl|rfl|rfl|rfl|rfl
   .exact⟨1,rfl,by decide,by decide,by decide⟩
   .exact⟨1,rfl,by decide,by decide,by decide⟩
   .exact⟨1,rfl,by decide,by decide,by decide⟩
   .exact⟨2,rfl,by decide,by decide,by decide⟩
   .exact⟨2,rfl,by decide,by decide,by decide⟩
   .exact⟨2,rfl,by decide,by decide,by decide⟩
   .exact⟨2,rfl,by decide,by decide,by decide⟩
   .exact⟨3,rfl,by decide,by decide,by decide⟩
   .exact⟨3,rfl,by decide,by decide,by decide⟩
  obtain⟨n,hs⟩:=hs;show cE _ _ _ _ _ [.d S,.d (aO s),.un,.un,.un,.un];refine gi (b:=false) (λP hP=>?_) (λe=>nomatch e) λ_=>hnx _ ⟨_,rfl⟩;walk_at "st";exact zG hs hP
 rintro _ ⟨s1,rfl⟩;dsimp only;refine cO ?_;have ec:∃cs:List Int,bZ (xs.map D.int) (some 1) (some 8)=cs.map D.int/\cs.length<=63:=by
  refine⟨bZ xs (some 1) (some 8),?_,?_⟩
  .unfold bZ
   rw[bC,kK,tF]
  .unfold bZ
   rw[gS,jv];omega
 obtain⟨cs,ec,hcs⟩:=ec;simp only[bB];refine for_seq (xs:=(xs.getD 0 0::cs).map D.int) (λP h=>?_) ?_
 .subst hS
  walk_at "st";refine JR (i:=0) ?_;walk_at "st";rw[ec];exact⟨by decide,by simp[aM];omega,h⟩
 clear ec hcs;refine Bu (λρ=>∃s1 s2 s3 s4 s5,ρ=[.d S,s1,s2,s3,s4,s5]) _ ?_ ?_ _ ⟨_,_,_,_,_,rfl⟩
 rotate_left
 .rintro _ ⟨s1,s2,s3,s4,s5,rfl⟩
  exact q
 rintro d hd _ ⟨s1,s2,s3,s4,s5,rfl⟩ nx hnx;obtain⟨c,_,rfl⟩:=YbQ.mp hd;clear hd;show aG _ _ _ _ [.d S,s1,.d (.int c),s3,s4,s5];refine cO (LP.set_by (d:=.pen) (ρ':=[.d S,s1,.d (.int c),.d .pen,s4,s5]) (by rfl) (λP h=>?_) ?_)
 .walk_at "st"
  exact JS h
 dsimp only;refine cO (LG (λd=>∃s n,d=aO s/\IsSl s n/\s.reverse=s) (λP h=>?_) ?_)
 .walk_at "st"
  exact Lz λs n hs he=>h _ ⟨s,n,rfl,hs,he⟩
 rintro _ ⟨s,n,rfl,hs,he⟩;have n1:=hs.n1;have n5:=hs.n5;have hl:=hs.len;dsimp only[List.set_cons_succ,List.set_cons_zero];refine cO (LP.set_by (d:=.int n) (ρ':=[.d S,.d (aO s),.d (.int c),.d .pen,.d (.int n),s5]) (by rfl) (λP h=>?_) ?_)
 .unfold aO
  walk_at "st";rw[bC,show((s.length:Int)+1).fdiv 2=n by rw[xu _ (by decide)];omega];exact⟨⟨by decide,qa (b:=3) (by decide) (by decide)⟩,h⟩
 dsimp only;refine cO (LP.set_by (d:=aO (s.take (n-1)++[50]++s.drop n)) (ρ':=[.d S,.d (aO s),.d (.int c),.d .pen,.d (.int n),.d (aO (s.take (n-1)++[50]++s.drop n))]) (by rfl) (λP h=>?_) ?_)
 .unfold aO at h ⊢
  walk_at "st";rw[oj (b:=n-1) (by omega),yy (a:=n) (by rw[bC];omega),<-kK,<-tF];refine⟨by decide,hU (by simp;omega),hU (by simp;omega),?_⟩;simpa using h
 dsimp only;refine gi (b:=false) (λP hP=>?_) (λe=>nomatch e) λ_=>hnx _ ⟨_,_,_,_,_,rfl⟩;walk_at "st";refine zG hs ?_;walk_at "st";refine EU λs' n' hs'=>zG hs' ?_;walk_at "st";refine zG (MF hs) ?_;walk_at "st";exact hP
theorem MH{a:Addr}{ns:List Int}(hl:ns.length<=63)(hO:pP H)(hS:SqL K H a (ns.map V.int)):fV K wQ [.ref a] H (λv _=>v=.bl true) λ_ _ _=>False:=by
 have rv:∀W:Wd,Reps K W (ns.map V.int) (ns.map D.int):=λW=>by
  clear hl hS
  induction ns with
  |nil=>exact .nil
  |cons n ns ih=>exact .cons (.int n) ih
 have ok:WOk ⟨H,λ_=>False⟩ H:=⟨λ_ _ e=>e,λ_ e=>e.elim⟩
 refine⟨[.scr (ns.map .int)],⟨H,λ_=>False⟩,ok,.cons (.scr ?_ (rv _)) .nil,ns,rfl,hl,λv W' H' _ r=>?_⟩
 .rcases hS with(h|h)|h
  .rcases hO a with z|⟨o,xs,z⟩
   .rw[h] at z;cases z
   .rw[h] at z;cases z
  .exact .inl h
  .exact .inr h
 .cases r;rfl
def top(i:Nat):Stmt:=PySem.Challenge.pw_slanttables_k43_being_above_told.main.body.getD i (.Pass ⟨0,0,0,0⟩)
structure Bs(K:Nn)(mg:Str->Option Value):Prop where
 aa:FnAt K mg "is_whole" (top 3)
 ab:FnAt K mg "is_within" (top 4)
 ac:FnAt K mg "are_within" (top 5)
 ad:FnAt K mg "common_divisor" (top 6)
 ae:FnAt K mg "is_share" (top 7)
 af:FnAt K mg "is_row_within" (top 8)
 ag:FnAt K mg "is_row" (top 9)
 ah:FnAt K mg "share_by" (top 10)
 ai:FnAt K mg "plus" (top 11)
 aj:FnAt K mg "minus" (top 12)
 ak:FnAt K mg "times" (top 13)
 al:FnAt K mg "by" (top 14)
 am:FnAt K mg "row_of" (top 15)
 an:FnAt K mg "one_at" (top 16)
 ao:FnAt K mg "row_by" (top 17)
 ap:FnAt K mg "row_less" (top 18)
 aq:FnAt K mg "sum_of_products" (top 19)
 ar:FnAt K mg "first_with" (top 21)
 as:FnAt K mg "without_place" (top 22)
 au:FnAt K mg "cleared" (top 23)
 av:FnAt K mg "are_independent" (top 24)
 aw:FnAt K mg "size_of" (top 40)
 ax:FnAt K mg "slants_good" (top 41)
 ay:FnAt K mg "need_slants" (top 42)
 az:FnAt K mg "table_of" (top 43)
 a0:FnAt K mg "turned_slants" (top 44)
 a1:FnAt K mg "row_good" (top 45)
 a2:FnAt K mg "share_rows" (top 46)
 a3:FnAt K mg "times_row" (top 47)
 a4:FnAt K mg "is_even" (top 50)
 a5:FnAt K mg "need_even" (top 51)
 a6:FnAt K mg "pair_at" (top 52)
 a7:FnAt K mg "is_weighed" (top 53)
 a8:FnAt K mg "left_by" (top 54)
 a9:FnAt K mg "squares_good" (top 55)
 ba:FnAt K mg "lead_among" (top 56)
 bb:FnAt K mg "apart_from" (top 57)
 bc:FnAt K mg "apart_rows" (top 58)
 bd:FnAt K mg "squares_of" (top 59)
 be:FnAt K mg "is_above" (top 60)
 bf:FnAt K mg "above_squares_good" (top 61)
 bg:FnAt K mg "not_above_good" (top 62)
 bh:FnAt K mg "above_good" (top 63)
 bi:FnAt K mg "above_paper" (top 64)
 bj:FnAt K mg "_law_cell_at" (top 66)
 bk:FnAt K mg "_law_next" (top 67)
 bl:FnAt K mg "_law_pen_of" (top 68)
 bm:FnAt K mg "_law_draw" (top 69)
 bn:FnAt K mg "_law_whole" (top 70)
 bo:FnAt K mg "_law_kind_of" (top 71)
 bp:FnAt K mg "_law_refused" (top 72)
 bq:FnAt K mg "_law_gcd" (top 73)
 br:FnAt K mg "_law_share" (top 74)
 bs:FnAt K mg "_law_dot" (top 75)
 bt:FnAt K mg "_law_share_like" (top 76)
 bu:FnAt K mg "_law_row_like" (top 77)
 bv:FnAt K mg "_law_slants_of" (top 78)
 bw:FnAt K mg "_law_even_of" (top 79)
 bx:FnAt K mg "_law_table_of" (top 80)
 bz:FnAt K mg "_law_taken" (top 81)
 b0:FnAt K mg "_law_number_of" (top 82)
 b1:FnAt K mg "_law_made" (top 83)
 b2:FnAt K mg "_law_form" (top 84)
 b3:FnAt K mg "_law_are_squares" (top 85)
 b4:FnAt K mg "_law_is_above_of" (top 86)
 b5:FnAt K mg "_law_told" (top 87)
 b6:FnAt K mg "_law_right_of" (top 88)
 b7:FnAt K mg "law" (top 89)
 b8:mg "len" = none
 b9:mg "int" = none
 ca:mg "range" = none
 cb:mg "tuple" = none
 cd:mg "max" = none
 ce:mg "abs" = none
 cf:mg "zip" = none
 cg:mg "bool" = none
 ch:mg "isinstance" = none
 ci:mg "all" = none
 cj:mg "list" = none
 ck:mg "min" = none
 cl:mg "ValueError" = none
 cm:CC K mg "NoLine"
 cn:CC K mg "NoNumber"
 co:CC K mg "NoRow"
 cp:CC K mg "NoSlants"
 cq:CC K mg "NoText"
 cr:CC K mg "NotEven"
 cs:CC K mg "NotFull"
 ct:CC K mg "NotStrong"
 cu:CC K mg "TooGreat"
 xi:XI K LX MX
 cv:CI mg "GREATEST_SIZE" (5)
 cw:CI mg "LEAST" (-50)
 cx:CI mg "MOST" (50)
 cy:XC K mg "NoSlants"
 cz:XC K mg "NotEven"
 c0:CT K mg "NOUGHT" [(D.int (0)),(D.int (1))]
 c1:XC K mg "NoRow"
 c2:mg "enumerate" = none
 c3:CT K mg "ONE" [(D.int (1)),(D.int (1))]
 c4:XT K mg "SlantError" LX
 c5:CI mg "MOST_SQUARES" (10)
section
variable{w:World}(Z:Bs K mg)
include Z
theorem MI:Fp P w K mg base 1 "_law_cell_at" (Ze9.take 2) yA:=cH JU Z.bj λsc hr hx hw=>aU (dw (dB sd (aD 1) (cC eR Z.b8 Nz (Za (aD 0) aH))) (aS (bA (bJ aN (aD 0) (aD 1)))) dv) (aS (bA aL))
theorem Hc:Fp P w K mg base 1 "_law_next" (Zh0.take 1) vz:=cH JV Z.bk λsc hr hx hw=>aU (cU 0 (aZ qF (aZ eH (aD 0) aL) aL) sc) (aS (bA (aZ qF (aZ eH (aZ eH (aZ fc (aD 0) (aD 0)) (aZ fc aL (aD 0))) aL) aL)))
theorem qR:Fp P w K mg base 2 "_law_draw" (Zh3.take 2) ol:=cH JX Z.bm λsc hr hx hw=>aU (dw (dB (da hr.units) (bJ ve (aD 0) aL) aL) (aU (cU 2 (aZ qF (bJ ve (aD 0) aL) (aD 1)) sc) (aU (DD 0 0 (aZ n4 (bJ ve (aD 0) aL) (aD 1))) (aS (bA (aD 2))))) dv) (aU (DD 0 2 (aT (Hc Z) hr hx (Za (aZ eH (aT (Hc Z) hr hx (Za (bJ ve (aD 0) aL) aH)) aL) aH))) (aS (bA (aZ qF (aZ n4 (bJ ve (aD 0) aL) aL) (aD 1)))))
theorem Hd:Fp P w K mg base 3 "_law_slants_of" (Zeh.take 1) vF:=cH Kn Z.bv λsc hr hx hw=>aU (cU 1 (aZ eH aL (aT (qR Z) hr hx (Za (aD 0) (Za aL aH)))) sc) (aU (cU 2 (bJ aN (PXL.px (gB (Za aL (Za aL (Za aL (Za aL (Za aL aH))))))) (aT (qR Z) hr hx (Za (aD 0) (Za aL aH)))) sc) (aU (tN 3 ["_law_turn"] [0,2] rfl sc (n8 Z.ca (Za (aZ jg (aZ fc aL (aD 1)) aL) aH)) (λ_ _ _=>(cG 0 (by decide +kernel:List.Nodup (["_law_turn", "_law_pen", "_law_most"]:List Str)))) (λ_ _ _=>eS) (λ_ _ _=>(aZ jg (aT (qR Z) hr dq (Za (aD 1) (Za (aZ eH (aZ fc aL (aD 2)) aL) aH))) (aD 2)))) (aU (cU 4 (aT (qR Z) hr hx (Za (aD 0) (Za aL aH))) sc) (aU (cU 5 (aZ eH aL (aT (qR Z) hr hx (Za (aD 0) (Za aL aH)))) sc) (aU (dw (dB (da hr.units) (aD 4) aL) (aS (sf 3 (DC 3 (Jd (aZ fc (ji (aD 3) jA (ik (aD 5))) aL) jA (ik (cC eR Z.b8 Nz (Za (aD 3) aH))))) sc)) dv) (aU (dw (dB (da hr.units) (aD 4) aL) (aS (DB 3 (aZ jg (aD 1) aL) (bJ aN (PXL.px (gB (Za aL (Za (qA qG aL) (Za aL aH))))) (aT (qR Z) hr hx (Za (aD 0) (Za aL aH)))))) dv) (aU (dw (dB (da hr.units) (aD 4) aL) (aS (EN 3 3 ["_law_number"] [0] rfl sc (fe (aD 3)) (λ_ _ _=>(cG 0 (by decide +kernel:List.Nodup (["_law_number", "_law_pen"]:List Str)))) (λ_ _ _=>eS) (λ_ _ _=>(aZ fc (aD 0) (nY va Z.b9 NV (Za (g6 (da hr.units) (aT (qR Z) hr dq (Za (aD 1) (Za aL aH))) aL) aH)))))) dv) (aU (dw (dB Bj (aD 4) (fb (Za aL (Za aL (Za aL aH))))) (aS (sf 3 (DC 3 (Jc (ji (aD 3) jA (ik (aD 1))) (xR (ji (aD 3) jA (ik (aZ jg (aD 1) aL)))))) sc)) dv) (gM 3 (aS (bA (nY tL Z.cb NE (Za (aD 3) aH)))))))))))))
theorem MJ:Fp P w K mg base 4 "_law_even_of" (Ze8.take 1) yZ:=cH LF Z.bw λsc hr hx hw=>aU (cU 1 (aT (Hd Z) hr hx (Za (aD 0) aH)) sc) (aU (cU 2 (aZ n4 (aZ eH (cC eR Z.b8 Nz (Za (aD 1) aH)) aL) aL) sc) (aU (dw (dB (da hr.units) (aT (qR Z) hr hx (Za (aD 0) (Za aL aH))) aL) (aS (cU 1 (aZ eH (ji (aD 1) jA (ik (aZ jg (aD 2) aL))) (fb (Za aL aH))) sc)) dv) (aS (bA (aZ eH (ji (aD 1) jA (ik (aD 2))) (xR (ji (aD 1) jA (ik (aZ jg (aD 2) aL)))))))))
theorem MK:Fp P w K mg base 1 "_law_pen_of" (ZfQ.take 1) yB:=cH JW Z.bl λsc hr hx hw=>aU (cU 1 (cC (u9 rfl) Z.cd boot_max (Za (aD 0) (Za (aZ jg aL (aD 0)) aH))) sc) (aS (bA (Je (gB (Za (aD 1) (Za (nY va Z.b9 NV (Za (g6 AT (aD 1) (aZ u6 aL aL)) aH)) (Za (aZ qF (aD 1) aL) aH)))))))
theorem He:Fp P w K mg base 1 "_law_gcd" (ZiE.take 2) tX:=cH Kj Z.bq λsc hr hx hw=>aU (cU 0 (cC AV Z.ce boot_abs (Za (aD 0) aH)) sc) (aU (cU 1 (cC AV Z.ce boot_abs (Za (aD 1) aH)) sc) (aU (iM (A0 PassesOwn.never (dB (dh hr.units) (aD 1) aL) (aS (AZ 0 1 sc (Za (aD 1) (Za (aZ qF (aD 0) (aD 1)) aH)))))) (aS (bA (aD 0)))))
theorem ML:Fp P w K mg base 2 "_law_share" (Zgy.take 2) tV:=cH Kk Z.br λsc hr hx hw=>aU (cU 2 (aT (He Z) hr hx (Za (aD 0) (Za (aD 1) aH))) sc) (aU (dw (dB sd (aD 1) aL) (aS (cU 2 (qA qG (aD 2)) sc)) dv) (aS (bA (fb (Za (aZ n4 (aD 0) (aD 2)) (Za (aZ n4 (aD 1) (aD 2)) aH))))))
theorem zK:Fp P w K mg base 3 "_law_dot" (ZiF.take 2) sL:=cH KR Z.bs λsc hr hx hw=>aU (cU 2 aL sc) (aU (cU 3 aL sc) (aU (iM (jj PassesOwn.never rfl (xY Z.cf (Za (aD 0) (Za (aD 1) aH))) (kB rfl (fq (cG 4 sc) (fq (cG 5 sc) kA))) (aU (cU 2 (aZ eH (aZ fc (aZ fc (aD 2) (bJ aN (aD 4) aL)) (bJ aN (aD 5) aL)) (aZ fc (aZ fc (bJ aN (aD 4) aL) (bJ aN (aD 5) aL)) (aD 3))) sc) (aS (cU 3 (aZ fc (aZ fc (aD 3) (bJ aN (aD 4) aL)) (bJ aN (aD 5) aL)) sc))))) (aS (bA (aT (ML Z) hr hx (Za (aD 2) (Za (aD 3) aH)))))))
theorem Hf:Fp P w K mg base 1 "_law_whole" (Zgw.take 1) vB:=cH J1 Z.bn λsc hr hx hw=>aS (bA (lJ (cC jB Z.ch Nu (Za (aD 0) (Za (jk Z.b9 NV) aH))) (oM (Dq (cC jB Z.ch Nu (Za (aD 0) (Za (jk Z.cg boot_bool) aH)))))))
theorem Hg:Fp P w K mg base 2 "_law_share_like" (Zbo.take 1) tY:=cH rd__law_share_like Z.bt λsc hr hx hw=>aU (dw (PXW.pxt (fU (eh (eE (cC jB Z.ch Nu (Za (aD 0) (Za (jk Z.cb NE) aH))))) (fU (dB (dh hr.units) (cC eR Z.b8 Nz (Za (aD 0) aH)) aL) (fU (eh (eE (aT (Hf Z) hr hx (Za (bJ aN (aD 0) aL) aH)))) (i4 (eh (eE (aT (Hf Z) hr hx (Za (bJ aN (aD 0) aL) aH))))))))) (aS (bA fN)) dv) (aS (bA (lJ (g6 jV (bJ aN (aD 0) aL) aL) (oM (g6 (da hr.units) (aT (He Z) hr hx (Za (bJ aN (aD 0) aL) (Za (bJ aN (aD 0) aL) aH))) aL)))))
theorem Hh:Fp P w K mg base 3 "_law_row_like" (ZeS.take 2) vE:=cH Kl Z.bu λsc hr hx hw=>aS (bA (lJ (cC jB Z.ch Nu (Za (aD 0) (Za (jk Z.cb NE) aH))) (lJ (g6 (da hr.units) (cC eR Z.b8 Nz (Za (aD 0) aH)) (aD 1)) (oM (cC (vb rfl) Z.ci boot_all (Za (PXL.px (gg ["_law_one"] [] rfl (fe (aD 0)) (λ_ _ _=>(cG 0 (by decide +kernel:List.Nodup (["_law_one"]:List Str)))) (λ_ _ _=>eS) (λ_ _ _=>(aT (Hg Z) hr dq (Za (aD 0) aH))))) aH))))))
theorem MM:Fp P w K mg base 4 "_law_are_squares" (Zdf.take 2) y4:=cH LR Z.b3 λsc hr hx hw=>aU (dw (PXW.pxt (fU (eh (eE (cC jB Z.ch Nu (Za (aD 1) (Za (jk Z.cj boot_list) aH))))) (i4 (dB jV (cC eR Z.b8 Nz (Za (aD 1) aH)) aL)))) (aS (bA fN)) dv) (aU (iM (jj PassesOwn.never rfl (fe (aD 1)) (cG 2 sc) (aU (dw (PXW.pxt (fU (eh (eE (cC jB Z.ch Nu (Za (aD 2) (Za (jk Z.cb NE) aH))))) (fU (dB (dh hr.units) (cC eR Z.b8 Nz (Za (aD 2) aH)) aL) (fU (eh (eE (aT (Hg Z) hr dq (Za (bJ aN (aD 2) aL) aH)))) (i4 (dB (da hr.units) (bJ aN (aD 2) aL) (fb (Za aL (Za aL aH))))))))) (aS (bA fN)) dv) (aS (dw (eh (eE (aT (Hh Z) hr dq (Za (bJ aN (aD 2) aL) (Za (cC eR Z.b8 Nz (Za (aD 0) aH)) aH))))) (aS (bA fN)) dv))))) (gM 5 (aU (iM (jj PassesOwn.never rfl (n8 Z.ca (Za (cC eR Z.b8 Nz (Za (aD 0) aH)) aH)) (cG 3 sc) (gM 5 (aS (iM (jj PassesOwn.never rfl (n8 Z.ca (Za (aZ eH (aD 3) aL) aH)) (cG 4 sc) (aU (tN 5 ["_law_weight", "_law_row"] [3,4] rfl sc (fe (aD 1)) (λ_ _ _=>(kB rfl (fq (cG 0 (by decide +kernel:List.Nodup (["_law_weight", "_law_row", "_law_i", "_law_j"]:List Str))) (fq (cG 1 (by decide +kernel:List.Nodup (["_law_weight", "_law_row", "_law_i", "_law_j"]:List Str))) kA)))) (λ_ _ _=>eS) (λ_ _ _=>(aT (zK Z) hr dq (Za (PXL.px (gB (Za (bJ aN (aD 1) (aD 2)) aH))) (Za (PXL.px (gB (Za (bJ aN (aD 1) (aD 3)) aH))) aH))))) (gM 5 (aS (dw (dB (dh hr.units) (aT (zK Z) hr dq (Za (PXL.px (gg ["_law_weight", "_law_row"] [] rfl (fe (aD 1)) (λ_ _ _=>(kB rfl (fq (cG 0 (by decide +kernel:List.Nodup (["_law_weight", "_law_row"]:List Str))) (fq (cG 1 (by decide +kernel:List.Nodup (["_law_weight", "_law_row"]:List Str))) kA)))) (λ_ _ _=>eS) (λ_ _ _=>(aD 0)))) (Za (aD 5) aH))) (fb (Za (bJ aN (bJ aN (aD 0) (aD 3)) (aD 4)) (Za aL aH)))) (aS (bA fN)) dv)))))))))) (aS (bA fN)))))
theorem MN:Fp P w K mg base 4 "_law_made" (Zh1.take 2) zC:=cH My Z.b1 λsc hr hx hw=>aS (bA (nY tL Z.cb NE (Za (PXL.px (gg ["_law_line"] [1] rfl (fe (aD 0)) (λ_ _ _=>(cG 0 (by decide +kernel:List.Nodup (["_law_line", "_law_row"]:List Str)))) (λ_ _ _=>eS) (λ_ _ _=>(aT (zK Z) hr dq (Za (PXL.px (gg ["_law_number"] [] rfl (fe (aD 0)) (λ_ _ _=>(cG 0 (by decide +kernel:List.Nodup (["_law_number"]:List Str)))) (λ_ _ _=>eS) (λ_ _ _=>(fb (Za (aD 0) (Za aL aH)))))) (Za (aD 1) aH)))))) aH)))
theorem MO:Fp P w K mg base 5 "_law_form" (Zh2.take 3) zD:=cH Mz Z.b2 λsc hr hx hw=>aS (bA (aT (zK Z) hr hx (Za (aD 1) (Za (aT (MN Z) hr hx (Za (aD 0) (Za (aD 2) aH))) aH))))
theorem MP:Fp P w K mg base 1 "_law_taken" (Zgx.take 4) BF:=cH Kw Z.bz λsc hr hx hw=>aU (sf 4 (gB aH) sc) (aU (iM (jj PassesOwn.never rfl (n8 Z.ca (Za (cC eR Z.b8 Nz (Za (aD 0) aH)) aH)) (cG 5 sc) (aU (cU 6 (aZ jg (aZ fc (bJ aN (aD 0) (aD 5)) (bJ aN (aD 1) (aD 2))) (aZ fc (bJ aN (aD 0) (aD 2)) (bJ aN (aD 1) (aD 5)))) sc) (aS (xX 4 (aZ n4 (aD 6) (aD 3))))))) (gM 4 (aS (bA (aD 4)))))
theorem MQ:Fp P w K mg base 2 "_law_number_of" (Zei.take 1) BG:=cH KC Z.b0 λsc hr hx hw=>aU (sf 1 (gg ["_law_row"] [] rfl (fe (aD 0)) (λ_ _ _=>(cG 0 (by decide +kernel:List.Nodup (["_law_row"]:List Str)))) (λ_ _ _=>eS) (λ_ _ _=>(PXL.px (AQ AU Z.cj boot_list (Za (aD 0) aH))))) sc) (aU (cU 2 aL sc) (aU (cU 3 aL sc) (gM 5 (aU (iM (jj PassesOwn.never rfl (n8 Z.ca (Za (A1 1 (cC eR Z.b8 Nz (Za (aD 1) aH))) aH)) (cG 4 sc) (aU (EN 5 1 ["_law_k"] [1,4] rfl sc (AX Z.ca (Za (aD 4) (Za (cC eR Z.b8 Nz (Za (aD 1) aH)) aH))) (λ_ _ _=>(cG 0 (by decide +kernel:List.Nodup (["_law_k", "_law_rows", "_law_at"]:List Str)))) (λ_ _ _=>(Dx (dB (dh hr.units) (bJ aN (bJ aN (aD 1) (aD 0)) (aD 2)) aL))) (λ_ _ _=>(aD 0))) (gM 5 (aU (dw (dB (da hr.units) (aD 5) (PXL.px (gB aH))) (aS (bA aL)) dv) (gM 5 (aU (Kp 1 (fb (Za (xZ 1 (bJ aN (aD 5) aL)) (Za (xZ 1 (aD 4)) aH))) (aD 4) (bJ aN (aD 5) aL)) (gM 5 (aU (cU 2 (aZ fc (aD 2) (aZ jg aL (aZ fc aL (nY va Z.b9 NV (Za (g6 (dh hr.units) (bJ aN (aD 5) aL) (aD 4)) aH))))) sc) (aU (iM (jj PassesOwn.never rfl (AX Z.ca (Za (aZ eH (aD 4) aL) (Za (A1 1 (cC eR Z.b8 Nz (Za (aD 1) aH))) aH))) (cG 6 sc) (aS (DB 1 (aD 6) (aT (MP Z) hr dq (Za (xZ 1 (aD 6)) (Za (xZ 1 (aD 4)) (Za (aD 4) (Za (aD 3) aH))))))))) (aS (cU 3 (A1 1 (bJ aN (bJ aN (aD 1) (aD 4)) (aD 4))) sc)))))))))))) (aS (bA (aZ fc (aD 2) (aD 3))))))))
theorem MR:Fp P w K mg base 3 "_law_is_above_of" (Zde.take 1) zE:=cH Zf Z.b4 λsc hr hx hw=>aS (bA (g6 jV (cC (GS rfl) Z.ck E7 (Za (PXL.px (gg ["_law_k"] [0] rfl (AX Z.ca (Za aL (Za (aZ eH (cC eR Z.b8 Nz (Za (aD 0) aH)) aL) aH))) (λ_ _ _=>(cG 0 (by decide +kernel:List.Nodup (["_law_k", "_law_table"]:List Str)))) (λ_ _ _=>eS) (λ_ _ _=>(aT (MQ Z) hr dq (Za (PXL.px (gg ["_law_line"] [0] rfl (fe (ji (aD 1) jA (ik (aD 0)))) (λ_ _ _=>(cG 0 (by decide +kernel:List.Nodup (["_law_line", "_law_k"]:List Str)))) (λ_ _ _=>eS) (λ_ _ _=>(ji (aD 0) jA (ik (aD 1)))))) aH))))) aH)) aL))
theorem MS:Fp P w K mg base 1 "_law_table_of" (ZeR.take 1) yI:=cH Km Z.bx λsc hr hx hw=>aU (cU 1 (aZ n4 (aZ eH (cC eR Z.b8 Nz (Za (aD 0) aH)) aL) aL) sc) (aS (bA (PXL.px (gg ["_law_i"] [0,1] rfl (n8 Z.ca (Za (aD 1) aH)) (λ_ _ _=>(cG 0 (by decide +kernel:List.Nodup (["_law_i", "_law_slants", "_law_size"]:List Str)))) (λ_ _ _=>eS) (λ_ _ _=>(PXL.px (gg ["_law_j"] [0,1,2] rfl (n8 Z.ca (Za (aD 2) aH)) (λ_ _ _=>(cG 0 (by decide +kernel:List.Nodup (["_law_j", "_law_i", "_law_slants", "_law_size"]:List Str)))) (λ_ _ _=>eS) (λ_ _ _=>(bJ aN (aD 2) (aZ jg (aZ eH (aZ jg (aD 0) (aD 1)) (aD 3)) aL))))))))))
theorem MT:yt P w K mg base 1 "_law_kind_of" (Zdo.take 1) yC:=wm (z:=Bo) (N:=Zdo) Z.bo (λsc _ _ _ _ _ _ hr=>(aU (cU 1 (PXL.px (gB (Za (cC (oP Z.xi) Z.ch Nu (Za (aD 0) (Za (oB Z.cp) aH))) (Za (cC (oP Z.xi) Z.ch Nu (Za (aD 0) (Za (oB Z.co) aH))) (Za (cC (oP Z.xi) Z.ch Nu (Za (aD 0) (Za (oB Z.cn) aH))) (Za (cC (oP Z.xi) Z.ch Nu (Za (aD 0) (Za (oB Z.cm) aH))) aH)))))) sc) (aU (cU 1 (aZ eH (aD 1) (PXL.px (gB (Za (cC (oP Z.xi) Z.ch Nu (Za (aD 0) (Za (oB Z.cr) aH))) (Za (cC (oP Z.xi) Z.ch Nu (Za (aD 0) (Za (oB Z.cs) aH))) (Za (cC (oP Z.xi) Z.ch Nu (Za (aD 0) (Za (oB Z.ct) aH))) aH)))))) sc) (aU (cU 1 (aZ eH (aD 1) (PXL.px (gB (Za (cC (oP Z.xi) Z.ch Nu (Za (aD 0) (Za (oB Z.cq) aH))) (Za (cC (oP Z.xi) Z.ch Nu (Za (aD 0) (Za (oB Z.cu) aH))) aH))))) sc) (aU (dw (PXW.pxt (fU (eh (eE (cC (oP Z.xi) Z.ch Nu (Za (aD 0) (Za (jk Z.cl Ka) aH))))) (i4 (dB (dh hr.units) (DZ PySem.F.slot_list_count PySem.F.type_list_count Jt (aD 1) (Za fN aH)) aL)))) (aS (bA iI)) dv) (aS (bA (bJ aN (PXL.px (gB (Za iI (Za iI (Za iI (Za iI (Za iI (Za iI (Za iI (Za iI (Za iI aH))))))))))) (DZ PySem.F.slot_list_index PySem.F.type_list_index Ju (aD 1) (Za fN aH)))))))))) J2
theorem MU:yt P w K mg base 2 "_law_refused" (Zdn.take 1) yH:=wm (z:=Bz) (N:=Zdn) Z.bp (λsc _ _ _ _ _ _ hr=>(aU (cU 1 (DY (MT Z) hr (Za (aD 0) aH)) sc) (aU (dw (dB (da hr.units) (aD 1) iI) (aS (bA (fb (Za (aD 1) (Za Kb aH))))) dv) (aS (bA (fb (Za (aD 1) aH))))))) Ki
theorem Hi:Fp P w K mg base 1 "common_divisor" (Zeg.take 2) vm:=cH Jx Z.ad λsc hr hx hw=>aU (iM (A0 PassesOwn.never (dB (dh hr.units) (aD 1) aL) (aS (AZ 0 1 sc (Za (aD 1) (Za (aZ qF (aD 0) (aD 1)) aH)))))) (aS (bA (cC AV Z.ce boot_abs (Za (aD 0) aH))))
theorem zL:Fp P w K mg base 2 "share_by" (Ziy.take 2) sx:=cH JC Z.ah λsc hr hx hw=>aU (Jb (dB (dh hr.units) (aD 1) aL)) (aU (cU 2 (aT (Hi Z) hr hx (Za (aD 0) (Za (aD 1) aH))) sc) (aU (dw (dB sd (aD 1) aL) (aS (cU 2 (qA qG (aD 2)) sc)) dv) (aS (bA (fb (Za (aZ n4 (aD 0) (aD 2)) (Za (aZ n4 (aD 1) (aD 2)) aH)))))))
theorem Hj:Fp P w K mg base 3 "by" (N_by.take 2) oa:=cH vH Z.al λsc hr hx hw=>aS (bA (aT (zL Z) hr hx (Za (aZ fc (bJ aN (aD 0) aL) (bJ aN (aD 1) aL)) (Za (aZ fc (bJ aN (aD 0) aL) (bJ aN (aD 1) aL)) aH))))
theorem C3:Fp P w K mg base 1 "is_whole" (ZiB.take 1) su:=cH En Z.aa λsc hr hx hw=>aS (bA (lJ (cC jB Z.ch Nu (Za (aD 0) (Za (jk Z.b9 NV) aH))) (oM (Dq (cC jB Z.ch Nu (Za (aD 0) (Za (jk Z.cg boot_bool) aH)))))))
theorem MV:Fp P w K mg base 2 "is_within" (ZhY.take 3) A8:=cH Jv Z.ab λsc hr hx hw=>aS (bA (lJ (aT (C3 Z) hr hx (Za (aD 0) aH)) (oM (Dr jh jh (aD 1) (aD 0) (aD 2)))))
theorem MW:Fp P w K mg base 3 "are_within" (Zgs.take 3) yf:=cH Jw Z.ac λsc hr hx hw=>aS (bA (lJ (cC jB Z.ch Nu (Za (aD 0) (Za (jk Z.cb NE) aH))) (oM (cC (vb rfl) Z.ci boot_all (Za (PXL.px (gg ["number"] [1,2] rfl (fe (aD 0)) (λ_ _ _=>(cG 0 (by decide +kernel:List.Nodup (["number", "least", "most"]:List Str)))) (λ_ _ _=>eS) (λ_ _ _=>(aT (MV Z) hr dq (Za (aD 0) (Za (aD 1) (Za (aD 2) aH))))))) aH)))))
theorem sZ:Fp P w K mg base 1 "size_of" (Zkd.take 1) oh:=cH JJ Z.aw λsc hr hx hw=>aS (bA (aZ n4 (aZ eH (cC eR Z.b8 Nz (Za (aD 0) aH)) aL) aL))
theorem MY:Fp P w K mg base 4 "slants_good" (ZfN.take 1) yi:=cH Zi Z.ax λsc hr hx hw=>aU (dw (PXW.pxt (fU (eh (eE (aT (MW Z) hr hx (Za (aD 0) (Za (yX Z.cw) (Za (yX Z.cx) aH)))))) (i4 (dB (da hr.units) (aZ qF (cC eR Z.b8 Nz (Za (aD 0) aH)) aL) aL)))) (aS (bA fN)) dv) (aS (bA (g6 jh (aT (sZ Z) hr hx (Za (aD 0) aH)) (yX Z.cv))))
theorem C4:Fp P w K mg base 5 "need_slants" (ZfO.take 1) qK:=cH JK Z.ay λsc hr hx hw=>aS (dw (eh (eE (aT (MY Z) hr hx (Za (aD 0) aH)))) (aS (yr hw Z.cy)) dv)
theorem MZ:Fp P w K mg base 6 "turned_slants" (ZeP.take 1) yo:=cH JN Z.a0 λsc hr hx hw=>aU (se (aT (C4 Z) hr hx (Za (aD 0) aH))) (aS (bA (xR (aD 0))))
theorem M0:Fp P w K mg base 7 "is_even" (Zkg.take 1) BO:=cH KH Z.a4 λsc hr hx hw=>aS (bA (g6 (da hr.units) (aT (MZ Z) hr hx (Za (aD 0) aH)) (aD 0)))
theorem zM:Fp P w K mg base 8 "need_even" (ZhX.take 1) sM:=cH KI Z.a5 λsc hr hx hw=>aS (dw (eh (eE (aT (M0 Z) hr hx (Za (aD 0) aH)))) (aS (yr hw Z.cz)) dv)
theorem Hk:Fp P w K mg base 2 "is_share" (ZiC.take 1) tP:=cH Jy Z.ae λsc hr hx hw=>aU (dw (PXW.pxt (fU (eh (eE (cC jB Z.ch Nu (Za (aD 0) (Za (jk Z.cb NE) aH))))) (i4 (dB (dh hr.units) (cC eR Z.b8 Nz (Za (aD 0) aH)) aL)))) (aS (bA fN)) dv) (aU (DA (aD 0) (kB rfl (fq (cG 1 sc) (fq (cG 2 sc) kA)))) (aU (dw (PXW.pxt (fU (eh (eE (aT (C3 Z) hr hx (Za (aD 1) aH)))) (i4 (eh (eE (aT (C3 Z) hr hx (Za (aD 2) aH))))))) (aS (bA fN)) dv) (aS (bA (lJ (g6 jV (aD 2) aL) (oM (g6 (da hr.units) (aT (Hi Z) hr hx (Za (aD 1) (Za (aD 2) aH))) aL)))))))
theorem M1:Fp P w K mg base 3 "is_row_within" (ZeQ.take 3) yg:=cH Jz Z.af λsc hr hx hw=>aU (dw (PXW.pxt (fU (eh (eE (cC jB Z.ch Nu (Za (aD 0) (Za (jk Z.cb NE) aH))))) (i4 (eh (IL jh jh (aD 1) (cC eR Z.b8 Nz (Za (aD 0) aH)) (aD 2)))))) (aS (bA fN)) dv) (aS (bA (cC (vb rfl) Z.ci boot_all (Za (PXL.px (gg ["part"] [] rfl (fe (aD 0)) (λ_ _ _=>(cG 0 (by decide +kernel:List.Nodup (["part"]:List Str)))) (λ_ _ _=>eS) (λ_ _ _=>(aT (Hk Z) hr dq (Za (aD 0) aH))))) aH))))
theorem Hl:Fp P w K mg base 4 "is_row" (ZlP.take 2) tQ:=cH JB Z.ag λsc hr hx hw=>aS (bA (aT (M1 Z) hr hx (Za (aD 0) (Za (aD 1) (Za (aD 1) aH)))))
theorem C5:Fp P w K mg base 6 "row_good" (ZiA.take 2) sB:=cH JO Z.a1 λsc hr hx hw=>aU (se (aT (C4 Z) hr hx (Za (aD 0) aH))) (aS (bA (aT (Hl Z) hr hx (Za (aD 1) (Za (aT (sZ Z) hr hx (Za (aD 0) aH)) aH)))))
theorem M2:Fp P w K mg base 3 "plus" (ZoN.take 2) yh:=cH JD Z.ai λsc hr hx hw=>aS (bA (aT (zL Z) hr hx (Za (aZ eH (aZ fc (bJ aN (aD 0) aL) (bJ aN (aD 1) aL)) (aZ fc (bJ aN (aD 1) aL) (bJ aN (aD 0) aL))) (Za (aZ fc (bJ aN (aD 0) aL) (bJ aN (aD 1) aL)) aH))))
theorem C6:Fp P w K mg base 3 "times" (ZnB.take 2) qJ:=cH JE Z.ak λsc hr hx hw=>aS (bA (aT (zL Z) hr hx (Za (aZ fc (bJ aN (aD 0) aL) (bJ aN (aD 1) aL)) (Za (aZ fc (bJ aN (aD 0) aL) (bJ aN (aD 1) aL)) aH))))
theorem Hm:Fp P w K mg base 4 "sum_of_products" (ZdA.take 2) vo:=cH JH Z.aq λsc hr hx hw=>aU (cU 2 (qe Z.c0) sc) (aU (iM (jj PassesOwn.never rfl (xY Z.cf (Za (aD 0) (Za (aD 1) aH))) (kB rfl (fq (cG 3 sc) (fq (cG 4 sc) kA))) (aS (cU 2 (aT (M2 Z) hr dq (Za (aD 2) (Za (aT (C6 Z) hr dq (Za (aD 3) (Za (aD 4) aH))) aH))) sc)))) (aS (bA (aD 2))))
theorem Hn:Fp P w K mg base 1 "row_of" (ZlM.take 1) vn:=cH JG Z.am λsc hr hx hw=>aS (bA (nY tL Z.cb NE (Za (PXL.px (gg ["number"] [] rfl (fe (aD 0)) (λ_ _ _=>(cG 0 (by decide +kernel:List.Nodup (["number"]:List Str)))) (λ_ _ _=>eS) (λ_ _ _=>(fb (Za (aD 0) (Za aL aH)))))) aH)))
theorem M3:Fp P w K mg base 6 "table_of" (Zix.take 1) ym:=cH JM Z.az λsc hr hx hw=>aU (se (aT (C4 Z) hr hx (Za (aD 0) aH))) (aU (cU 1 (aT (sZ Z) hr hx (Za (aD 0) aH)) sc) (aS (bA (PXL.px (gg ["i"] [0,1] rfl (n8 Z.ca (Za (aD 1) aH)) (λ_ _ _=>(cG 0 (by decide +kernel:List.Nodup (["i", "slants", "size"]:List Str)))) (λ_ _ _=>eS) (λ_ _ _=>(PXL.px (AQ AU Z.cj boot_list (Za (ji (aD 1) (ik (aZ jg (aZ jg (aD 2) aL) (aD 0))) (ik (aZ jg (aZ jg (aZ fc aL (aD 2)) aL) (aD 0)))) aH)))))))))
theorem Ho:Fp P w K mg base 7 "share_rows" (Zgo.take 1) tS:=cH JP Z.a2 λsc hr hx hw=>aS (bA (PXL.px (gg ["numbers"] [] rfl (fe (aT (M3 Z) hr hx (Za (aD 0) aH))) (λ_ _ _=>(cG 0 (by decide +kernel:List.Nodup (["numbers"]:List Str)))) (λ_ _ _=>eS) (λ_ _ _=>(aT (Hn Z) hr dq (Za (aD 0) aH))))))
theorem Hq:Fp P w K mg base 8 "times_row" (ZhW.take 2) vp:=cH JQ Z.a3 λsc hr hx hw=>aU (dw (eh (eE (aT (C5 Z) hr hx (Za (aD 0) (Za (aD 1) aH))))) (aS (yr hw Z.c1)) dv) (aS (bA (nY tL Z.cb NE (Za (PXL.px (gg ["line"] [1] rfl (fe (aT (Ho Z) hr hx (Za (aD 0) aH))) (λ_ _ _=>(cG 0 (by decide +kernel:List.Nodup (["line", "row"]:List Str)))) (λ_ _ _=>eS) (λ_ _ _=>(aT (Hm Z) hr dq (Za (aD 0) (Za (aD 1) aH)))))) aH))))
theorem ue:Fp P w K mg base 9 "pair_at" (Zke.take 3) mW:=cH KJ Z.a6 λsc hr hx hw=>aU (se (aT (zM Z) hr hx (Za (aD 0) aH))) (aU (dw (eh (eE (aT (C5 Z) hr hx (Za (aD 0) (Za (aD 1) aH))))) (aS (yr hw Z.c1)) dv) (aS (bA (aT (Hm Z) hr hx (Za (aD 1) (Za (aT (Hq Z) hr hx (Za (aD 0) (Za (aD 2) aH))) aH))))))
theorem Hr:Fp P w K mg base 3 "minus" (ZnC.take 2) tR:=cH Kr Z.aj λsc hr hx hw=>aS (bA (aT (zL Z) hr hx (Za (aZ jg (aZ fc (bJ aN (aD 0) aL) (bJ aN (aD 1) aL)) (aZ fc (bJ aN (aD 1) aL) (bJ aN (aD 0) aL))) (Za (aZ fc (bJ aN (aD 0) aL) (bJ aN (aD 1) aL)) aH))))
theorem zN:Fp P w K mg base 4 "row_less" (Ziz.take 3) oW:=cH K6 Z.ap λsc hr hx hw=>aS (bA (nY tL Z.cb NE (Za (PXL.px (gg ["left", "right"] [1] rfl (xY Z.cf (Za (aD 0) (Za (aD 2) aH))) (λ_ _ _=>(kB rfl (fq (cG 0 (by decide +kernel:List.Nodup (["left", "right", "share"]:List Str))) (fq (cG 1 (by decide +kernel:List.Nodup (["left", "right", "share"]:List Str))) kA)))) (λ_ _ _=>eS) (λ_ _ _=>(aT (Hr Z) hr dq (Za (aD 0) (Za (aT (C6 Z) hr dq (Za (aD 2) (Za (aD 1) aH))) aH)))))) aH)))
theorem M4:Fp P w K mg base 10 "apart_from" (Zgu.take 3) zq:=cH Ma Z.bb λsc hr hx hw=>aS (bA (aT (zN Z) hr hx (Za (aD 1) (Za (aT (Hj Z) hr hx (Za (aT (ue Z) hr hx (Za (aD 0) (Za (aD 1) (Za (aD 2) aH)))) (Za (aT (ue Z) hr hx (Za (aD 0) (Za (aD 2) (Za (aD 2) aH)))) aH))) (Za (aD 2) aH)))))
theorem Hs:Fp P w K mg base 10 "lead_among" (Zgp.take 2) Zc:=cH Mb Z.ba λsc hr hx hw=>gM 4 (aU (iM (jj PassesOwn.never rfl (E6 Z.c2 (Za (aD 1) aH)) (kB rfl (fq (cG 2 sc) (fq (cG 3 sc) kA))) (aU (tN 4 ["other"] [3] rfl sc (fe (ji (aD 1) (ik (aZ eH (aD 2) aL)) jA)) (λ_ _ _=>(cG 0 (by decide +kernel:List.Nodup (["other", "row"]:List Str)))) (λ_ _ _=>eS) (λ_ _ _=>(aT (zN Z) hr dq (Za (aD 1) (Za (aT (Hr Z) hr dq (Za (qe Z.c0) (Za (qe Z.c3) aH))) (Za (aD 0) aH)))))) (gM 4 (aS (iM (jj PassesOwn.never rfl (fe (aZ eH (PXL.px (gB (Za (aD 3) aH))) (aD 4))) (cG 5 sc) (aS (dw (dB (dh hr.units) (aT (ue Z) hr dq (Za (aD 0) (Za (aD 5) (Za (aD 5) aH)))) (qe Z.c0)) (aS (bA (fb (Za (aD 2) (Za (aD 5) aH))))) dv))))))))) (aS (bA xO)))
theorem M5:Fp P w K mg base 2 "one_at" (ZlO.take 2) yO:=cH KZ Z.an λsc hr hx hw=>aS (bA (aT (Hn Z) hr hx (Za (PXL.px (gg ["at"] [0] rfl (n8 Z.ca (Za (aD 1) aH)) (λ_ _ _=>(cG 0 (by decide +kernel:List.Nodup (["at", "place"]:List Str)))) (λ_ _ _=>eS) (λ_ _ _=>(nY va Z.b9 NV (Za (g6 (da hr.units) (aD 0) (aD 1)) aH))))) aH)))
theorem Ht:Fp P w K mg base 11 "apart_rows" (Zgt.take 1) wG:=cH Md Z.bc λsc hr hx hw=>aU (se (aT (zM Z) hr hx (Za (aD 0) aH))) (aU (cU 1 (aT (sZ Z) hr hx (Za (aD 0) aH)) sc) (aU (sf 2 (gB aH) sc) (aU (tN 3 ["place"] [1] rfl sc (n8 Z.ca (Za (aD 1) aH)) (λ_ _ _=>(cG 0 (by decide +kernel:List.Nodup (["place", "size"]:List Str)))) (λ_ _ _=>eS) (λ_ _ _=>(aT (M5 Z) hr dq (Za (aD 0) (Za (aD 1) aH))))) (gM 3 (aU (cU 4 (aT (Hs Z) hr hx (Za (aD 0) (Za (aD 3) aH))) sc) (gM 3 (aU (iM (A0 PassesOwn.never (dB Bw (aD 4) xO) (aU (DA (aD 4) (kB rfl (fq (cG 5 sc) (fq (cG 6 sc) kA)))) (aU (xX 2 (aD 6)) (gM 3 (aU (tN 3 ["row"] [0,6] rfl sc (fe (aZ eH (ji (aD 3) jA (ik (aD 5))) (ji (aD 3) (ik (aZ eH (aD 5) aL)) jA))) (λ_ _ _=>(cG 0 (by decide +kernel:List.Nodup (["row", "slants", "lead"]:List Str)))) (λ_ _ _=>eS) (λ_ _ _=>(aT (M4 Z) hr dq (Za (aD 1) (Za (aD 0) (Za (aD 2) aH)))))) (gM 3 (aS (cU 4 (aT (Hs Z) hr dq (Za (aD 0) (Za (aD 3) aH))) sc))))))))) (gM 2 (gM 3 (aS (bA (aZ eH (aD 2) (aD 3)))))))))))))
theorem Hu:Fp P w K mg base 4 "row_by" (ZlN.take 2) vK:=cH K3 Z.ao λsc hr hx hw=>aS (bA (nY tL Z.cb NE (Za (PXL.px (gg ["part"] [1] rfl (fe (aD 0)) (λ_ _ _=>(cG 0 (by decide +kernel:List.Nodup (["part", "share"]:List Str)))) (λ_ _ _=>eS) (λ_ _ _=>(aT (Hj Z) hr dq (Za (aD 0) (Za (aD 1) aH)))))) aH)))
theorem M6:Fp P w K mg base 12 "squares_of" (Zgn.take 1) zw:=cH Mr Z.bd λsc hr hx hw=>aU (sf 1 (gB aH) sc) (aU (iM (jj PassesOwn.never rfl (fe (aT (Ht Z) hr dq (Za (aD 0) aH))) (cG 2 sc) (aU (cU 3 (aT (ue Z) hr dq (Za (aD 0) (Za (aD 2) (Za (aD 2) aH)))) sc) (aS (dw (dB (dh hr.units) (aD 3) (qe Z.c0)) (aS (xX 1 (fb (Za (aD 3) (Za (aT (Hu Z) hr dq (Za (aT (Hq Z) hr dq (Za (aD 0) (Za (aD 2) aH))) (Za (aD 3) aH))) aH))))) dv))))) (gM 1 (aS (bA (aD 1)))))
theorem Hv:Fp P w K mg base 13 "above_paper" (ZfP.take 1) zx:=cH Ms Z.bi λsc hr hx hw=>aU (jj PassesOwn.leaving rfl (fe (aT (Ht Z) hr hx (Za (aD 0) aH))) (cG 1 sc) (aS (dw (dB jh (bJ aN (aT (ue Z) hr hx (Za (aD 0) (Za (aD 1) (Za (aD 1) aH)))) aL) aL) (aS (bA (fb (Za iI (Za (aD 1) aH))))) dv))) (aS (bA (fb (Za iI (Za (aT (M6 Z) hr hx (Za (aD 0) aH)) aH)))))
theorem M7:Fp P w K mg base 14 "is_above" (ZiD.take 1) CW:=cH Mu Z.be λsc hr hx hw=>aS (bA (g6 (da hr.units) (bJ aN (aT (Hv Z) hr hx (Za (aD 0) aH)) aL) iI))
theorem Hw:Fp P w K mg base 15 "_law_told" (ZhZ.take 2) zF:=cH MC Z.b5 λsc hr hx hw=>aS (Jr LX 2 Z.c4 sc (λ_ _ _ hx1=>(aS (bA (KM hr hx1 (F1 Z.be (M7 Z) (F1 Z.bi (Hv Z) KN)) (bJ aN (PXL.px (gB (Za (oB Z.be.cc) (Za (oB Z.bi.cc) aH)))) (aD 0)) (Za (aD 1) aH))))) (λ_ _=>(aS (bA (DY (MU Z) (hr.u.mark) (Za (aD 2) aH))))))
theorem Zj:Fp P w K mg base 1 "first_with" (Zgr.take 2) yP:=cH La Z.ar λsc hr hx hw=>aU (iM (jj PassesOwn.never rfl (E6 Z.c2 (Za (aD 0) aH)) (kB rfl (fq (cG 2 sc) (fq (cG 3 sc) kA))) (aS (dw (dB (dh hr.units) (bJ aN (aD 3) (aD 1)) (qe Z.c0)) (aS (bA (aD 2))) dv)))) (aS (bA xO))
theorem Hx:Fp P w K mg base 5 "without_place" (ZeO.take 3) vL:=cH Lc Z.as λsc hr hx hw=>aS (bA (PXL.px (gg ["row"] [1,2] rfl (fe (aD 0)) (λ_ _ _=>(cG 0 (by decide +kernel:List.Nodup (["row", "lead", "place"]:List Str)))) (λ_ _ _=>eS) (λ_ _ _=>(aT (zN Z) hr dq (Za (aD 0) (Za (bJ aN (aD 0) (aD 2)) (Za (aD 1) aH))))))))
theorem M8:Fp P w K mg base 6 "cleared" (Zkh.take 2) B0:=cH Lh Z.au λsc hr hx hw=>aU (cU 2 (PXL.px (gB aH)) sc) (aU (sf 3 (gB aH) sc) (aU (cU 4 (PXL.px (AQ AU Z.cj boot_list (Za (aD 0) aH))) sc) (aU (iM (jj PassesOwn.never rfl (n8 Z.ca (Za (aD 1) aH)) (cG 5 sc) (aU (cU 6 (aT (Zj Z) hr dq (Za (aD 4) (Za (aD 5) aH))) sc) (aS (dw (dB Bw (aD 6) xO) (aU (cU 7 (aT (Hu Z) hr dq (Za (bJ aN (aD 4) (aD 6)) (Za (bJ aN (bJ aN (aD 4) (aD 6)) (aD 5)) aH))) sc) (aU (cU 2 (aZ eH (aT (Hx Z) hr dq (Za (aD 2) (Za (aD 7) (Za (aD 5) aH)))) (PXL.px (gB (Za (aD 7) aH)))) sc) (aU (cU 4 (aT (Hx Z) hr dq (Za (aZ eH (ji (aD 4) jA (ik (aD 6))) (ji (aD 4) (ik (aZ eH (aD 6) aL)) jA)) (Za (aD 7) (Za (aD 5) aH)))) sc) (aS (xX 3 (aD 5)))))) dv))))) (gM 3 (aS (bA (fb (Za (aD 2) (Za (aD 3) aH)))))))))
theorem M9:Fp P w K mg base 7 "are_independent" (ZdB.take 2) CN:=cH L9 Z.av λsc hr hx hw=>aS (bA (g6 (da hr.units) (cC eR Z.b8 Nz (Za (bJ aN (aT (M8 Z) hr hx (Za (aD 0) (Za (aD 1) aH))) aL) aH)) (cC eR Z.b8 Nz (Za (aD 0) aH))))
theorem Na:Fp P w K mg base 5 "is_weighed" (Zgq.take 2) Zd:=cH LB Z.a7 λsc hr hx hw=>aU (dw (PXW.pxt (fU (eh (eE (cC jB Z.ch Nu (Za (aD 0) (Za (jk Z.cb NE) aH))))) (i4 (dB (dh hr.units) (cC eR Z.b8 Nz (Za (aD 0) aH)) aL)))) (aS (bA fN)) dv) (aS (bA (lJ (aT (Hk Z) hr hx (Za (bJ aN (aD 0) aL) aH)) (lJ (g6 (dh hr.units) (bJ aN (aD 0) aL) (qe Z.c0)) (oM (aT (Hl Z) hr hx (Za (bJ aN (aD 0) aL) (Za (aD 1) aH))))))))
theorem Nb:Fp P w K mg base 8 "left_by" (Zkf.take 2) yY:=cH LC Z.a8 λsc hr hx hw=>aU (cU 2 (aT (Ho Z) hr hx (Za (aD 0) aH)) sc) (gM 2 (aU (iM (jj PassesOwn.never rfl (fe (aD 1)) (kB rfl (fq (cG 3 sc) (fq (cG 4 sc) kA))) (gM 2 (aS (tN 2 ["row", "share"] [3,4] rfl sc (xY Z.cf (Za (aD 2) (Za (aD 4) aH))) (λ_ _ _=>(kB rfl (fq (cG 0 (by decide +kernel:List.Nodup (["row", "share", "weight", "square"]:List Str))) (fq (cG 1 (by decide +kernel:List.Nodup (["row", "share", "weight", "square"]:List Str))) kA)))) (λ_ _ _=>eS) (λ_ _ _=>(aT (zN Z) hr dq (Za (aD 0) (Za (aT (C6 Z) hr dq (Za (aD 2) (Za (aD 1) aH))) (Za (aD 3) aH)))))))))) (gM 2 (aS (bA (aD 2))))))
theorem Nc:Fp P w K mg base 9 "squares_good" (Ze7.take 2) Cu:=cH LE Z.a9 λsc hr hx hw=>aU (se (aT (zM Z) hr hx (Za (aD 0) aH))) (aU (cU 2 (aT (sZ Z) hr hx (Za (aD 0) aH)) sc) (aU (dw (PXW.pxt (fU (eh (eE (cC jB Z.ch Nu (Za (aD 1) (Za (jk Z.cj boot_list) aH))))) (i4 (dB jV (cC eR Z.b8 Nz (Za (aD 1) aH)) (yX Z.c5))))) (aS (bA fN)) dv) (aU (dw (eh (eE (cC (vb rfl) Z.ci boot_all (Za (PXL.px (gg ["part"] [2] rfl (fe (aD 1)) (λ_ _ _=>(cG 0 (by decide +kernel:List.Nodup (["part", "size"]:List Str)))) (λ_ _ _=>eS) (λ_ _ _=>(aT (Na Z) hr dq (Za (aD 0) (Za (aD 1) aH)))))) aH)))) (aS (bA fN)) dv) (aS (bA (g6 (da hr.units) (aT (Nb Z) hr hx (Za (aD 0) (Za (aD 1) aH))) (aZ fc (PXL.px (gB (Za (aZ D1 (fb (Za (qe Z.c0) aH)) (aD 2)) aH))) (aD 2))))))))
theorem Nd:Fp P w K mg base 10 "above_squares_good" (ZcJ.take 2) zy:=cH Mv Z.bf λsc hr hx hw=>aU (cU 2 (aT (sZ Z) hr hx (Za (aD 0) aH)) sc) (aU (dw (PXW.pxt (fU (eh (eE (aT (Nc Z) hr hx (Za (aD 0) (Za (aD 1) aH))))) (i4 (dB (dh hr.units) (cC eR Z.b8 Nz (Za (aD 1) aH)) (aD 2))))) (aS (bA fN)) dv) (aU (cU 3 (cC (vb rfl) Z.ci boot_all (Za (PXL.px (gg ["weight", "row"] [] rfl (fe (aD 1)) (λ_ _ _=>(kB rfl (fq (cG 0 (by decide +kernel:List.Nodup (["weight", "row"]:List Str))) (fq (cG 1 (by decide +kernel:List.Nodup (["weight", "row"]:List Str))) kA)))) (λ_ _ _=>eS) (λ_ _ _=>(g6 jV (bJ aN (aD 0) aL) aL)))) aH)) sc) (aS (bA (lJ (aD 3) (oM (aT (M9 Z) hr hx (Za (PXL.px (gg ["weight", "row"] [] rfl (fe (aD 1)) (λ_ _ _=>(kB rfl (fq (cG 0 (by decide +kernel:List.Nodup (["weight", "row"]:List Str))) (fq (cG 1 (by decide +kernel:List.Nodup (["weight", "row"]:List Str))) kA)))) (λ_ _ _=>eS) (λ_ _ _=>(aD 1)))) (Za (aD 2) aH)))))))))
theorem Nf:Fp P w K mg base 10 "not_above_good" (Zef.take 2) zA:=cH Mw Z.bg λsc hr hx hw=>aU (dw (PXW.pxt (fU (eh (eE (aT (C5 Z) hr hx (Za (aD 0) (Za (aD 1) aH))))) (i4 (dB (da hr.units) (aD 1) (aZ D1 (fb (Za (qe Z.c0) aH)) (aT (sZ Z) hr hx (Za (aD 0) aH))))))) (aS (bA fN)) dv) (aS (bA (g6 jh (bJ aN (aT (ue Z) hr hx (Za (aD 0) (Za (aD 1) (Za (aD 1) aH)))) aL) aL)))
theorem Ng:Fp P w K mg base 11 "above_good" (Zgv.take 2) zB:=cH Mx Z.bh λsc hr hx hw=>aU (se (aT (zM Z) hr hx (Za (aD 0) aH))) (aU (dw (PXW.pxt (fU (eh (eE (cC jB Z.ch Nu (Za (aD 1) (Za (jk Z.cb NE) aH))))) (i4 (dB (dh hr.units) (cC eR Z.b8 Nz (Za (aD 1) aH)) aL)))) (aS (bA fN)) dv) (aU (dw (dB (da hr.units) (bJ aN (aD 1) aL) iI) (aS (bA (aT (Nd Z) hr hx (Za (aD 0) (Za (bJ aN (aD 1) aL) aH))))) dv) (aS (bA (lJ (g6 (da hr.units) (bJ aN (aD 1) aL) iI) (oM (aT (Nf Z) hr hx (Za (aD 0) (Za (bJ aN (aD 1) aL) aH)))))))))
theorem zO:Fp P w K mg base 16 "_law_right_of" (ZeT.take 1) sY:=cH ME Z.b6 λsc hr hx hw=>aU (AZ 1 2 sc (Za (aT (Hw Z) hr hx (Za aL (Za (aD 0) aH))) (Za (aT (Hw Z) hr hx (Za aL (Za (aD 0) aH))) aH))) (aU (dw (dB (dh hr.units) (aD 0) (xR (aD 0))) (aS (bA (Dr (da hr.units) (da hr.units) (aD 1) (aD 2) (fb (Za iI aH))))) dv) (aU (cU 3 (aT (MS Z) hr hx (Za (aD 0) aH)) sc) (aU (cU 4 (aT (MR Z) hr hx (Za (aD 3) aH)) sc) (aU (dw (PXW.pxt (fU (eh (eE (cC jB Z.ch Nu (Za (aD 1) (Za (jk Z.cg boot_bool) aH))))) (fU (dB (dh hr.units) (aD 1) (aD 4)) (fU (eh (eE (cC jB Z.ch Nu (Za (aD 2) (Za (jk Z.cb NE) aH))))) (i4 (dB (dh hr.units) (cC eR Z.b8 Nz (Za (aD 2) aH)) aL)))))) (aS (bA fN)) dv) (aU (dw (PXW.pxt (fU (dB (dh hr.units) (bJ aN (aD 2) aL) (bJ aN (PXL.px (gB (Za iI (Za iI aH)))) (nY va Z.b9 NV (Za (aD 4) aH)))) (i4 (dB Bw (aT (Ng Z) hr hx (Za (aD 0) (Za (aD 2) aH))) fN)))) (aS (bA fN)) dv) (aU (dw (eh (eE (aD 4))) (aU (dw (PXW.pxt (fU (eh (eE (aT (Hh Z) hr hx (Za (bJ aN (aD 2) aL) (Za (cC eR Z.b8 Nz (Za (aD 3) aH)) aH))))) (i4 (dB (da hr.units) (PXL.px (gg ["_law_one"] [] rfl (fe (bJ aN (aD 2) aL)) (λ_ _ _=>(cG 0 (by decide +kernel:List.Nodup (["_law_one"]:List Str)))) (λ_ _ _=>(Dx (dB (dh hr.units) (bJ aN (aD 0) aL) aL))) (λ_ _ _=>(aD 0)))) (PXL.px (gB aH)))))) (aS (bA fN)) dv) (aS (bA (g6 jh (bJ aN (aT (MO Z) hr hx (Za (aD 3) (Za (bJ aN (aD 2) aL) (Za (bJ aN (aD 2) aL) aH)))) aL) aL)))) dv) (aU (dw (PXW.pxt (fU (eh (eE (aT (MM Z) hr hx (Za (aD 3) (Za (bJ aN (aD 2) aL) aH))))) (i4 (dB (dh hr.units) (cC eR Z.b8 Nz (Za (bJ aN (aD 2) aL) aH)) (cC eR Z.b8 Nz (Za (aD 3) aH)))))) (aS (bA fN)) dv) (aS (bA (g6 jV (cC (GS rfl) Z.ck E7 (Za (PXL.px (gg ["_law_weight", "_law_row"] [] rfl (fe (bJ aN (aD 2) aL)) (λ_ _ _=>(kB rfl (fq (cG 0 (by decide +kernel:List.Nodup (["_law_weight", "_law_row"]:List Str))) (fq (cG 1 (by decide +kernel:List.Nodup (["_law_weight", "_law_row"]:List Str))) kA)))) (λ_ _ _=>eS) (λ_ _ _=>(bJ aN (aD 0) aL)))) aH)) aL))))))))))
theorem all_mk{l:PySem.W.OpenLaw}(hfa:mg "law" = some (.ref fa)):∃fd:FuncData,(∀(s:Shared) (v:Value),BindsTo s fd ⟨[v],[]⟩ [("_law_script",v)])/\∀base:Heap,K.In base->base.Ns mainGlobals mg->FnOk l.prog w K mg base (eQ l.prog w) 17 fa fd ["_law_script"] (fV K wQ):=
 Lu (z:=zH) (N:=G7) Z.b7 hfa (λ_ sc _ _ _ _ _ _ _ hr hx hw=>(aU (iM (jj PassesOwn.never rfl (fe (PXL.px (gB (Za (fb (Za aL aH)) (Za (fb (Za aL aH)) (Za (fb (Za (qA qG aL) aH)) (Za (fb (Za aL (Za aL (Za aL aH)))) (Za (fb (Za aL (Za aL (Za aL aH)))) (Za (fb (Za aL (Za aL (Za aL aH)))) (Za (fb (Za aL (Za aL (Za aL aH)))) (Za (fb (Za aL (Za aL (Za aL (Za aL (Za aL aH)))))) (Za (fb (Za (qA qG aL) (Za (qA qG aL) (Za aL (Za (qA qG aL) (Za (qA qG aL) aH)))))) aH)))))))))))) (cG 1 sc) (aS (dw (eh (eE (aT (zO Z) hr dq (Za (aD 1) aH)))) (aS (bA fN)) dv)))) (aU (iM (jj PassesOwn.never rfl (fe (aZ eH (PXL.px (gB (Za (aT (MI Z) hr dq (Za (aD 0) (Za aL aH))) aH))) (ji (aD 0) (ik aL) (ik aL)))) (cG 2 sc) (aU (cU 3 (aT (MK Z) hr dq (Za (aD 2) aH)) sc) (aU (cU 1 (aT (MJ Z) hr dq (Za (aD 3) aH)) sc) (aU (cU 4 (aZ n4 (aZ eH (cC eR Z.b8 Nz (Za (aD 1) aH)) aL) aL) sc) (aU (cU 5 (aZ eH (aZ eH (ji (aD 1) jA (ik (aZ jg (aD 4) aL))) (fb (Za aL aH))) (ji (aD 1) (ik (aD 4)) jA)) sc) (aS (dw (PXW.pxt (fU (eh (eE (aT (zO Z) hr dq (Za (aD 1) aH)))) (fU (eh (eE (aT (zO Z) hr dq (Za (aT (Hd Z) hr dq (Za (aD 3) aH)) aH)))) (i4 (eh (eE (aT (zO Z) hr dq (Za (aD 5) aH)))))))) (aS (bA fN)) dv)))))))) (aS (bA fN))))) MG
end
theorem walk{l:PySem.W.OpenLaw}{q:Program}{loose:List Str}{d:DefRec}{K:Params->Nn}(hn:l.most=some 63)(hdf:d.params.defaults=[])
  (hY:∀(w:World) (h:Heap),YP w h->(K w.params).In h)
  (F:∀ (w:World) (mg:Str->Option Value) (fa:Addr) (h:Heap),(K w.params).In h->h.Ns mainGlobals mg->mg d.name=some (.ref fa)->
   ∃fd:FuncData,(∀(s:Shared) (u:Value),BindsTo s fd ⟨[u],[]⟩ [("_law_script",u)])/\∀base:Heap,(K w.params).In base->base.Ns mainGlobals mg->FnOk l.prog w (K w.params) mg base (eQ l.prog w) 17 fa fd ["_law_script"] (fV (K w.params) wQ)) :
  PySem.W.WalkO q loose XP YP l.row.toRowW d [] (λf vs=>PySem.call f vs):=
 L2.walk_of (n:=63) (k:=17) (x:= "_law_script") (CX:=λw=>eQ l.prog w) (sp:=λw=>fV (K w.params) wQ) hn (by decide) hdf ⟨rfl,rfl,by decide,by decide⟩ hY F (λ_ _ a ns hl hO hS=>MH hl hO hS) λ_ _ _ _ _ ⟨_,_,_,_,_,_,_,_,_,_,_,_,_,z⟩=>z
end B.C.Q0.Q3
end LP
def PySem.W.Fast.tw:=0
namespace PySem.W.Fast
def tw11313017387827296623:=0
def tw10761847179969795650:=0
def tw4964703406945395946:=0
def tw16364471607451243065:=0
def tw7267024314732082677:=0
def tw15914311102333245543:=0
def tw4689078554745002923:=0
def tw13406506183961936135:=0
def tw18794741057986880:=0
def tw10667605961645057326:=0
def tw18250421092365131163:=0
def tw10079679660294451089:=0
def tw6523377801932260868:=0
def tw13436148764966514250:=0
def tw17599375606836078311:=0
def tw8101122629259212779:=0
def tw10249047349540252128:=0
def tw10175851478332448990:=0
def tw16348900713213331770:=0
def tw17877424366378983477:=0
def tw18204675590817383503:=0
def tw8402476883694839311:=0
def tw7288988234391980490:=0
def tw18112707565850981773:=0
def tw4268716881010747893:=0
def tw16073353564773134037:=0
def tw18112065634041643344:=0
def tw16634013538523860665:=0
def tw1544855310969225232:=0
def tw13793937134956583071:=0
def tw17513949474210794508:=0
def tw12289055052506857640:=0
def tw18405846922911827362:=0
def tw6931978577562577278:=0
def tw653641914543675368:=0
def tw7353036940596721756:=0
def tw11117864495849591217:=0
def tw16311402696972067557:=0
def tw3406822595362475577:=0
def tw9922469907191744583:=0
def tw14547324211781038615:=0
def tw108439185020215051:=0
def tw4479491075097785035:=0
def tw16369112516445976729:=0
def tw7321481146197824806:=0
def tw11720713540216853821:=0
def tw9919612867440404284:=0
def tw2749191140657976756:=0
def tw3752829498688388042:=0
def tw5109013545614969628:=0
def tw578848656871751517:=0
def tw11724496385991942357:=0
def tw2767019963418832681:=0
def tw12782850452845630989:=0
def tw2419759900308364113:=0
def tw7529644450321915775:=0
def tw13973059232353494603:=0
def tw7863164445429706124:=0
def tw11270586202383038891:=0
def tw10469466740252254553:=0
def tw13607704677309926107:=0
def tw1645723388402951729:=0
def tw17844919638177417983:=0
def tw17283801670972565285:=0
def tw11656160518566424363:=0
def tw6968266178807678894:=0
def tw17424746187828384922:=0
def tw1879334264594152477:=0
def tw7211655174431325505:=0
def tw4376210142146201547:=0
def tw2309425665157979261:=0
def tw13208425525226498629:=0
def tw12550730867985824758:=0
def tw14288050634176842462:=0
def tw532951907444302401:=0
def tw2117327208742146388:=0
def tw9085670358210130582:=0
def tw13815012703552787945:=0
def tw548041983902021508:=0
def tw17869441557627650051:=0
def tw10959296339737178057:=0
def tw15988545748988169207:=0
def tw14187668903463996759:=0
def tw5365168504172926388:=0
def tw300581376169477631:=0
def tw5461009340292172782:=0
def tw56664905317899456:=0
def tw870513392440128662:=0
def tw14949987941389040201:=0
def tw5721518886966729584:=0
def tw17498533516257268909:=0
def tw12876997333688201375:=0
def tw5404240418447349739:=0
def tw16270830092298170266:=0
def tw3012251855272279439:=0
def tw9095630028938374620:=0
def tw13545261877674923736:=0
def tw1707100299845246637:=0
def tw14195326801481438662:=0
def tw819062222317042884:=0
def tw15262933919805775880:=0
def tw8825325598181304786:=0
def tw6202914693011044699:=0
def tw17848809061053790183:=0
def tw7351194535838763128:=0
def tw4740994615763860999:=0
def tw7118469580512882473:=0
def tw3813807722913425114:=0
def tw4292573878277113336:=0
def tw4061510732292631359:=0
def tw5050188115261360826:=0
def tw10780177188137581992:=0
def tw2266237666562187466:=0
def tw6359216486137351083:=0
def tw13801874070329108477:=0
def tw6424118556867281651:=0
def tw654377856545571249:=0
def tw13842442306779087351:=0
def tw12768377439524909963:=0
def tw8168816204695382283:=0
def tw6369231790948407023:=0
def tw4253319866347026099:=0
def tw9745901978090463609:=0
def tw14900507819495785943:=0
def tw16155665758214021235:=0
def tw11811722237771423698:=0
def tw14603681429709898310:=0
def tw9414306113722003275:=0
def tw2088569507531685817:=0
def tw9453402917799124881:=0
def tw13120964367941569933:=0
def tw1519568770471579912:=0
def tw8828241506372528701:=0
def tw17488741684340360872:=0
def tw1944107115667874949:=0
def tw7436363172131500816:=0
def tw11533621315172903918:=0
def tw16410514070425024996:=0
def tw5096978960489056808:=0
def tw10620618473688847567:=0
def tw11756996091319818844:=0
def tw5264818872037358982:=0
def tw17242095903140181617:=0
def tw4010335835767200535:=0
def tw14407301194372377842:=0
def tw12983476593518708516:=0
def tw2039655705271368991:=0
def tw1069720162149735079:=0
def tw7224306218187779330:=0
def tw16846531881358351492:=0
def tw9847386602739203114:=0
def tw10253084376706877679:=0
def tw6877220730045639665:=0
def tw8382796733681172868:=0
def tw2504579376594812398:=0
def tw11271171772480313351:=0
def tw11958209473690718586:=0
def tw5428002823228167204:=0
def tw18270191463791726857:=0
def tw8562561807862427102:=0
def tw5969595785601991291:=0
def tw13132490321076496807:=0
def tw8409982913223416589:=0
def tw15935515633403878349:=0
def tw12843025563151211875:=0
def tw7516207647905093812:=0
def tw13950111751385444626:=0
def tw16069103220529162916:=0
def tw16636439545846638218:=0
def tw3595287563915770713:=0
def tw3423065409771054530:=0
def tw3350344536234159663:=0
def tw15260287829561334638:=0
def tw13685045010009314383:=0
def tw5443969048831364680:=0
def tw17733652191579786484:=0
def tw6688107503171296114:=0
def tw2782613065937053172:=0
def tw13595968593245913186:=0
def tw4523916772929689884:=0
def tw6863430738154835086:=0
def tw11759478077608884058:=0
def tw13170303820336243187:=0
def tw11356032864967645170:=0
def tw5843715061881263620:=0
def tw14839550122972064688:=0
def tw8602723357565204339:=0
def tw8067456317527657547:=0
def tw3331048045566546243:=0
def tw16361644453878934728:=0
def tw13972258776730768434:=0
def tw9556029938383339913:=0
def tw17247400010659469024:=0
def tw13847731798590333904:=0
def tw5619443435246598580:=0
def tw4732050315204875922:=0
def tw5200364741570364096:=0
def tw12988826159382704711:=0
def tw17048486045558601619:=0
def tw965136750695137313:=0
def tw9088140272920410360:=0
def tw14153201777278810618:=0
def tw5807010579747789788:=0
def tw2262521792191366141:=0
def tw1936347529265055369:=0
def tw9667962953617602226:=0
def tw9614958831033347704:=0
def tw75253312288053132:=0
def tw7254332233216466293:=0
def tw6921784429100032678:=0
def tw6720864974562502238:=0
def tw6681441402692996855:=0
def tw6668093498472810929:=0
def tw6293379293465371132:=0
def tw6036843948593582682:=0
def tw5149183971848191707:=0
def tw4898386606355516221:=0
def tw4726061085497947344:=0
def tw4644600610831520846:=0
def tw4545815012215165209:=0
def tw2656265381635888623:=0
def tw2614270037981217422:=0
def tw234812911790719245:=0
def tw18433967618011346769:=0
def tw17499859316956158319:=0
def tw17442475338177032284:=0
def tw16961855886903926871:=0
def tw16555065525240335673:=0
def tw15061181378349121925:=0
def tw15007483741233365237:=0
def tw14967720427445365481:=0
def tw14365436285553503775:=0
def tw1393423971974607484:=0
def tw13828857968113540182:=0
def tw13673641189512978284:=0
def tw13667153590633592140:=0
def tw13065813225107983410:=0
def tw13038640940493630531:=0
def tw12673807354487912962:=0
def tw12429785180157450157:=0
def tw12182551870768303937:=0
def tw12033636268210214102:=0
def tw11524394024018164193:=0
def tw11492749917701579957:=0
def tw10736076200997812567:=0
def tw1026009838053579989:=0
def tw8985322120715681459:=0
def tw6626815842206861882:=0
def tw8366691598751146823:=0
def tw6692600441333673414:=0
def tw5287883071439186127:=0
def tw16323245256707791642:=0
def tw17726839238008992017:=0
def tw9853656465392939320:=0
def tw9321787297984110218:=0
def tw7704856041436519707:=0
def tw4565683586516244861:=0
def tw4344672096453931722:=0
def tw3159131658129486148:=0
def tw2444882973970098641:=0
def tw1873293838549464285:=0
def tw18241257124776697338:=0
def tw16883576859131574528:=0
def tw16861183413013470492:=0
def tw16471851203878801890:=0
def tw16402404219596668259:=0
def tw15386182534883957326:=0
def tw15165065040470484614:=0
def tw14369319833238142851:=0
def tw13774820789664704245:=0
def tw13669254279689760090:=0
def tw11724240436574626020:=0
def tw15442717175094364591:=0
def tw15302397486546983663:=0
def tw12358962183371799949:=0
def tw11216248090131891504:=0
def tw5251285766534135613:=0
def tw9623339748114609602:=0
def tw4541694059891907380:=0
def tw15125956551419275329:=0
def tw10052024114514138011:=0
def tw8564405051305636930:=0
def tw5754324257281312223:=0
def tw5433950458129566753:=0
def tw11969518977216260700:=0
def tw15379586851958065395:=0
def tw6149933279979684569:=0
def tw444386246681013940:=0
def tw3918200183172939525:=0
def tw217141729868670120:=0
def tw17907422856755716684:=0
def tw17314064030935871808:=0
def tw15556724012240356259:=0
def tw14703887197048877813:=0
def tw13704978809601373928:=0
def tw12100289971378313562:=0
def tw1204546554923543669:=0
def tw11146168446933582252:=0
def tw10075977121668904327:=0
def tw18294820353186751211:=0
def tw15540916929832938842:=0
def tw13994008522121211985:=0
def tw13093898699754086856:=0
def tw11308395821349616345:=0
def tw10342045766604191232:=0
def tw10251420584058193337:=0
def tw7044305775645954266:=0
def tw4076749962601800454:=0
def tw18231457266248394894:=0
def tw17677247617678206775:=0
def tw17501690720693720069:=0
def tw17072474148154720750:=0
def tw14804736434570600000:=0
def tw12323263982907583790:=0
def tw11590191108306312264:=0
def tw11579237803562643616:=0
def tw5726720692953847124:=0
def tw3867112012780155983:=0
def tw16748388977830421199:=0
def tw1555175540319587835:=0
def tw13710432124142389336:=0
def tw10828451891401968110:=0
def tw16571847761603183774:=0
def tw13586186874144347990:=0
def tw5741176114640563127:=0
def tw3113307167047061018:=0
def tw1329164277676377514:=0
def tw11904502495108178672:=0
def tw10489779621948390666:=0
def tw2899410517104902353:=0
def tw11995716496696091391:=0
def tw7852084451917116886:=0
def tw4761938171429502949:=0
def tw8728031899216784996:=0
def tw5301961480933154810:=0
def tw3150887659081538883:=0
def tw16064467087249440819:=0
def tw15510721089771572827:=0
def tw14577775579198754167:=0
def tw14500246232265430515:=0
def tw11406346809052737379:=0
def tw10502862015798033161:=0
def tw10029614518885372755:=0
def tw7728968652520608908:=0
def tw12139131595949728022:=0
def tw10302515459714615151:=0
def tw5990607406065818381:=0
def tw4826734503093306574:=0
def tw4566989156963122033:=0
def tw2192582773626481501:=0
def tw2048429364394983893:=0
def tw17274398526021846323:=0
def tw16907092500419660780:=0
def tw16164013873048389115:=0
def tw14112236093785675052:=0
def tw12862254466857982278:=0
def tw12496752947182535370:=0
def tw8750837999182638455:=0
def tw3518546736385136957:=0
def tw14194343859707814267:=0
def tw11693776739574480763:=0
def tw6903897486258293770:=0
def tw17819273149046105806:=0
def tw9978897996076808592:=0
def tw7992537512338264052:=0
def tw7578798513852016291:=0
def tw5837841001108687026:=0
def tw3947048769967510348:=0
def tw368327102059946907:=0
def tw2556498979509965325:=0
def tw17782849891486532799:=0
def tw16630403812667945427:=0
def tw1645161319459370895:=0
def tw16434066759579806473:=0
def tw15604547722687703303:=0
def tw15599483063246409298:=0
def tw14598382552319215924:=0
def tw14413629844436152315:=0
def tw14034660496718186979:=0
def tw13938630570936332949:=0
def tw1389674846122329914:=0
def tw13263565244654601762:=0
def tw13096120587646384190:=0
def tw14458165620091591585:=0
def tw877798055903457466:=0
def tw7552220272194606718:=0
def tw7481834037937789041:=0
def tw726398735643186610:=0
def tw5455429109665179491:=0
def tw3408999663697419921:=0
def tw16687452866143159255:=0
def tw16235500875805389290:=0
def tw15203502278720907259:=0
def tw14661363285075263861:=0
def tw13191406198059982120:=0
def tw10975512629707824891:=0
def tw10742524487797932974:=0
def tw9557119099764281050:=0
def tw9087292099033321958:=0
def tw8980621440321031558:=0
def tw8972064698649177125:=0
def tw7859320084965000144:=0
def tw5990103173138446955:=0
def tw506992985356365776:=0
def tw4565014869894451872:=0
def tw4169996641724726883:=0
def tw2870444029735976834:=0
def tw17982052672667259690:=0
def tw16886792616129743071:=0
def tw15681352591197985443:=0
def tw15225886075175634720:=0
def tw14784465411477322190:=0
def tw12596848433139464077:=0
def tw11696339338553436488:=0
def tw11337908820757434660:=0
def tw10178074222555908879:=0
def tw9929049722242019784:=0
def tw8557981313564549048:=0
def tw7969762343563889752:=0
def tw7514676778207564250:=0
def tw5881017324690372402:=0
def tw5241364571455757786:=0
def tw17498819290480318552:=0
def tw15319380601623362499:=0
def tw15111829371751434712:=0
def tw13371990002268056075:=0
def tw4208212379924866224:=0
def tw6446584465801747093:=0
def tw6442379173051212385:=0
def tw6113442011708207448:=0
def tw3087834154489783684:=0
def tw18404825534165336367:=0
def tw16550449700403668474:=0
def tw15948521449301255769:=0
def tw15577039677195930324:=0
def tw14070784830066351541:=0
def tw11531103934769194700:=0
def tw9832445544279935413:=0
def tw9728384151703373053:=0
def tw9711932381480298512:=0
def tw9595517656442415231:=0
def tw9442725954625557785:=0
def tw9345220607515803332:=0
def tw9214828345206301344:=0
def tw9206222637802905082:=0
def tw9182552463922968720:=0
def tw9067854808891618677:=0
def tw8917731298217287634:=0
def tw8381164399158568842:=0
def tw8295736549358067440:=0
def tw8260058176648427919:=0
def tw8222161913936094977:=0
def tw8192475215590193251:=0
def tw7917604149627939725:=0
def tw782695188142744636:=0
def tw7507304930833300770:=0
def tw7275472723658497210:=0
def tw7114795509073799402:=0
def tw7086061085685756834:=0
def tw7019030391630398973:=0
def tw6989168871307394820:=0
def tw6981918447740518358:=0
def tw6808437270371938290:=0
def tw6555278241856167209:=0
def tw644464680532207780:=0
def tw634886757259194231:=0
def tw6320214958886702593:=0
def tw58652873930799330:=0
def tw5661333595227256577:=0
def tw565848039183456765:=0
def tw5333166435524420720:=0
def tw5269345613810447245:=0
def tw5141134573281779355:=0
def tw4887154851129172789:=0
def tw4766844173103244762:=0
def tw4557143622939993394:=0
def tw4548563565104269819:=0
def tw4331372959759942989:=0
def tw399052325854623971:=0
def tw3939370533274600764:=0
def tw366805196245224975:=0
def tw3611103056109993315:=0
def tw3546927578989528227:=0
def tw3505748306043143704:=0
def tw341165894565615161:=0
def tw3343772664175553390:=0
def tw3281566179753894303:=0
def tw3222100682681357420:=0
def tw3130935222417153148:=0
def tw2907653122505779299:=0
def tw2755250924945050580:=0
def tw2719835829596933356:=0
def tw2679128363382136238:=0
def tw2660150860195825129:=0
def tw2070822878481182052:=0
def tw2025034941277396295:=0
def tw18419253321510326805:=0
def tw18344980850673323565:=0
def tw18290382798932645078:=0
def tw1820260273437645700:=0
def tw18147382011599742489:=0
def tw18038454120718329049:=0
def tw17913239358613523325:=0
def tw17825704087741072670:=0
def tw17806343688994262797:=0
def tw17787401426650166010:=0
def tw17764336219559690348:=0
def tw17730113279218835208:=0
def tw17333348482287409531:=0
def tw17318443176661380061:=0
def tw17314923830586192045:=0
def tw1725449871150615169:=0
def tw16991169017867926562:=0
def tw16904253049684567668:=0
def tw16879962474647604924:=0
def tw16738567027111968505:=0
def tw16664698853051082204:=0
def tw16625319414404830867:=0
def tw16319712083225245300:=0
def tw16318947701063877596:=0
def tw16176337979609149081:=0
def tw16143849460643205925:=0
def tw16126554099801456391:=0
def tw15944337833823133187:=0
def tw15780662220519342338:=0
def tw15752321885254134644:=0
def tw15714863591007594727:=0
def tw15551070465951677599:=0
def tw15492801347895169382:=0
def tw15469360377064893733:=0
def tw15440290194484244223:=0
def tw15229226400359234654:=0
def tw1510583286588490133:=0
def tw14770341674732886920:=0
def tw14664486274722854997:=0
def tw14653963737744223241:=0
def tw14629168155641726168:=0
def tw14488911203857801137:=0
def tw14082011017738503287:=0
def tw14065052555264124730:=0
def tw13989535825562234180:=0
def tw13766077379570184936:=0
def tw13592679117133172662:=0
def tw1354212741482925996:=0
def tw13438022366210229559:=0
def tw13114961363295223467:=0
def tw13108245440219712760:=0
def tw12795152095951740514:=0
def tw12689211944276644200:=0
def tw12403425702240176421:=0
def tw12339597632995837684:=0
def tw12048241083670955986:=0
def tw12029455559135156340:=0
def tw11940449485758349218:=0
def tw11808330440587988148:=0
def tw11803672784193808271:=0
def tw11731470423856790985:=0
def tw11718105343270257710:=0
def tw11707993732414956799:=0
def tw11663638135041008362:=0
def tw11355800903694954734:=0
def tw11211139615114256127:=0
def tw11202286139263137206:=0
def tw11168273908330744164:=0
def tw11144761331136241256:=0
def tw11101672305733522087:=0
def tw11018733025575517763:=0
def tw10708924016049875106:=0
def tw10671725309211853549:=0
def tw10617929452173545685:=0
def tw10566224953665269267:=0
def tw10523862005931462313:=0
def tw10278085374384407302:=0
def tw1011273120923027508:=0
def tw9916658277131941879:=0
def tw9774425254806528363:=0
def tw939096282004395878:=0
def tw9280540268377632941:=0
def tw9170260486892531584:=0
def tw8867686280980917495:=0
def tw8760696203286299046:=0
def tw837567901135817950:=0
def tw8176092009892186290:=0
def tw7874814769538620898:=0
def tw758833614738199185:=0
def tw7409299215193673078:=0
def tw7286141137366831279:=0
def tw7024398964534366318:=0
def tw6802199502440303197:=0
def tw6646517113666196242:=0
def tw620273612280412455:=0
def tw6179240169856563063:=0
def tw6124913164316035243:=0
def tw6099368411598883859:=0
def tw5708110980948246260:=0
def tw5608910229564632507:=0
def tw552358586523650163:=0
def tw550328202145032426:=0
def tw534656484122365087:=0
def tw5048890101337960421:=0
def tw5031063367359152210:=0
def tw4764522567398845663:=0
def tw4636736660530102762:=0
def tw4572350043900008959:=0
def tw4506581287947383759:=0
def tw4063849298304063827:=0
def tw3949255127499820483:=0
def tw3864444522495074158:=0
def tw3852740260994941852:=0
def tw3623522236214422466:=0
def tw3562544137700459066:=0
def tw3374191792284972285:=0
def tw3348867660298349257:=0
def tw3311175472620304424:=0
def tw2898428798306482809:=0
def tw2849991994158142439:=0
def tw2776664000334876607:=0
def tw208532844654793978:=0
def tw18240439284918060587:=0
def tw17813884459956663380:=0
def tw17584398642289141431:=0
def tw17280398443351534057:=0
def tw16963627485490487097:=0
def tw168193960531408623:=0
def tw16664324100670002102:=0
def tw16607595159282979243:=0
def tw16513840765750477534:=0
def tw16439669758668924425:=0
def tw15659410977308157459:=0
def tw15620625123687136026:=0
def tw15543528623686720367:=0
def tw15299976198514206705:=0
def tw15096342045525864353:=0
def tw1504454234077655177:=0
def tw14859172872731417732:=0
def tw14794991713982458687:=0
def tw14716791959404973858:=0
def tw1433929914024416352:=0
def tw14284279329420707986:=0
def tw14213404005958739563:=0
def tw14122188650611820734:=0
def tw13142066961229730799:=0
def tw12392156820571183860:=0
def tw12139201352879014593:=0
def tw11801428796780269484:=0
def tw1147451687068829673:=0
def tw1133205533541365775:=0
def tw10836793568019071294:=0
def tw10503280466744881715:=0
def tw10472001962037824070:=0
def tw10461223761644779074:=0
def tw10377576963166390042:=0
def tw10321045481258513974:=0
end PySem.W.Fast
open PySem PySem.W PyProof.Rows
set_option maxRecDepth 100000 in
set_option maxHeartbeats 0 in
theorem PySem.Challenge.cw_slanttables_k43_being_above_told_holds : PySem.Challenge.rw_slanttables_k43_being_above_told.Holds := by
  w_on;o_law;k_head;(case hw=>w_witness2)
  k_fill
  refine LP.B.C.Q0.Q3.walk (l:=PySem.Challenge.rw_slanttables_k43_being_above_told) rfl rfl (λw h Y=>PySem.W.kIn_of Y) ?F
  case F=>
    intro w mg fa h KX G hmg;refine LP.B.C.Q0.Q3.all_mk ?_ hmg;constructor
    all_goals first
      |(refine' LP.mkF KX G ?a ?l ?c ?k;(case a=>k_is);(case l=>k_is);(case c=>k_is);(case k=>k_is))
      |(refine' mg_none_of KX G ?a;case a=>k_is)
      |(refine' LP.mkC KX G ?a;case a=>k_is)
      |(refine' LP.mkI KX G ?a;case a=>k_is)
      |(refine' LP.mkT KX G ?a ?l;(case a=>k_is);(case l=>k_is))
      |(refine' LP.mkX KX G ?a ?e;(case a=>k_is);(case e=>k_exc))
      |(refine' LP.mkH KX G ?a ?e ?_;(case a=>k_is);(case e=>k_exc);intro n hn;simp only[LP.LX,Yan,gu,or_false] at hn;first|(rcases hn with rfl|rfl|rfl|rfl|rfl|rfl|rfl|rfl|rfl|rfl|rfl<;>(refine' LP.exD ?a ?b;(case a=>k_is);(case b=>k_is)))|(rcases hn with rfl|rfl|rfl|rfl|rfl|rfl<;>(refine' LP.exD ?a ?b;(case a=>k_is);(case b=>k_is)))|(rcases hn with rfl|rfl|rfl<;>(refine' LP.exD ?a ?b;(case a=>k_is);(case b=>k_is)))|(subst hn;refine' LP.exD ?a ?b;(case a=>k_is);(case b=>k_is)))
      | (refine ⟨λn hn=>?_⟩;simp only [LP.LX,Yan,gu,or_false] at hn;rcases hn with rfl | rfl | rfl | rfl | rfl | rfl<;>
         (refine' LP.exX ?a (LP.clsX_of ?g ?n ?b ?h ?c ?d ?t ?o) ?k ?_;(case a=>k_is);(case g=>k_is);(case n=>k_is);(case b=>k_is);(case h=>k_is);(case c=>k_is);(case d=>k_is);(case t=>k_is);(case o=>k_is);(case k=>kit_is)
          intro m hm;simp only[LP.MX,LP.LX,Yan,gu,or_false] at hm;rcases hm with rfl|rfl|rfl|rfl|rfl|rfl|rfl|rfl|rfl<;>
           (refine' LP.exC ?a ?b;(case a=>k_is);(case b=>first|(refine Eq.trans (b:=some true) ?_ (by decide +kernel);kit_is)|(refine Eq.trans (b:=some false) ?_ (by decide +kernel);kit_is)))))
